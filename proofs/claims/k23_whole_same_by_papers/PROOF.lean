import PyProof.Rows.All
import Wide.All
import OpenK.AllK
import Wide.FinOn
import Lean
import PyProof.EqAt
import PyProof.EqKinds
import PyProof.TupleCall
import PyProof.NeKinds
import KE.KRevSl
import KE.KRevIter
import PyProof.FactsAll.tuple
import PyProof.Rows.SortWalk
import PyProof.Rows.StrJoin2
import PyProof.StrBlockH
import PyProof.StrWalks
import PyProof.StrCalls2
import PyProof.ConsumeWalk
import KE.KIntText
import PyProof.Rows.SortStr
import PyProof.EnumStmt
import PyProof.WalksMore
import PyProof.ZipIter
import KE.KEqDict
import PyProof.DictWalks
import KE.KLam
import PyProof.Rows.SortShellK
import PyProof.AttrMissHeap
import KE.KDictOf
import PyProof.CollectWalk
import PyProof.ListNew
import KE.KSortTup
import PyProof.Rows.TupDisplay
import OpenK.KOwn
import PyProof.Rows.TopTwo
import PyProof.Rows.CatchOwn
import PyProof.RulesDel
import PyProof.RulesAs
import KE.KIsNot
import PyProof.ExcAttrAll.ValueError
import KE.KIsAll
import PyProof.StrReplace2
import PyProof.ReprStr
import PyProof.FString
import PyProof.StrLawsChain
import PyProof.SetRoads
import PyProof.StrLawsRepr
import PyProof.ReprHeads
import PyProof.ReprLen
import PyProof.FactsAll.bool
import KE.KNest
import PyProof.Rows.RuleM_int
import PyProof.Rows.CallKwBuiltin
import KE.KMinKey
import PyProof.ListRange
import PyProof.TupleOfSeq
import PyProof.TupleOfStr
import KE.KDictLaws
import KE.KPairComp
import KE.KDictSum
import PySem.Challenge.RW_everywidth_k23_whole_same_by_papers
set_option compiler.extract_closed false
set_option tactic.hygienic false
theorem Va{p:Prop}[Decidable p](h:p:=by decide +kernel):p:=h
theorem Vb{p:Prop}[Decidable p](h:p:=by decide):p:=h
theorem Vc{p:Prop}(h:p:=by lia):p:=h
theorem Vd{p:Prop}(h:p:=by grind):p:=h
theorem Ve{p:Prop}(h:p:=by simp):p:=h
theorem Vf{p:Prop}(h:p:=by kernel_rfl):p:=h
theorem Vg{p:Prop}(h:p:=by with_unfolding_all rfl):p:=h
theorem ω{A G:Prop}(h:A)(k:A->G):G:=k h
section
variable{a b c d e f:Sort _}{G:Prop}
theorem ε1{P:a->Prop}(K:∀x,P x->G):(∃x,P x)->G:=λh=>h.elim K
theorem ε2{P:a->b->Prop}(K:∀x y,P x y->G):(∃x y,P x y)->G:=ε1 λ_=>ε1 (K _)
theorem ε3{P:a->b->c->Prop}(K:∀x y z,P x y z->G):(∃x y z,P x y z)->G:=ε2 λ_ _=>ε1 (K _ _)
theorem ε4{P:a->b->c->d->Prop}(K:∀x y z w,P x y z w->G):(∃x y z w,P x y z w)->G:=ε3 λ_ _ _=>ε1 (K _ _ _)
theorem ε5{P:a->b->c->d->e->Prop}(K:∀x y z w u,P x y z w u->G):(∃x y z w u,P x y z w u)->G:=ε4 λ_ _ _ _=>ε1 (K _ _ _ _)
theorem ε6{P:a->b->c->d->e->f->Prop}(K:∀x y z w u v,P x y z w u v->G):(∃x y z w u v,P x y z w u v)->G:=ε5 λ_ _ _ _ _=>ε1 (K _ _ _ _ _)
end
section
variable{a b c d e f g G:Prop}
theorem θ1(K:a->b->G):a/\b->G:=λh=>K h.1 h.2
theorem θ2(K:a->b->c->G):a/\b/\c->G:=λh=>θ1 (K h.1) h.2
theorem θ3(K:a->b->c->d->G):a/\b/\c/\d->G:=λh=>θ2 (K h.1) h.2
theorem θ4(K:a->b->c->d->e->G):a/\b/\c/\d/\e->G:=λh=>θ3 (K h.1) h.2
theorem θ5(K:a->b->c->d->e->f->G):a/\b/\c/\d/\e/\f->G:=λh=>θ4 (K h.1) h.2
theorem θ6(K:a->b->c->d->e->f->g->G):a/\b/\c/\d/\e/\f/\g->G:=λh=>θ5 (K h.1) h.2
end
theorem U{α:Sort u}{a:α}:a=a:=rfl
noncomputable section
set_option Elab.async false
set_option linter.all false
set_option maxRecDepth 100000
set_option maxHeartbeats 0
namespace Hw
open PySem PySem.W
theorem ws:PySem.Challenge.rw_everywidth_k23_whole_same_by_papers.wellSaid=true:=by kernel_rfl
def p:Program:=PySem.Challenge.rw_everywidth_k23_whole_same_by_papers.row.toRowW.prog
def B:List Stmt:=behindTheImports p
def Rq:List Stmt→Nat→Option Stmt
  |[],_=>none
  |x::_,0=>some x
  |_::r,n+1=>Rq r n
def fx:Option Stmt→Arguments×List Stmt×Scope×Str×Nat
  |some (.FunctionDef n a b _ _ _ s _ _ x)=>(a,b,s,n,x.line)
  |_=>default
def fd(i:Nat):=fx (Rq B i)
def vs(s:String)(t:Nat):Value:=.str (Str.ofString s) t
def en(P:Params)(s:String)(t:Nat)(v:Value):DictEntry:=⟨PyData.keyHash P (Str.ofString s),.str (Str.ofString s) t,v⟩
def tu (l:List Value):Obj:=⟨.type "tuple",none,.seq (Array.mk l) 0,#[]⟩
def t0:Obj:=tu []
def fi(l:List Value):Obj:=⟨.none,none,.fields (Array.mk l),#[]⟩
def f0:Obj:=fi []
def vk:Nat→List String→List Value
  |_,[]=>[]
  |t,s::r=>vs s t::vk (t+1) r
def vt(t:Nat)(l:List String):Obj:=tu (vk t l)
abbrev Fd:=Arguments×List Stmt×Scope×Str×Nat
def rO(x:Fd):Obj:=⟨.none,none,.func ⟨x.2.2.2.1,x.2.2.2.1,x.1,.stmts x.2.1,x.2.2.1,0,[],.none,.none,.none,.none,none,.none,.none,0⟩,#[]⟩
def fO (x:Fd) (m:Value) (c:Nat):Obj:=⟨.type "function",none,.func ⟨x.2.2.2.1,x.2.2.2.1,x.1,.stmts x.2.1,x.2.2.1,3,[],.none,.none,.none,m,none,.ref c,.none,0⟩,#[]⟩
def fl:String:= "/claim/cut.py"
def cO (n:String) (t l a d x m:Nat) (b:Bool) (z k:Nat):Obj:=⟨.type "code",none,.fields #[vs n t,vs n (t+1),vs fl (t+2),.int l 0,.int a 0,.int 0 0,.int 0 0,.int d 0,.ref x,.bool true,.int m 0,.ref (x+1),.none,if b then .ref (x+2)else .none,if b then .ref (x+3)else .none,.ref z,.int k 0,.int l 0,vs fl (k+1)],#[]⟩
def r(i:Nat):Obj:=rO (fd i)
def f(i:Nat)(m:Value)(c:Nat):Obj:=fO (fd i) m c
def ci(n:Nat):Value:=.int n 0
def c (i t x v:Nat):Obj:=let y:=(fd i).2.2.2;⟨.type "code",none,.fields #[.str y.1 t,.str y.1 (t+1),vs fl (t+2),ci y.2,ci (fd i).1.args.length,ci 0,ci 0,ci 3,.ref x,.bool true,ci 181,.ref (x+1),.none,if v == 0 then .none else .ref (x+2),if v == 0 then .none else .ref (x+3),.ref (if v == 0 then x+2 else x+4),ci (t+3+v),ci y.2,vs fl (t+4+v)],#[]⟩
def e(P:Params)(i t a:Nat):DictEntry:=let y:=(fd i).2.2.2.1;⟨PyData.keyHash P y,.str y t,.ref a⟩
def bt(P:Params):List DictEntry:=match (boot_o_3 P).data with
  |.dict e _=>e.toList.tail
  |_=>[]
def m0:Value:=vs "everywidth.bits" 187
def m1:Value:=vs "everywidth.machines.runs" 243
def m2:Value:=vs "everywidth.machines.firsts" 264
def m3:Value:=vs "everywidth.machines.found" 325
def m4:Value:=vs "everywidth.vocabulary" 342
def m5:Value:=vs "everywidth.rows" 459
def m6:Value:=vs "everywidth.machines.columns" 467
def m7:Value:=vs "everywidth.machines.made" 544
def m8:Value:=vs "everywidth.sums.texts" 580
def m9:Value:=vs "everywidth.machines.alike" 588
def EC:Value:=vs "everywidth.machines.least" 650
def iP:Value:=vs "law_everywidth_k23_whole_same_by_papers" 686
def mc (n:String)(t l x k:Nat):Obj:=⟨.type "code",none,.fields #[vs n t,vs n (t+1),vs fl (t+2),ci l,ci 0,ci 0,ci 0,ci 0,.ref x,.bool false,ci 181,.ref (x+1),.none,.none,.none,.none,ci k,ci l,vs fl (k+1)],#[]⟩
def fr (c d:Nat)(v:Value):Obj:=⟨.type "frame",none,.plain,#[some (.ref c),some (.ref 3),some (.ref d),none,some v,none,some (.ref 0)]⟩
def bf (a b:Value):Obj:=⟨.type "builtin_function_or_method",none,.fields #[a,b],#[]⟩
def dc (l:List DictEntry)(n:Nat):Obj:=⟨.type "dict",none,.dict ⟨l⟩ n,#[]⟩
def es (P:Params):List DictEntry:=[e P 1 197 21,e P 2 206 28,en P "WidthError" 226 (.ref 38),en P "NoWords" 242 (.ref 51),e P 7 257 60,e P 8 263 65,e P 10 271 70,e P 11 287 77,e P 12 301 84,e P 13 307 89,e P 14 313 94,e P 15 324 101,e P 17 332 106,e P 18 341 113,en P "SUM_PARTS" 374 (.ref 114),en P "SUMS_IN_CLAIM" 390 (.ref 115),en P "CLAIMS_IN_CLAIM" 406 (.ref 116),en P "LETTERS" 408 (vs "abcdefghijklmnopqrstuvwxyz" 407),en P "LONGEST_NAME" 410 (.int 8 409),e P 25 417 123,e P 26 424 130,e P 27 431 137,e P 28 438 144,e P 29 445 151,e P 30 451 156,e P 31 458 163,e P 33 466 168,en P "REMEMBERING" 478 (.ref 169),e P 36 485 176,e P 37 491 181,e P 38 506 188,e P 39 516 195,e P 40 525 202,e P 41 535 209,e P 42 543 216,e P 44 553 223,e P 45 561 230,e P 46 567 235,e P 47 573 240,e P 48 579 245,e P 50 587 250,e P 52 598 257,e P 53 611 264,e P 54 620 271,e P 55 626 276,e P 56 637 283,e P 57 643 288,e P 58 649 293,e P 60 657 298,e P 61 663 303,e P 62 669 308,e P 63 675 313,e P 64 685 320,e P 66 694 327,e P 67 702 334,e P 68 716 341,e P 69 722 346,e P 70 730 353,e P 71 740 360,e P 72 746 365,e P 73 762 372,e P 74 773 379,e P 75 782 386,e P 76 797 393,e P 77 811 400,e P 78 819 407,e P 79 825 412,e P 80 837 419,e P 81 843 424,e P 82 849 429]
def vl:List (Nat×Nat):=[(2,20),(7,27),(13,34),(15,47),(18,59),(27,64),(33,69),(43,76),(57,83),(67,88),(69,93),(75,100),(80,105),(90,112),(101,122),(103,129),(105,136),(107,143),(109,150),(111,155),(113,162),(118,167),(122,175),(124,180),(129,187),(145,194),(156,201),(158,208),(172,215),(189,222),(191,229),(193,234),(205,239),(207,244),(210,249),(213,256),(216,263),(223,270),(225,275),(227,282),(235,287),(244,292),(251,297),(260,302),(267,307),(270,312),(272,319),(279,326),(281,333),(285,340),(301,345),(312,352),(318,359),(327,364),(329,371),(350,378),(368,385),(382,392),(392,399),(409,406),(416,411),(418,418),(429,423),(438,428)]
def d(i x t:Nat)(l:List String)(m:Value):List Obj:=match l with
  |[]=>[t0,f0,r i,c i t x 0,f i m (x+3)]
  |l=>[t0,f0,vt (t+3) l,t0,r i,c i t x l.length,f i m (x+5)]
def nz:Nat→List Obj→PySem.W.Frag
  |_,[]=>[]
  |n,x::l=>(n,x)::nz (n+1) l
def ir(n:Nat):List (Nat×Nat)→Bool
  |[]=>false
  |x::l=>(Nat.ble x.1 n&&Nat.blt n x.2)||ir n l
def rs:List (Nat×Nat):=[(0,30),(36,40),(42,43),(49,52),(54,430)]
def md (P:Params) (m:String) (t e k:Nat):Obj:=⟨.type "dict",none,.dict (Array.mk (en P "__name__" 165 (vs m t)::bt P++(es P).take e)) k,#[]⟩
def tl:List (Nat×Nat)→List Value
  |[]=>[]
  |x::r=>.int x.1 0::.int 0 0::.ref x.2::tl r
def tb(c:Nat):Obj:=fi (tl (vl.take c))
def ob (P:Params):List Obj:=[boot_o_0 P,boot_o_1 P,boot_o_2 P,md P "law_everywidth_k23_whole_same_by_papers" 686 70 79,boot_o_4 P,boot_o_5 P,boot_o_6 P,boot_o_7 P,boot_o_8 P,boot_o_9 P,boot_o_10 P,t0,tb 64,mc "<module>" 182 1 11 185,fr 13 3 (vs "__main__" 164)]++(d 1 15 189 ["width","many","bit_number"] m0++(d 2 22 198 ["bits","number","bit"] m0++([tu [(.type "ValueError")],bf (.builtin "type.__prepare__") (.type "type"),dc [en P "__module__" 216 (vs "everywidth.errors" 207),en P "__qualname__" 218 (vs "WidthError" 217),en P "__firstlineno__" 220 (.int 13 219),en P "__static_attributes__" 221 (.ref 36)] 4,t0,f0,mc "WidthError" 211 13 32 214,fr 34 31 (vs "everywidth.errors" 207),t0,dc [en P "__module__" 216 (vs "everywidth.errors" 207),en P "__firstlineno__" 220 (.int 13 219),en P "__static_attributes__" 221 (.ref 36),en P "__weakref__" 223 (.ref 39),en P "__doc__" 224 .none] 3,⟨(.type "type"),none,.cls ⟨Str.ofString "WidthError",[(.type "ValueError")],[(.ref 38),(.type "ValueError"),(.type "Exception"),(.type "BaseException"),(.type "object")],37,Str.ofString "WidthError",true,[],[(.ref 51)],false,none,false⟩,#[some (.ref 29),none,some (vs "WidthError" 209),some (vs "WidthError" 217),some (.builtin "ValueError.__new__"),some (.bool true)]⟩,⟨(.type "getset_descriptor"),none,.fields #[(vs "__weakref__" 222),(.ref 38),(.builtin "ExceptionGroup.__weakref__"),.none],#[]⟩,⟨(.type "super"),none,.fields #[(.ref 38),(.ref 38),(.ref 38)],#[]⟩,bf (.builtin "object.__init_subclass__") (.ref 38),tu [(.ref 38)],bf (.builtin "type.__prepare__") (.type "type"),dc [en P "__module__" 234 (vs "everywidth.errors" 207),en P "__qualname__" 236 (vs "NoWords" 235),en P "__firstlineno__" 238 (.int 15 237),en P "__static_attributes__" 239 (.ref 49)] 4,t0,f0,mc "NoWords" 229 15 45 232,fr 47 44 (vs "everywidth.errors" 207),t0,dc [en P "__module__" 234 (vs "everywidth.errors" 207),en P "__firstlineno__" 238 (.int 15 237),en P "__static_attributes__" 239 (.ref 49),en P "__doc__" 240 .none] 2,⟨(.type "type"),none,.cls ⟨Str.ofString "NoWords",[(.ref 38)],[(.ref 51),(.ref 38),(.type "ValueError"),(.type "Exception"),(.type "BaseException"),(.type "object")],50,Str.ofString "NoWords",true,[],[],false,none,false⟩,#[some (.ref 42),none,some (vs "NoWords" 227),some (vs "NoWords" 235),some (.builtin "ValueError.__new__"),some (.bool true)]⟩,⟨(.type "super"),none,.fields #[(.ref 51),(.ref 51),(.ref 51)],#[]⟩,bf (.builtin "object.__init_subclass__") (.ref 51)]++(d 7 54 245 ["machine","letters","state","steps","out","row","letter"] m1++(d 8 61 258 [] m1++(d 10 66 266 [] m2++(d 11 71 272 ["machine","letters","number","wanted","layers","left","well","place","chosen","going"] m2++(d 12 78 288 ["machine","letters","steps","layers","some","layer","state","letter"] m2++(d 13 85 302 [] m2++(d 14 90 308 [] m2++(d 15 95 314 ["machine","state","letter","well","wanted"] m2++(d 17 102 327 [] m3++(d 18 107 333 ["state","states","numbers"] m3++([dc [en P "not" 344 (.int 1 345),en P "neg" 346 (.int 1 347),en P "twice" 348 (.int 1 349),en P "low" 350 (.int 1 351),en P "and" 352 (.int 2 353),en P "or" 354 (.int 2 355),en P "odd" 356 (.int 2 357),en P "add" 358 (.int 2 359),en P "sub" 360 (.int 2 361),en P "pick" 362 (.int 3 363)] 10,dc [en P "same" 375 (.int 2 376),en P "under" 377 (.int 2 378),en P "beneath" 379 (.int 2 380),en P "sign" 381 (.int 1 382),en P "nought" 383 (.int 1 384)] 5,dc [en P "both" 391 (.int 2 392),en P "either" 393 (.int 2 394),en P "so" 395 (.int 2 396),en P "never" 397 (.int 1 398),en P "yes" 399 (.int 0 400)] 5]++(d 25 117 411 ["text"] m4++(d 26 124 418 ["text"] m4++(d 27 131 425 ["word"] m4++(d 28 138 432 ["word"] m4++(d 29 145 439 ["word"] m4++(d 30 152 446 [] m4++(d 31 157 452 ["text"] m4++(d 33 164 461 [] m5++([vt 469 ["neg","twice","low","add","sub","same","under","beneath","nought"]]++(d 36 170 479 ["word"] m6++(d 37 177 486 [] m6++(d 38 182 492 ["words","columns","place","kept","stack","later","word","parts","held"] m6++(d 39 189 507 ["word","parts","held","one"] m6++(d 40 196 517 ["one","other","held"] m6++(d 41 203 526 ["word","parts","held","then"] m6++(d 42 210 536 ["word","parts"] m6++(d 44 217 546 ["words","names"] m7++(d 45 224 554 ["claim","names"] m7++(d 46 231 562 [] m7++(d 47 236 568 [] m7++(d 48 241 574 [] m7++(d 50 246 582 [] m8++(d 52 251 590 ["one","other","names"] m9++([t0,f0,vt 602 ["one","other","begins","found","width"],vt 607 ["one","other"],r 53,cO "machines_compared" 599 216 2 3 258 181 true 262 609,f 53 m9 263]++(d 54 265 612 ["one","other","pair"] m9++(d 55 272 621 [] m9++(d 56 277 627 ["machine","widths","state","row","led_to"] m9++(d 57 284 638 [] m9++(d 58 289 644 [] m9++(d 60 294 652 [] EC++(d 61 299 658 [] EC++(d 62 304 664 [] EC++(d 63 309 670 [] EC++(d 64 314 676 ["classes","firsts","state","number"] EC++(d 66 321 688 ["found"] iP++(d 67 328 695 ["script","k"] iP++(d 68 335 703 ["cell","many","most","found","rest","k","one","two"] iP++(d 69 342 717 [] iP++(d 70 347 723 ["number","names"] iP++(d 71 354 731 ["number","left","words","word"] iP++(d 72 361 741 [] iP++(d 73 366 747 ["numbers","names","most","some","left","number","word","wants","built","part"] iP++(d 74 373 763 ["pick","p","q","r","pairs"] iP++(d 75 380 774 ["number","words","r"] iP++(d 76 387 783 ["cell","names","xs","most","p","q","r","one","other"] iP++(d 77 394 798 ["one","other","paper","there","pair","left","right","behind"] iP++(d 78 401 812 ["found","pair"] iP++(d 79 408 820 [] iP++(d 80 413 826 ["one","other","pairs","seen","k","behind"] iP++(d 81 420 838 [] iP++(d 82 425 844 [] iP)))))))))))))))))))))))))))))))))))))))))))))))))))))))))))))))))
def K(P:Params):PySem.W.Frag:=(nz 0 (ob P)).filter λp=>ir p.1 rs
def od:Bool→List Obj→List Obj
  |_,[]=>[]
  |true,x::r=>x::od false r
  |false,_::r=>od true r
def tL:Nat→List Obj→BT
  |0,_=>.nil
  |_,[]=>.nil
  |k+1,x::r=>.node x (tL k (od true r)) (tL k (od false r))
def tn(P:Params)(n:Nat):BT:=tL 12 ((ob P).take n)
abbrev SS(T:BT)(n k:Nat)(o:OsState):SharedT:=⟨T,n,{},Array.mk [],{},k,o⟩
def ev:Env:={scope:=p.main.scope,locals:=mainNs,globals:=mainNs,cells:=[],code:=(.ref 13),frame:=some 14}
def c0:Code:=.body B ev
abbrev an:Option Value:=some (.ref 6)
abbrev z0:Pos:=⟨0,0,0,0⟩
abbrev q0:List Frame:=[topFrame z0]
def sg(a b:Nat):List Stmt:=(B.drop a).take b
def pc(a b:Nat)(x:Pos):Thread:=piecesOf (sg a b) ev c0 x q0
def R(w:World)(o:OsState)(n:Nat)(S:Params→BT)(a k:Nat)(t:Thread)(S':Params→BT)(a' k':Nat)(y:Pos):Prop:=segRunT treeTable p w 11 an 1 n (SS (S w.params) a k o) t=some (.next,SS (S' w.params) a' k' o,c0,y)
variable (w:World)(o:OsState)
def S0(P:Params):BT:=((tn P 15).set 3 λ_=>boot_o_3 P).set 12 λ_=>tb 0
def S1 (P:Params):BT:=(((tn P 42).set 3 λ_=>md P "everywidth.errors" 207 3 12).set 12 λ_=>tb 3).set 38 λ_=>⟨(.type "type"),none,.cls ⟨Str.ofString "WidthError",[(.type "ValueError")],[(.ref 38),(.type "ValueError"),(.type "Exception"),(.type "BaseException"),(.type "object")],37,Str.ofString "WidthError",true,[],[],false,none,false⟩,#[some (.ref 29),none,some (vs "WidthError" 209),some (vs "WidthError" 217),some (.builtin "ValueError.__new__"),some (.bool true)]⟩
def S2 (P:Params):BT:=((tn P 85).set 3 λ_=>md P "everywidth.machines.firsts" 264 9 18).set 12 λ_=>tb 9
def S3 (P:Params):BT:=((tn P 115).set 3 λ_=>md P "everywidth.vocabulary" 342 15 24).set 12 λ_=>tb 14
def S4 (P:Params):BT:=((tn P 164).set 3 λ_=>md P "everywidth.rows" 459 26 35).set 12 λ_=>tb 21
def S5 (P:Params):BT:=((tn P 241).set 3 λ_=>md P "everywidth.machines.made" 544 39 48).set 12 λ_=>tb 33
def S6 (P:Params):BT:=((tn P 314).set 3 λ_=>md P "everywidth.machines.least" 650 52 61).set 12 λ_=>tb 46
def S7 (P:Params):BT:=((tn P 394).set 3 λ_=>md P "law_everywidth_k23_whole_same_by_papers" 686 64 73).set 12 λ_=>tb 58
def S8(P:Params):BT:=tn P 430
def H1(P:Params):Heap:=⟨Array.mk (ob P),{}⟩
theorem pre:topGo treeTable p w 11 an 12 ⟨boot_heap w.params,Array.mk [],boot_drawn,boot_toks,o⟩ (topStub p)=some ((SS (S0 w.params) 15 187 o).abs,⟨denote treeTable c0,c0,z0,q0⟩):=by
  rw[Fast.te15667345088766844465,Fast.te14364793385576792824,Fast.te11892475500146522536];kernel_rfl
theorem VH:segRunT treeTable p w 11 an 1 1 (SS (S0 w.params) 15 187 o) (blockOf B ev c0 z0 q0)=some (.next,SS (S0 w.params) 15 187 o,c0,z0):=by
  rw[Fast.te10110043849684766642,Fast.te14364793385576792824];kernel_rfl
theorem g1:R w o 267 S0 15 187 (pc 0 5 z0) S1 42 227 ⟨13,0,14,8⟩:=by
  unfold R;rw[Fast.te10110043849684766642,Fast.te14364793385576792824];kernel_rfl
theorem g2:R w o 393 S1 42 227 (pc 5 8 ⟨13,0,14,8⟩) S2 85 302 ⟨57,0,66,17⟩:=by
  unfold R;rw[Fast.te10110043849684766642,Fast.te14364793385576792824];kernel_rfl
theorem g3f:R (w.withFollow "special-get-raises" false) o 321 S2 85 302 (pc 13 8 ⟨57,0,66,17⟩) S3 115 375 ⟨96,0,96,9⟩:=by
  unfold R;rw[Fast.te10110043849684766642,Fast.te14364793385576792824];kernel_rfl
theorem VG:R (w.withFollow "special-get-raises" true) o 321 S2 85 302 (pc 13 8 ⟨57,0,66,17⟩) S3 115 375 ⟨96,0,96,9⟩:=by
  unfold R;rw[Fast.te10110043849684766642,Fast.te14364793385576792824];kernel_rfl
theorem g3 (w:World):∀o:OsState,R w o 321 S2 85 302 (pc 13 8 ⟨57,0,66,17⟩) S3 115 375 ⟨96,0,96,9⟩:=byRow2 "special-get-raises" (P:=λw=>∀o:OsState,R w o 321 S2 85 302 (pc 13 8 ⟨57,0,66,17⟩) S3 115 375 ⟨96,0,96,9⟩) g3f VG w
theorem SN:R (w.withFollow "special-get-raises" false) o 398 S3 115 375 (pc 21 12 ⟨96,0,96,9⟩) S4 164 461 ⟨117,0,117,8⟩:=by
  unfold R;rw[Fast.te10110043849684766642,Fast.te14364793385576792824];kernel_rfl
theorem Vu:R (w.withFollow "special-get-raises" true) o 398 S3 115 375 (pc 21 12 ⟨96,0,96,9⟩) S4 164 461 ⟨117,0,117,8⟩:=by
  unfold R;rw[Fast.te10110043849684766642,Fast.te14364793385576792824];kernel_rfl
theorem g4 (w:World):∀o:OsState,R w o 398 S3 115 375 (pc 21 12 ⟨96,0,96,9⟩) S4 164 461 ⟨117,0,117,8⟩:=byRow2 "special-get-raises" (P:=λw=>∀o:OsState,R w o 398 S3 115 375 (pc 21 12 ⟨96,0,96,9⟩) S4 164 461 ⟨117,0,117,8⟩) SN Vu w
theorem g5:R w o 393 S4 164 461 (pc 33 15 ⟨117,0,117,8⟩) S5 241 574 ⟨205,0,206,89⟩:=by
  unfold R;rw[Fast.te10110043849684766642,Fast.te14364793385576792824];kernel_rfl
theorem g6:R w o 392 S5 241 574 (pc 48 16 ⟨205,0,206,89⟩) S6 314 676 ⟨270,0,271,54⟩:=by
  unfold R;rw[Fast.te10110043849684766642,Fast.te14364793385576792824];kernel_rfl
theorem g7:R w o 390 S6 314 676 (pc 64 13 ⟨270,0,271,54⟩) S7 394 798 ⟨382,0,391,69⟩:=by
  unfold R;rw[Fast.te10110043849684766642,Fast.te14364793385576792824];kernel_rfl
theorem g8:R w o 179 S7 394 798 (pc 77 6 ⟨382,0,391,69⟩) S8 430 850 ⟨438,0,464,95⟩:=by
  unfold R;rw[Fast.te10110043849684766642,Fast.te14364793385576792824];kernel_rfl
theorem fn:topRun treeTable p w 11 an 2 (SS (S8 w.params) 430 850 o).abs ⟨doneF .next,c0,⟨438,0,464,95⟩,q0⟩=some ⟨H1 w.params,Array.mk [],{},850,o⟩:=by
  rw[Fast.te14082659384304107361,Fast.te14364793385576792824];kernel_rfl
theorem sp:B=sg 0 5++(sg 5 8++(sg 13 8++(sg 21 12++(sg 33 15++(sg 48 16++(sg 64 13++(sg 77 6++[]))))))):=by kernel_rfl
theorem bl{w:World}{N:Nat}{s s' r:Shared}{b:List Stmt}{x y:Pos}{n:Nat}(e:B=b)(h:segRun treeTable p w 11 an 1 n s (blockOf B ev c0 x q0)=some (.next,s',c0,y))(k:topRun treeTable p w 11 an N s' (restOf b ev c0 y q0)=some r):topRun treeTable p w 11 an (n+N) s ⟨denote treeTable c0,c0,x,q0⟩=some r:=
  piece_block h (by rw[e];exact k)
theorem rn:topRun treeTable p w 11 an (12+(1+(267+(393+(321+(398+(393+(392+(390+(179+(2))))))))))) ⟨boot_heap w.params,Array.mk [],boot_drawn,boot_toks,o⟩ (topStub p)=some ⟨H1 w.params,Array.mk [],{},850,o⟩:=
  go_top (pre w o) (bl sp (segRun_of (VH w o)) (piece_app (segRun_of (g1 w o)) (piece_app (segRun_of (g2 w o)) (piece_app (segRun_of (g3 w o)) (piece_app (segRun_of (g4 w o)) (piece_app (segRun_of (g5 w o)) (piece_app (segRun_of (g6 w o)) (piece_app (segRun_of (g7 w o)) (piece_app (segRun_of (g8 w o)) (fn w o))))))))))
def rg(l:List Stmt):List (Nat×Nat)→List Stmt
  |[]=>[]
  |x::r=>(l.drop x.1).take x.2++rg l r
def vw:Program:={p with main:={p.main with body:=rg p.main.body [(1,2),(4,2),(7,2),(10,6),(17,2),(20,12),(33,1),(35,8),(44,5),(50,1),(52,7),(60,5),(66,17)]}}
def lo:List Str:=[Str.ofString "SUM_PARTS",Str.ofString "SUMS_IN_CLAIM",Str.ofString "CLAIMS_IN_CLAIM"]
def xt(s:Shared):Bool:=xlAt vw [] s&&recOk PySem.Challenge.rw_everywidth_k23_whole_same_by_papers.row.toRowW.records s
def as:List Addr:=rs.flatMap λx=>List.range' x.1 (x.2-x.1)
theorem sz:((boot_heap w.params).isNs mainGlobals&&(Array.mk []:Array GenState).size == 0,(boot_heap w.params).objs.size,(boot_heap w.params).nsMap mainGlobals "__annotations__")=(true,11,an):=by
  rw[Fast.te8920871248978507458];kernel_rfl
abbrev sh(w:World)(o:OsState):Shared:=⟨H1 w.params,Array.mk [],{},850,o⟩
theorem l1:(staticsOk (importedModules p.main.body) (boot_heap w.params) (H1 w.params)&&namesBound p (H1 w.params)&&gensDone (sh w o)&&laidKept (boot_heap w.params) (H1 w.params))=true:=by
  rw[Fast.te5923862056798008813];kernel_rfl
theorem l2:openSeen vw lo (importedModules p.main.body) xt true (sh w o)=openGood vw lo:=by
  rw[Fast.te4187177175401517315,Fast.te5923862056798008813];kernel_rfl
theorem l3:X.obsZ as (sh w o)=X.valZ K 430 850 w:=by kernel_rfl
theorem left:LeftO p vw lo xt (X.obsZ as) (X.valZ K 430 850) 5576:=
  LeftO.of_pieces (boot_open (by kernel_rfl) (by kernel_rfl) (λ_=>by kernel_rfl)) sz rn (by kernel_rfl) λw=>funext λo=>looks_pair (l1 w o) (looks_pair (l2 w o) (l3 w o))
end Hw
end
set_option Elab.async false
set_option linter.all false
set_option maxRecDepth 100000
noncomputable section
def ab:=@PySem.wpAny_bind
def aR:=@List.getElem?_eq_getElem
def aI:=@List.length_map
def aW:=@PySem.Heap.get?_push_of_some
def bM:=@List.getElem?_eq_some_iff
def aG:=@PySem.wpAny_pure
def aZ:=@List.length_append
def aY:=@List.getElem?_map
def aM:=@Nat.le_refl
def cF:=@List.getD_eq_getElem?_getD
def bP:=@List.mem_of_getElem?
def bN:=@List.mem_cons_self
def cA:=@List.mem_cons_of_mem
def bY:=@PySem.Heap.get?_push_size
def bC:=@decide_eq_true
def b9:=@List.mem_singleton
def bO:=@decide_eq_false
def a8:=@Nat.le_of_lt
def c9:=@PySem.F.plainAttrs_list
def dE:=@PySem.F.slot_list_append
def dD:=@PySem.F.type_list_append
def bE:=@PySem.Heap.lt_size
def bG:=@List.mem_map
def cE:=@List.length_take
def bR:=@List.mem_cons
def eL:=@List.getElem?_append_right
def bS:=@Nat.le_trans
def eH:=@List.getElem?_append_left
def dW:=@List.mem_append_right
def dr:=@Int.toNat_natCast
def eG:=@Option.map_eq_some_iff
def dJ:=@of_decide_eq_true
def aL:=@if_neg
def eZ:=@List.length_replicate
def dS:=@List.length_range
def dI:=@List.take_length
def dC:=@List.map_append
def cD:=@Nat.zero_le
def dG:=@PySem.PassesOwn.never
def aN:=@if_pos
def dH:=@List.mem_append
def gV:=@PySem.Heap.get?_update_self
def cQ:=@Nat.ne_of_lt
def cR:=@List.map_map
def fK:=@Bool.false_ne_true
def d9:=@List.append_nil
def fA:=@PySem.wpAny_newObj_type
def fY:=@Int.emod_lt_of_pos
def eT:=@PySem.wpAny_call_entry
def iQ:=@List.mem_append_left
def iA:=@Nat.lt_of_lt_of_le
def i8:=@List.take_of_length_le
def iG:=@PySem.Obj.data_mapFields
def oS:=@List.idxOf_lt_length_of_mem
def fQ:=@List.not_mem_nil
def lH:=@Bool.and_eq_true_iff
def fF:=@Int.emod_nonneg
def iD:=@List.length_drop
def f7:=@List.getElem_mem
def lG:=@PySem.Heap.SameBut.update
def eE:=@List.map_cons
def nK:=@PySem.Heap.get?_update_other
def tE:=@PyProof.Rows.slot_tuple_getitem
def fV:=@List.mem_range
def lN:=@decide_eq_true_iff
def d7:=@PySem.wpAny_field
def sW:=@List.eq_nil_of_length_eq_zero
def mK:=@List.map_congr_left
def iU:=@List.mem_filter
def iO:=@List.nodup_cons
def fU:=@Nat.lt_irrefl
def oN:=@List.take_append_drop
def rE:=@List.drop_eq_getElem_cons
def lW:=@List.append_assoc
def lI:=@Bool.and_eq_true
def i7:=@List.all_eq_true
def mH:=@PySem.wpAny_setField_rec
def nH:=@Array.length_toList
def mY:=@List.mem_map_of_mem
def iL:=@PySem.Heap.size_push
def oH:=@List.getElem?_of_mem
def lL:=@List.length_cons
def oB:=@PySem.mem_of_lookup
def iW:=@List.nodup_nil
def i0:=@PySem.wpAny_seqItems
def AU:=@PyProof.Rows.callWith_type1
def nA:=@List.size_toArray
def fH:=@PySem.wpAny_of_eq
def nN:=@List.foldl_append
def pL:=@PySem.Obj.isFreed_of_fields
def iZ:=@PySem.wpAny_holding
def mD:=@PySem.codeAny_builtin
def mI:=@List.length_zip
def pY:=@Nat.pow_le_pow_right
def oW:=@PySem.Calls.spliced_cons
def p6:=@List.flatten_append
def sO:=@List.mem_iff_getElem?
def mU:=@PySem.wpAny_setField
def nU:=@List.filter_cons
def oV:=@PySem.wpAny_truthy_bool
def C4:=@Nat.mod_two_eq_zero_or_one
def rW:=@List.mem_of_mem_take
def pR:=@PySem.wpAny_Call_Name_kw
def pP:=@Int.natCast_nonneg
def oR:=@PySem.W.kia_one
def De:=@Array.getElem?_eq_getElem
def C3:=@List.getElem?_zip_eq_some
def nP:=@Nat.not_lt_zero
def mS:=@List.all_cons
def oX:=@PySem.wpAny_isInstance
def mO:=@PySem.wpAny_attempt
def C7:=@List.eq_of_mem_replicate
def Cj:=@List.length_filter_le
def EY:=@PySem.F.slot_dict_keyiterator_next
def pA:=@Bool.eq_iff_iff
def tH:=@List.filter_append
def iJ:=@PySem.wpAny_mono
def iT:=@PySem.wpAny_rule
def pZ:=@List.lookup_cons
def mV:=@Int.ediv_one
def rJ:=@decide_eq_decide
def rY:=@List.reverse_cons
def rT:=@Int.emod_eq_of_lt
def oK:=@PySem.Paired.length
def nV:=@PySem.plainId_quiet
def p4:=@PySem.wpAny_specialOf
def rH:=@PySem.wpAny_updateSeq
def nB:=@Nat.sub_self
def tI:=@Nat.lt_succ_self
def sY:=@beq_self_eq_true
def FZ:=@PySem.wpAny_typeNameOfWhole_keyiter
def CO:=@PySem.lookup_relabel_local
def CG:=@List.mem_of_mem_drop
def nT:=@Nat.lt_or_ge
def Bs:=@PySem.Calls.spliced_nil
def AD:=@List.ext_getElem?
def nG:=@Nat.le_succ
def sZ:=@List.foldl_cons
def CV:=@List.getElem?_range
def EL:=@List.length_pos_of_mem
def eV:=@Ne.symm
def F2:=@PySem.F.slot_tuple_iterator_next
def AM:=@List.any_eq_true
def t6:=@List.drop_length
def pQ:=@List.map_take
def DI:=@PySem.Around.under_plainId
def EI:=@Nat.mul_le_mul_right
def AS:=@PySem.wpAny_passesOwn
def CH:=@PySem.Obj.cls_mapFields
def Bt:=@List.range_succ
def Dn:=@PySem.wpAny_setState_of
def Bg:=@List.length_nil
def Bi:=@Nat.min_eq_left
def Dg:=@Decidable.not_not
def rP:=@Nat.ne_of_gt
def rF:=@Int.pow_zero
def Ic:=@PySem.wpAny_getItem_str_slice
def Fm:=@PySem.wpAny_setEntries_of
def Ef:=@PySem.F.plain_extend_loop
def sQ:=@List.map_drop
def FG:=@PySem.Calls.callWith_builtin
def G0:=@PySem.F.plain_max_loop
def EB:=@Nat.lt_of_le_of_lt
def EV:=@List.getElem?_take
def sX:=@PySem.codeAny_mono
def pW:=@PySem.wpAny_letGo
def Hg:=@PySem.F.slot_enumerate_next
def r9:=@PySem.F.called_set
def F9:=@Int.emod_add_mul_ediv
def Dz:=@PySem.wpAny_pyIter_list
def DL:=@Nat.lt_succ_of_lt
def D9:=@PySem.wpAny_pyIter_slot
def DC:=@List.nodup_append
def Fb:=@PySem.wpAny_dictEntries
def DV:=@List.flatten_cons
def Ml:=@Int.add_mul_emod_self_left
def Dj:=@PySem.isSubtype_stop
def C8:=@PySem.wpAny_fieldsOf
def D7:=@Nat.succ_le_succ
def HV:=@List.filter_sublist
def Ie:=@Option.isSome_iff_exists
def Lx:=@PySem.F.args_tuple_add_2
def B0:=@PySem.wpAny_typeOf
def LN:=@List.length_erase_of_mem
def En:=@List.of_mem_zip
def Ku:=@PySem.F.entry_tuple_add
def Ib:=@PySem.tupleKind_room_in1
def FD:=@Bool.false_eq_true
def FH:=@of_decide_eq_false
def Fs:=@PySem.F.slot_zip_next
def Kf:=@Int.ediv_ediv_of_nonneg
def Dk:=@Int.emod_emod
def Mx:=@PySem.F.slot_tuple_add
def Ld:=@PySem.F.slot_dict_setdefault
def Kn:=@PySem.F.entry_max_loop
def IT:=@Int.ediv_eq_zero_of_lt
def Hi:=@Option.isSome_map
def Hf:=@Bool.eq_false_iff
def Bj:=@Int.pow_pos
def nR:=@or_false
def DH:=@PySem.wpAny_tryCatch
def CT:=@PySem.Txt.slice_le
def ID:=@PySem.wpAny_notOrdered_dict
def PB:=@PySem.F.args_dict_keyiterator_next_1
def CD:=@Nat.zero_add
def Dh:=@Int.emod_one
def K6:=@Int.add_mul_ediv_left
def FV:=@Nat.le_of_not_lt
def FN:=@List.cons_append
def FF:=@Nat.le_add_right
def OE:=@PySem.F.entry_dict_keyiterator_next
def FE:=@List.flatten_nil
def Mh:=@PySem.Around.frames_deeper
def Io:=@PySem.Calls.evalArgs_plain
def KW:=@PySem.F.args_object_init_2
def MG:=@PySem.Heap.get?_push_cases
def IL:=@PySem.wpAny_updateSeq_pair
def Ky:=@List.mem_erase_of_ne
def K4:=@List.replicate_succ'
def IE:=@List.forall_mem_cons
def EU:=@List.any_cons
def Dt:=@PySem.wpAny_handled
def O8:=@PySem.F.args_tuple_iterator_next_1
def NL:=@List.dropLast_concat_getLast
def Iw:=@PySem.Value.isStrOf_shape
def IQ:=@List.filterMap_cons
def Hy:=@PySem.wpAny_execs_nil
def Dc:=@PySem.wpAny_mkInt
def FQ:=@PySem.post_val_or_str
def Ig:=@List.getElem_of_mem
def FR:=@Option.map_some
def CY:=@PySem.sizeLine_eq
def L6:=@beq_eq_false_iff_ne
def Qs:=@PySem.F.entry_tuple_iterator_next
def Li:=@Nat.mul_le_mul_left
def LD:=@PyProof.Rows.assignInOrder_cons
def Kq:=@List.mem_filterMap
def L5:=@PySem.W.callWith_K
def DD:=@Nat.le_of_eq
def Fq:=@List.all_map
def Le:=@PySem.wpAny_forIn_array'
def DB:=@Int.ne_of_gt
def Fx:=@Int.zero_add
def Hz:=@PySem.wpAny_newTuple
def FU:=@Nat.mul_le_mul
def MB:=@List.pairwise_map
def Mc:=@Array.toList_push
def Lc:=@PySem.fits_of_scanBound
def MZ:=@List.take_add_one
def Kj:=@bne_self_eq_false
def LO:=@PySem.wpAny_setEpoch_of
def ML:=@PySem.F.plain_list_iadd
def Dy:=@PySem.wpAny_throw
def Ia:=@PySem.wpAny_onRaise
def Nb:=@PySem.wpAny_pyHash_int
def M6:=@PySem.noFill_tuple_add
def LC:=@List.getElem_zip
def MW:=@PySem.wpAny_askSetting
def LI:=@List.forIn_cons
def FA:=@PySem.callType_new
def Ij:=@PySem.wpAny_dictEpoch
def My:=@PySem.size_of_entries
def Ir:=@List.find?_cons
def KO:=@Nat.two_pow_pos
def FO:=@Int.pow_succ
def Ho:=@Int.mul_comm
def Hu:=@Nat.min_self
def FL:=@Int.add_emod
def F4:=@Int.sub_emod
def E9:=@Nat.not_lt
def C5:=@Prod.ext
variable {i n L:Nat}
variable {a f I:PySem.Addr}
variable {N:List PySem.Str}
variable {x:PySem.Str}
variable {e o:PySem.Expr}
variable {p q:PySem.Pos}
variable {S:List Nat}
variable {j:Bool}
variable {K:PySem.W.Frag}
variable {v:PySem.Value}
variable {Q:PySem.Value->PySem.Shared->Prop}
variable {R:List (List Nat)}
variable {s:PySem.Shared}
variable {z:Int}
variable {g:Type}
variable {h:PySem.Heap}
variable {P:PySem.Program}
variable {w:PySem.World}
variable {C:List (PySem.Addr×PySem.Obj)}
variable {D:List Int}
variable {G:List PySem.Expr}
variable {Y:Array PySem.Value}
section
open PySem
abbrev Aa:=Option Value->Shared->Prop
abbrev Ab:=Value->Shared->Prop
abbrev Ac:=List (Addr×Obj)
abbrev Ad:=List (List Nat)
abbrev Ae:=Str->Option Value
abbrev Af:=PySem.W.Frag
abbrev Ag:=List Value
abbrev Ah:=Array Value
abbrev Ai:=List Str
abbrev Aj:=List Nat
abbrev Ak:=List Int
abbrev Am:=List Expr
abbrev An:=FuncData
abbrev Ao:=Program
abbrev Aq:=Around
abbrev Ar:=Shared
abbrev As:=World
abbrev Au:=Value
abbrev Av:=Addr
abbrev Aw:=Expr
abbrev Ax:=Stmt
abbrev A2{q:Type}(p:Program)(w:World):=@wpAny q (model p w)
end
open PySem PySem.Spec PyProof.Rows
namespace L2
def CN:0<=sizeLine:=Vb
def vV:1<=sizeLine:=Vb
def yF:2<=sizeLine:=Vb
def AO:3<=sizeLine:=Vb
def DO:4<=sizeLine:=Vb
def ES:12<=sizeLine:=Vb
def EW:16<=sizeLine:=Vb
abbrev aV:=Sum Int Str
def jh:aV->Value->Bool
 |.inl k,v=>Value.isInt k v
 |.inr x,v=>Value.isStrOf x v
def Ki(w:As):aV->Int
 |.inl k=>hashInt k
 |.inr x=>hashStr w x
theorem YH:∀{k:aV} {v:Au},jh k v=true->(∃i t,k=Sum.inl i/\v=Value.int i t)\/(∃x t,k=Sum.inr x/\v=Value.str x t)
 |.inl i,v,h=>by
  obtain⟨t,e⟩:=Value.isInt_shape h;exact .inl ⟨i,t,U,e⟩
 |.inr x,v,h=>by
  obtain⟨t,e⟩:=Iw h;exact .inr ⟨x,t,U,e⟩
def Zfd(i:Int)(t:Tok):jh (.inl i) (.int i t)=true:=by simp[jh,Value.isInt]
def VA(x:Str)(t:Tok):jh (.inr x) (.str x t)=true:=by simp[jh,Value.isStrOf]
def Bh(a b:Int):decide ((Sum.inl a:aV)=Sum.inl b)=(a == b):=Vd
def tT(a b:Str):decide ((Sum.inr a:aV)=Sum.inr b)=decide (a=b):=Vd
def Cc(a:Int)(b:Str):decide ((Sum.inl a:aV)=Sum.inr b)=false:=Vd
def AB(a:Str)(b:Int):decide ((Sum.inr a:aV)=Sum.inl b)=false:=Vd
def Yi(ww:Ao)(w:As):PySem.KeyKind ww w aV where
 is:=jh
 hash:=Ki w
 inj:=λv a b B q=>by
  rcases YH B with⟨i,t,rfl,rfl⟩|⟨x,t,rfl,rfl⟩
  .rcases YH q with⟨j,u,rfl,e⟩|⟨y,u,rfl,e⟩
   .injection e with e1 _;rw[e1]
   .exact nomatch e
  .rcases YH q with⟨j,u,rfl,e⟩|⟨y,u,rfl,e⟩
   .exact nomatch e
   .injection e with e1 _;rw[e1]
 byValue:=λk v h=>by
  rcases YH h with⟨i,t,rfl,rfl⟩|⟨x,t,rfl,rfl⟩<;>rfl
 pyHash:=λg h=>by
  rcases YH g with⟨i,t,rfl,rfl⟩|⟨x,t,rfl,rfl⟩
  .exact Nb h
  .exact wpAny_pyHash_str h
 eqBool:=λC g h=>by
  rcases YH C with⟨i,t,rfl,rfl⟩|⟨x,t,rfl,rfl⟩
  .rcases YH g with⟨j,u,rfl,rfl⟩|⟨y,u,rfl,rfl⟩
   .rw[Bh]at h;exact wpAny_eqBool_int h
   .rw[Cc]at h;exact SeqAt.EqAt.int_str i t y u _ _ _ _ h
  .rcases YH g with⟨j,u,rfl,rfl⟩|⟨y,u,rfl,rfl⟩
   .rw[AB]at h;exact SeqAt.EqAt.str_int x t j u _ _ _ _ h
   .rw[tT]at h;exact wpAny_eqBool_str h
 «strs»:=λk x t v h=>by
  rcases YH h with⟨i,u,rfl,e⟩|⟨y,u,rfl,e⟩
  .exact nomatch e
  .injection e with e1 _;subst e1;cases v<;>rfl
def Zdr(ww:Ao)(w:As)(k:aV)(v:Au):(Yi ww w).is k v=jh k v:=rfl
def uV(ww:Ao)(w:As)(i:Int)(t:Tok):(Yi ww w).is (.inl i) (.int i t)=true:=Zfd i t
def qf(ww:Ao)(w:As)(x:Str)(t:Tok):(Yi ww w).is (.inr x) (.str x t)=true:=VA x t
inductive V where
 |aX|bl (b:Bool)|int (i:Int)|str (x:Str)|n6 (b:Array UInt8)|Dd (b:UInt64)|ref (a:Av)|ty (n:String)
 deriving DecidableEq
def aH:V->Value->Prop
 |.aX,u=>u=Value.none
 |.bl b,u=>u=Value.bool b
 |.int i,u=>∃t,u=Value.int i t
 |.str x,u=>∃t,u=Value.str x t
 |.n6 b,u=>∃t,u=Value.bytes b t
 |.Dd b,u=>∃t,u=Value.float b t
 |.ref a,u=>u=Value.ref a
 |.ty n,u=>u=Value.type n
abbrev aJ:List V->List Au->Prop:=Paired aH
def aJ.length{g:Ag}(r:aJ xs g):xs.length=g.length:=oK r
theorem aJ.get:∀{xs:List V} {g:Ag} {i:Nat} {x:V},aJ xs g->xs[i]?=some x->∃u,g[i]?=some u/\aH x u
 |_,_,_,_,.nil,e=>by simp at e
 |_,_,0,_,.cons r _,e=>Vd
 |_,_,i+1,x,.cons _ t,e=>by
  obtain⟨u,h1,h2⟩:=aJ.get t (by simpa using e);exact⟨u,Vd,h2⟩
theorem aJ.append:∀{xs ys:List V} {g q:Ag},aJ xs g->aJ ys q->aJ (xs++ys) (g++q)
 |_,_,_,_,.nil,s=>s
 |_,_,_,_,.cons r t,s=>.cons r (aJ.append t s)
theorem aJ.take:∀{xs:List V} {g:Ag} (n:Nat),aJ xs g->aJ (xs.take n) (g.take n)
 |_,_,0,_=>.nil
 |_,_,_+1,.nil=>.nil
 |_,_,n+1,.cons r t=>.cons r (aJ.take n t)
theorem aJ.drop:∀{xs:List V} {g:Ag} (n:Nat),aJ xs g->aJ (xs.drop n) (g.drop n)
 |_,_,0,r=>r
 |_,_,_+1,.nil=>.nil
 |_,_,n+1,.cons _ t=>aJ.drop n t
def wQ:Option V->Option Au->Prop
 |some v,some u=>aH v u
 |none,none=>True
 |_,_=>False
def KV:List (g×V)->List (g×Au)->Prop:=Paired λ(p:g×V) (q:g×Au)=>p.1=q.1/\aH p.2 q.2
def kV:aV->V
 |.inl i=>.int i
 |.inr x=>.str x
inductive HO where
 |lst (xs:List V)
 |tup (xs:List V)
 |dK (ul:List (aV×V))|dT (ul:List (List aV×V))
 |set (S:Int->Bool) (n:Nat)
 |ins (C dx:Av) (fs:List (Str×V))
 |own (x:Av)
 |xd (fs:List (Str×V))
 |met (f x:Av)
 |nI (lo hi:Int)
 |b7 (o:Obj) (u:HO)
 |d4 (ps:Ah)
 |ext (φ:Heap->Prop)
abbrev Hp:=Av->Option HO
abbrev ac(a:Av):Option V:=some (.ref a)
abbrev ad(a:Int):Option V:=some (.int a)
abbrev am(a:List V):Option HO:=some (.tup a)
abbrev ap(a:List V):Option HO:=some (.lst a)
def aC(H:Hp)(a:Av)(o:HO):Hp:=λb=>if b=a then some o else H b
def Za{o:HO}:aC H a o a=some o:=by unfold aC;rw[aN U]
def Zk{b:Av}{o:HO}(h:b≠a):aC H a o b=H b:=by unfold aC;rw[aL h]
def vW{o u:HO}:aC (aC H a o) a u=aC H a u:=by
 funext b;unfold aC;split<;>rfl
def Xp{H:Hp}{b:Av}{o u:HO}(h:H a=some o)(h':H b=some u)(d:o≠u):a≠b:=Vd
def Zo{H:Hp}{b:Av}{o:HO}(h:H a=some o)(h':H b=none):a≠b:=Vd
def uW (h:Heap) (a:Av) (xs:Ah):Prop:=∃o,h.get? a=some o/\o.cls=.type "tuple" /\ (∃n,o.data=.seq xs n)/\o.dict=none
def uW.tup{a:Av}{xs:Ah}(p:uW h a xs):IsTup h a xs:=let⟨o,e,c,d,_⟩:=p;⟨o,e,c,d⟩
def uW.new (h:Heap) (xs:Ah):uW (h.push {cls:=.type "tuple",data:=.seq xs}) h.objs.size xs:=⟨_,bY _ U,U,⟨_,U⟩,U⟩
def uW.lt{a:Av}{xs:Ah}(p:uW h a xs):a<h.objs.size:=p.tup.lt
section
variable (P:Ao)(w:As)
def XA(H:Hp)(h:Heap)(a:Av):HO->Prop
 |.lst xs=>xs.length<=sizeLine/\∃(g:Ag)(n:Nat),aJ xs g/\h.get? a=some {cls:=.type "list",data:=.seq g.toArray n}
 |.tup xs=>xs.length<=sizeLine/\∃g:Ag,aJ xs g/\uW h a g.toArray
 |.dK ul=>ul.length<=sizeLine/\(a == sysModules)=false/\∃vs,KV ul vs/\h.DictOf (Yi P w) a vs
 |.dT ul=>ul.length<=sizeLine/\(a == sysModules)=false/\∃xs:List (List aV×Av×Au),
   Paired (λ(p:List aV×V) (q:List aV×Av×Au)=>p.1=q.1/\H q.2.1=am (p.1.map kV)/\aH p.2 q.2.2) ul xs /\
   ∃o es ep,h.get? a=some o/\o.ExactDict/\o.data=.dict es ep/\es.toList=xs.map (entryOfKey (tupleKind (Yi P w)))/\(xs.map (·.1)).Nodup
 |.set S n=>h.SetOf (intKind P w) a S n
 |.ins C dx fs=>H dx=some (.own a)/\fs.length<=1000/\dx≠a/\h.get? a=some (PySem.W.instObj C dx) /\
   ∃mA,h.Ns1 dx mA/\(∀f,wQ (fs.lookup f) (mA f))/\PySem.Within mA (fs.map (·.1))
 |.own _=>∃o,h.get? a=some o
 |.xd fs=>∃mA,h.Ns1 a mA/\∀f,wQ (fs.lookup f) (mA f)
 |.nI lo hi=>∃t u v,h.get? a=some {cls:=.type "range",data:=.fields #[.int lo t,.int hi u,.int 1 v]}
 |.b7 o u=>h.get? a=some o/\XA H h a u
 |.d4 ps=>h.get? a=some {cls:=.none,data:=.fields ps}
 |.met f x=>h.get? a=some (PySem.W.methodObj (.ref f) (.ref x))
 |.ext φ=>φ h/\(∃o,h.get? a=some o)/\∀h1 h2:Heap,φ h1->(∀o,h1.get? a=some o->h2.get? a=some o)->φ h2
def cK(H:Hp)(h:Heap):Prop:=∀a o,H a=some o->XA P w H h a o
end
section
variable {P:Ao}{w:As}{H H':Hp}{h h':Heap}{a:Av}{o:HO}
def XA.lt(x:XA P w H h a o):a<h.objs.size:=by
 cases o with
 |lst xs=>obtain⟨_,_,_,_,e⟩:=x;exact bE e
 |tup xs=>obtain⟨_,_,_,p⟩:=x;exact p.lt
 |dK ul=>obtain⟨_,_,_,_,o,_,_,e,_⟩:=x;exact bE e
 |dT ul=>revert x;refine θ2 λ_ _=>ε1 λ_=>θ1 λ_=>ε3 λo _ _=>θ1 λe _=>?_;exact bE e
 |set S n=>revert x;refine ε4 λo _ _ _=>θ1 λe _=>?_;exact bE e
 |ins C dx fs=>revert x;refine θ4 λ_ _ _ e _=>?_;exact bE e
 |own y=>obtain⟨_,e⟩:=x;exact bE e
 |xd fs=>obtain⟨_,⟨_,_,_,e,_⟩,_⟩:=x;exact bE e
 |nI lo hi=>obtain⟨_,_,_,e⟩:=x;exact bE e
 |b7 ob u=>obtain⟨e,_⟩:=x;exact bE e
 |d4 ps=>exact bE (x)
 |met f y=>exact bE (x)
 |ext φ=>obtain⟨_,⟨_,e⟩,_⟩:=x;exact bE e
theorem Paired.n9{F G:α->β->Prop}:∀{q:List α} {g:List β},Paired F q g->(∀a b,F a b->G a b)->Paired G q g
 |_,_,.nil,_=>.nil
 |_,_,.cons r t,f=>.cons (f _ _ r) (Paired.n9 t f)
theorem XA.cI(x:XA P w H h a o)(k:∀b u,(b=a\/H b=some (.own a))->h.get? b=some u->h'.get? b=some u)
  (F:∀b,H b=some (.own a)->H' b=some (.own a)) (D:∀b xs,H b=am xs->H' b=am xs):XA P w H' h' a o:=by
 induction o with
 |lst xs=>obtain⟨z,g,n,r,e⟩:=x;exact⟨z,g,n,r,k _ _ (.inl U) e⟩
 |tup xs=>obtain⟨z,g,r,ob,e,c⟩:=x;exact⟨z,g,r,ob,k _ _ (.inl U) e,c⟩
 |dK ul=>revert x;refine θ2 λz y=>ε1 λvs=>θ1 λr=>ε3 λob es ep=>θ1 λe c=>?_;exact⟨z,y,vs,r,ob,es,ep,k _ _ (.inl U) e,c⟩
 |dT ul=>
  revert x;refine θ2 λz y=>ε1 λxs=>θ1 λr=>ε3 λob es ep=>θ1 λe c=>?_;exact⟨z,y,xs,Paired.n9 r λp q z=>⟨z.1,D _ _ z.2.1,z.2.2⟩,ob,es,ep,k _ _ (.inl U) e,c⟩
 |set S n=>revert x;refine ε4 λob es ep t=>θ1 λe c=>?_;exact⟨ob,es,ep,t,k _ _ (.inl U) e,c⟩
 |ins C dx fs=>
  obtain⟨d,z,ne,e,mA,⟨od,es,ep,e2,c⟩,r⟩:=x;exact⟨F _ d,z,ne,k _ _ (.inl U) e,mA,⟨od,es,ep,k _ _ (.inr d) e2,c⟩,r⟩
 |own y=>obtain⟨ob,e⟩:=x;exact⟨ob,k _ _ (.inl U) e⟩
 |xd fs=>obtain⟨mA,⟨od,es,ep,e,c⟩,r⟩:=x;exact⟨mA,⟨od,es,ep,k _ _ (.inl U) e,c⟩,r⟩
 |nI lo hi=>obtain⟨t,u,v,e⟩:=x;exact⟨t,u,v,k _ _ (.inl U) e⟩
 |b7 ob u B=>obtain⟨e,q⟩:=x;exact⟨k _ _ (.inl U) e,B q⟩
 |d4 ps=>
  have e:=x;exact k a _ (.inl U) e
 |met f y=>
  have e:=x;exact k a _ (.inl U) e
 |ext φ=>obtain⟨p,⟨o,e⟩,st⟩:=x;exact⟨st _ _ p λo q=>k _ _ (.inl U) q,⟨o,k _ _ (.inl U) e⟩,st⟩
def cK.lt(x:cK P w H h)(e:H a=some o):a<h.objs.size:=(x a o e).lt
def cK.fresh(x:cK P w H h)(e:h.objs.size<=a):H a=none:=by
 cases q:H a with
 |none=>rfl
 |some u=>exact absurd (iA (x.lt q) e) (fU _)
theorem cK.kept(x:cK P w H h)(k:∀b u,h.get? b=some u->h'.get? b=some u):cK P w H h':=λa o e=>
 (x a o e).cI (λb u _ q=>k b u q) (λ_ q=>q) λ_ _ q=>q
theorem cK.laid(x:cK P w H h)(k:∀b u,h.get? b=some u->h'.get? b=some u)(C:h.objs.size<=a)(new:XA P w (aC H a o) h' a o):cK P w (aC H a o) h':=λb u e=>by
 have g:=x.fresh C
 by_cases B:b=a
 .subst B;rw[Za]at e;cases e;exact new
 .rw[Zk B]at e;exact(x b u e).cI (λc v _ q=>k c v q) (λc q=>by rw[Zk (Zo q g)];exact q) λc xs q=>by rw[Zk (Zo q g)];exact q
end
def Rd(H:Hp)(a:Av)(u:HO):Prop:=H a=some u\/∃o,H a=some (.b7 o u)
def Rd.ok(r:Rd H a u)(x:cK P w H h):XA P w H h a u:=by
 rcases r with r|⟨o,r⟩
 .exact x a u r
 .obtain⟨_,q⟩:=x a _ r;exact q
def AG:Option HO->Prop
 |some (.lst _)=>True
 |some (.dK _)=>True
 |some (.dT _)=>True
 |some (.set _ _)=>True
 |some (.ins _ _ _)=>True
 |some (.ext _)=>True
 |_=>False
section
variable {P:Ao}{w:As}{H:Hp}{h h':Heap}{x e:Av}{o':HO}
def cK.write(ok:cK P w H h)(B:AG (H x))(J:e=x\/H e=some (.own x))(k:∀b u,b≠e->h.get? b=some u->h'.get? b=some u)(D:∃u,h'.get? e=some u)
  (new:XA P w (aC H x o') h' x o'):cK P w (aC H x o') h':=λb u q=>by
 have g:∀c y,H c=some (.own y)->c≠x:=λc y r z=>by subst z;rw[r]at B;exact B
 by_cases F:b=x
 .subst F;rw[Za]at q;cases q;exact new
 .rw[Zk F]at q
  by_cases C:b=e
  .have q':H b=some (.own x):=Vd
   rw[q]at q';cases q';obtain⟨v,I⟩:=D;exact⟨v,Vd⟩
  .refine(ok b u q).cI (λc v G r=>k c v ?_ r) (λc r=>by rw[Zk (g c b r)];exact r) λc xs r=>by rw[Zk ((λc xs r z=>by subst z;rw[r]at B;exact B) c xs r)];exact r
   rcases G with rfl|G
   .exact C
   .grind
end
structure Un(fs ex:List Av)(H H':Hp)(h h':Heap):Prop where
 keep:∀b o,h.get? b=some o->H b=none->b∉fs->b∉ex->h'.get? b=some o
 slot:∀b o,h.get? b=some o->H b=none->b∈fs->b∉ex->∃sl,h'.get? b=some {o with slots:=sl}
 free:∀b o,h.get? b=some o->H b=none->b∉ex->H' b=none
 there:∀b o,h.get? b=some o->b∉ex->∃o',h'.get? b=some o'
 a7:∀b xs,H b=am xs->H' b=am xs
 eU:∀b o u,H b=some (.b7 o u)->H' b=some (.b7 o u)
 fJ:∀b ps,H b=some (.d4 ps)->∃more,H' b=some (.d4 (ps++more))
section
variable {fs fs' ex ex':List Av}{H H1 H2:Hp}{h h1 h2 h':Heap}{a x e:Av}{o:HO}
def Un.any(u:Un fs ex H H1 h h1){b:Av}{ob:Obj}(q:h.get? b=some ob)(n:H b=none)(g:b∉ex):∃C,h1.get? b=some {ob with slots:=C}:=by
 by_cases B:b∈fs
 .exact u.slot b ob q n B g
 .exact⟨_,u.keep b ob q n B g⟩
theorem Un.kept(k:∀b u,h.get? b=some u->h'.get? b=some u):Un fs ex H H h h':=
 ⟨λb ob q _ _ _=>k b ob q,λb ob q _ _ _=>⟨_,k b ob q⟩,λ_ _ _ n _=>n,λb ob q _=>⟨ob,k b ob q⟩,λ_ _ q=>q,λ_ _ _ q=>q,λ_ ps q=>⟨#[],Vd⟩⟩
def Un.refl:Un fs ex H H h h:=Un.kept λ_ _ q=>q
theorem Un.laid(k:∀b u,h.get? b=some u->h'.get? b=some u)(B:h.objs.size<=a)(g:H a=none):Un fs ex H (aC H a o) h h' where
 keep:=λb u q _ _ _=>k b u q
 slot:=λb u q _ _ _=>⟨u.slots,k b u q⟩
 free:=λb u q n _=>by rw[Zk (cQ (iA (bE q) B))];exact n
 there:=λb u q _=>⟨u,k b u q⟩
 a7:=λb xs q=>by rw[Zk (Zo q g)];exact q
 eU:=λb u xs q=>by rw[Zk (Zo q g)];exact q
 fJ:=λb ps q=>⟨#[],by rw[Zk (Zo q g),q];simp⟩
def Un.write(D:AG (H x))(I:e=x\/H e=some (.own x))(k:∀b u,b≠e->h.get? b=some u->h'.get? b=some u)(C:∃u,h'.get? e=some u):Un fs ex H (aC H x o) h h':=by
 have G:∀b,H b=none->b≠x:=λb n z=>by subst z;rw[n]at D;exact D
 have F:∀b,H b=none->b≠e:=λb n z=>by
  grind
 have B:∀b u,H b=some u->¬AG (some u)->b≠x:=λb u q nm z=>Vd
 refine⟨λb u q n _ _=>k b u (F b n) q,λb u q n _ _=>⟨u.slots,k b u (F b n) q⟩,λb u q n _=>by rw[Zk (G b n)];exact n,λb u q _=>?_,
  λb xs q=>by rw[Zk (B b _ q λz=>z)];exact q,λb u xs q=>by rw[Zk (B b _ q λz=>z)];exact q,λb ps q=>⟨#[],by rw[Zk (B b _ q λz=>z),q];simp⟩⟩
 by_cases g:b=e
 .subst g;exact C
 .exact⟨u,k b u g q⟩
end
def RD(h:Heap)(H:Hp):List Av:=(List.range h.objs.size).filter λa=>(H a).isSome
def rV(h:Heap)(H:Hp):Heap:=PySem.W.hideAll h (RD h H)
theorem SW{b:Av}{o:Obj}(e:h.get? b=some o)(n:H b=none):(rV h H).get? b=some o:=
 PySem.W.hideAll_get _ e λg=>by
  have q:=(iU.mp g).2;rw[n]at q;simp at q
def Znx{b:Av}{o:Obj}(e:(rV h H).get? b=some o):h.get? b=some o/\H b=none:=by
 have g:=PySem.W.of_hideAll _ e;refine⟨g,?_⟩;cases q:H b with
 |none=>rfl
 |some x=>
  have z:(rV h H).get? b=none:=PySem.W.hideAll_none _ (iU.mpr ⟨fV.mpr (bE g),by simp[q]⟩);rw[z]at e;cases e
structure Mod(K:Af)(mg:Ae)(base:Heap):Prop where
 Ea:K.In base
 glob:base.Ns mainGlobals mg
 blt:∃mb,base.Ns builtinsNs mb/\∀x:Str,x ≠ "__name__" ->mb x=bootBuiltins x
 nolimit:base.NoLimit
set_option genInjectivity false in
set_option genSizeOfSpec false in
structure Cx where
 prog:Ao
 w:As
 K:Af
 mg:Ae
 base:Heap
 A:Aq
 N:Ai
 s₀:Ar
 H₀:Hp
 env:Env
 outer:List Env
 stack:List Env
 ex:List Av
 fn:Str->Bool
 calm:Bool
 pn:Ac
 xe:Ab
abbrev A3{q:Type}(X:Cx):=@wpAny q (model X.prog X.w) X.A
def lU(l:List Env):List Av:=l.filterMap (·.frame)
abbrev Cx.fs(X:Cx):List Av:=lU X.outer
def F1(g:Scope)(x:Str):Prop:=g.names.lookup x=some .local\/g.names.lookup x=some .cell\/g.names.lookup x=some .free
def pV(g:Scope)(x:Str):Prop:=g.names.lookup x=some .local\/g.names.lookup x=some .cell
def Look(env:Env)(h:Heap)(m:Ae)(x:Str)(u:Au):Prop:=
 (env.kindOf x=some .local/\m x=some u)\/((env.kindOf x=some .cell\/env.kindOf x=some .free)/\∃c,env.cells.lookup x=some c/\h.IsCell c (some u))
set_option genInjectivity false in
set_option genSizeOfSpec false in
structure Cx.Ok(X:Cx):Prop where
 mod:Mod X.K X.mg X.base
 kind:X.env.scope.kind=.function
 glob:X.env.globals=mainGlobals
 blt:X.env.builtins=builtinsNs
 above:X.s₀.heap.objs.size<=X.env.locals
 inj:∀x y c,X.env.cells.lookup x=some c->X.env.cells.lookup y=some c->x=y
 has:∀x,(X.env.kindOf x=some .cell\/X.env.kindOf x=some .free)->∃c,X.env.cells.lookup x=some c
 B6:∀x c,X.fn x=true->X.env.cells.lookup x=some c->X.s₀.heap.objs.size<=c
 hd:X.calm=true->X.A.handled=none
 frames:X.A.frames=some X.stack
 nY:X.stack=X.outer\/(X.stack=X.env::X.outer/\X.env.frame=some X.env.locals)
 EE:∀b∈X.ex,b≠X.env.locals/\∀x c,X.env.cells.lookup x=some c->c≠b
 bs:∀b o,X.base.get? b=some o->X.s₀.heap.get? b=some o/\X.H₀ b=none
 mG:X.base.objs.size<=X.s₀.heap.objs.size
 mQ:∀b o,X.base.get? b=some o->b∉X.ex
 mL:∀b∈X.ex,b∉X.fs
 cT:X.s₀.heap.FunFrames X.base X.outer
 oP:∀b∈X.fs,X.H₀ b=none
structure aE(X:Cx)(zn:Ac)(σ:List (Option V))(H:Hp)(s:Ar):Prop where
 ok:X.Ok
 os:s.os=X.s₀.os
 bare:AllBare s.gens
 base:Un X.fs X.ex X.H₀ H X.s₀.heap s.heap
 loc:∃m,s.heap.Ns X.env.locals m/\∀(i:Nat)(x:Str)(v:V),X.N[i]?=some x->σ[i]?=some (some v)->F1 X.env.scope x->∃u,aH v u/\Look X.env s.heap m x u
 cell:∀x c,X.env.cells.lookup x=some c->∃v,s.heap.IsCell c v
 free:H X.env.locals=none
 cN:∀x c,X.env.cells.lookup x=some c->H c=none
 pin:∀p∈X.pn++zn,s.heap.get? p.1=some p.2/\H p.1=none/\p.1≠X.env.locals/\p.1∉X.fs/\∀v,p.2.data≠.cell v
 aK:cK X.prog X.w H s.heap
 len:σ.length=X.N.length
section
variable {X:Cx}{zn:Ac}{σ:List (Option V)}{H H':Hp}{s:Ar}{h':Heap}
theorem Cx.Ok.IM(ok:X.Ok){b:Av}{o:Obj}(e:X.base.get? b=some o):b∉X.fs:=λg=>by
 have:=(ok.cT.mem g).1;rw[e]at this;cases this
theorem aE.bs(I:aE X zn σ H s):∀b o,X.base.get? b=some o->s.heap.get? b=some o/\H b=none:=λb o e=>
 ⟨I.base.keep b o (I.ok.bs b o e).1 (I.ok.bs b o e).2 (I.ok.IM e) (I.ok.mQ b o e),I.base.free b o (I.ok.bs b o e).1 (I.ok.bs b o e).2 (I.ok.mQ b o e)⟩
def aE.bk(I:aE X zn σ H s):∀b o,X.base.get? b=some o->s.heap.get? b=some o:=λb o e=>(I.bs b o e).1
def aE.mod(I:aE X zn σ H s):Mod X.K X.mg X.base:=I.ok.mod
def aE.fE(I:aE X zn σ H s):X.K.In s.heap:=I.ok.mod.Ea.keeps I.bk
def aE.lt(I:aE X zn σ H s):X.env.locals<s.heap.objs.size:=let⟨_,hn,_⟩:=I.loc;hn.lt
def aE.sz(I:aE X zn σ H s):X.s₀.heap.objs.size<=s.heap.objs.size:=bS I.ok.above (a8 I.lt)
theorem aE.M0(I:aE X zn σ H s)(h:s.heap.objs.size<=a):a∉X.fs:=λq=>by
 obtain⟨_,o,g,_⟩:=I.ok.cT.mem q;exact absurd (iA (bE g) (bS I.sz h)) (fU _)
theorem aE.tK(I:aE X zn σ H s):∀x c,X.env.cells.lookup x=some c->c≠X.env.locals:=λx c e z=>by
 obtain⟨v,o,B,C⟩:=I.cell x c e;obtain⟨m,⟨o',es,ep,q,g,_⟩,_⟩:=I.loc;rw[z,q]at B;cases B;rw[g]at C;cases C
theorem aE.cT(I:aE X zn σ H s):s.heap.FunFrames X.base X.outer:=by
 have all:∀(l:List Env),(∀b∈lU l,b∈X.fs)->X.s₀.heap.FunFrames X.base l->s.heap.FunFrames X.base l:=by
  intro l
  induction l with
  |nil=>intro _ _;trivial
  |cons env r F=>
   rintro C ⟨O,⟨L,o,g,D,Q,J⟩,T⟩;have B:=C L (by unfold lU;rw[IQ,g];exact bN);obtain⟨Y,e⟩:=I.base.slot L o Q (I.ok.oP L B) B λz=>I.ok.mL L z B;exact⟨O,⟨L,_,g,D,e,J⟩,F (λb q=>C b (by unfold lU;rw[IQ,g];exact cA _ q)) T⟩
 exact all X.outer (λ_ q=>q) I.ok.cT
def aE.stack(I:aE X zn σ H s):s.heap.FunFrames X.base X.stack:=by
 rcases I.ok.nY with e|⟨e,q⟩
 .rw[e];exact I.cT
 .rw[e];obtain⟨m,g,_⟩:=I.loc;refine .cons (by rw[I.ok.kind];decide) q g (Heap.get?_none_of_le (bS I.ok.mG I.ok.above)) I.cT
theorem aE.hG(I:aE X zn σ H s):∀b∈lU X.stack,b∈X.env.locals::X.fs:=λb g=>by
 rcases I.ok.nY with e|⟨e,q⟩
 .grind
 .rw[e]at g;unfold lU at g;rw[IQ,q]at g;exact g
theorem aE.lP(I:aE X zn σ H s):∀b∈lU X.stack,H b=none:=λb g=>by
 rcases bR.mp (I.hG b g)with e|g
 .rw[e];exact I.free
 .obtain⟨_,o,q,_⟩:=I.ok.cT.mem g;exact I.base.free b o q (I.ok.oP b g) λz=>I.ok.mL b z g
def aE.step{d':Drawn}{ch:List Av}(I:aE X zn σ H s)
  (C:∀b∈ch,(b∈X.ex\/X.s₀.heap.objs.size<=b)/\b≠X.env.locals/\(∀x c,X.env.cells.lookup x=some c->c≠b)/\∀p∈X.pn++zn,p.1≠b)
  (keep:∀b o,b≠X.env.locals->b∉X.fs->b∉ch->s.heap.get? b=some o->H b=none->h'.get? b=some o)
  (G:∀b o,b≠X.env.locals->b∈X.fs->b∉ch->s.heap.get? b=some o->H b=none->∃sl,h'.get? b=some {o with slots:=sl}) (free:∀b o,b∉ch->s.heap.get? b=some o->H b=none->H' b=none)
  (O:∀b o,b∉ch->s.heap.get? b=some o->∃o',h'.get? b=some o')
  (a7:∀b xs,H b=am xs->H' b=am xs) (Z:∀b o u,H b=some (.b7 o u)->H' b=some (.b7 o u)) (T:∀b ps,H b=some (.d4 ps)->∃more,H' b=some (.d4 (ps++more)))
  (ns:∀m,s.heap.Ns X.env.locals m->h'.Ns X.env.locals m) (aK:cK X.prog X.w H' h') (hg:AllBare g'):
  aE X zn σ H' {s with heap:=h',gens:=g',drawn:=d',toks:=t'}:=by
 have Y:∀b o,X.s₀.heap.get? b=some o->b≠X.env.locals:=λb o e=>cQ (iA (bE e) I.ok.above);have F:∀b o,X.s₀.heap.get? b=some o->b∉X.ex->b∉ch:=λb o e g J=>by
  rcases(C b J).1 with z|z
  .exact g z
  .exact absurd (iA (bE e) z) (fU _)
 have B:∀x c,X.env.cells.lookup x=some c->∀v,s.heap.IsCell c v->h'.IsCell c v:=λx c e v ⟨o,Q,hd⟩=>by
  have D:=λz=>(C c z).2.2.1 x c e U
  by_cases hc:c∈X.fs
  .obtain⟨sl,q⟩:=G c o (I.tK x c e) hc D Q (I.cN x c e);exact⟨_,q,hd⟩
  .exact⟨o,keep c o (I.tK x c e) hc D Q (I.cN x c e),hd⟩
 refine⟨I.ok,I.os,hg,⟨λb o e n J g=>(keep b o (Y b o e) J (F b o e g) (I.base.keep b o e n J g) (I.base.free b o e n g)),λb o e n J g=>?_,λb o e n g=>?_,λb o e g=>?_,λb xs e=>a7 b xs (I.base.a7 b xs e),λb o xs e=>Z b o xs (I.base.eU b o xs e),λb ps e=>?_⟩,?_,λx c e=>?_,?_,λx c e=>?_,λp hp=>?_,aK,I.len⟩
 .obtain⟨sl,e1⟩:=I.base.slot b o e n J g;obtain⟨sl',e2⟩:=G b _ (Y b o e) J (F b o e g) e1 (I.base.free b o e n g);exact⟨sl',e2⟩
 .obtain⟨o',e1⟩:=I.base.there b o e g;exact free b o' (F b o e g) e1 (I.base.free b o e n g)
 .obtain⟨o',e1⟩:=I.base.there b o e g;exact O b o' (F b o e g) e1
 .obtain⟨m1,e1⟩:=I.base.fJ b ps e;obtain⟨m2,e2⟩:=T b _ e1;exact⟨m1++m2,Vd⟩
 .obtain⟨m,hn,hl⟩:=I.loc;refine⟨m,ns m hn,λi x v e1 e2 e3=>?_⟩;obtain⟨u,r,l⟩:=hl i x v e1 e2 e3;refine⟨u,r,?_⟩;rcases l with l|⟨k,c,e,z⟩
  .exact .inl l
  .exact .inr ⟨k,c,e,B x c e _ z⟩
 .obtain⟨v,z⟩:=I.cell x c e;exact⟨v,B x c e v z⟩
 .obtain⟨m,⟨o,_,_,Q,_⟩,_⟩:=I.loc;exact free _ o (λz=>(C _ z).2.1 rfl) Q I.free
 .obtain⟨v,o,Q,hd⟩:=I.cell x c e;exact free c o (λz=>(C c z).2.2.1 x c e U) Q (I.cN x c e)
 .refine ω (I.pin p hp) (θ4 λe n ne nf d=>?_);have D:=λz=>(C p.1 z).2.2.2 p hp rfl;exact⟨keep p.1 p.2 ne nf D e n,free p.1 p.2 D e n,ne,nf,d⟩
def aE.un(I:aE X zn σ H s)(u:Un X.fs [] H H' s.heap h')(C:cK X.prog X.w H' h'):aE X zn σ H' {s with heap:=h',toks:=t'}:=by
 obtain⟨m,⟨o,es,ep,F,r⟩,_⟩:=id I.loc;obtain⟨Q,J⟩:=u.any F I.free Ve;exact I.step (ch:=[]) (λ_ z=>nomatch z) (λb o _ B _ e n=>u.keep b o e n B Ve) (λb o _ B _ e n=>u.slot b o e n B Ve) (λb o _ e n=>u.free b o e n Ve) (λb o _ e=>u.there b o e Ve) u.a7 u.eU u.fJ (λT G=>by
  obtain⟨o',q,D,g,O⟩:=G;rw[F]at g;cases g;exact⟨_,q,D,J,O⟩) C I.bare
def aE.call{Z:Drawn}{ch:List Av}(I:aE X zn σ H s)(u:Un (lU X.stack) ch H H' s.heap h')(D:cK X.prog X.w H' h')(Q:AllBare O)
  (B:∀b∈ch,(b∈X.ex\/X.s₀.heap.objs.size<=b)/\b≠X.env.locals/\(∀x c,X.env.cells.lookup x=some c->c≠b)/\∀p∈X.pn++zn,p.1≠b):
  aE X zn σ H' {s with heap:=h',gens:=O,drawn:=Z,toks:=t'}:=by
 obtain⟨m,⟨o,es,ep,J,r⟩,_⟩:=id I.loc;obtain⟨sl,G⟩:=u.any J I.free λz=>(B _ z).2.1 rfl;exact I.step B (λb o G Y g e n=>u.keep b o e n (λz=>(bR.mp (I.hG b z)).elim G Y) g) (λb o _ _ g e n=>u.any e n g) (λb o g e n=>u.free b o e n g) (λb o g e=>u.there b o e g) u.a7 u.eU u.fJ (λm' T=>by
  obtain⟨o',C,F,q,r'⟩:=T;rw[J]at q;cases q;exact⟨_,C,F,G,r'⟩) D Q
def aE.turned{it:Av}(I:aE X zn σ H s)(k:∀b o,b≠it->s.heap.get? b=some o->h'.get? b=some o)(G:H it=none)(D:it≠X.env.locals)
  (h1:it∈X.ex\/X.s₀.heap.objs.size<=it) (h2:∀x c,X.env.cells.lookup x=some c->c≠it) (J:∀p∈X.pn++zn,p.1≠it):aE X zn σ H {s with heap:=h',toks:=t'}:=by
 have B:∀b u,H b=some u->b≠it:=λb u e z=>Vd
 refine I.step (ch:=[it]) (λb O=>?_) (λb o _ _ g e _=>k b o (λz=>g (by simp[z])) e) (λb o _ _ g e _=>⟨o.slots,k b o (λz=>g (by simp[z])) e⟩) (λ_ _ _ _ n=>n)
  (λb o g e=>⟨o,k b o (λz=>g (by simp[z])) e⟩) (λ_ _ e=>e) (λ_ _ _ e=>e) (λb ps e=>⟨#[],Vd⟩) (λm C=>?_) (λb u e=>?_) I.bare
 .grind
 .obtain⟨o,es,ep,F,r⟩:=C;exact⟨o,es,ep,k _ o (eV D) F,r⟩
 .refine(I.aK b u e).cI (λc v g q=>k c v ?_ q) (λ_ q=>q) λ_ _ q=>q
  rcases g with z|z
  .rw[z];exact B b u e
  .exact B c _ z
def aE.tok(I:aE X zn σ H s)(t:Nat):aE X zn σ H {s with toks:=t}:=I.un Un.refl I.aK
def aE.kept(I:aE X zn σ H s)(k:∀b u,s.heap.get? b=some u->h'.get? b=some u):aE X zn σ H {s with heap:=h',toks:=t'}:=I.un (Un.kept k) (I.aK.kept k)
theorem aE.laid{a:Av}{o:HO}{t':Nat}(I:aE X zn σ H s)(k:∀b u,s.heap.get? b=some u->h'.get? b=some u)(g:s.heap.objs.size<=a)(new:XA X.prog X.w (aC H a o) h' a o):
  aE X zn σ (aC H a o) {s with heap:=h',toks:=t'}:=I.un (Un.laid k g (I.aK.fresh g)) (I.aK.laid k g new)
theorem aE.write{x e:Av}{o:HO}{t':Nat}(I:aE X zn σ H s)(q:AG (H x))(B:e=x\/H e=some (.own x))(k:∀b u,b≠e->s.heap.get? b=some u->h'.get? b=some u)(g:∃u,h'.get? e=some u)
  (new:XA X.prog X.w (aC H x o) h' x o):aE X zn σ (aC H x o) {s with heap:=h',toks:=t'}:=I.un (Un.write q B k g) (I.aK.write q B k g new)
theorem aE.dP(I:aE X zn σ H s)(h:∀p∈C,s.heap.get? p.1=some p.2/\H p.1=none/\p.1≠X.env.locals/\p.1∉X.fs/\∀v,p.2.data≠.cell v):aE X C σ H s:=
 ⟨I.ok,I.os,I.bare,I.base,I.loc,I.cell,I.free,I.cN,λp g=>(dH.mp g).elim (λz=>I.pin p (iQ _ z)) (h p),I.aK,I.len⟩
def Qe(g:N.Nodup){j:Nat}(a:N[i]?=some x)(b:N[j]?=some x):i=j:=by
 obtain⟨h1,e1⟩:=bM.mp a;obtain⟨h2,e2⟩:=bM.mp b;exact(List.getElem_inj g).mp (e1.trans e2.symm)
theorem Zff{M:Model}{A:Aq}{E:Ab}{v:V}{u:Au}{Q:Unit->Shared->Prop}(I:aE X zn σ H s)(hN:X.N.Nodup)(hi:X.N[i]?=some x)(D:pV X.env.scope x)(r:aH v u)
  (h:∀s',aE X zn (σ.set i (some v)) H s'->(∃a,Heap.SameBut a s.heap s'.heap/\(a=X.env.locals\/X.env.cells.lookup x=some a))->Q () s') (hf:X.fn x=true\/X.env.scope.names.lookup x=some .local:=by first|exact .inl U|exact .inr U|assumption):wpAny M A (storeName X.env x u) Q E s:=by
 obtain⟨m,hn,hl⟩:=id I.loc;have J:i<σ.length:=by rw[I.len];exact(bM.mp hi).1
 have tK:=I.tK;have B:∀{a:Av} {h':Heap},(∃o,s.heap.get? a=some o/\H a=none)->Heap.SameBut a s.heap h'->cK X.prog X.w H h':=λ{a h'} ha g b ob e=>by
  obtain⟨_,_,F⟩:=ha;refine(I.aK b ob e).cI (λc w' C q=>(g.2 c ?_).trans q) (λ_ q=>q) λ_ _ q=>q;rintro rfl;rcases C with rfl|C
  .rw[F]at e;cases e
  .rw[F]at C;cases C
 rcases D with G|G
 .refine wpAny_storeName_local G hn (λh' hn' g=>?_) (by rw[I.ok.kind];rfl);obtain⟨oL,_,_,hoL,_⟩:=id hn;refine h _ ⟨I.ok,I.os,I.bare,⟨λb o e n Y D=>((g.2 b (cQ (iA (bE e) I.ok.above))).trans (I.base.keep b o e n Y D)),λb o e n Y D=>?_,I.base.free,λb o e D=>?_,I.base.a7,I.base.eU,I.base.fJ⟩,⟨_,hn',λj y v' e1 e2 e3=>?_⟩,λy c e=>?_,I.free,I.cN,λp hp=>?_,B ⟨oL,hoL,I.free⟩ g,by simpa using I.len⟩ ⟨_,g,.inl U⟩
  .obtain⟨sl,e1⟩:=I.base.slot b o e n Y D;exact⟨sl,(g.2 b (cQ (iA (bE e) I.ok.above))).trans e1⟩
  .obtain⟨o',e1⟩:=I.base.there b o e D;exact⟨o',(g.2 b (cQ (iA (bE e) I.ok.above))).trans e1⟩
  .by_cases O:j=i
   .subst O;rw[hi]at e1;cases e1;rw[List.getElem?_set_self J]at e2;cases e2;exact⟨u,r,.inl ⟨G,Ve⟩⟩
   .rw[List.getElem?_set_ne (eV O)]at e2;obtain⟨u',r',q⟩:=hl j y v' e1 e2 e3;refine⟨u',r',?_⟩;rcases q with⟨k,e⟩|⟨k,c,e,z⟩
    .refine .inl ⟨k,?_⟩;have:y≠x:=λe=>O (Qe hN e1 (e ▸ hi));simp[this,e]
    .exact .inr ⟨k,c,e,z.sameBut g (tK y c e)⟩
  .obtain⟨w',z⟩:=I.cell y c e;exact⟨w',z.sameBut g (tK y c e)⟩
  .refine ω (I.pin p hp) (θ4 λe n ne nf d=>?_);exact⟨(g.2 p.1 ne).trans e,n,ne,nf,d⟩
 .have T:X.fn x=true:=by
   rcases hf with z|z
   .exact z
   .rw[z]at G;cases G
  obtain⟨c,C⟩:=I.ok.has x (.inl G);obtain⟨w',z⟩:=I.cell x c C;refine wpAny_storeName_cell I.ok.kind G C z (λh' hc' g=>?_);obtain⟨oc,hoc,hocd⟩:=id z;refine h _ ⟨I.ok,I.os,I.bare,⟨λb o e n Y D=>((g.2 b (cQ (iA (bE e) (I.ok.B6 x c T C)))).trans (I.base.keep b o e n Y D)),λb o e n Y D=>?_,I.base.free,λb o e D=>?_,I.base.a7,I.base.eU,I.base.fJ⟩,⟨m,hn.sameBut g (eV (tK x c C)),λj y v' e1 e2 e3=>?_⟩,λy c' e=>?_,I.free,I.cN,λp hp=>?_,B ⟨oc,hoc,I.cN x c C⟩ g,by simpa using I.len⟩ ⟨c,g,.inr C⟩
  .obtain⟨sl,e1⟩:=I.base.slot b o e n Y D;exact⟨sl,(g.2 b (cQ (iA (bE e) (I.ok.B6 x c T C)))).trans e1⟩
  .obtain⟨o',e1⟩:=I.base.there b o e D;exact⟨o',(g.2 b (cQ (iA (bE e) (I.ok.B6 x c T C)))).trans e1⟩
  .by_cases O:j=i
   .subst O;rw[hi]at e1;cases e1;rw[List.getElem?_set_self J]at e2;cases e2;exact⟨u,r,.inr ⟨.inl G,c,C,hc'⟩⟩
   .rw[List.getElem?_set_ne (eV O)]at e2;obtain⟨u',r',q⟩:=hl j y v' e1 e2 e3;refine⟨u',r',?_⟩;rcases q with q|⟨k,c',e,z'⟩
    .exact .inl q
    .refine .inr ⟨k,c',e,z'.sameBut g ?_⟩;rintro rfl;exact O (Qe hN e1 (I.ok.inj _ _ _ e C ▸ hi))
  .by_cases Z:c'=c
   .subst Z;exact⟨_,hc'⟩
   .obtain⟨w2,z2⟩:=I.cell y c' e;exact⟨w2,z2.sameBut g Z⟩
  .refine ω (I.pin p hp) (θ4 λe n ne nf d=>?_);refine⟨(g.2 p.1 ?_).trans e,n,ne,nf,d⟩;intro q;rw[q]at e;exact d w' Vd
theorem Jo{M:Model}{A:Aq}{E:Ab}{v:V}{u:Au}{Q:Unit->Shared->Prop}(I:aE X zn σ H s)(g:X.N.Nodup)(hi:X.N[i]?=some x)(C:pV X.env.scope x)(r:aH v u)
  (h:∀s',aE X zn (σ.set i (some v)) H s'->Q () s') (q:X.fn x=true\/X.env.scope.names.lookup x=some .local:=by first|exact .inl U|exact .inr U|assumption):wpAny M A (storeName X.env x u) Q E s:=
 Zff I g hi C r (λs' B _=>h s' B) q
def aE.rS{ch:List Av}(I:aE X zn σ H s)(C:s'.os=s.os)(u:Un (lU X.stack) ch H H' s.heap s'.heap)(g:cK X.prog X.w H' s'.heap)(B:AllBare s'.gens)
  (q:∀b∈ch,(b∈X.ex\/X.s₀.heap.objs.size<=b)/\b≠X.env.locals/\(∀x c,X.env.cells.lookup x=some c->c≠b)/\∀p∈X.pn++zn,p.1≠b):aE X zn σ H' s':=by
 obtain⟨h',F,D,t',o'⟩:=s';subst C;exact I.call u g B q
end
abbrev XK:=Au->Option Av->Hp->Prop
abbrev St:=List (Option V)
abbrev Ay:=List (List V)
abbrev Az:=List (aV×V)
abbrev A0:=St->Hp->Prop
abbrev A1:=List V
abbrev VK:=V->Hp->Prop
abbrev TE:=St->Hp->VK->Prop
abbrev TT:=St->Hp->(Bool->Hp->Prop)->Prop
abbrev TA:=St->Hp->(A1->Hp->Prop)->Prop
structure Ends where
 nx:A0
 rt:VK
 bk:A0:=λ_ _=>False
 ct:A0:=λ_ _=>False
abbrev TS:=Ends->St->Hp->Prop
inductive Fl(X:Cx)(zn:Ac)(σ:St)(Q:VK)(u:Au)(s':Ar):Prop
 |mk (v H':_):(aE X zn σ H' s')->(aH v u)->(Q v H')->Fl X zn σ Q u s'
def EP(X:Cx)(zn:Ac)(σ:St)(Q:VK)(u:Au)(s':Ar):Prop:=Fl X zn σ Q u s'
inductive Fu(X:Cx)(zn:Ac)(σ:St)(Q:Bool->Hp->Prop)(b:Bool)(s':Ar):Prop
 |mk (H':_):(aE X zn σ H' s')->(Q b H')->Fu X zn σ Q b s'
def TP(X:Cx)(zn:Ac)(σ:St)(Q:Bool->Hp->Prop)(b:Bool)(s':Ar):Prop:=Fu X zn σ Q b s'
inductive EO(X:Cx)(zn:Ac)(σ:St)(Q:A1->Hp->Prop)(us:Ag)(s':Ar):Prop
 |mk (vs H':_):(aE X zn σ H' s')->(aJ vs us)->(Q vs H')->EO X zn σ Q us s'
def AP(X:Cx)(zn:Ac)(σ:St)(Q:A1->Hp->Prop)(g:Ag)(s':Ar):Prop:=EO X zn σ Q g s'
def SP(X:Cx)(zn:Ac)(D:Ends)(f:Flow)(s':Ar):Prop:=
 match f with
 |.next=>∃g H',aE X zn g H' s'/\D.nx g H'
 |.brk=>∃g H',aE X zn g H' s'/\D.bk g H'
 |.cont=>∃g H',aE X zn g H' s'/\D.ct g H'
 |.ret u=>∃v g H',aE X zn g H' s'/\aH v u/\D.rt v H'
def PE(X:Cx)(e:Aw)(t:TE):Prop:=
 ∀(zn:Ac)(s:Ar)(σ:St)(H:Hp)(Q:VK),aE X zn σ H s->t σ H Q->A3 X (eval e X.env) (EP X zn σ Q) X.xe s
def PT(X:Cx)(e:Aw)(t:TT):Prop:=
 ∀(zn:Ac)(s:Ar)(σ:St)(H:Hp)(Q:Bool->Hp->Prop),aE X zn σ H s->t σ H Q->A3 X (isTrue e X.env (eval e X.env)) (TP X zn σ Q) X.xe s
def PW(X:Cx)(e:Aw)(t:TT):Prop:=
 ∀(g:Sem Au)(zn:Ac)(s:Ar)(σ:St)(H:Hp)(Q:Bool->Hp->Prop),aE X zn σ H s->t σ H Q->A3 X (isTrue e X.env g) (TP X zn σ Q) X.xe s
def PW.pt(h:PW X e t):PT X e t:=h _
def PA(X:Cx)(es:Am)(t:TA):Prop:=
 ∀(pos:Pos)(zn:Ac)(s:Ar)(σ:St)(H:Hp)(Q:A1->Hp->Prop),aE X zn σ H s->t σ H Q->A3 X (spliced (backTo pos (starEach es X.env))) (AP X zn σ Q) X.xe s
def PS(X:Cx)(st:Ax)(t:TS):Prop:=
 ∀(zn:Ac)(s:Ar)(σ:St)(H:Hp)(D:Ends),aE X zn σ H s->t D σ H->A3 X (exec st X.env) (SP X zn D) X.xe s
def p5(X:Cx)(st:List Ax)(t:TS):Prop:=
 ∀(zn:Ac)(s:Ar)(σ:St)(H:Hp)(D:Ends),aE X zn σ H s->t D σ H->A3 X (execs st X.env) (SP X zn D) X.xe s
def aP{t:Sem g}{Q q:g->Shared->Prop}{M:Model}{A:Aq}{E:Ab}(h:wpAny M A t Q E s)(B:∀a s,Q a s->q a s):wpAny M A t q E s:=iJ h B λ_ _ x=>x
section
variable {X:Cx}
inductive Pd(i:Nat)(σ:St)(H:Hp)(Q:VK):Prop
 |mk (v:_):(σ[i]?=some (some v))->(Q v H)->Pd i σ H Q
def yG(i:Nat):TE:=λσ H Q=>Pd i σ H Q
def tC(v:V):TE:=λ_ H Q=>Q v H
def Qz    (T:X.N[i]?=some x) (J:F1 X.env.scope x) (B:(x == ("__debug__" : Str))=false:=by decide) (C:(x == ("__classdict__" : Str))=false:=by decide):PE X (.Name x p) (yG i):=by
 rintro zn s σ H Q I ⟨v,e,h⟩;obtain⟨m,F,O⟩:=I.loc;obtain⟨u,r,l⟩:=O i x v T e J;have fin:EP X zn σ Q u s:=⟨v,H,I,r,h⟩;rcases l with⟨q,G⟩|⟨q,c,D,g⟩
 .exact wpAny_Name (wpAny_loadName_local I.ok.kind q F G fin) B
 .rcases q with q|q
  .exact wpAny_Name (wpAny_loadName_cell I.ok.kind q D g fin) B
  .exact wpAny_Name (wpAny_loadName_free I.ok.kind q D g fin C) B
def Gl(X:Cx)(x:Str):Prop:=X.env.kindOf x=some .globalImplicit
def vX{E:Ab}{σ:St}{H:Hp}{u:Au}(I:aE X C σ H s)(g:Gl X x)(q:X.mg x=some u)(h:Q u s)
  (B:(x == ("__debug__" : Str))=false:=by decide):A3 X (eval (.Name x p) X.env) Q E s:=
 Calls.Name_function_global I.ok.kind g (Calls.loadGlobal_global (by rw[I.ok.glob];exact I.mod.glob.keeps I.bk) q h) B
def GN{E:Ab}{σ:St}{H:Hp}{u:Au}(I:aE X C σ H s)(q:Gl X x)(B:X.mg x=none)(D:bootBuiltins x=some u)(h:Q u s)
  (g:x ≠ "__name__" :=by decide) (F:(x == ("__debug__" : Str))=false:=by decide):A3 X (eval (.Name x p) X.env) Q E s:=by
 obtain⟨G,h1,h2⟩:=I.mod.blt;exact Calls.Name_function_global I.ok.kind q (Calls.loadGlobal_builtin (by rw[I.ok.glob];exact I.mod.glob.keeps I.bk) B (by rw[I.ok.blt];exact h1.keeps I.bk) ((h2 x g).trans D) h) F
variable {a b:Aw}{ta tb:TE}{pos:Pos}
inductive EX(Q:Bool->Hp->Prop)(x:V)(H1:Hp):Prop
 |mk (c:_):(x=.bl c)->(Q c H1)->EX Q x H1
def tB(t:TE):TT:=λσ H Q=>t σ H λx H1=>EX Q x H1
variable {tA tB':TT}{op:Am}
def Iy(t u:TT):TT:=λσ H Q=>t σ H λc H1=>if c=true then u σ H1 Q else Q false H1
def tOr(t u:TT):TT:=λσ H Q=>t σ H λc H1=>if c=true then Q true H1 else u σ H1 Q
def IK(t:TT):TT:=λσ H Q=>t σ H λc H1=>Q (!c) H1
inductive O0(tb:TE)(σ:St)(Q:VK)(x:V)(H1:Hp):Prop
 |mk (c:_):(x=.bl c)->(if c=true then tb σ H1 Q else Q (.bl false) H1)->O0 tb σ Q x H1
def E2(ta tb:TE):TE:=λσ H Q=>ta σ H λx H1=>O0 tb σ Q x H1
inductive Ox(tb:TE)(σ:St)(Q:VK)(x:V)(H1:Hp):Prop
 |mk (c:_):(x=.bl c)->(if c=true then Q (.bl true) H1 else tb σ H1 Q)->Ox tb σ Q x H1
def Mb(ta tb:TE):TE:=λσ H Q=>ta σ H λx H1=>Ox tb σ Q x H1
inductive Rc(Q:VK)(x:V)(H1:Hp):Prop
 |mk (c:_):(x=.bl c)->(Q (.bl (!c)) H1)->Rc Q x H1
def EA(ta:TE):TE:=λσ H Q=>ta σ H λx H1=>Rc Q x H1
def Oq(t:TT)(ta tb:TE):TE:=λσ H Q=>t σ H λc H1=>if c=true then ta σ H1 Q else tb σ H1 Q
def T4(D:PT X c tA)(C:PE X a ta)(F:PE X b tb):PE X (.IfExp c a b pos) (Oq tA ta tb):=λzn s σ H Q I h=>by
 refine wpAny_IfExp (aP (D zn s σ H _ I h) λd q ⟨H1,g,B⟩=>?_);cases d with
 |true=>exact C zn q σ H1 Q g B
 |false=>exact F zn q σ H1 Q g B
end
def aF(K:Af)(H:Hp)(a:Av)(xs:A1):Prop:=
 Rd H a (.lst xs) \/
  ∃(o:Obj)(g:Ah)(n:Nat),K.lookup a=some o/\o.cls=.type "list" /\ o.dict=none/\o.data=.seq g n/\g.size<=sizeLine/\aJ xs g.toList
def aD(K:Af)(H:Hp)(a:Av)(xs:A1):Prop:=
 Rd H a (.tup xs) \/
  ∃(o:Obj)(g:Ah)(n:Nat),K.lookup a=some o/\o.cls=.type "tuple" /\ o.data=.seq g n/\g.size<=sizeLine/\aJ xs g.toList
def Lv:Au->Option V
 |.none=>some .aX
 |.bool b=>some (.bl b)
 |.int i _=>ad i
 |.str x _=>some (.str x)
 |.bytes b _=>some (.n6 b)
 |.float b _=>some (.Dd b)
 |.ref a=>ac a
 |.type n=>some (.ty n)
 |_=>none
def aH.abs{x:V}{u:Au}(r:aH x u):Lv u=some x:=by
 cases x with
 |aX=>cases r;rfl
 |bl _=>cases r;rfl
 |int _=>obtain⟨t,rfl⟩:=r;rfl
 |str _=>obtain⟨t,rfl⟩:=r;rfl
 |n6 _=>obtain⟨t,rfl⟩:=r;rfl
 |Dd _=>obtain⟨t,rfl⟩:=r;rfl
 |ref _=>cases r;rfl
 |ty _=>cases r;rfl
def aH.inj{x y:V}{u:Au}(r:aH x u)(q:aH y u):x=y:=Option.some.inj (r.abs.symm.trans q.abs)
theorem aJ.inj:∀{xs ys:A1} {g:Ag},aJ xs g->aJ ys g->xs=ys
 |_,_,_,.nil,.nil=>rfl
 |_,_,_,.cons r t,.cons q t'=>by rw[r.inj q,aJ.inj t t']
section
variable {X:Cx}{zn:Ac}{σ:St}{H:Hp}{s:Ar}{a:Av}{xs ys:A1}
def aF.of(h:H a=ap xs):aF K H a xs:=.inl (.inl h)
def aD.of(h:H a=am xs):aD K H a xs:=.inl (.inl h)
def aE.list(I:aE X zn σ H s)(h:aF X.K H a xs):∃g:Ag,aJ xs g/\PlainL s.heap a g.toArray/\xs.length<=sizeLine:=by
 rcases h with h|⟨o,g,n,q,B,D,C,hz,r⟩
 .obtain⟨z,g,n,r,e⟩:=h.ok I.aK;exact⟨g,r,⟨_,n,e,U,U,U⟩,z⟩
 .refine⟨_,r,⟨o,n,I.fE a o q,B,D,by simpa using C⟩,?_⟩;have e:=r.length;simp at e;lia
def aE.tuple(I:aE X zn σ H s)(h:aD X.K H a xs):∃g:Ag,aJ xs g/\IsTup s.heap a g.toArray/\xs.length<=sizeLine:=by
 rcases h with h|⟨o,g,n,q,B,C,hz,r⟩
 .obtain⟨z,g,r,p⟩:=h.ok I.aK;exact⟨g,r,p.tup,z⟩
 .refine⟨_,r,⟨o,I.fE a o q,B,n,by simpa using C⟩,?_⟩;have e:=r.length;simp at e;lia
def aE.iV(I:aE X zn σ H s)(h:aF X.K H a xs)(h':aF X.K H a ys):xs=ys:=by
 obtain⟨q,r,⟨o,n,e,_,_,d⟩,_⟩:=I.list h;obtain⟨g,D,⟨o',G,B,_,_,C⟩,_⟩:=I.list h';rw[e]at B;cases B;rw[d]at C;injection C with F _;have:q=g:=Vd
 subst this;exact r.inj D
def aE.d3(I:aE X zn σ H s)(h:aD X.K H a xs)(h':aD X.K H a ys):xs=ys:=by
 obtain⟨q,r,⟨o,e,_,n,d⟩,_⟩:=I.tuple h;obtain⟨g,D,⟨o',B,_,G,C⟩,_⟩:=I.tuple h';rw[e]at B;cases B;rw[d]at C;injection C with F _;have:q=g:=Vd
 subst this;exact r.inj D
end
abbrev Cx.fL(X:Cx)(E:Ab):Cx:={X with xe:=E}
abbrev Cx.rQ(X:Cx):Cx:=X.fL λ_ _=>False
theorem Cx.Ok.fL{X:Cx}(ok:X.Ok)(E:Ab):(X.fL E).Ok:=
 ⟨ok.mod,ok.kind,ok.glob,ok.blt,ok.above,ok.inj,ok.has,ok.B6,ok.hd,ok.frames,ok.nY,ok.EE,ok.bs,ok.mG,ok.mQ,ok.mL,ok.cT,ok.oP⟩
theorem Cx.Ok.cX{X:Cx}{E:Ab}(ok:(X.fL E).Ok):X.Ok:=
 ⟨ok.mod,ok.kind,ok.glob,ok.blt,ok.above,ok.inj,ok.has,ok.B6,ok.hd,ok.frames,ok.nY,ok.EE,ok.bs,ok.mG,ok.mQ,ok.mL,ok.cT,ok.oP⟩
section
variable {X:Cx}{zn:Ac}{σ:St}{H:Hp}{s:Ar}{E:Ab}
def aE.fL(I:aE X zn σ H s)(E:Ab):aE (X.fL E) zn σ H s:=⟨I.ok.fL E,I.os,I.bare,I.base,I.loc,I.cell,I.free,I.cN,I.pin,I.aK,I.len⟩
def aE.cX(I:aE (X.fL E) zn σ H s):aE X zn σ H s:=⟨I.ok.cX,I.os,I.bare,I.base,I.loc,I.cell,I.free,I.cN,I.pin,I.aK,I.len⟩
def SP.cX{D:Ends}{f:Flow}{s':Ar}(h:SP (X.fL E) zn D f s'):SP X zn D f s':=by
 cases f with
 |next=>obtain⟨g,H',I,q⟩:=h;exact⟨g,H',I.cX,q⟩
 |brk=>obtain⟨g,H',I,q⟩:=h;exact⟨g,H',I.cX,q⟩
 |cont=>obtain⟨g,H',I,q⟩:=h;exact⟨g,H',I.cX,q⟩
 |ret u=>obtain⟨v,g,H',I,r,q⟩:=h;exact⟨v,g,H',I.cX,r,q⟩
theorem p5.rQ{st:List Ax}{t:TS}(h:p5 X.rQ st t):p5 X st t:=λzn s σ H D I hw=>
 iJ (h zn s σ H D (I.fL _) hw) (λ_ _ q=>q.cX) λ_ _ z=>False.elim z
end
section
variable {X:Cx}{st:Ax}{op:List Ax}{t u:TS}{e:Aw}{te:TE}{pos:Pos}
def Dx:TS:=λD σ H=>D.nx σ H
def Xj(t u:TS):TS:=λD σ H=>t {D with nx:=u D} σ H
def aE.quiet{σ:St}{H:Hp}(I:aE X C σ H s):interactive X.env=false:=by simp[interactive,I.ok.kind]
def F3(te:TE):TS:=λD σ H=>te σ H λ_ H1=>D.nx σ H1
def KS(te:TE):TS:=λD σ H=>te σ H D.rt
def LH(c:TT)(t u:TS):TS:=λD σ H=>c σ H λb H1=>if b=true then t D σ H1 else u D σ H1
def NQ:TS:=λ_ _ _=>False
def Zjz:PS X st NQ:=λ_ _ _ _ _ _ h=>h.elim
end
abbrev TG:=V->St->Hp->(A0)->Prop
abbrev rK:=A1->St->Hp->(A0)->Prop
def PG(X:Cx)(g:Aw)(t:TG):Prop:=
 ∀(zn:Ac)(s:Ar)(σ:St)(H:Hp)(v:V)(u:Au)(Q:A0),aE X zn σ H s->aH v u->t v σ H Q->
  A3 X (assign g X.env u) (λ_ s'=>∃q H',aE X zn q H' s'/\Q q H') X.xe s
def FC(X:Cx)(ts:Am)(t:rK):Prop:=
 ∀(zn:Ac)(s:Ar)(σ:St)(H:Hp)(vs:A1)(q:Ag)(Q:A0),aE X zn σ H s->aJ vs q->t vs σ H Q->
  A3 X (assignInOrder ((assignEach ts X.env).map (·.2)) q) (λ_ s'=>∃g H',aE X zn g H' s'/\Q g H') X.xe s
section
variable {X:Cx}{pos:Pos}
def JO(i:Nat):TG:=λv σ H Q=>Q (σ.set i (some v)) H
theorem vY(B:X.N.Nodup)(hi:X.N[i]?=some x)(C:pV X.env.scope x)(g:X.fn x=true\/X.env.scope.names.lookup x=some .local:=by first|exact .inl U|exact .inr U|assumption):PG X (.Name x pos) (JO i):=λzn s σ H v u Q I r h=>by
 exact wpAny_assign_Name (Jo I B hi C r (λs' q=>⟨_,H,q,h⟩) g)
inductive Nu(vs:A1)(σ:St)(H:Hp)(Q:A0):Prop
 |mk  : (vs=[])->(Q σ H)->Nu vs σ H Q
def Du  : rK:=λvs σ H Q=>Nu vs σ H Q
inductive Qy(t:TG)(u:rK)(vs:A1)(σ:St)(H:Hp)(Q:A0):Prop
 |mk (v r:_):(vs=v::r)->(t v σ H λσ' H'=>u r σ' H' Q)->Qy t u vs σ H Q
def vZ(t:TG)(u:rK):rK:=λvs σ H Q=>Qy t u vs σ H Q
def Rm:FC X [] Du:=by
 rintro zn s σ H vs g Q I r ⟨e,h⟩;subst e;cases r;exact assignInOrder_nil ⟨σ,H,I,h⟩
def zP(h1:PG X e t)(h2:FC X G u)
  (F:(assignEach (e::G) X.env).map (·.2)=assign e X.env::(assignEach G X.env).map (·.2):=by rfl):FC X (e::G) (vZ t u):=by
 rintro zn s σ H vs J Q I r ⟨v,O,e1,h⟩;subst e1;cases r with
 |cons r D=>
  rw[F];refine LD (aP (h1 zn s σ H _ _ _ I r h) λ_ B=>ε2 λg H1=>θ1 λq C=>(h2 zn B g H1 _ _ Q q D C))
inductive Pz(K:Af)(n:Nat)(t:rK)(v:V)(σ:St)(H:Hp)(Q:A0):Prop
 |mk (a xs:_):(v=.ref a)->(aD K H a xs)->(xs.length=n)->(t xs σ H Q)->Pz K n t v σ H Q
def EN(K:Af)(n:Nat)(t:rK):TG:=λv σ H Q=>Pz K n t v σ H Q
def Rw{k:Nat}{t:rK}(F:X.calm=true)(h:FC X G t)
  (q:(assignEach G X.env).length=n:=by rfl) (g:(assignEach G X.env).findIdx? (·.1)=none:=by rfl):PG X (.Tuple G k pos) (EN X.K n t):=by
 rintro zn s σ H v u Q I r ⟨a,xs,e1,T,B,hw⟩;subst e1;cases r;obtain⟨J,D,C,hz⟩:=I.tuple T;refine assign_Tuple_tuple (I.ok.hd F) C (by simp[q,<-B,D.length]) g λh' O=>(h zn _ σ H xs _ Q (I.kept λb o e=>O b o (cQ (bE e)) e) Vd hw)
def sU(te:TE)(g:TG):TS:=λD σ H=>te σ H λx H1=>g x σ H1 D.nx
theorem Cq(F:X.N.Nodup)(hi:X.N[i]?=some x)(J:pV X.env.scope x)(B:PE X e te)(G:swapsWith e (some (.Name x p)) pos.line X.env=pure false:=by rfl)(q:X.fn x=true\/X.env.scope.names.lookup x=some .local:=by first|exact .inl U|exact .inr U|assumption):
  PS X (.Assign [.Name x p] e pos) (sU te (JO i)):=by
 intro zn s σ H D I h;refine wpAny_Assign_Name (aP (B zn s σ H _ I h) λv T ⟨y,H1,g,Q,C⟩=>(Jo g F hi J Q (λY O=>⟨_,H1,O,C⟩) q)) G
def EG(i j:Nat)(ta:TA):TS:=λD σ H=>ta σ H λvs H1=>∃v w,vs=[v,w]/\D.nx ((σ.set i (some v)).set j (some w)) H1
def Cg{j:Nat}{y:Str}{a b:Aw}{ta:TA}{Z pt:Pos}{J k2 g:_}(hc:X.calm=true)(hN:X.N.Nodup)(hi:X.N[i]?=some x)(hj:X.N[j]?=some y)(Y:i≠j)
  (hx:X.env.scope.names.lookup x=some .local) (hy:X.env.scope.names.lookup y=some .local) (ha:PA X [a,b] ta)
  (hw:swappedStores [.Tuple [.Name x q,.Name y Z] J pt] (.Tuple [a,b] k2 g) X.env=pure (some [x,y]))
  (hs:swapsWithSole [.Tuple [.Name x q,.Name y Z] J pt] (.Tuple [a,b] k2 g) pos.line X.env=pure false:=by rfl):
  PS X (.Assign [.Tuple [.Name x q,.Name y Z] J pt] (.Tuple [a,b] k2 g) pos) (EG i j ta):=by
 intro zn s σ H D I h;refine ab (wpAny_standAt ?_);rw[hs];refine ab (aG ?_);refine ab (Tuple_ (aP (ha _ zn s σ H _ I h) λus C ⟨vs,H1,I1,r1,Q⟩=>?_));revert Q;refine ε2 λv w=>θ1 λe1 Q=>?_;subst e1;obtain⟨B,F,rfl,rv,T⟩:∃B F,us=[B,F]/\aH v B/\aH w F:=by
  cases r1 with
  |cons p G=>
   cases G with
   |cons p' q'=>
    cases q';exact⟨_,_,U,p,p'⟩
 refine fA ?_ (yF);have I2:aE X zn σ H1 {C with heap:=C.heap.push {cls:=.type "tuple",data:=.seq [B,F].toArray}}:=I1.kept (t':=C.toks) λb o e=>aW _ e;rw[hw];refine ab (aG ?_);refine ab (iT (ab (unpackItems_tuple (items:=#[B,F]) (I.ok.hd hc) (IsTup.new C.heap _) λh' O=>?_)));have I3:=I2.kept (h':=h') (t':=C.toks) λb o e=>O b o (cQ (bE e)) e;refine ab (LD (wpAny_bindName (Jo I3 hN hj (.inl hy) T (λs2 I4=>?_) (.inr hy))));refine LD (wpAny_bindName (Jo I4 hN hi (.inl hx) rv (λs3 I5=>assignInOrder_nil (aG ?_)) (.inr hx)));rw[List.set_comm _ _ (eV Y)]at I5;exact⟨_,H1,I5,Q⟩
def Rb(c:TT)(tb:TS):TS:=λD σ H=>∃W:Nat->St->Hp->Prop,(∃m,W m σ H)/\∀m σ H,W m σ H->
 c σ H λb H1=>if b=true then∃N:A0,(∀g H',N g H'->∃q,q<m/\W q g H')/\tb {D with nx:=N,ct:=N,bk:=D.nx} σ H1 else D.nx σ H1
end
structure It where
 go:Nat->Hp->Prop
 Bq:Nat->Hp->V->Hp->Prop
 stop:Nat->Hp->Prop
def z6(X:Cx)(zn:Ac)(H:Hp)(b:Av):Prop:=
 H b=none/\b≠X.env.locals/\b∉X.fs/\(b∈X.ex\/X.s₀.heap.objs.size<=b)/\(∀x c,X.env.cells.lookup x=some c->c≠b)/\∀p∈X.pn++zn,p.1≠b
def aE.dZ{σ:St}{H H':Hp}{b:Av}(I:aE X C σ H s)(g:s.heap.objs.size<=b)(B:H' b=none):z6 X C H' b:=by
 refine⟨B,rP (iA I.lt g),I.M0 g,.inr (bS I.sz g),λx c e z=>?_,λp D z=>(absurd (iA (bE (I.pin p D).1) Vd) (fU _))⟩
 .obtain⟨v,q⟩:=I.cell x c e;exact absurd (iA q.lt Vd) (fU _)
structure eA(P:Ao)(w:As)(K:Af)(tg:Aw)(J:It)(fp:List Av)(it:Av)(tn:Nat->Heap->Prop):Prop where
 mem:it∈fp
 obj:∀i h,tn i h->∀b∈fp,∃o,h.get? b=some o/\∀v,o.data≠.cell v
 keep:∀i h h',tn i h->(∀b∈fp,∀o,h.get? b=some o->h'.get? b=some o)->tn i h'
 item:∀(X:Cx),X.prog=P->X.w=w->X.K=K->X.calm=true->∀(i:Nat)(zn:Ac)(s:Ar)(σ:St)(H:Hp)(E:Ab),aE X zn σ H s->(∀b∈fp,z6 X zn H b)->tn i s.heap->J.go i H->
  wpAny (model P w) X.A (pyNext (.ref it)) (λr s1=>∃u,r=some u /\
   wpAny (model P w) X.A (letOwnedTupleGo tg (.ref it) u) (λ_ s2=>∃x H',aE X zn σ H' s2/\aH x u/\J.Bq i H x H'/\tn (i+1) s2.heap/\∀b∈fp,H' b=none) E s1) E s
 done:∀(X:Cx),X.prog=P->X.w=w->X.K=K->X.calm=true->∀(i:Nat)(zn:Ac)(s:Ar)(σ:St)(H:Hp)(E:Ab),aE X zn σ H s->(∀b∈fp,z6 X zn H b)->tn i s.heap->J.stop i H->
  wpAny (model P w) X.A (pyNext (.ref it)) (λr s1=>r=none/\aE X zn σ H s1) E s
 self:∀(A:Aq)(i:Nat)(s:Ar)(Q:Ab)(E:Ab),tn i s.heap->Q (.ref it) s->wpAny (model P w) A (pyIter (.ref it)) Q E s
abbrev TI:=St->Hp->(It->Hp->Prop)->Prop
def LJ(X:Cx)(zn:Ac)(σ:St)(tg:Aw)(R:It->Hp->Prop)(g:Au)(B:Ar):Prop:=
 ∃(it:Av)(fp:List Av)(q:Nat->Heap->Prop)(J:It)(H':Hp),g=.ref it/\aE X zn σ H' B/\eA X.prog X.w X.K tg J fp it q/\q 0 B.heap/\(∀b∈fp,z6 X zn H' b)/\R J H'
def PI(X:Cx)(tg iter:Aw)(wi:TI):Prop:=
 ∀(zn:Ac)(s:Ar)(σ:St)(H:Hp)(R:It->Hp->Prop),aE X zn σ H s->wi σ H R->
  A3 X (eval iter X.env) (λv g=>A3 X (pyIter v) (LJ X zn σ tg R) X.xe g) X.xe s
def ke{M:Model}{A:Aq}{E:Ab}{tg:Aw}{it:Av}{u:Au}{o:Obj}{n:String}{vs:Ah}{Q:Unit->Shared->Prop}(B:s.heap.get? it=some o)(q:o.cls=.type n)(C:o.data=.fields vs)
    (D:["enumerate","zip","dict_itemiterator","dict_reverseitemiterator","odict_iterator","itertools.zip_longest","itertools.pairwise"].contains n=false) (g:Q () s):wpAny M A (letOwnedTupleGo tg (.ref it) u) Q E s:=by
  cases tg<;>first
    |exact aG g
    | (cases u <;> first
        |exact aG g
        | (refine ab (wpAny_load B ?_)
           rw[q,C];show wpAny M A (if(["enumerate","zip","dict_itemiterator","dict_reverseitemiterator","odict_iterator","itertools.zip_longest","itertools.pairwise"].contains n&&vs[0]? == some _)=true then _ else _) Q E s;rw[aL Vd];exact aG g))
def tJ(K:Af)(a:Av):It:=
 ⟨λi H=>∃xs x,aF K H a xs/\xs[i]?=some x,λi H x H'=>H'=H/\∀xs,aF K H a xs->xs[i]?=some x,λi H=>∃xs,aF K H a xs/\xs.length<=i⟩
def Be(K:Af)(a:Av):It:=
 ⟨λi H=>∃xs x,aD K H a xs/\xs[i]?=some x,λi H x H'=>H'=H/\∀xs,aD K H a xs->xs[i]?=some x,λi H=>∃xs,aD K H a xs/\xs.length<=i⟩
def AW(lo:Int)(n:Nat):It:=⟨λi _=>i<n,λi H x H'=>H'=H/\x=.int (lo+i),λi _=>n<=i⟩
def Zfk(a it:Av):eA P w K tg (tJ K a) [it] it (λi h=>h.IsListIter it a i)where
 mem:=Ve
 obj:=λi h st b g=>by
  have e:=by simpa using g
  subst e;obtain⟨o,e,c,d⟩:=st;exact⟨o,e,λv z=>Vd⟩
 keep:=λi h h' st k=>st.at λo e=>k it Ve o e
 item:=by
  intro X T hw J hc i zn s σ H E I B st Q;subst T hw J;obtain⟨xs,x,C,Z⟩:=Q;refine ω (I.list C) (ε1 λits=>θ2 λY p hz=>?_);obtain⟨u,hu,ru⟩:=Y.get Z;refine ω (B it Ve) (θ5 λG f1 f2 D F O=>?_);refine wpAny_pyNext_list_item st p.isList (x:=u) Vd λh' q sb=>?_;obtain⟨o,e,c,d⟩:=id q;exact⟨u,U,ke e c d Vb ⟨x,H,I.turned (λb o g e=>(sb.2 b g).trans e) G f1 D F O,ru,⟨U,λys hy=>by rw[I.iV hy C];exact Z⟩,q,λb g=>(B b g).1⟩⟩
 done:=by
  intro X T hw J hc i zn s σ H E I B st Q;subst T hw J;obtain⟨xs,C,Z⟩:=Q;obtain⟨its,Y,p,hz⟩:=I.list C;refine ω (B it Ve) (θ5 λG f1 f2 D F O=>?_);have hl:=Y.length;exact wpAny_pyNext_list_end (I.ok.hd hc) st p.isList (by simp;simp_all) λh' eb=>⟨U,I.turned (λb o g e=>eb b o g e) G f1 D F O⟩
 self:=λ_ _ _ _ _ st h=>wpAny_pyIter_listiter st h
def Vn(a it:Av):eA P w K tg (Be K a) [it] it (λi h=>h.IsTupleIter it a i)where
 mem:=Ve
 obj:=λi h st b g=>by
  have e:=by simpa using g
  subst e;obtain⟨o,e,c,d⟩:=st;exact⟨o,e,λv z=>Vd⟩
 keep:=λi h h' st k=>st.at λo e=>k it Ve o e
 item:=by
  intro X T hw J hc i zn s σ H E I B st Q;subst T hw J;obtain⟨xs,x,C,Z⟩:=Q;refine ω (I.tuple C) (ε1 λits=>θ2 λY p hz=>?_);obtain⟨u,hu,ru⟩:=Y.get Z;refine ω (B it Ve) (θ5 λG f1 f2 D F O=>?_);refine wpAny_pyNext_tuple_item st (p) (x:=u) Vd λh' q sb=>?_;obtain⟨o,e,c,d⟩:=id q;exact⟨u,U,ke e c d Vb ⟨x,H,I.turned (λb o g e=>(sb.2 b g).trans e) G f1 D F O,ru,⟨U,λys hy=>by rw[I.d3 hy C];exact Z⟩,q,λb g=>(B b g).1⟩⟩
 done:=by
  intro X T hw J hc i zn s σ H E I B st Q;subst T hw J;obtain⟨xs,C,Z⟩:=Q;obtain⟨its,Y,p,hz⟩:=I.tuple C;refine ω (B it Ve) (θ5 λG f1 f2 D F O=>?_);have hl:=Y.length;exact wpAny_pyNext_tuple_end (I.ok.hd hc) st (p) (by simp;lia) λh' eb=>⟨U,I.turned (λb o g e=>eb b o g e) G f1 D F O⟩
 self:=λ_ _ _ _ _ st h=>wpAny_pyIter_tupleiter st h
def Zdt(it:Av)(lo:Int)(n:Nat):eA P w K tg (AW lo n) [it] it (λi h=>IsRangeIter h it (lo+(i:Nat)*1) ((n:Int)-(i:Nat)) 1)where
 mem:=Ve
 obj:=λi h st b g=>by
  simp_all
 keep:=λi h h' st k=>k it Ve _ st
 item:=by
  intro X T hw J F i zn s σ H E I B st Q;subst T hw J;refine ω (B it Ve) (θ5 λG Y Z C D O=>?_);refine(Walks.range (I.ok.hd F) it lo 1 n).item i s _ _ Q st λv h' tk hv q kk=>?_;obtain⟨t,rfl⟩:=hv;refine⟨_,U,ke q U U Vb ⟨.int _,H,I.turned (λb o g e=>kk b o Vd e) G Y C D O,⟨t,?_⟩,⟨U,U⟩,q,λb g=>(B b g).1⟩⟩;rw[Int.mul_one]
 done:=by
  intro X T hw J F i zn s σ H E I B st Q;subst T hw J;obtain⟨G,Y,Z,C,D,O⟩:=B it Ve;exact wpAny_pyNext_range_end (I.ok.hd F) st (by have:n<=i:=Q;lia) λh' eb=>⟨U,I.turned (λb o g e=>eb b o g e) G Y C D O⟩
 self:=λ_ _ _ _ _ st h=>wpAny_pyIter_rangeiter st h
section
variable {X:Cx}{tg:Aw}
inductive PJ(K:Af)(R:It->Hp->Prop)(x:V)(H1:Hp):Prop
 |mk (a:_):(x=.ref a)->((∃xs,aF K H1 a xs))->(R (tJ K a) H1)->PJ K R x H1
def Fy(K:Af)(tl:TE):TI:=λσ H R=>tl σ H λx H1=>PJ K R x H1
inductive OQ(K:Af)(R:It->Hp->Prop)(x:V)(H1:Hp):Prop
 |mk (a:_):(x=.ref a)->((∃xs,aD K H1 a xs))->(R (Be K a) H1)->OQ K R x H1
def E4(K:Af)(tl:TE):TI:=λσ H R=>tl σ H λx H1=>OQ K R x H1
def Zj1{σ:St}{H:Hp}{R:It->Hp->Prop}{E:Ab}{lo:Int}{t u v:Tok}{tk:Nat}(I:aE X C σ H s)(h1:-(2^62)<=lo)(h2:lo<2^62)(B:-(2^62)<=z)(D:z<2^62)
  (q:R (AW lo (z-lo).toNat) H):A3 X (pyIter (.ref s.heap.objs.size)) (LJ X C σ tg R) E {s with heap:=s.heap.push {cls:=.type "range",data:=.fields #[.int lo t,.int z u,.int 1 v]},toks:=tk}:=by
 refine wpAny_pyIter_range (IsRange.new ..) (small_one h1 h2 B D) ?_;have g:aE X C σ H {s with heap:=s.heap.push {cls:=.type "range",data:=.fields #[.int lo t,.int z u,.int 1 v]},toks:=tk}:=I.kept λb o e=>aW _ e;refine⟨_,_,_,_,H,U,
  g.kept λb o e=>aW _ e,Zdt _ lo _,?_,λb F=>?_,q⟩
 .have e1:lo+((0:Nat))*1=lo:=Ve
  have e2:(((z-lo).toNat))-((0:Nat))=Builtin.Range.rangeSize lo z 1:=by rw[rangeSize_one];split<;>grind
  rw[e1,e2];exact bY _ U
 .have e:b=(s.heap.push {cls:=.type "range",data:=.fields #[.int lo t,.int z u,.int 1 v]}).objs.size:=Vd
  subst e;exact g.dZ (aM _) (g.aK.fresh (aM _))
inductive Ra(R:It->Hp->Prop)(vs:A1)(H1:Hp):Prop
 |mk (j:Int):(vs=[.int j])->(-(2^62)<=j)->(j<2^62)->(R (AW 0 j.toNat) H1)->Ra R vs H1
def O7(ta:TA):TI:=λσ H R=>ta σ H λvs H1=>Ra R vs H1
def Zfn {a:Aw} {ta:TA}  (D:Gl X "range") (F:X.mg "range" = none) (J:PA X [a] ta) (O:starEach [a] X.env=[(false,eval a X.env)]:=by rfl):PI X tg (.Call (.Name "range" p) [a] [] q) (O7 ta):=λzn s σ H R I h=>by
 refine Call_ (GN I D F boot_range (AU (aP (J q zn s σ H _ I h) λZ Y ⟨vs,H1,C,T,g⟩=>?_) O U));obtain⟨j,e,g,Q,B⟩:=g;subst e;cases T with
 |cons r G=>
  cases G;obtain⟨t,rfl⟩:=r;exact call_range_1 (Zj1 C Vc Vc g Q Vd)
abbrev pB(J:It)(g:TG)(tb:TS)(D:Ends)(σ:St)(H:Hp):Prop:=∃W:Nat->Nat->St->Hp->Prop,(∃m,W 0 m σ H)/\∀i m σ H,W i m σ H->
 (J.stop i H/\D.nx σ H)\/(J.go i H/\∃N:A0,(∀q H',N q H'->∃C,C<m/\W (i+1) C q H')/\∀x H',J.Bq i H x H'->g x σ H' λB H2=>tb {D with nx:=N,ct:=N,bk:=D.nx} B H2)
def Ex(wi:TI)(g:TG)(tb:TS):TS:=λD σ H=>wi σ H λJ H1=>pB J g tb D σ H1
def ze{J:It}{g:TG}{tb:TS}{D:Ends}{σ:St}{H:Hp}(n:Nat)(B:Nat->St->Hp->Prop)(O:B 0 σ H)
  (F:∀i σ H,i<n->B i σ H->J.go i H/\∀x H',J.Bq i H x H'->g x σ H' λC H2=>tb {D with nx:=B (i+1),ct:=B (i+1),bk:=D.nx} C H2)
  (Q:∀σ H,B n σ H->J.stop n H/\D.nx σ H):pB J g tb D σ H:=by
 refine⟨λi m σ H=>m=n-i/\i<=n/\B i σ H,⟨n,Ve,cD _,O⟩,?_⟩;rintro i m σ H ⟨rfl,hi,p⟩
 by_cases q:i<n
 .exact .inr ⟨(F i σ H q p).1,_,λI H' G=>⟨_,Vd,U,q,G⟩,(F i σ H q p).2⟩
 .grind
def Hr(fp:List Av)(h:Heap):Ac:=fp.filterMap λb=>(h.get? b).map λo=>(b,o)
def G4{b:Av}{o:Obj}(g:b∈fp)(e:h.get? b=some o):(b,o)∈Hr fp h:=Kq.mpr ⟨b,g,by rw[e];rfl⟩
def Zfo{p:Av×Obj}(C:p∈Hr fp h):p.1∈fp/\h.get? p.1=some p.2:=by
 obtain⟨b,B,e⟩:=Kq.mp C;cases q:h.get? b with
 |none=>rw[q]at e;cases e
 |some o=>
  rw[q]at e;have g:=Option.some.inj e;subst g;exact⟨B,q⟩
theorem aE.pinned{σ:St}{H:Hp}{fp:List Av}(I:aE X C σ H s)(D:∀b∈fp,z6 X C H b)(J:∀b∈fp,∃o,s.heap.get? b=some o/\∀v,o.data≠.cell v):aE X (C++Hr fp s.heap) σ H s:=
 I.dP λp F=>(dH.mp F).elim (λz=>I.pin p (dW _ z)) λz=>by
  obtain⟨q,e⟩:=Zfo z;refine ω (D p.1 q) (θ3 λO G B _=>?_);obtain⟨o,g,d⟩:=J p.1 q;rw[e]at g;cases g;exact⟨e,O,G,B,d⟩
def aE.c5{σ:St}{H:Hp}(I:aE X (C++pl) σ H s):aE X C σ H s:=I.dP λp g=>I.pin p (dW _ (iQ _ g))
def AA{iter:Aw}{body:List Ax}{wi:TI}{g:TG}{tb:TS}(hp:PassesOwn (model X.prog X.w) X.A X.env X.xe)(hc:X.calm=true)(hi:PI X tg iter wi)(hg:PG X tg g)(G:p5 X body tb)
  (hs:∀x,foldedSetIterable iter X.env x=pure x:=by intro _;rfl):PS X (.For tg iter body [] p) (Ex wi g tb):=by
 intro zn s σ H D I h;refine wpAny_For (aP (hi zn s σ H _ I h) λv s1 h1=>aP h1 λitv s2 h2=>?_) hs;revert h2;refine ε5 λit fp tn J H2=>θ5 λe I2 T st2 f2=>ε1 λW=>θ1 λzq0 turn=>?_;obtain ⟨m0,w0⟩:=zq0;subst e;have O:∀{H':Hp},(∀b∈fp,H' b=none)->∀b∈fp,z6 X zn H' b:=λhn b G=>⟨hn b G,(f2 b G).2⟩;refine codeAny_forLoop_any (λn s'=>∃i B H',aE X zn B H' s'/\tn i s'.heap/\(∀b∈fp,H' b=none)/\W i n B H') ?_ m0 ⟨0,σ,H2,I2,st2,λb G=>(f2 b G).1,w0⟩;refine λn s3=>ε3 λi C H3=>θ3 λI3 st3 fr3 w3=>?_;rcases turn i n C H3 w3 with⟨stop,qn⟩|⟨go,N,hN,step⟩
 .refine AS hp (aP (T.done X U U U hc i zn s3 C H3 X.xe I3 (O fr3) st3 stop) λr s4 ⟨hr,I4⟩=>?_);subst hr;exact Hy ⟨C,H3,I4,qn⟩
 .refine AS hp (aP (T.item X U U U hc i zn s3 C H3 X.xe I3 (O fr3) st3 go) λr s4 ⟨u,hr,h4⟩=>?_);subst hr;refine AS hp (aP h4 λ_ s5=>ε2 λx H5=>θ4 λI5 r5 y5 Z fr5=>(AS hp (aP (hg _ s5 C H5 x u _ (I5.pinned (O fr5) (T.obj _ _ Z)) r5 (step x H5 y5)) λ_ s6=>ε2 λσ6 H6=>θ1 λI6 q6=>(AS hp (aP (G _ s6 σ6 H6 _ I6 q6) λf s7 Y=>?_)))));have again:∀{q:St} {F:Hp},aE X _ q F s7->N q F->∃m,m<n/\∃i B H',aE X zn B H' s7/\tn i s7.heap/\(∀b∈fp,H' b=none)/\W i m B H':=λ{q F} Q n7=>by
   obtain⟨m',hm,w7⟩:=hN q F n7;refine⟨m',hm,i+1,q,F,Q.c5,T.keep _ _ _ Z λb G o e=>(Q.pin (b,o) (dW _ (dW _ (G4 G e)))).1,λb G=>?_,w7⟩;obtain⟨o,e,d⟩:=T.obj _ _ Z b G;exact(Q.pin (b,o) (dW _ (dW _ (G4 G e)))).2.1
  cases f with
  |next=>obtain⟨q,F,Q,n7⟩:=Y;exact again Q n7
  |cont=>obtain⟨q,F,Q,n7⟩:=Y;exact again Q n7
  |brk=>obtain⟨q,F,Q,Y⟩:=Y;exact⟨q,F,Q.c5,Y⟩
  |ret v=>revert Y;refine ε3 λx7 q F=>θ2 λQ r7 Y=>?_;exact⟨x7,q,F,Q.c5,r7,Y⟩
end
theorem kg{xs:A1}{g:TG}{tb:TS}{D:Ends}{σ:St}{H:Hp}(q:Nat->St->Hp->Prop)(I:q 0 σ H)(C:∀i σ H,i<=xs.length->q i σ H->aF K H a xs)
  (G:∀i x σ H,xs[i]?=some x->q i σ H->g x σ H λB H2=>tb {D with nx:=q (i+1),ct:=q (i+1),bk:=D.nx} B H2) (F:∀σ H,q xs.length σ H->D.nx σ H):
  pB (tJ K a) g tb D σ H:=
 ze _ q I (λi σ H hi p=>⟨⟨xs,xs[i],C i σ H (a8 hi) p,aR hi⟩,λx H' ⟨e,y⟩=>e ▸ G i x σ H (y xs (C i σ H (a8 hi) p)) p⟩) λσ H p=>⟨⟨xs,C _ σ H (aM _) p,aM _⟩,F σ H p⟩
theorem JQ{xs:A1}{g:TG}{tb:TS}{D:Ends}{σ:St}{H:Hp}(q:Nat->St->Hp->Prop)(I:q 0 σ H)(C:∀i σ H,i<=xs.length->q i σ H->aD K H a xs)
  (G:∀i x σ H,xs[i]?=some x->q i σ H->g x σ H λB H2=>tb {D with nx:=q (i+1),ct:=q (i+1),bk:=D.nx} B H2) (F:∀σ H,q xs.length σ H->D.nx σ H):
  pB (Be K a) g tb D σ H:=
 ze _ q I (λi σ H hi p=>⟨⟨xs,xs[i],C i σ H (a8 hi) p,aR hi⟩,λx H' ⟨e,y⟩=>e ▸ G i x σ H (y xs (C i σ H (a8 hi) p)) p⟩) λσ H p=>⟨⟨xs,C _ σ H (aM _) p,aM _⟩,F σ H p⟩
theorem qz{lo:Int}{g:TG}{tb:TS}{D:Ends}{σ:St}{H:Hp}(q:Nat->St->Hp->Prop)(F:q 0 σ H)
  (G:∀i σ H,i<n->q i σ H->g (.int (lo+i)) σ H λB H2=>tb {D with nx:=q (i+1),ct:=q (i+1),bk:=D.nx} B H2) (C:∀σ H,q n σ H->D.nx σ H):
  pB (AW lo n) g tb D σ H:=
 ze n q F (λi σ H hi p=>⟨hi,λx H' ⟨e,y⟩=>Vd⟩) λσ H p=>⟨aM _,C σ H p⟩
abbrev R2:=V->V->Hp->VK->Prop
def b8(X:Cx)(f:Au->Value->Sem Au)(r:R2):Prop:=
 ∀(zn:Ac)(s:Ar)(σ:St)(H:Hp)(x y:V)(v u:Au)(Q:VK),aE X zn σ H s->aH x v->aH y u->r x y H Q->
  A3 X (f v u) (EP X zn σ Q) X.xe s
def HZ(X:Cx)(f:Au->Sem Au)(r:V->Hp->VK->Prop):Prop:=
 ∀(zn:Ac)(s:Ar)(σ:St)(H:Hp)(x:V)(v:Au)(Q:VK),aE X zn σ H s->aH x v->r x H Q->
  A3 X (f v) (EP X zn σ Q) X.xe s
def Wd(X:Cx)(f:Au)(r:A1->Hp->VK->Prop):Prop:=
 ∀(zn:Ac)(s:Ar)(σ:St)(H:Hp)(xs:A1)(g:Ag)(Q:VK),aE X zn σ H s->aJ xs g->r xs H Q->
  A3 X (call f g) (EP X zn σ Q) X.xe s
def E1(r:R2)(ta tb:TE):TE:=λσ H Q=>ta σ H λx H1=>tb σ H1 λy H2=>r x y H2 Q
def tUn(r:V->Hp->VK->Prop)(ta:TE):TE:=λσ H Q=>ta σ H λx H1=>r x H1 Q
inductive E3(C:Int->Int->Prop)(g:Int->Int->V)(x:V)(y:V)(H:Hp)(Q:VK):Prop
 |mk (i j:_):(x=.int i)->(y=.int j)->(C i j)->(Q (g i j) H)->E3 C g x y H Q
def rI(C:Int->Int->Prop)(g:Int->Int->V):R2:=λx y H Q=>E3 C g x y H Q
inductive Ru(g:Int->Int->V)(x:V)(y:V)(H:Hp)(Q:VK):Prop
 |mk (i j:_):(x=.int i)->(y=.int j)->(Q (g i j) H)->Ru g x y H Q
def n8(g:Int->Int->V):R2:=λx y H Q=>Ru g x y H Q
inductive DK(g:Int->V)(x:V)(H:Hp)(Q:VK):Prop
 |mk (i:_):(x=.int i)->(Q (g i) H)->DK g x H Q
def rU(g:Int->V):V->Hp->VK->Prop:=λx H Q=>DK g x H Q
section
variable {X:Cx}{a b c:Aw}{ta tb tc:TE}{pos:Pos}
def AF(T:PE X a ta)(O:PE X b tb){σ:St}{H:Hp}{R:V->V->Hp->Prop}(I:aE X C σ H s)
  (h:ta σ H λx H1=>tb σ H1 λy H2=>R x y H2)  {f:Au->Value->Sem Au}
  (F:∀v u q x y H2,aE X C σ H2 q->aH x v->aH y u->R x y H2->A3 X (f v u) Q X.xe q):
  A3 X (eval a X.env) (λv g=>A3 X (eval b X.env) (λu s₂=>A3 X (f v u) Q X.xe s₂) X.xe g) X.xe s:=by
 refine aP (T C s σ H _ I h) λv G ⟨x,H1,B,r1,J⟩=>(aP (O C G σ H1 _ B J) λu q ⟨y,H2,Z,D,Y⟩=>(F v u q x y H2 Z r1 D Y))
def CS{f:Au->Value->Sem Au}{C:Int->Int->Prop}{g:Int->Int->Int}
  (rule:∀(i j:Int)(t u:Tok)(s:Ar)(Q:Ab)(E:Ab),C i j->Q (.int (g i j) s.toks) {s with toks:=s.toks+1}->A3 X (f (.int i t) (.int j u)) Q E s):
  b8 X f (rI C λi j=>.int (g i j)):=by
 rintro zn s σ H x y v u Q I B F ⟨i,j,rfl,rfl,D,q⟩;obtain⟨t,rfl⟩:=B;obtain⟨t',rfl⟩:=F;exact rule i j t t' s _ _ D ⟨.int _,H,I.tok _,⟨_,U⟩,q⟩
def DP{f:Au->Value->Sem Au}{g:Int->Int->Int}
  (rule:∀(i j:Int)(t u:Tok)(s:Ar)(Q:Ab)(E:Ab),Q (.int (g i j) s.toks) {s with toks:=s.toks+1}->A3 X (f (.int i t) (.int j u)) Q E s):
  b8 X f (n8 λi j=>.int (g i j)):=by
 rintro zn s σ H x y v u Q I B C ⟨i,j,rfl,rfl,q⟩;obtain⟨t,rfl⟩:=B;obtain⟨t',rfl⟩:=C;exact rule i j t t' s _ _ ⟨.int _,H,I.tok _,⟨_,U⟩,q⟩
def Hs{f:Au->Value->Sem Au}{g:Int->Int->Bool}
  (rule:∀(i j:Int)(t u:Tok)(s:Ar)(Q:Ab)(E:Ab),Q (.bool (g i j)) s->A3 X (f (.int i t) (.int j u)) Q E s):
  b8 X f (n8 λi j=>.bl (g i j)):=by
 rintro zn s σ H x y v u Q I B C ⟨i,j,rfl,rfl,q⟩;obtain⟨t,rfl⟩:=B;obtain⟨t',rfl⟩:=C;exact rule i j t t' s _ _ ⟨.bl _,H,I,U,q⟩
def ED(i j:Int):Prop:=0<=j/\j<=1000000/\i.natAbs<2^64
def Cs(i j:Int):Prop:=(-(2^64)<i/\i<2^64)\/(-(2^64)<j/\j<2^64)
def Cs.ok{i j:Int}(h:Cs i j):IntMulOk i j:=by
 rcases h with⟨h1,h2⟩|⟨h1,h2⟩
 .exact .of_left (intBits_le_64 h1 h2)
 .exact .of_right (intBits_le_64 h1 h2)
def Xd:b8 X (binaryOp .Add) (n8 λi j=>.int (i+j)):=DP λ_ _ _ _ _ _ _ q=>add_int q
def ji:b8 X (binaryOp .Sub) (n8 λi j=>.int (i-j)):=DP λ_ _ _ _ _ _ _ q=>sub_int q
def Yl:b8 X (binaryOp .Mod) (rI (λ_ j=>0<j) λi j=>.int (i%j)):=CS λi j _ _ _ _ _ g q=>mod_int' Vc Vd
def N2:b8 X (binaryOp .Pow) (rI ED λi j=>.int (i^j.toNat)):=CS λ_ _ _ _ _ _ _ g q=>pow_int_small g.1 g.2.1 g.2.2 q
def Cw:b8 X (binaryOp .LShift) (rI ED λi j=>.int (i*2^j.toNat)):=CS λ_ _ _ _ _ _ _ g q=>lshift_int_small g.1 g.2.1 g.2.2 q
theorem vk:b8 X (binaryOp .RShift) (rI (λ_ j=>0<=j) λi j=>.int (i/2^j.toNat)):=CS λi j _ _ _ _ _ g q=>
 rshift_int g Vd
def Wu:b8 X (binaryOp .BitAnd) (n8 λi j=>.int (Builtin.bitAnd i j)):=DP λ_ _ _ _ _ _ _ q=>and_int q
def wU:b8 X (binaryOp .BitOr) (n8 λi j=>.int (Builtin.bitOr i j)):=DP λ_ _ _ _ _ _ _ q=>or_int q
def vm:b8 X (binaryOp .BitXor) (n8 λi j=>.int (Builtin.bitXor i j)):=DP λ_ _ _ _ _ _ _ q=>xor_int q
def NT{f:Au->Sem Au}{g:Int->Int}
  (rule:∀(i:Int)(t:Tok)(s:Ar)(Q:Ab)(E:Ab),Q (.int (g i) s.toks) {s with toks:=s.toks+1}->A3 X (f (.int i t)) Q E s):
  HZ X f (rU λi=>.int (g i)):=by
 rintro zn s σ H x v Q I B ⟨i,rfl,q⟩;obtain⟨t,rfl⟩:=B;exact rule i t s _ _ ⟨.int (g i),H,I.tok _,⟨_,U⟩,q⟩
def JA:HZ X (unaryOp .USub) (rU λi=>.int (-i)):=NT λ_ _ _ _ _ q=>neg_int q
def jj:HZ X (unaryOp .Invert) (rU λi=>.int (Builtin.bitNot i)):=NT λ_ _ _ _ _ q=>invert_int q
end
def Cp:V->V->Bool
 |.aX,.aX=>true|.aX,.int _=>true|.int _,.aX=>true|.aX,.bl _=>true|.bl _,.aX=>true|.aX,.str _=>true|.str _,.aX=>true
 |.int _,.int _=>true|.bl _,.bl _=>true|.str _,.str _=>true|.n6 _,.n6 _=>true
 |.int _,.str _=>true|.str _,.int _=>true|.bl _,.str _=>true|.str _,.bl _=>true
 |_,_=>false
inductive QM(x:V)(y:V)(H:Hp)(Q:VK):Prop
 |mk  : (Cp x y=true)->(Q (.bl (decide (x=y))) H)->QM x y H Q
def UW  : R2:=λx y H Q=>QM x y H Q
inductive Qd(x:V)(y:V)(H:Hp)(Q:VK):Prop
 |mk  : (Cp x y=true)->(Q (.bl (!decide (x=y))) H)->Qd x y H Q
def rNe  : R2:=λx y H Q=>Qd x y H Q
def NY{i j:Int}:decide (V.int i=V.int j)=(i == j):=Vd
def Pq{i:Bool}:decide (V.bl i=V.bl j)=(i == j):=Vd
def PY{i j:Str}:decide (V.str i=V.str j)=(i == j):=Vd
def Ob{i j:Array UInt8}:decide (V.n6 i=V.n6 j)=(i.toList == j.toList):=by
 rw[pA];cases i;cases j;simp
section
variable {X:Cx}{a b c:Aw}{ta tb tc:TE}{pos:Pos}
def Ym{σ:St}{H:Hp}{Q:VK}{k:Bool}(I:aE X C σ H s)(q:Q (.bl k) H)(e:k=j):EP X C σ Q (.bool j) s:=by
 subst e;exact⟨.bl k,H,I,U,q⟩
def Xq:b8 X (compareOp .Eq) UW:=by
 rintro zn s σ H x y v u Q I C g ⟨B,q⟩;cases x with
 |aX=>
  cases C;cases y with
  |aX=>cases g;exact PySem.EqNone.eq_none_none (Ym I q Ve)
  |bl j=>cases g;exact PySem.EqNone.eq_none_bool (Ym I q Ve)
  |int j=>obtain⟨t',rfl⟩:=g;exact PySem.EqNone.eq_none_int (Ym I q Ve)
  |str j=>obtain⟨t',rfl⟩:=g;exact PySem.EqNone.eq_none_str (Ym I q Ve)
  |_=>exact absurd (B) fK
 |bl i=>
  cases C;cases y with
  |aX=>cases g;exact PySem.EqNone.eq_bool_none (Ym I q Ve)
  |bl j=>cases g;exact eq_bool (Ym I q Pq)
  |str j=>obtain⟨t',rfl⟩:=g;exact PySem.EqMixed.eq_bool_str (Ym I q Ve)
  |_=>exact absurd (B) fK
 |int i=>
  obtain⟨t,rfl⟩:=C;cases y with
  |aX=>cases g;exact PySem.EqNone.eq_int_none (Ym I q Ve)
  |int j=>obtain⟨t',rfl⟩:=g;exact eq_int (Ym I q NY)
  |str j=>obtain⟨t',rfl⟩:=g;exact PySem.EqMixed.eq_int_str (Ym I q Ve)
  |_=>exact absurd (B) fK
 |str i=>
  obtain⟨t,rfl⟩:=C;cases y with
  |aX=>cases g;exact PySem.EqNone.eq_str_none (Ym I q Ve)
  |bl j=>cases g;exact PySem.EqMixed.eq_str_bool (Ym I q Ve)
  |int j=>obtain⟨t',rfl⟩:=g;exact PySem.EqMixed.eq_str_int (Ym I q Ve)
  |str j=>obtain⟨t',rfl⟩:=g;exact eq_str (Ym I q PY)
  |_=>exact absurd (B) fK
 |n6 i=>
  obtain⟨t,rfl⟩:=C;cases y with
  |n6 j=>obtain⟨t',rfl⟩:=g;exact PySem.W.eq_bytes (Ym I q Ob)
  |_=>exact absurd (B) fK
 |_=>cases y<;>exact absurd (B) fK
def CZ:b8 X (compareOp .NotEq) rNe:=by
 rintro zn s σ H x y v u Q I C g ⟨B,q⟩;cases x with
 |aX=>
  cases C;cases y with
  |aX=>cases g;exact PySem.EqNone.ne_none_none (Ym I q Ve)
  |bl j=>cases g;exact PySem.EqNone.ne_none_bool (Ym I q Ve)
  |int j=>obtain⟨t',rfl⟩:=g;exact PySem.EqNone.ne_none_int (Ym I q Ve)
  |str j=>obtain⟨t',rfl⟩:=g;exact PySem.EqNone.ne_none_str (Ym I q Ve)
  |_=>exact absurd (B) fK
 |bl i=>
  cases C;cases y with
  |aX=>cases g;exact PySem.EqNone.ne_bool_none (Ym I q Ve)
  |bl j=>cases g;exact ne_bool (Ym I q (congrArg not Pq))
  |str j=>obtain⟨t',rfl⟩:=g;exact PySem.EqMixed.ne_bool_str (Ym I q Ve)
  |_=>exact absurd (B) fK
 |int i=>
  obtain⟨t,rfl⟩:=C;cases y with
  |aX=>cases g;exact PySem.EqNone.ne_int_none (Ym I q Ve)
  |int j=>obtain⟨t',rfl⟩:=g;exact ne_int (Ym I q (congrArg not NY))
  |str j=>obtain⟨t',rfl⟩:=g;exact PySem.EqMixed.ne_int_str (Ym I q Ve)
  |_=>exact absurd (B) fK
 |str i=>
  obtain⟨t,rfl⟩:=C;cases y with
  |aX=>cases g;exact PySem.EqNone.ne_str_none (Ym I q Ve)
  |bl j=>cases g;exact PySem.EqMixed.ne_str_bool (Ym I q Ve)
  |int j=>obtain⟨t',rfl⟩:=g;exact PySem.EqMixed.ne_str_int (Ym I q Ve)
  |str j=>obtain⟨t',rfl⟩:=g;exact ne_str (Ym I q (congrArg not PY))
  |_=>exact absurd (B) fK
 |n6 i=>
  obtain⟨t,rfl⟩:=C;cases y with
  |n6 j=>obtain⟨t',rfl⟩:=g;exact PySem.W.ne_bytes (Ym I q (congrArg not Ob))
  |_=>exact absurd (B) fK
 |_=>cases y<;>exact absurd (B) fK
def yH:b8 X (compareOp .Lt) (n8 λi j=>.bl (decide (i<j))):=Hs λ_ _ _ _ _ _ _ q=>lt_int q
def LZ:b8 X (compareOp .LtE) (n8 λi j=>.bl (decide (i<=j))):=Hs λ_ _ _ _ _ _ _ q=>le_int q
def II:b8 X (compareOp .Gt) (n8 λi j=>.bl (decide (j<i))):=Hs λ_ _ _ _ _ _ _ q=>gt_int q
def Kv:b8 X (compareOp .GtE) (n8 λi j=>.bl (decide (j<=i))):=Hs λ_ _ _ _ _ _ _ q=>ge_int q
def Td:b8 X (compareOp .In) (λx y H Q=>∃i j,x=.str i/\y=.str j/\Q (.bl (!(Builtin.Str.occurrences j i 0 j.length 1).isEmpty)) H):=by
 rintro zn s σ H x y v u Q I g B ⟨i,j,rfl,rfl,q⟩;obtain⟨t,rfl⟩:=g;obtain⟨t',rfl⟩:=B;exact in_str (Ym I q U)
def Qj:b8 X (compareOp .Is) (λx y H Q=>y=.aX/\Q (.bl (decide (x=.aX))) H):=by
 rintro zn s σ H x y v u Q I g B ⟨rfl,q⟩;cases B;refine is_none_gen (Ym I q ?_);cases x<;>first
  |(cases g;rfl)
  |(obtain⟨t,rfl⟩:=g;rfl)
def b8.or{f:Au->Value->Sem Au}{r C:R2}(h:b8 X f r)(h':b8 X f C):b8 X f (λx y H Q=>r x y H Q\/C x y H Q):=λzn s σ H x y v u Q I g B q=>by
 rcases q with q|q
 .exact h zn s σ H x y v u Q I g B q
 .exact h' zn s σ H x y v u Q I g B q
def ZS(b:Aw){g:CmpOp}(h:g≠.In:=by decide)(h2:g≠.NotIn:=by decide):behindInMarks g b=false:=by
 have e1:(g == CmpOp.In)=false:=Vd
 have e2:(g == CmpOp.NotIn)=false:=Vd
 cases b<;>simp[behindInMarks,e1,e2]
inductive NC(Q:Bool->Hp->Prop)(x:V)(H':Hp):Prop
 |mk (k:_):(x=.bl k)->(Q k H')->NC Q x H'
def LR(t:TE):TT:=λσ H Q=>t σ H λx H'=>NC Q x H'
def Ni(r B:R2)(ta tb tc:TE):TE:=λσ H Q=>ta σ H λx H1=>tb σ H1 λy H2=>r x y H2 λz g=>∃k,z=.bl k /\
 (if k=true then tc σ g λC q=>B y C q Q else Q (.bl false) g)
def SJ{q g:CmpOp}{r J:R2}(ho:b8 X (compareOp q) r)(B:b8 X (compareOp g) J)(ha:PE X a ta)(hb:PE X b tb)(hc:PE X c tc)
  (hm:lastMarks [q,g] [b,c]=false:=by with_unfolding_all rfl):PT X (.Compare a [q,g] [b,c] pos) (LR (Ni r J ta tb tc)):=by
 intro zn s σ H Q I h;refine isTrue_chain (aP (ha zn s σ H _ I h) λv T ⟨x,H1,O,r1,q1⟩=>test_link (aP (hb zn T σ H1 _ O q1) λu Z ⟨y,H2,I2,D,q2⟩=>
  aP (ho zn Z σ H2 x y v u _ I2 r1 D q2) λd s3 ⟨z,C,F,r3,k,e,G⟩=>?_)) hm
 subst e;cases r3;refine oV ?_;cases k with
 |false=>
  obtain⟨k',e',q'⟩:=G;cases e';exact ite_ff ⟨C,F,q'⟩
 |true=>
  refine ite_tt (test_last (aP (hc zn s3 σ C _ F G) λw' s4 ⟨z',Y,I4,r4,q4⟩=>aP (B zn s4 σ Y y z' u w' _ I4 D r4 q4) λd' s5 ⟨z2,H5,I5,r5,k2,e2,q5⟩=>?_));subst e2;cases r5;exact oV ⟨H5,I5,q5⟩
def jk:(sizeLine:Nat)<2^63:=Vb
def xy:b8 X (binaryOp .Add) (λx y H Q=>∃i j,x=.str i/\y=.str j/\i.length+j.length<=sizeLine/\Q (.str (i++j)) H):=by
 rintro zn s σ H x y v u Q I g B ⟨i,j,rfl,rfl,hz,q⟩;obtain⟨t,rfl⟩:=g;obtain⟨t',rfl⟩:=B;exact add_str (λt' tk=>⟨.str _,H,I.tok _,⟨_,U⟩,q⟩) hz
def bZ{x:V}{g:Ag}(r:aJ [x] g):∃u,g=[u]/\aH x u:=by
 cases r with
 |cons q B=>cases B;exact⟨_,U,q⟩
def tG{x y:V}{g:Ag}(r:aJ [x,y] g):∃u q,g=[u,q]/\aH x u/\aH y q:=by
 cases r with
 |cons F B=>
  cases B with
  |cons D C=>cases C;exact⟨_,_,U,F,D⟩
def QP:Wd X (.builtin "abs") (λxs H Q=>∃i,xs=[.int i]/\Q (.int (if i<0 then -i else i)) H):=by
 rintro zn s σ H xs g Q I r ⟨i,rfl,q⟩;obtain⟨u,rfl,t,rfl⟩:=bZ r;exact call_abs_int λu tk=>⟨.int _,H,I.tok _,⟨_,U⟩,q⟩
def Zfu (B:X.calm=true):Wd X (.builtin "min") (λxs H Q=>∃i j,xs=[.int i,.int j]/\Q (.int (if j<i then j else i)) H):=by
 rintro zn s σ H xs C Q I r ⟨i,j,rfl,q⟩;obtain⟨u,D,rfl,⟨t,rfl⟩,⟨t',rfl⟩⟩:=tG r;refine min_two_ints (I.ok.hd B) λh' tk k=>⟨_,H,I.kept k,?_,q⟩
 by_cases g:j<i
 .rw[aN g,aN g];exact⟨_,U⟩
 .rw[aL g,aL g];exact⟨_,U⟩
end
structure Cd(h:Heap)(x dx C:Av)(mA:Ae):Prop where
 obj:h.get? x=some (PySem.W.instObj C dx)
 ns:h.Ns1 dx mA
 ne:dx≠x
theorem UT{mA:Ae}(n:h.Ns1 f mA):∃od,h.get? f=some od/\∀name,PySem.W.lookIn name od=some (mA name):=by
 revert n;refine ε3 λo es ep=>θ4 λG F D _ C=>?_;refine⟨o,G,λname=>?_⟩;have e:=C name;unfold nsFind findBy at e;rw[<-Array.find?_toList]at e;unfold PySem.W.lookIn;rw[F];dsimp only;split
 .grind
 .rename_i q;rw[q]at e;have a:es.toList.any (·.refKey)=false:=by
   rw[List.any_eq_false];intro y B;obtain⟨z,t,g⟩:=D y (Array.mem_toList_iff.mp B);simp[DictEntry.refKey,g]
  rw[aL Vd];exact congrArg some e
theorem Cd.look{x:Av}{mA:Ae}(I:Cd h x a f mA):∃od,PySem.W.InstAt h x (PySem.W.instObj f a) f (some od)/\∀name,PySem.W.lookIn name od=some (mA name):=
 let⟨od,ho,hl⟩:=UT I.ns
 ⟨od,⟨I.obj,U,U,ho⟩,hl⟩
def wQ.some_of{v:V}{o:Option Au}(r:wQ (some v) o):∃u,o=some u/\aH v u:=by
 cases o with
 |none=>exact(r).elim
 |some u=>exact⟨u,U,r⟩
def wQ.none_of{o:Option Au}(r:wQ none o):o=none:=by
 cases o with
 |none=>rfl
 |some u=>exact(r).elim
section
variable {P:Ao}{w:As}{H H':Hp}{h h':Heap}{a C dx:Av}{fs fs':List (Str×V)}
def Si(g:cK P w H h)(e:H a=some (.ins C dx fs)):∃mA,Cd h a dx C mA/\(∀f,wQ (fs.lookup f) (mA f))/\PySem.Within mA (fs.map (·.1))/\fs.length<=1000/\H dx=some (.own a):=by
 refine ω ((g a _ e)) (θ4 λd z ne ob=>ε1 λmA=>θ2 λn r q=>?_);exact⟨mA,⟨ob,n,ne⟩,r,q,z,d⟩
end
structure KH(K:Af)(C:Av):Prop where
 pg:PySem.W.plainGet K C Str.empty=true
 hd:PySem.W.hasDictIn K C=true
 po:PySem.W.plainOver K C=true
 sa:PySem.W.findIn K (.ref C) "__setattr__" = some (some (.builtin "object.__setattr__"))
def KH.get(c:KH K a)(f:Str):PySem.W.plainGet K a f=true:=c.pg
section
variable {X:Cx}{zn:Ac}{σ:St}{H:Hp}{s:Ar}{A:Aq}{E:Ab}{Q:Ab}{c:Au}{b:Bool}
inductive mW(K:Af)(H:Hp):V->Value->Prop where
 |aX:mW K H .aX (.type "NoneType")
 |bl (x:Bool):mW K H (.bl x) (.type "bool")
 |int (i:Int):mW K H (.int i) (.type "int")
 |str (x:Str):mW K H (.str x) (.type "str")
 |Dd (x:UInt64):mW K H (.Dd x) (.type "float")
 |lst {a:Av} {xs:A1} (e:H a=ap xs):mW K H (.ref a) (.type "list")
 |b7 {a:Av} {o:Obj} {xs:A1} (e:H a=some (.b7 o (.lst xs))):mW K H (.ref a) (.type "list")
 |tup {a:Av} {xs:A1} (e:H a=am xs):mW K H (.ref a) (.type "tuple")
 |dK {a:Av} {ul:Az} (e:H a=some (.dK ul)):mW K H (.ref a) (.type "dict")
 |dT {a:Av} {ul:List (List aV×V)} (e:H a=some (.dT ul)):mW K H (.ref a) (.type "dict")
 |ins {a C dx:Av} {fs:List (Str×V)} (e:H a=some (.ins C dx fs)) (cl:KH K C) (ha:PySem.W.findIn K (.ref C) "__class__" = some (some (.builtin "object.__class__")))
   (hn:PySem.W.specialIn K (.builtin "object.__class__") "__get__" = some (some (.builtin "getset_descriptor.__get__"))) (htk:PySem.W.takesIn K (.builtin "object.__class__")=some true)
   (hm:PySem.W.mroIn K C (.type "object")=some true):mW K H (.ref a) (.ref C)
def Zfw{x:V}{u t:Au}(I:aE X zn σ H s)(g:aH x u)(ty:mW X.K H x t)(e:PySem.W.kitOne X.K t c=some b)(h:∀tk,Q (.bool b) {s with toks:=tk}):
  A2 X.prog X.w A (call (.builtin "isinstance") [u,c]) Q E s:=by
 cases ty with
 |aX=>cases(g);exact oR PySem.W.kitx_none I.fE True.intro e nofun h
 |bl y=>cases(g);exact oR PySem.W.kitx_bool I.fE True.intro e nofun h
 |int i=>obtain⟨t,q⟩:=(g);cases q;exact oR PySem.W.kitx_int I.fE True.intro e nofun h
 |str y=>obtain⟨t,q⟩:=(g);cases q;exact oR PySem.W.kitx_str I.fE True.intro e nofun h
 |Dd y=>obtain⟨t,q⟩:=(g);cases q;exact oR PySem.W.kitx_float I.fE True.intro e nofun h
 | @lst a xs B=>
  cases(g);obtain⟨_,_,n,_,h1⟩:=(I.aK a _ B);exact oR PySem.W.kitx_list I.fE ⟨_,h1,U⟩ e nofun h
 | @b7 a ob xs B=>
  cases(g);obtain⟨_,_,_,n,_,h1⟩:=(I.aK a _ B);exact oR PySem.W.kitx_list I.fE ⟨_,h1,U⟩ e nofun h
 | @tup a xs B=>
  cases(g);obtain⟨_,_,_,p⟩:=(I.aK a _ B);obtain⟨o,h1,h2,_⟩:=p;exact oR PySem.W.kitx_tuple I.fE ⟨o,h1,h2⟩ e nofun h
 | @dK a ul B=>
  cases(g);obtain⟨_,_,vs,_,p⟩:=(I.aK a _ B);revert p;refine ε3 λo es ep=>θ2 λh1 h2 _=>?_;exact oR PySem.W.kitx_dict I.fE ⟨o,h1,h2.1⟩ e nofun h
 | @dT a ul B=>
  cases(g);refine ω ((I.aK a _ B)) (θ2 λ_ _=>ε1 λxs=>θ1 λ_=>ε3 λo es ep=>θ2 λh1 h2 _=>?_);exact oR PySem.W.kitx_dict I.fE ⟨o,h1,h2.1⟩ e nofun h
 | @ins a C dx fs B cl T F D G=>
  cases(g);obtain⟨mA,O,_⟩:=Si I.aK B;obtain⟨od,J,_⟩:=O.look;exact oR (PySem.W.kitx_own (cl.get _) cl.hd T F D G) I.fE J e nofun h
end
structure JP(k:Nat)(A:Aq):Prop where
 hd:A.handled=none
 dp:A.depth+3*k+5<recursionLimit
 un:A.units+16*k+200<cLine
def JP.mono{j k:Nat}{A:Aq}(r:JP k A)(h:j<=k):JP j A:=⟨r.hd,by have:=r.dp;lia,by have:=r.un;lia⟩
theorem JP.deeper(r:JP (k+1) A)(env:Env):JP k (A.deeper env):=
 ⟨r.hd,by have:=r.dp;show A.depth+1+3*k+5<_;lia,by have:=r.un;show A.units+3+16*k+200<_;lia⟩
def JP.depth(r:JP k A):A.depth<recursionLimit:=by have:=r.dp;lia
def JP.units(r:JP k A):A.units+64<cLine:=by have:=r.un;lia
def JP.CC(r:JP k A):A.units<cLine:=by have:=r.un;lia
def nL:TA:=λ_ H Q=>Q [] H
def qg(ta:TE)(g:TA):TA:=λσ H Q=>ta σ H λx H1=>g σ H1 λxs H2=>Q (x::xs) H2
section
variable {X:Cx}{e:Aw}{es:Am}{te:TE}{t:TA}{pos:Pos}
inductive QK(Q:VK)(xs:A1)(H1:Hp):Prop
 |mk  : (xs.length<=sizeLine)->(∀p,H1 p=none->Q (.ref p) (aC H1 p (.tup xs)))->QK Q xs H1
def D8(t:TA):TE:=λσ H Q=>t σ H λxs H1=>QK Q xs H1
inductive P9(Q:VK)(xs:A1)(H1:Hp):Prop
 |mk  : (xs.length<=sizeLine)->(∀p,H1 p=none->Q (.ref p) (aC H1 p (.lst xs)))->P9 Q xs H1
def AZ(t:TA):TE:=λσ H Q=>t σ H λxs H1=>P9 Q xs H1
end
abbrev Sp:=A1->Hp->VK->XK->Prop
abbrev lO:=List Env->Hp->Shared->XK->Value->Shared->Prop
structure C9(P:Ao)(w:As)(K:Af)(mg:Ae)(base:Heap)(A:Aq)(outer:List Env)(s:Ar)(H:Hp):Prop where
 frames:A.frames=some outer
 mod:Mod K mg base
 bs:∀b o,base.get? b=some o->s.heap.get? b=some o/\H b=none
 mG:base.objs.size<=s.heap.objs.size
 cT:s.heap.FunFrames base outer
 oP:∀b∈lU outer,H b=none
 aK:cK P w H s.heap
 bare:AllBare s.gens
def CE(xz:List Env)(P:Ao)(w:As)(H:Hp)(s:Ar)(Q:VK)(u:Au)(s':Ar):Prop:=
 ∃v H',s'.os=s.os/\AllBare s'.gens/\Un (lU xz) [] H H' s.heap s'.heap/\cK P w H' s'.heap/\aH v u/\Q v H'
def CR(CX:lO)(xz:List Env)(P:Ao)(w:As)(H:Hp)(s:Ar)(Q:VK)(E:XK)(r:Result)(s':Ar):Prop:=
 match r with
 |.ok (.ret u)=>CE xz P w H s Q u s'
 |.ok _=>False
 |.error e=>CX xz H s E e s'
structure uS(P:Ao)(w:As)(K:Af)(mg:Ae)(base:Heap)(CX:lO)(k:Nat)(f:Av)(fd:An)(ps:Ai)(sp:Sp):Prop where
 len:∀vs H Q E,sp vs H Q E->vs.length=ps.length
 run:∀(A:Aq)(outer:List Env)(s:Ar)(H:Hp)(args:Args)(us:Ag)(vs:A1)(Q:VK)(E:XK),JP k A->C9 P w K mg base A outer s H->BindsTo s fd args (ps.zip us)->aJ vs us->sp vs H Q E->
  codeAny (model P w) A (.call (.ref f) args) (CR CX outer P w H s Q E) s
section
variable {X:Cx}{zn:Ac}{σ:St}{H:Hp}{s s':Ar}
theorem aE.Bo(I:aE X zn σ H s):C9 X.prog X.w X.K X.mg X.base X.A X.stack s H:=
 ⟨I.ok.frames,I.ok.mod,I.bs,bS I.ok.mG I.sz,I.stack,I.lP,I.aK,I.bare⟩
def aE.after{Q:VK}{u:Au}(I:aE X zn σ H s)(h:CE X.stack X.prog X.w H s Q u s'):EP X zn σ Q u s':=by
 revert h;refine ε2 λv H'=>θ5 λos B un D r q=>?_;obtain⟨hh,g,d,t,C⟩:=s';obtain rfl:C=s.os:=os;exact⟨v,H',I.call un D B (λb z=>absurd z Ve),r,q⟩
end
def DX(sp:Sp)(dvs:A1)(E:XK)(t:TA):TE:=λσ H Q=>t σ H λvs H1=>sp (vs++dvs) H1 Q E
def cZ(K:Af)(fd:An)(ps:Ai)(ds:Ag):Prop:=
 ∀(s:Ar)(g:Ag),K.In s.heap->(g++ds).length=ps.length->BindsTo s fd ⟨g,[]⟩ (ps.zip (g++ds))
theorem cZ.all{fd:An}{ps:Ai}(h:∀g:Ag,g.length=ps.length->bindArgs fd ⟨g,[]⟩=pure (ps.zip g)):cZ K fd ps []:=λs g _ q=>by
 rw[d9]at q ⊢;exact .of_eq (h g q)
def eJ(CX:lO)(X:Cx)(E:XK):Prop:=∀(zn:Ac)(σ:St)(H:Hp)(s:Ar)(e:Au)(s':Ar),aE X zn σ H s->CX X.stack H s E e s'->X.xe e s'
section
variable {X:Cx}{CX:lO}{k:Nat}{f C:Av}{fd:An}{ps:Ai}{sp:Sp}{dvs:A1}{ds:Ag}{E:XK}{x m:Str}{p pos apos:Pos}{e o:Aw}{es:Am}{ta:TE}{t:TA}
def BA{σ:St}{H:Hp}{Q:VK}{q:Ag}{vs:A1}(F:uS X.prog X.w X.K X.mg X.base CX k f fd ps sp)(O:JP k X.A)(D:cZ X.K fd ps ds)(C:aJ dvs ds)(J:eJ CX X E)
  (I:aE X zn σ H s) (r:aJ vs q) (h:sp (vs++dvs) H Q E):A3 X (call (.ref f) q) (EP X zn σ Q) X.xe s:=by
 have B:=r.append C;refine wpAny_call (sX (F.run X.A X.stack s H _ _ _ Q E O I.Bo (D s q I.fE (by rw[<-B.length];exact F.len _ _ _ _ h)) B h) λr s' g=>?_);cases r with
 |error e=>exact J zn σ H s e s' I g
 |ok G=>
  cases G with
  |ret u=>exact I.after g
  |next=>exact False.elim g
  |brk=>exact False.elim g
  |cont=>exact False.elim g
def VE(F:uS X.prog X.w X.K X.mg X.base CX k f fd ps sp)(hr:JP k X.A)(D:Gl X x)(G:X.mg x=some (.ref f))(O:PySem.W.keepIn X.K (.ref f)=true)(Y:cZ X.K fd ps ds)(T:aJ dvs ds)(hx:eJ CX X E)
  (Z:PA X (e::es) t) (g:(x == ("__debug__" : Str))=false:=by decide) (J:starEach (e::es) X.env=(false,eval e X.env)::starEach es X.env:=by rfl) (B:(backTo pos (starEach es X.env)).any (·.1)=false:=by rfl):
  PE X (.Call (.Name x p) (e::es) [] pos) (DX sp dvs E t):=by
 intro zn s σ H Q I h;refine pR (vX I D G (L5 I.ok.mod.Ea O (aP (Z pos zn s σ H _ I h) λus s1 ⟨vs,H1,C,r,q⟩=>⟨C.fE,(BA F hr Y T hx C r q)⟩) J B) g)
end
structure Zy(N P:Ai)(sc:Scope):Prop where
 kind:sc.kind=.function:=by rfl
 co:sc.isCoroutine=false:=by rfl
 gen:sc.isGenerator=false:=by rfl
 nd:N.Nodup:=by decide +kernel
 pre:N.take P.length=P:=by rfl
 par:∀x∈P,sc.names.lookup x=some .local\/sc.names.lookup x=some .cell:=by decide +kernel
 Ct:∀y∈sc.names,y.2≠.free:=by decide +kernel
theorem wV{kindOf:Str->Option NameKind}{x:Str}:∀{binds:List (Str×Au)} {m:Ae},(∀v,(x,v)∉binds)->bindL kindOf binds m x=m x
 |[],_,_=>rfl
 |(n,v)::r,m,h=>by
  unfold bindL;rw[wV λw hw=>h w (cA _ hw)];split
  .grind
  .rfl
theorem wW{kindOf:Str->Option NameKind}{x:Str}:∀{binds:List (Str×Au)} {m:Ae},(∀v,(x,v)∉binds)->bindC kindOf binds m x=m x
 |[],_,_=>rfl
 |(n,v)::r,m,h=>by
  unfold bindC;rw[wW λw hw=>h w (cA _ hw)];split
  .rfl
  .grind
theorem wX{kindOf:Str->Option NameKind}{x:Str}{v:Au}:∀{P:Ai} {vs:Ag} {i:Nat} {m:Ae},P.Nodup->P[i]?=some x->vs[i]?=some v->kindOf x=some .local->
  bindL kindOf (P.zip vs) m x=some v
 |[],_,_,_,_,h,_,_=>by simp at h
 |_::_,[],_,_,_,_,h,_=>by simp at h
 |p::P,w::vs,0,m,q,h1,h2,g=>by
  simp at h1 h2;subst h1;subst h2;show bindL kindOf ((p,w)::P.zip vs) m p=_;unfold bindL;rw[wV λv B=>(iO.mp q).1 (En B).1,aN g];simp
 |p::P,w::vs,i+1,m,q,h1,h2,g=>by
  unfold bindL;exact wX (i:=i) (iO.mp q).2 Vd Vd g
theorem wY{kindOf:Str->Option NameKind}{x:Str}{v:Au}:∀{P:Ai} {vs:Ag} {i:Nat} {m:Ae},P.Nodup->P[i]?=some x->vs[i]?=some v->kindOf x≠some .local->
  bindC kindOf (P.zip vs) m x=some v
 |[],_,_,_,_,h,_,_=>by simp at h
 |_::_,[],_,_,_,_,h,_=>by simp at h
 |p::P,w::vs,0,m,q,h1,h2,g=>by
  simp at h1 h2;subst h1;subst h2;show bindC kindOf ((p,w)::P.zip vs) m p=_;unfold bindC;rw[wW λv B=>(iO.mp q).1 (En B).1,aL g];simp
 |p::P,w::vs,i+1,m,q,h1,h2,g=>by
  unfold bindC;exact wY (i:=i) (iO.mp q).2 Vd Vd g
def d6(N:Ai)(vs:A1):St:=vs.map some++List.replicate (N.length-vs.length) none
def pS(CX:lO)(P:Ao)(w:As)(K:Af)(mg:Ae)(wn:Heap)(N:Ai)(tz:Str)(ut:Scope)(f:Av)(q:Au)(A:Aq)(xz:List Env)(s:Ar)(H:Hp)(E:XK):Cx where
 prog:=P
 w:=w
 K:=K
 mg:=mg
 base:=wn
 A:=A.deeper (envOfC tz ut s.heap.objs.size f q)
 N:=N
 s₀:=s
 H₀:=H
 env:=envOfC tz ut s.heap.objs.size f q
 outer:=xz
 stack:=envOfC tz ut s.heap.objs.size f q::xz
 ex:=[]
 calm:=true
 fn:=λ_=>true
 pn:=[]
 xe:=λe s'=>wpAny (model P w) (A.deeper (envOfC tz ut s.heap.objs.size f q)) (leaving (envOfC tz ut s.heap.objs.size f q) e) (λ_ g=>CX xz H s E e g) (λB g=>CX xz H s E B g) s'
def zQ{g:Scope}(h:g.names.lookup x=some .cell):∃c,(cellsFrom n g.names []).lookup x=some c:=Ie.mp (PySem.W.cellsFrom_some _ n [] (.inl h))
theorem Zfy{CX:lO}{mg:Ae}{wn:Heap}{ps:Ai}{tz:Str}{ut:Scope}{G:Au}{A:Aq}{xz:List Env}{J:Ar}{H:Hp}{E:XK}{I:Ag}{vs:A1}
  (S:Zy N ps ut) (Y:A.handled=none) (g:C9 P w K mg wn A xz s H) (hl:vs.length=ps.length) (r:aJ vs I)
  (x:InCallC s s.heap.objs.size (bindL (envOfC tz ut s.heap.objs.size f G).kindOf (ps.zip I) λ_=>none) (cellsFrom (s.heap.objs.size+1) ut.names []) (bindC (envOfC tz ut s.heap.objs.size f G).kindOf (ps.zip I) λ_=>none) J):
  aE (pS CX P w K mg wn N tz ut f G A xz s H E) [] (d6 N vs) H J:=by
 have hpl:ps.length<=N.length:=by have:=congrArg List.length S.pre;rw[cE]at this;lia
 obtain⟨h1,tk,rfl,O⟩:=x.done;have B:∀b,b∉(pS CX P w K mg wn N tz ut f G A xz s H E).ex:=λb z=>absurd (show b∈([])from z) Ve;refine⟨⟨g.mod,S.kind,U,U,aM _,λy z c h1 h2=>(name_of_addr x.apart (oB h1) (oB h2)),λy C=>?_,λy c _ h=>(a8 (x.above y c (oB h))),λ_=>Y,Mh g.frames,.inr ⟨U,U⟩,λb z=>absurd z (B b),g.bs,g.mG,λb _ _=>B b,λb z=>absurd z (B b),g.cT,g.oP⟩,
  rfl,g.bare,Un.kept O,⟨_,x.toInCall.ns,λi y v h1 h2 h3=>?_⟩,λy c h=>⟨_,x.cell y c h⟩,g.aK.fresh (aM _),λy c h=>(g.aK.fresh (a8 (x.above y c (oB h)))),λp D=>absurd (show p∈([])from D) Ve,g.aK.kept O,?_⟩
 .rcases C with C|C
  .exact zQ C
  .exact absurd U (S.Ct _ (oB C))
 .have hi:i<vs.length:=by
   unfold d6 at h2
   by_cases hi:i<vs.length
   .exact hi
   .grind
  have T:vs[i]?=some v:=by
   unfold d6 at h2;rw[eH Vd,aY]at h2;cases e:vs[i]? with
   |none=>rw[e]at h2;cases h2
   |some a=>rw[e]at h2;cases h2;rfl
  obtain⟨u,Q,Z⟩:=r.get T;have D:ps[i]?=some y:=by
   rw[<-S.pre,List.getElem?_take_of_lt (by simp_all)];exact h1
  have F:ps.Nodup:=by rw[<-S.pre];exact S.nd.sublist (List.take_sublist _ _)
  refine⟨u,Z,?_⟩;rcases S.par y (bP D)with k|k
  .exact .inl ⟨k,wX F D Q k⟩
  .obtain⟨c,e⟩:=zQ k;refine .inr ⟨.inl k,c,e,?_⟩;have q:=x.cell y c e;rw[wY F D Q (by show ut.names.lookup y≠_;rw[k];decide)]at q;exact q
 .unfold d6;show _=N.length;rw[aZ,aI,eZ];simp_all
def Qu{CX:lO}{mg:Ae}{k:Nat}{name tz:Str}{sn:Arguments}{body:List Ax}{ut:Scope}{dV kV I pm g ct oc:Au}{an od:Option Av}
  {Z:Array (Option Au)} {ps:Ai} {sp:Sp} (lk:K.lookup f=some ⟨oc,od,.func (PySem.W.fnOf name tz sn body ut dV kV I pm an g ct),Z⟩) (T:PySem.W.codeIn K g tz=true) (S:Zy N ps ut)
  (len:∀vs H Q E,sp vs H Q E->vs.length=ps.length)
  (D:∀(A:Aq)(xz:List Env)(s:Ar)(H:Hp)(vs:A1)(Q:VK)(E:XK),JP k (A.deeper (envOfC tz ut s.heap.objs.size f g))->sp vs H Q E->
   ∃t,p5 (pS CX P w K mg h N tz ut f g A xz s H E) body t/\t {nx:=λ_ H'=>Q .aX H',rt:=Q} (d6 N vs) H):
  uS P w K mg h CX (k+1) f (PySem.W.fnOf name tz sn body ut dV kV I pm an g ct) ps sp:=by
 refine⟨len,λA xz s H args us vs Q E Y G hb r O=>?_⟩;have KX:=G.mod.Ea.keeps λb o e=>(G.bs b o e).1;have lim:=G.mod.nolimit.keeps λb o e=>(G.bs b o e).1;have C:∀y∈ps.zip us,ut.names.lookup y.1=some .local\/(ut.names.lookup y.1=some .cell/\((cellsFrom (s.heap.objs.size+1) _ []).lookup y.1).isSome=true):=λ⟨n,v⟩ hy=>by
  rcases S.par n (En hy).1 with q|q
  .exact .inl q
  .exact .inr ⟨q,PySem.W.cellsFrom_some _ _ _ (.inl q)⟩
 refine codeAny_call_function Y.depth (KX _ _ lk) U S.co S.gen U (PySem.W.codeRec_of KX T) (hb _ _ _ _ (wpAny_newFunctionEnv_cells S.kind C λenv he s1 x=>?_));subst he;refine⟨lim.keeps x.toInCall.keep,codeAny_func ?_⟩;obtain⟨t,ht,hq⟩:=D A xz s H vs Q E (Y.deeper _) O;refine iJ (ht [] s1 _ H _ (Zfy S Y.hd G (len _ _ _ _ O) r x) hq) (λfl s' F=>?_) λe s' F=>F;have fin:∀{B:St} {H':Hp} {v:V} {u:Au},aE (pS CX P w K mg h N tz ut f g A xz s H E) [] B H' s'->aH v u->Q v H'->CE xz P w H s Q u s':=
  λ{B H' v u} J rv q=>⟨v,H',J.os,J.bare,J.base,J.aK,rv,q⟩
 cases fl with
 |ret u=>
  revert F;refine ε3 λv B H'=>θ2 λJ rv q=>?_;exact fin J rv q
 |next=>
  obtain⟨B,H',J,q⟩:=F;exact fin (v:=V.aX) J U q
 |brk=>
  obtain⟨_,_,_,q⟩:=F;exact False.elim q
 |cont=>
  obtain⟨_,_,_,q⟩:=F;exact False.elim q
section
variable {X:Cx}{x:Str}{p pos:Pos}{e:Aw}{es:Am}{t:TA}{id T:String}{r:A1->Hp->VK->Prop}
def CJ(r:A1->Hp->VK->Prop)(t:TA):TE:=λσ H Q=>t σ H λvs H1=>r vs H1 Q
end
end L2
variable {X:L2.Cx}
variable {H d:L2.Hp}
variable {u m:List L2.V}
variable {b:L2.Cx}
variable {c:L2.St}
variable {A J:L2.TE}
variable {y:L2.V}
variable {B:L2.TS}
variable {O:List (List L2.V)}
variable {E:L2.VK}
variable {M:L2.TT}
variable {Ua:L2.HO}
variable {Z:L2.Ends}
namespace HT
open PySem PyProof.Rows
section
variable {ww:Ao}{w:As}{A:Aq}{E:Ab}{s:Ar}
def rB{t b:Av}{vs q:Ag}(Z:IsTup s.heap t vs.toArray)(Y:IsTup s.heap b q.toArray)(hv:vs≠[])
  (h1:q=[]->Q (.ref t) s) (h2:q≠[]->Q (.ref s.heap.objs.size) {s with heap:=s.heap.push {cls:=.type "tuple",data:=.seq (vs++q).toArray}})
  (hsz:vs.length+q.length<=sizeLine):A2 ww w A (binaryOp .Add (.ref t) (.ref b)) Q E s:=by
 obtain⟨⟨cls,dd,data,I⟩,D,hc,n,T⟩:=id Z;obtain⟨⟨J,B,data2,C⟩,g,G,O,F⟩:=id Y;subst hc T G F;have e:vs.toArray++q.toArray=(vs++q).toArray:=Ve
 by_cases hw:q=[]
 .exact concat_meets ⟨_,D,U⟩ ⟨_,g,U⟩ M6 seq_tuple_add Mx Ku (Lx _ _)
   (tuple_addW1 t b _ _ n O dd B I C Vd (by simp[hw])) ⟨D,g,h1 hw⟩
 .refine concat_meets ⟨_,D,U⟩ ⟨_,g,U⟩ M6 seq_tuple_add Mx Ku (Lx _ _)
   (tuple_addW2 t b _ _ n O dd B I C Vd Vd Vd) ⟨D,g,?_⟩
  rw[e];exact h2 hw
def bW(n d:Nat):Option Int->Nat
 |none=>d
 |some v=>if v<0 then(v+(n:Int)).toNat else min v.toNat n
def iK(n d:Nat):bW n d none=d:=rfl
def eD(n d k:Nat):bW n d (some (k:Int))=min k n:=by
 show(if k<0 then((k:Int)+n).toNat else min _ n)=min k n;rw[aL Vc,dr]
def Ny(v:Int)(n d:Nat):(if v<0 then max (v+(n:Int)) 0 else min v (n:Int))=((bW n d (some v):Nat):Int):=by
 show(if v<0 then max _ 0 else min v _)=(((if v<0 then(v+n).toNat else min v.toNat n)))
 by_cases g:v<0
 .simp_all
 .grind
def Zdw(lo hi:Option Int)(n:Nat):Builtin.Slice.sliceAdjust lo hi 1 (n:Int)=(((bW n 0 lo:Nat):Int),((bW n n hi:Nat):Int)):=by
 have h1:¬(1<0):=Vc
 unfold Builtin.Slice.sliceAdjust;refine C5 ?_ ?_
 .cases lo with
  |none=>rfl
  |some v=>exact Ny v n 0
 .cases hi with
  |none=>rfl
  |some v=>exact Ny v n n
def Zdx(i j:Nat):Builtin.Slice.slicePlaces (i:Int) (j:Int) 1=j-i:=by
 unfold Builtin.Slice.slicePlaces;split<;>lia
def vn{o:Option Int}{Q:Option Int->Shared->Prop}(p:IsPart v o)(h:Q o s):A2 ww w A (Builtin.Slice.slicePartIndex v) Q E s:=by
 cases p with
 |none=>exact slicePart_none h
 |int i t=>exact slicePart_int h
def JB{B:Au}{lo hi:Option Int}{Q:Int×Int×Nat->Shared->Prop}(C:s.heap.IsSliceOf a v B .none)(pl:IsPart v lo)(D:IsPart B hi)
  (h:Q (((bW n 0 lo:Nat):Int),1,bW n n hi-bW n 0 lo) s):A2 ww w A (Builtin.Slice.sliceApplied (.ref a) (pure (n:Int))) Q E s:=by
 obtain⟨os,g,F,q⟩:=id C;refine ab (ab (d7 g q U (ab (d7 g q U (ab (d7 g q U (aG ?_)))))));refine ab (slicePart_none ?_);refine ab (vn pl (ab (vn D (ab (aG ?_)))));show wpAny _ _ (match Builtin.Slice.sliceAdjust lo hi 1 n with|(lo,hi)=>pure (lo,(1:Int),Builtin.Slice.slicePlaces lo hi 1)) _ _ s;rw[Zdw lo hi n];show wpAny _ _ (pure _) _ _ s;rw[Zdx];exact aG h
def Sk(xs:Ah)(i k:Nat):((List.range k).filterMap λ(m:Nat)=>xs[((i:Int)+(m:Int)*1).toNat]?).toArray=((xs.toList.drop i).take k).toArray:=by
 have e:(λ(m:Nat)=>xs[(i+(m:Int)*1).toNat]?)=λm=>xs[i+m]?:=by
  grind(gen:=1)
 rw[e];have:=pick_run xs i k;rw[List.filterMap_map]at this;have e2:((λx=>xs[x]?)∘λx=>i+x)=λm=>xs[i+m]?:=rfl;rw[e2]at this;rw[this]
def dO{t:Av}{items:Ah}{G:Au}{lo hi:Option Int}(q:IsTup s.heap t items)(I:s.heap.IsSliceOf a v G .none)(pl:IsPart v lo)(J:IsPart G hi)
  (hw:¬(bW items.size 0 lo=0/\bW items.size items.size hi=items.size))
  (h:Q (.ref s.heap.objs.size) {s with heap:=s.heap.push {cls:=.type "tuple",data:=.seq ((items.toList.drop (bW items.size 0 lo)).take (bW items.size items.size hi-bW items.size 0 lo)).toArray}})
  (hsz:items.size<=sizeLine):A2 ww w A (getItem (.ref t) (.ref a)) Q E s:=by
 have g:=by
  show((items.toList.drop (bW items.size 0 lo)).take (bW items.size items.size hi-bW items.size 0 lo)).toArray.size<=sizeLine;rw[nA,cE,iD,nH];omega
 obtain⟨os,F,D,O⟩:=id I;have C:s.TypeIs (.ref a) "slice" :=⟨os,F,D⟩;unfold getItem;try with_reducible refine iZ ?_
 first|refine ab (aG ?_)|skip
 refine ab (wpAny_sequenceKey q.typeIs Vb ?_);refine ab (wpAny_callSpecial?_slot (name:=Str.ofString "__getitem__") q.typeIs tE
  (eT tE q.typeIs entry_tuple_getitem ?_ (args_tuple_getitem _ _)))
 show wpAny _ _ (Builtin.Tuple.tupleItemsOf (.ref t) >>= _) _ _ s;refine ab (tupleItemsOf_ q ?_);refine ab (B0 C ?_);refine ab (JB I pl J ?_);have B:¬((((bW items.size 0 lo:Nat):Int) == 0&&(1:Int) == 1&&(bW items.size items.size hi-bW items.size 0 lo) == items.size)=true):=by
  simp_all
 show wpAny _ _ (if(((bW items.size 0 lo:Nat):Int) == 0&&(1:Int) == 1&&(bW items.size items.size hi-bW items.size 0 lo) == items.size)=true then _ else _) _ _ s;rw[aL B,Sk]
 first
  |exact ab (m:=Builtin.Tuple.tupleExact _) (fA (aG ⟨_,U,aG h⟩) g)
  |exact ab (m:=Builtin.Tuple.tupleExact _) _
  |exact ab _
  |exact ab _
end
end HT
namespace L2
abbrev TO:=St->Hp->(Option Int->Hp->Prop)->Prop
def PO(X:Cx)(e:Option Aw)(t:TO):Prop:=
 ∀(zn:Ac)(s:Ar)(σ:St)(H:Hp)(Q:Option Int->Hp->Prop),aE X zn σ H s->t σ H Q->
  A3 X (evalPart e X.env) (λu s'=>∃o H',aE X zn σ H' s'/\IsPart u o/\Q o H') X.xe s
def Zn4:TO:=λ_ H Q=>Q none H
inductive PN(Q:Option Int->Hp->Prop)(x:V)(H1:Hp):Prop
 |mk (i:_):(x=.int i)->(Q (some i) H1)->PN Q x H1
def EF(t:TE):TO:=λσ H Q=>t σ H λx H1=>PN Q x H1
theorem eW{ns:Ak}:∀{g:Ag},aJ (ns.map V.int) g->IntsAre g ns:=by
 induction ns with
 |nil=>intro g r;cases r;exact .nil
 |cons n ns q=>
  intro g r;cases r with
  |cons B C=>
   obtain⟨t,e⟩:=B;subst e;exact .cons n t (q C)
section
variable {X:Cx}{e:Aw}{te:TE}{lo hi:Option Aw}{tl th:TO}{pos p2:Pos}
def pD(X:Cx)(r:V->Option Int->Option Int->Hp->VK->Prop):Prop:=
 ∀(zn:Ac)(s:Ar)(σ:St)(H:Hp)(x:V)(v g B:Au)(lo hi:Option Int)(q:Av)(Q:VK),aE X zn σ H s->aH x v->s.heap.IsSliceOf q g B .none->IsPart g lo->IsPart B hi->r x lo hi H Q->
  ∃T id,typeLookup (.type T) "__getitem__" = pure (some (.builtin id))/\s.TypeIs v T/\A3 X (getItem v (.ref q)) (EP X zn σ Q) X.xe s
def pD.or{r J:V->Option Int->Option Int->Hp->VK->Prop}(h:pD X r)(h':pD X J):pD X (λx lo hi H Q=>r x lo hi H Q\/J x lo hi H Q):=λzn s σ H x v g F lo hi B Q I D G pl C q=>by
 rcases q with q|q
 .exact h zn s σ H x v g F lo hi B Q I D G pl C q
 .exact h' zn s σ H x v g F lo hi B Q I D G pl C q
def UH(r:V->Option Int->Option Int->Hp->VK->Prop)(te:TE)(tl th:TO):TE:=λσ H Q=>te σ H λx H1=>tl σ H1 λl H2=>th σ H2 λu g=>r x l u g Q
def zR(xs:A1)(lo hi:Option Int):A1:=(xs.drop (HT.bW xs.length 0 lo)).take (HT.bW xs.length xs.length hi-HT.bW xs.length 0 lo)
def jm(xs:A1)(lo hi:Option Int):(zR xs lo hi).length<=xs.length:=by
 unfold zR;rw[cE,iD];lia
inductive NU(K:Af)(x:V)(lo:Option Int)(hi:Option Int)(H:Hp)(Q:VK):Prop
 |mk (a xs:_):(x=.ref a)->(aD K H a xs)->(¬(HT.bW xs.length 0 lo=0/\HT.bW xs.length xs.length hi=xs.length))->(∀p,H p=none->Q (.ref p) (aC H p (.tup (zR xs lo hi))))->NU K x lo hi H Q
def K7(K:Af):V->Option Int->Option Int->Hp->VK->Prop:=λx lo hi H Q=>NU K x lo hi H Q
def BO:pD X (K7 X.K):=by
 rintro zn s σ H x v O Y lo hi T Q I F G pl D ⟨a,xs,rfl,J,hw,q⟩;cases F;obtain⟨B,r,C,hz⟩:=I.tuple J;have g:B.toArray.size=xs.length:=r.length.symm;refine⟨"tuple",_,tE.lookup,C.typeIs,?_⟩;refine HT.dO C G pl D Vd ?_ (by simp_all);rw[g];refine⟨.ref _,_,I.laid (λb ob q=>aW _ q) (aM _) ?_,U,q _ (I.aK.fresh (aM _))⟩;exact⟨bS (jm xs lo hi) hz,_,(r.drop _).take _,uW.new _ _⟩
def aJ.iB{xs:A1}{g:Ag}(r:aJ xs g):g=[]↔xs=[]:=by
 cases r with
 |nil=>simp
 |cons _ _=>simp
end
def rL(n:Nat)(i:Int):Option Nat:=if 0<=i then(if i<n then some i.toNat else none)else if -(n:Int)<=i then some (i+n).toNat else none
def fN(xs:List g)(i:Int):Option g:=(rL xs.length i).bind λj=>xs[j]?
def Zn5{i:Int}{j:Nat}(h:rL n i=some j):seqIndex? i n=some j/\j<n/\-(n:Int)<=i/\i<n:=by
 unfold rL at h
 by_cases g:0<=i
 .rw[aN g]at h
  by_cases h1:i<n
  .rw[aN h1]at h;have e:=Option.some.inj h;exact⟨by rw[seqIndex_of g h1,e],Vc,Vc,h1⟩
  .rw[aL h1]at h;cases h
 .rw[aL g]at h
  by_cases h1:-n<=i
  .rw[aN h1]at h;have e:=Option.some.inj h;exact⟨by rw[seqIndex_neg (by simp_all) h1,e],Vc,h1,Vc⟩
  .rw[aL h1]at h;cases h
def uX{i:Int}{v:g}(h:fN xs i=some v):∃j,seqIndex? i xs.length=some j/\xs[j]?=some v/\j<xs.length/\-(xs.length:Int)<=i/\i<xs.length:=by
 unfold fN at h;cases e:rL _ i with
 |none=>rw[e]at h;cases h
 |some j=>
  rw[e]at h;obtain⟨h1,h2,q,B⟩:=Zn5 e;exact⟨j,h1,h,h2,q,B⟩
def Yu{j:Nat}{v:g}(h:xs[j]?=some v):fN xs (j:Int)=some v:=by
 have q:=(bM.mp h).1;have e:rL xs.length j=some j:=by
  unfold rL;rw[aN Vc,aN Vc];simp
 unfold fN;rw[e];exact h
def kh(xs:List g)(v:g):fN (xs++[v]) (-1)=some v:=by
 have q:(xs++[v]).length=xs.length+1:=Ve
 have e:rL (xs++[v]).length (-1)=some xs.length:=by
  unfold rL;rw[aL Vb,aN Vc];congr 1;grind
 unfold fN;rw[e];simp
def Sv(b:Aw):Prop:=∀o i,subscripted b false o i=operate [o,i] (getItem o i)
def d5(X:Cx)(r:R2):Prop:=
 ∀(value g:Aw)(zn:Ac)(s:Ar)(σ:St)(H:Hp)(x y:V)(v u:Au)(Q:VK),aE X zn σ H s->aH x v->aH y u->r x y H Q->
  subscripted g false v u=operate [v,u] (getItem v u)->A3 X (subscriptTail value g v u) (EP X zn σ Q) X.xe s
def Er(X:Cx)(id:String)(r:V->List V->Hp->VK->Prop):Prop:=
 ∀(zn:Ac)(s:Ar)(σ:St)(H:Hp)(x:V)(xs:A1)(v:Au)(g:Ag)(Q:VK),aE X zn σ H s->aH x v->aJ xs g->r x xs H Q->
  A3 X (call (.builtin id) (v::g)) (EP X zn σ Q) X.xe s
section
variable {X:Cx}{a b:Aw}{ta tb:TE}{pos:Pos}
inductive PU(K:Af)(x:V)(y:V)(H:Hp)(Q:VK):Prop
 |mk (p xs i v:_):(x=.ref p)->(y=.int i)->(aF K H p xs)->(fN xs i=some v)->(Q v H)->PU K x y H Q
def CL(K:Af):R2:=λx y H Q=>PU K x y H Q
inductive Q7(K:Af)(x:V)(y:V)(H:Hp)(Q:VK):Prop
 |mk (p xs i v:_):(x=.ref p)->(y=.int i)->(aD K H p xs)->(fN xs i=some v)->(Q v H)->Q7 K x y H Q
def wR(K:Af):R2:=λx y H Q=>Q7 K x y H Q
inductive NK(x:V)(y:V)(H:Hp)(Q:VK):Prop
 |mk (z i c:_):(x=.str z)->(y=.int i)->(z.length<=sizeLine)->(fN z.cps.toList i=some c)->(Q (.str ⟨#[c]⟩) H)->NK x y H Q
def Mr  : R2:=λx y H Q=>NK x y H Q
def Z5:d5 X (CL X.K):=λvalue g zn s σ H x y v u Q I O ry h F=>by
 obtain⟨p,xs,i,z,rfl,rfl,hq,Z,q⟩:=h;cases O;obtain⟨t,rfl⟩:=ry;obtain⟨C,r,pl,hz⟩:=I.list hq;refine ω (uX Z) (ε1 λj=>θ4 λh1 h2 h3 J T=>?_);obtain⟨w,ew,B⟩:=r.get h2;have Y:=r.length;have hn:=jk;have fin:EP X zn σ Q w s:=⟨z,H,I,B,q⟩
 by_cases D:0<=i
 .have G:=by
   rw[seqIndex_of D T]at h1;exact Option.some.inj h1
  exact item_listR pl.isList D Vc Vd fin F
 .have G:(i+C.toArray.size).toNat=j:=by
   rw[seqIndex_neg Vc J]at h1;rw[nA,<-Y];exact Option.some.inj h1
  exact subscriptTail_builtinR pl.isList.typeIs slot_list_getitem.lookup
   (wpAny_getItem_list_neg pl.isList Vc Vd Vc Vd ⟨U,fin⟩) F
def Zr:d5 X (wR X.K):=λvalue g zn s σ H x y v u Q I C G h F=>by
 obtain⟨p,xs,i,z,rfl,rfl,J,D,q⟩:=h;cases C;obtain⟨t,rfl⟩:=G;obtain⟨O,r,pl,hz⟩:=I.tuple J;refine ω (uX D) (ε1 λj=>θ4 λh1 h2 T Z h5=>?_);obtain⟨w,ew,B⟩:=r.get h2;have hl:=r.length;have Y:=jk;have fin:EP X zn σ Q w s:=⟨z,H,I,B,q⟩;exact subscriptTail_builtinR pl.typeIs slot_tuple_getitem.lookup
  (getItem_tuple (j:=j) pl Vc Vc Vd Vd ⟨U,fin⟩) F
def L1:d5 X Mr:=λvalue g zn s σ H x y v u Q I D J h G=>by
 obtain⟨z,i,c,rfl,rfl,hz,C,q⟩:=h;obtain⟨t,rfl⟩:=D;obtain⟨t',rfl⟩:=J;refine ω (uX C) (ε1 λj=>θ4 λh1 h2 T F O=>?_);have B:z.cps.toList.length=z.length:=by simp[Str.length]
 rw[B]at h1 F O;have Y:=jk;exact tail_any (typeIs_str s z t) slot_str_getitem.lookup (getItem_str (by
  lia) Vd ⟨.str _,H,I.tok _,⟨_,U⟩,q⟩) G
def wZ(lo hi:Option Int)(n:Nat):(sliceBounds lo hi none n).1=((HT.bW n 0 lo:Nat):Int)/\(sliceBounds lo hi none n).2.1=((HT.bW n n hi:Nat):Int)/\(sliceBounds lo hi none n).2.2=1:=by
 refine⟨?_,?_,U⟩
 .cases lo with
  |none=>simp[sliceBounds,HT.bW]
  |some i=>
   simp[sliceBounds,HT.bW]
   by_cases h:i<0
   .skip<;>grind
   .skip<;>grind
 .cases hi with
  |none=>simp[sliceBounds,HT.bW]
  |some i=>
   simp[sliceBounds,HT.bW]
   by_cases h:i<0
   .skip<;>lia
   .skip<;>lia
def kj(g:Ag)(lo hi:Option Int):slicePick g.toArray lo hi none=((g.drop (HT.bW g.length 0 lo)).take (HT.bW g.length g.length hi-HT.bW g.length 0 lo)).toArray:=by
 obtain⟨h1,h2,q⟩:=wZ lo hi _;unfold slicePick;rw[h1,h2,q];simp only[sliceRange_one,pick_run]<;>rfl
inductive Pg(K:Af)(x:V)(lo:Option Int)(hi:Option Int)(H:Hp)(Q:VK):Prop
 |mk (a xs:_):(x=.ref a)->(aF K H a xs)->(∀p,H p=none->Q (.ref p) (aC H p (.lst (zR xs lo hi))))->Pg K x lo hi H Q
def LS(K:Af):V->Option Int->Option Int->Hp->VK->Prop:=λx lo hi H Q=>Pg K x lo hi H Q
def WN:pD X (LS X.K):=by
 rintro zn s σ H x v O Y lo hi T Q I D F pl C ⟨a,xs,rfl,J,q⟩;cases D;obtain⟨G,r,B,hz⟩:=I.list J;have g:=r.length;refine⟨"list",_,slot_list_getitem.lookup,B.isList.typeIs,?_⟩;refine wpAny_getItem_list_slice B.isList F pl C .none Ve ?_ Vd;rw[kj,<-g];refine⟨.ref _,_,I.laid (λb ob q=>aW _ q) (aM _) ?_,U,q _ (I.aK.fresh (aM _))⟩;exact⟨bS (jm xs lo hi) hz,_,0,(r.drop _).take _,bY _ U⟩
def WO:V->Bool
 |.aX=>true
 |.bl _=>true
 |.int _=>true
 |.str _=>true
 |_=>false
def dR:V->V->Bool
 |.aX,.aX=>true
 |.bl a,.bl b=>a == b
 |.bl a,.int b=>(if a then 1 else 0) == b
 |.int a,.bl b=>a == (if b then 1 else 0)
 |.int a,.int b=>a == b
 |.str a,.str b=>a == b
 |_,_=>false
def Ol{A:Aq}{x:V}{u:Au}(q:aH y u)(g:aH x v)(B:WO y=true)(fx:WO x=true):SeqAt.EqAt A s u v (dR y x):=by
 cases y with
 |aX=>
  cases q;cases x with
  |aX=>cases g;exact SeqAt.EqAt.same _
  |bl b=>cases g;exact SeqAt.EqAt.none_bool b
  |int b=>obtain⟨t,rfl⟩:=g;exact SeqAt.EqAt.none_int b t
  |str b=>obtain⟨t,rfl⟩:=g;exact SeqAt.EqAt.none_str b t
  |_=>exact absurd (fx) fK
 |bl a=>
  cases q;cases x with
  |aX=>cases g;exact SeqAt.EqAt.bool_none a
  |bl b=>cases g;exact SeqAt.EqAt.bool_bool a b
  |int b=>obtain⟨t,rfl⟩:=g;exact SeqAt.EqAt.bool_int a b t
  |str b=>obtain⟨t,rfl⟩:=g;exact SeqAt.EqAt.bool_str a b t
  |_=>exact absurd (fx) fK
 |int a=>
  obtain⟨t',rfl⟩:=q;cases x with
  |aX=>cases g;exact SeqAt.EqAt.int_none a t'
  |bl b=>cases g;exact SeqAt.EqAt.int_bool a t' b
  |int b=>obtain⟨t,rfl⟩:=g;exact SeqAt.EqAt.int_int a t' b t
  |str b=>obtain⟨t,rfl⟩:=g;exact SeqAt.EqAt.int_str a t' b t
  |_=>exact absurd (fx) fK
 |str a=>
  obtain⟨t',rfl⟩:=q;cases x with
  |aX=>cases g;exact SeqAt.EqAt.str_none a t'
  |bl b=>cases g;exact SeqAt.EqAt.str_bool a t' b
  |int b=>obtain⟨t,rfl⟩:=g;exact SeqAt.EqAt.str_int a t' b t
  |str b=>obtain⟨t,rfl⟩:=g;exact SeqAt.EqAt.str_str a t' b t
  |_=>exact absurd (fx) fK
 |_=>exact absurd (B) fK
def DA(x:V)(u:Au):Bool:=match u with
 |.none=>dR .aX x
 |.bool b=>dR (.bl b) x
 |.int i _=>dR (.int i) x
 |.str z _=>dR (.str z) x
 |_=>false
def Nv{x:V}{u:Au}(r:aH y u)(f:WO y=true):DA x u=dR y x:=by
 cases y with
 |aX=>cases r;rfl
 |bl b=>cases r;rfl
 |int i=>obtain⟨t,rfl⟩:=r;rfl
 |str z=>obtain⟨t,rfl⟩:=r;rfl
 |_=>exact absurd (f) fK
theorem uY{x:V}:∀{xs:A1} {g:Ag},aJ xs g->xs.all WO=true->g.any (DA x)=xs.any λy=>dR y x
 |_,_,.nil,_=>rfl
 |y::xs,u::g,.cons r t,f=>by
  rw[mS,lI]at f;rw[EU,EU,Nv r f.1,uY t f.2]
theorem km{A:Aq}{s:Ar}{x:V}{v:Au}(B:aH x v)(fx:WO x=true):∀{xs:A1} {q:Ag},aJ xs q->xs.all WO=true->∀u∈q,SeqAt.EqAt A s u v (DA x u)
 |_,_,.nil,_=>λu g=>by cases g
 |y::xs,u::q,.cons r t,f=>λC g=>by
  rw[mS,lI]at f;rcases bR.mp g with rfl|g
  .rw[Nv r f.1];exact Ol r B f.1 fx
  .exact km B fx t f.2 C g
def cG(x:V)(xs:A1):Bool:=xs.any λy=>dR y x
inductive PD(K:Af)(neg:Bool)(x:V)(y:V)(H:Hp)(Q:VK):Prop
 |mk (p xs:_):(y=.ref p)->((aF K H p xs\/aD K H p xs))->(WO x=true)->(xs.all WO=true)->(Q (.bl (if neg then !cG x xs else cG x xs)) H)->PD K neg x y H Q
def Na(K:Af)(neg:Bool):R2:=λx y H Q=>PD K neg x y H Q
def Y3:b8 X (compareOp .In) (Na X.K false):=by
 rintro zn s σ H x y v u Q I C D ⟨p,xs,rfl,B,fx,fs,q⟩;cases D;rcases B with B|B
 .obtain⟨g,r,pl,hz⟩:=I.list B;refine SeqAt.in_listAt _ pl.isList (λw hw=>km C fx r fs w Vd) ⟨.bl _,H,I,U,?_⟩;rw[show g.toArray.any _=g.any (DA x) by simp,uY r fs];exact q
 .obtain⟨g,r,pl,hz⟩:=I.tuple B;refine SeqAt.in_tupleAt _ pl (λw hw=>km C fx r fs w Vd) ⟨.bl _,H,I,U,?_⟩;rw[show g.toArray.any _=g.any (DA x) by simp,uY r fs];exact q
def Zx:Wd X (.builtin "len") (λxs H Q=>∃p ys,xs=[.ref p]/\(aF X.K H p ys\/aD X.K H p ys)/\Q (.int ys.length) H):=by
 rintro zn s σ H xs J Q I r ⟨p,ys,rfl,B,q⟩;obtain⟨u,rfl,F⟩:=bZ r;cases F;have G:=jk;rcases B with B|B
 .obtain⟨C,D,pl,hz⟩:=I.list B;have g:=D.length;exact Calls.call_len_list pl.isList Vd ⟨.int _,H,I.tok _,⟨s.toks+1,Vd⟩,q⟩
 .obtain⟨C,D,pl,hz⟩:=I.tuple B;have g:=D.length;exact len_tuple pl Vd ⟨.int _,H,I.tok _,⟨s.toks+1,Vd⟩,q⟩
def zf:Wd X (.builtin "len") (λxs H Q=>∃z,xs=[.str z]/\z.length<=sizeLine/\Q (.int z.length) H):=by
 rintro zn s σ H xs B Q I r ⟨z,rfl,hz,q⟩;obtain⟨u,rfl,t,rfl⟩:=bZ r;have g:=jk;exact len_str Vc ⟨.int _,H,I.tok _,⟨_,U⟩,q⟩
def Z4:Wd X (.type "tuple") (λxs H Q=>∃p ys,xs=[.ref p]/\((aF X.K H p ys/\∀l,H l=none->Q (.ref l) (aC H l (.tup ys)))\/(aD X.K H p ys/\Q (.ref p) H))):=by
 rintro zn s σ H xs O Q I r ⟨p,ys,rfl,h⟩;obtain⟨u,rfl,J⟩:=bZ r;cases J;rcases h with⟨B,q⟩|⟨B,q⟩
 .obtain⟨g,C,pl,hz⟩:=I.list B;have F:=C.length;refine call_tuple_list pl.isList (λh' kp=>?_) Vd;have D:=I.kept (t':=s.toks) kp;have G:=
   D.laid (t':=s.toks) (λb o e=>aW _ e) (aM _) (show XA X.prog X.w _ _ _ (.tup ys)from⟨hz,g,C,uW.new _ _⟩)
  exact⟨.ref _,_,G,U,q _ (D.aK.fresh (aM _))⟩
 .obtain⟨g,C,pl,hz⟩:=I.tuple B;exact call_tuple_same pl ⟨.ref p,H,I,U,q⟩
def KJ(K:Af)(T:String)(x:V)(H:Hp):Prop:=match x with
 |.str _=>T = "str"
 |.int _=>T = "int"
 |.ref p=>(T = "list" /\ ∃xs,aF K H p xs)\/(T = "tuple" /\ ∃o,K.lookup p=some o/\o.cls=.type "tuple" /\ o.dict=none) \/
   (T = "dict" /\ ((∃ul,H p=some (.dK ul))\/∃ul,H p=some (.dT ul)))\/(T = "set" /\ ∃S n,H p=some (.set S n))
 |_=>False
def NS{σ:St}{T:String}{x:V}(I:aE X C σ H s)(r:aH x v)(ty:KJ X.K T x H):
  s.TypeIs v T/\∀a,v=.ref a->∃ob,s.heap.get? a=some ob/\ob.dict=none:=by
 cases x with
 |str z=>
  obtain⟨t,rfl⟩:=r;cases(ty);exact⟨typeIs_str s z t,λ_ e=>nomatch e⟩
 |int i=>
  obtain⟨t,rfl⟩:=r;cases(ty);exact⟨typeIs_int s i t,λ_ e=>nomatch e⟩
 |ref p=>
  cases r;rcases ty with⟨rfl,xs,F⟩|⟨rfl,o,g,B,q⟩|⟨rfl,g⟩|⟨rfl,S,n,g⟩
  .obtain⟨D,_,pl,_⟩:=I.list F;refine⟨pl.isList.typeIs,λa e=>?_⟩;cases e;obtain⟨o,n,e,c,q,_⟩:=pl;exact⟨o,e,q⟩
  .refine⟨⟨o,I.fE p o g,B⟩,λa e=>?_⟩;cases e;exact⟨o,I.fE _ o g,q⟩
  .have z:∃o,s.heap.get? p=some o/\o.ExactDict:=by
    rcases g with⟨ul,g⟩|⟨ul,g⟩
    .refine ω (I.aK p _ g) (θ2 λ_ _=>ε1 λ_=>θ1 λ_=>ε3 λo _ _=>θ2 λe ex _=>?_);exact⟨o,e,ex⟩
    .refine ω (I.aK p _ g) (θ2 λ_ _=>ε1 λ_=>θ1 λ_=>ε3 λo _ _=>θ2 λe ex _=>?_);exact⟨o,e,ex⟩
   obtain⟨o,e,ex⟩:=z;refine⟨⟨o,e,ex.1⟩,λa e2=>?_⟩;cases e2;exact⟨o,e,ex.2.1⟩
  .refine ω (I.aK p _ g) (ε4 λo _ _ _=>θ2 λe ex _=>?_);refine⟨⟨o,e,ex.1⟩,λa e2=>?_⟩;cases e2;exact⟨o,e,ex.2.1⟩
 |_=>exact False.elim ty
inductive N9(K:Af)(T:String)(r:V->List V->Hp->VK->Prop)(Q:VK)(x:V)(H1:Hp):Prop
 |mk  : (KJ K T x H1)->(r x [] H1 Q)->N9 K T r Q x H1
def AH(K:Af)(T:String)(r:V->List V->Hp->VK->Prop)(to:TE):TE:=λσ H Q=>to σ H λx H1=>N9 K T r Q x H1
inductive PC(K:Af)(T:String)(r:V->List V->Hp->VK->Prop)(t:TA)(σ:St)(Q:VK)(x:V)(H1:Hp):Prop
 |mk  : (KJ K T x H1)->(t σ H1 λxs H2=>r x xs H2 Q)->PC K T r t σ Q x H1
def FW(K:Af)(T:String)(r:V->List V->Hp->VK->Prop)(to:TE)(t:TA):TE:=λσ H Q=>to σ H λx H1=>PC K T r t σ Q x H1
variable {o e:Aw}{es:Am}{to:TE}{t:TA}{name:Str}{apos pi:Pos}{T id:String}{r:V->List V->Hp->VK->Prop}
def Fh (pa:PlainAttrs T) (C:Slot T name id) (F:typeOf (.builtin id)=pure (.type "method_descriptor")) (Z:Er X id r) (ho:PE X o to) (ha:PA X (e::es) t)
  (B:attributeBase o name X.env (eval o X.env)=eval o X.env:=by rfl)
  (D:((backTo pi (starEach (e::es) X.env)).all (λx=>!x.1)&&(backToKw pi (keywordEach [] X.env)).all (λx=>x.1.isSome)
   && decide ((e::es).length+([]:List Keyword).length+(if([]:List Keyword).isEmpty then 0 else 1)<30))=true:=by rfl)
  (q:(apos.endLine == pi.line)=true:=by rfl) (hs:starEach (e::es) X.env=(false,eval e X.env)::starEach es X.env:=by rfl) (g:(backTo pi (starEach es X.env)).any (·.1)=false:=by rfl):
  PE X (.Call (.Attribute o name apos) (e::es) [] pi) (FW X.K T r to t):=by
 intro zn s σ H Q I h;refine wpAny_Call_method_late B D q U (aP (ho zn s σ H _ I h) λv Y ⟨x,H1,G,O,ty,q1⟩=>?_);obtain⟨h1,h2⟩:=NS G O ty;refine⟨T,id,pa,C,F,h1,h2,?_⟩;have J:=ha pi zn Y σ H1 _ G q1;rw[hs]at J ⊢;refine FG (by show(false||(backTo pi (starEach es X.env)).any (·.1))=false;rw[g]<;>rfl) (Io ?_);exact aP J λus s2 ⟨vs,H2,I2,r2,q2⟩=>Z zn s2 σ H2 x vs v us Q I2 O r2 q2
end
def Ej(X:Cx)(id:String)(r:V->List V->Hp->VK->Prop):Prop:=
 ∀(zn:Ac)(s:Ar)(σ:St)(H:Hp)(x:V)(xs:A1)(v:Au)(g:Ag)(Q:VK),aE X zn σ H s->aH x v->aJ xs g->r x xs H Q->
  A3 X (call (.builtin id) (v::g)) (EP X zn σ Q) X.xe s
theorem aJ.one:∀{x:V} {g:Ag},aJ [x] g->∃u,g=[u]/\aH x u
 |_,_,.cons r .nil=>⟨_,U,r⟩
theorem aJ.zero:∀{g:Ag},aJ [] g->g=[]
 |_,.nil=>rfl
theorem aJ.dropLast{xs:A1}{g:Ag}(h:aJ xs g):aJ xs.dropLast g.dropLast:=by
 induction h with
 |nil=>exact .nil
 |cons r t B=>
  cases t with
  |nil=>exact .nil
  |cons q t'=>exact .cons r B
theorem aJ.reverse{xs:A1}{g:Ag}(h:aJ xs g):aJ xs.reverse g.reverse:=by
 induction h with
 |nil=>exact .nil
 |cons r t q=>rw[rY,rY];exact aJ.append q (.cons r .nil)
section
variable {X:Cx}{zn:Ac}{σ:St}{H:Hp}{s:Ar}{l b:Av}{xs ys zs:A1}
def aE.A7{B g:Ag}{f:Ah->Array Au}{t':Nat}(I:aE X zn σ H s)(D:H l=ap xs)
  (e:s.heap.get? l=some {cls:=.type "list",data:=.seq B.toArray n}) (C:f B.toArray=g.toArray) (G:aJ ys g) (hz:ys.length<=sizeLine):
  aE X zn σ (aC H l (.lst ys)) {s with heap:=s.heap.update l (Obj.mapSeq f),toks:=t'}:=by
 have q:=PySem.IsL.update e f;rw[C]at q;refine I.write (by rw[D];exact trivial) (.inl U) (λO u J F=>(nK s.heap _ (eV J)).trans F) ⟨_,q⟩ ⟨hz,g,_,G,q⟩
theorem aE.M7{g:Ag}{t':Nat}(I:aE X zn σ H s)(B:aJ ys g)(hz:ys.length<=sizeLine):
  aE X zn σ (aC H s.heap.objs.size (.lst ys)) {s with heap:=s.heap.push {cls:=.type "list",data:=.seq g.toArray},toks:=t'}:=
 I.laid (λ_ _ q=>aW _ q) (aM _) ⟨hz,g,0,B,bY _ U⟩
def aE.fresh(I:aE X zn σ H s):H s.heap.objs.size=none:=I.aK.fresh (aM _)
def aE.oC (I:aE X zn σ H s) (q:H l=ap xs):xs.length<=sizeLine/\∃(g:Ag)(n:Nat),aJ xs g/\xs.length=g.length/\s.heap.get? l=some {cls:=.type "list",data:=.seq g.toArray n}:=by
 obtain⟨z,g,n,r,e⟩:=I.aK l _ q;exact⟨z,g,n,r,r.length,e⟩
end
inductive gf(x:V)(vs:A1)(H:Hp)(Q:VK):Prop
 |mk (l xs y:_):(x=.ref l)->(vs=[y])->(H l=ap xs)->(xs.length<sizeLine)->(Q .aX (aC H l (.lst (xs++[y]))))->gf x vs H Q
def uZ  : V->List V->Hp->VK->Prop:=λx vs H Q=>gf x vs H Q
def ZH:Ej X "list.append" uZ:=by
 rintro zn s σ H x vs v J Q I C D ⟨l,xs,y,rfl,rfl,g,hz,q⟩;cases C;obtain⟨u,rfl,B⟩:=D.one;obtain⟨z,G,n,r,O,e⟩:=I.oC g;refine call_meets F.slot_list_append ⟨_,e,U⟩ F.entry_list_append (F.args_list_append_2 _ _) (PySem.list_append l _ n u Vd) ⟨e,⟨.aX,_,I.A7 g e Ve (r.append (.cons B .nil)) ?_,U,q⟩⟩;rw[aZ,List.length_singleton];lia
inductive Pc(x:V)(vs:A1)(H:Hp)(Q:VK):Prop
 |mk (l xs y:_):(x=.ref l)->(vs=[])->(H l=ap xs)->(xs[xs.length-1]?=some y)->(Q y (aC H l (.lst xs.dropLast)))->Pc x vs H Q
def Fi  : V->List V->Hp->VK->Prop:=λx vs H Q=>Pc x vs H Q
def Po:Ej X "list.pop" Fi:=by
 rintro zn s σ H x vs v Y Q I O T ⟨l,xs,y,rfl,rfl,D,G,q⟩;cases O;have B:=T.zero;subst B;obtain⟨z,g,n,r,Z,e⟩:=I.oC D;obtain⟨u,hu,J⟩:=r.get G;have C:g.toArray[g.toArray.size-1]?=some u:=by
  simp_all
 refine call_meets F.slot_list_pop ⟨_,e,U⟩ F.entry_list_pop (F.args_list_pop_1 _) (MeetsSeq.list_pop_last l _ n u C Vd) ⟨e,⟨y,_,I.A7 D e ?_ r.dropLast ?_,J,q⟩⟩
 .simp_all
 .rw[List.length_dropLast];grind
def Zj5:V->List V->Hp->VK->Prop:=λx vs H Q=>∃l xs,x=.ref l/\vs=[]/\H l=ap xs/\Q .aX (aC H l (.lst xs.reverse))
def Vm:Ej X "list.reverse" Zj5:=by
 rintro zn s σ H x vs v J Q I C D ⟨l,xs,rfl,rfl,B,q⟩;cases C;have g:=D.zero;subst g;obtain⟨z,G,n,r,O,e⟩:=I.oC B;refine call_meets F.slot_list_reverse ⟨_,e,U⟩ F.entry_list_reverse (F.args_list_reverse_1 _) (AutoSeq1.list_reverse_list_0 l _ n Vd) ⟨e,?_⟩;refine⟨.aX,_,I.A7 B e Ve r.reverse ?_,U,q⟩;rw[List.length_reverse];lia
inductive Nm(x:V)(y:V)(H:Hp)(Q:VK):Prop
 |mk (l b xs zs:_):(x=.ref l)->(y=.ref b)->(H l=ap xs)->(H b=ap zs)->(xs.length+zs.length<=sizeLine)->(∀p,H p=none->Q (.ref p) (aC H p (.lst (xs++zs))))->Nm x y H Q
def KG  : R2:=λx y H Q=>Nm x y H Q
def gg:b8 X (binaryOp .Add) KG:=by
 rintro zn s σ H x y v u Q I D J ⟨l,b,xs,zs,rfl,rfl,G,C,hz,q⟩;cases D;cases J;obtain⟨z,B,n,r,Z,e⟩:=I.oC G;obtain⟨Y,g,n2,T,F,e2⟩:=I.oC C;refine PySem.P.add_list e e2 ?_ Vd;have O:B.toArray++g.toArray=(B++g).toArray:=Ve
 rw[O];exact⟨.ref _,_,I.M7 (r.append T) Vd,U,q _ I.fresh⟩
end L2
namespace Att
open PySem PySem.W PySem.Calls PyProof.Rows
theorem jn{P:Params}:∀(ns:Ak)(vs:Ag),WellAll P h vs (ns.map WData.int)->IntsAre vs ns:=λns=>by
 induction ns with
 |nil=>
  intro vs w;cases w;exact .nil
 |cons n ns g=>
  intro vs w;cases w with
  |cons a b=>
   cases a;exact .cons _ _ (g _ b)
def Zf2{l:OpenLaw}(J:l.most=some n){P:Params}{args:List WData}{g:Ag}
  (B:l.row.toRowW.claim.pre args=true) (G:WellAll P h g args):
  ∃a vs ns,g=[Value.ref a]/\args=[WData.list (ns.map WData.int)]/\h.get? a=some {cls:=.type "list",data:=.seq vs.toArray}/\IntsAre vs ns/\ns.length<=n:=by
 obtain⟨d,r,rfl,h1,h2⟩:=hasAllW_cons (pre_splitW B).1;obtain rfl:=hasAllW_nil h2;obtain⟨xs,rfl,O⟩:=hasW_list h1;obtain⟨ns,rfl⟩:=items_int O;have C:ns.length<=n:=by
  have F:=by
   have F:=(holds_andW (pre_splitW B).2).1;rw[J]at F;exact F
  have I:=condW_of F (w_not (w_lt w_lit (w_len_list (w_arg U))));refine FV λq=>?_
  first
   |(exact absurd I _)
   |(simp at I;lia)
 cases G with
 |cons T Q=>
  cases Q;cases T with
  |list Y D=>exact⟨_,_,ns,U,U,Y,jn ns _ D,C⟩
theorem Zf3(l:OpenLaw)(args:List WData):l.row.toRowW.claim.post args (.bool true) args=true:=
 postW_of
  (by first|rfl|decide|skip)
  (w_eq_bool (w_res U) w_lit) U
def iR{l:OpenLaw}{XP:(Ae)->Heap->Prop}{YP:As->Heap->Prop}{d:DefRec}
  (hn:l.most=some n) (O:d.params.defaults=[])
  (call:∀(w:As)(s₀ g:Ar)(mg Z:Ae)(F:Av)(o:Obj)(T J q:Au)(a:Av)(vs:Ag)(ns:Ak),
   Ground P N [] XP w s₀ mg Z g.heap->YP w g.heap->
   g.heap.get? F=some o->o.data=.func (docDef d.name d.params d.body d.scope T J q)->g.heap.CodeRec J d.name->mg d.name=some (.ref F)->
   g.heap.get? a=some {cls:=.type "list",data:=.seq vs.toArray}->IntsAre vs ns->ns.length<=n->g.gens=#[]->
   codeAny (model l.prog w) callerA (.call (.ref F) ⟨[.ref a],[]⟩) (λr s'=>r=.ok (.ret (.bool true))/\OldK g.heap s'.heap/\s'.os=g.os/\AllBare s'.gens) g):
  WalkO P N XP YP l.row.toRowW d [] (λf vs=>PySem.call f vs):=by
 intro w s₀ g mg Z G Y F o T J q dV kV ho hd Q hD hmg hg args vals as I hlay hrd hwl hlo;obtain rfl:dV=.none:=Dflts.none hD O;obtain rfl:kV=.none:=Dflts.noKw hD;refine ω (Zf2 hn I hwl) (ε3 λa vs ns=>θ4 λzq0 zq1 D B C=>?_);subst zq0;subst zq1;refine enter_call (sX (call w s₀ g mg Z F o T J q a vs ns G Y ho (fd_plain hd) Q hmg D B C hg) λr s' hq=>?_);obtain⟨rfl,h2,h3,h4⟩:=hq;exact⟨.inl ⟨_,_,[],U,λ_=>U,.bool true,Zf3 l _,λ_=>⟨List.Pairwise.nil,λ_ hm=>(nomatch hm)⟩⟩,h2,h3,h4⟩
end Att
namespace L2
theorem gh:∀{vs:Ag} {ns:Ak},IntsAre vs ns->aJ (ns.map V.int) vs
 |_,_,.nil=>.nil
 |_,_,.cons n t h=>.cons ⟨t,U⟩ (gh h)
def JR(s:Ax):Arguments:=match s with
 |.FunctionDef _ a _ _ _ _ _ _ _ _=>a
 |_=>{posonlyargs:=[],args:=[],vararg:=none,kwonlyargs:=[],kw_defaults:=[],kwarg:=none,defaults:=[]}
def XY(s:Ax):List Ax:=match s with
 |.FunctionDef _ _ b _ _ _ _ _ _ _=>b
 |_=>[]
def Zh(s:Ax):Scope:=match s with
 |.FunctionDef _ _ _ _ _ _ g _ _ _=>g
 |_=>{kind:=.function,names:=[],isGenerator:=false,isCoroutine:=false}
abbrev j3:lO:=λ_ _ _ _ _ _=>False
abbrev E0:XK:=λ_ _ _=>False
def qh:eJ j3 b E0:=λ_ _ _ _ _ _ _ h=>h.elim
structure sM(K:Af)(x tz:Str)(st:Ax)(f:Av)(fd:An):Prop where
 ex:∃(oc:Au)(od:Option Av)(kV doc pm:Au)(an:Option Av)(cdv ct:Au)(osl:Array (Option Au)),
  fd=PySem.W.fnOf x tz (JR st) (XY st) (Zh st) .none kV doc pm an cdv ct/\K.lookup f=some ⟨oc,od,.func fd,osl⟩/\PySem.W.codeIn K cdv tz=true
 kp:PySem.W.keepIn K (.ref f)=true
section
variable {P:Ao}{w:As}{K:Af}{mg:Ae}{wn:Heap}
theorem sM.ok{st:Ax}{fd:An}{ps:Ai}{k:Nat}{sp:Sp}(F:sM K x tz st f fd)(S:Zy N ps (Zh st))(len:∀vs H Q E,sp vs H Q E->vs.length=ps.length)
  (B:∀(g:Au)(A:Aq)(xz:List Env)(s:Ar)(H:Hp)(vs:A1)(Q:VK)(E:XK),JP k (A.deeper (envOfC tz (Zh st) s.heap.objs.size f g))->sp vs H Q E->
   ∃t,p5 (pS j3 P w K mg wn N tz (Zh st) f g A xz s H E).rQ (XY st) t/\t {nx:=λ_ H'=>Q .aX H',rt:=Q} (d6 N vs) H):uS P w K mg wn j3 (k+1) f fd ps sp:=by
 refine ω F.ex (ε6 λoc od kV G Y T=>ε3 λg ct I=>θ2 λzq0 O D=>?_);subst zq0;refine Qu O D S len λA xz s H vs Q E J C=>?_;obtain⟨t,h,q⟩:=B g A xz s H vs Q E J C;exact⟨t,h.rQ,q⟩
def sM.binds{st:Ax}{fd:An}{ps:Ai}(F:sM K x tz st f fd)
  (h:∀(kV g C:Au)(D:Option Av)(q ct:Au)(B:Ag),B.length=ps.length->bindArgs (PySem.W.fnOf x tz (JR st) (XY st) (Zh st) .none kV g C D q ct) ⟨B,[]⟩=pure (ps.zip B)):cZ K fd ps []:=by
 refine ω F.ex (ε6 λoc od kV g C D=>ε3 λq ct G=>θ2 λzq0 J I=>?_);subst zq0;exact .all (h kV g C D q ct)
theorem tV{tz:Str}{st:Ax}{od D:Option Av}{B:Array (Option Au)}{kV q C g ct:Au}(l:K.lookup f=some ⟨v,od,.func (PySem.W.fnOf x tz (JR st) (XY st) (Zh st) .none kV q C D g ct),B⟩)
  (c:PySem.W.codeIn K g tz=true) (k:PySem.W.keepIn K (.ref f)=true):sM K x tz st f (PySem.W.fnOf x tz (JR st) (XY st) (Zh st) .none kV q C D g ct):=⟨⟨v,od,kV,q,C,D,g,ct,B,U,l,c⟩,k⟩
end
def x6{A:Aq}{k:Nat}(g:JP k A):A.units+1<cLine:=EB Vc g.units
def Zw(h:n<=1000):n<sizeLine:=EB h Vb
def YJ{A B:Prop}(h:B):if false=true then A else B:=Vd
def Xe{A B:Prop}(h:A):if true=true then A else B:=h
def G5{c A B:Prop}[Decidable c](h1:c->A)(h2:¬c->B):if c then A else B:=Vd
def ZK(H H':Hp):Prop:=∀b o,H b=some o->H' b=some o
def ZK.refl(H:Hp):ZK H H:=λ_ _ h=>h
def ZK.trans(a:ZK H d)(b:ZK d H2):ZK H H2:=λc o h=>b c o (a c o h)
def ZK.free(e:ZK H H'){l:Av}(h:H' l=Option.none):H l=Option.none:=by
 cases q:H l with
 |none=>rfl
 |some o=>
  rw[e l o q]at h;cases h
def ZK.seq(e:ZK H H')(h:aF K H a xs):aF K H' a xs:=by
 rcases h with(h|⟨o,h⟩)|h
 .exact .inl (.inl (e _ _ h))
 .exact .inl (.inr ⟨o,e _ _ h⟩)
 .exact .inr h
def KU(i j:Int):Prop:=0<j/\j.natAbs.log2<9000
theorem XI:b8 X (binaryOp .FloorDiv) (rI KU λi j=>.int (i/j)):=CS λi j _ _ _ _ _ g q=>by
 have h1:=g.1;exact floordiv_int Vc Vd (.inl (PyProof.noPylong_of_log2 g.2))
def KU.of{i j:Int}(h1:0<j)(h2:j<2^250):KU i j:=by
 refine⟨h1,?_⟩;have g:j.natAbs<2^250:=Vd
 have:=(Nat.log2_lt Vd).mpr g;lia
def L4(i j:Int):Prop:=(i.natAbs<2^250/\j.natAbs<2^250)\/Cs i j
def L4.ok{i j:Int}(h:L4 i j):IntMulOk i j:=by
 rcases h with⟨h1,h2⟩|h
 .refine IntMulOk.of_bits (bS (PyProof.Rows.intBits_le h1) Vb) (bS (PyProof.Rows.intBits_le h2) Vb)
 .exact h.ok
def qi:b8 X (binaryOp .Mult) (rI L4 λi j=>.int (i*j)):=CS λ_ _ _ _ _ _ _ g q=>mul_int q g.ok
inductive Oe(K:Af)(xs:A1)(H:Hp)(Q:VK):Prop
 |mk (x T t b:_):(xs=[x,.ty T])->(mW K H x t)->(PySem.W.kitOne K t (.type T)=some b)->(Q (.bl b) H)->Oe K xs H Q
def HY(K:Af):A1->Hp->VK->Prop:=λxs H Q=>Oe K xs H Q
def XJ:Wd X (.builtin "isinstance") (HY X.K):=by
 rintro zn s σ H xs B Q I r ⟨x,T,t,b,rfl,ty,e,q⟩;obtain⟨u,C,rfl,g,rt⟩:=tG r;cases rt;exact Zfw I g ty e λtk=>⟨.bl b,H,I.tok tk,U,q⟩
def Yx:Aw->Bool
 |.Starred _ _=>false
 |_=>true
def ZC{op:Am}{env:Env}(h:Yx e=true):starEach (e::op) env=(false,eval e env)::starEach op env:=by
 cases e<;>first
  |rfl
  |cases h
theorem Wk:∀{es:Am},es.all Yx=true->(backTo pos (starEach es env)).any (·.1)=false
 |[],_=>rfl
 |e::es,h=>by
  rw[mS,lI]at h;rw[ZC h.1];show(false||(backTo pos _).any _)=false;rw[Wk h.2];rfl
theorem dA:∀{es:Am},es.all Yx=true->(backTo pos (starEach es env)).all (λx=>!x.1)=true
 |[],_=>rfl
 |e::es,h=>by
  rw[mS,lI]at h;rw[ZC h.1];show(true&&(backTo pos _).all _)=true;rw[dA h.2];rfl
section
variable {X:Cx}{CX:lO}{k:Nat}{f C:Av}{fd:An}{ps:Ai}{sp:Sp}{dvs:A1}{ds:Ag}{E:XK}{x m:Str}{p pos apos:Pos}{e o:Aw}{es:Am}{ta te:TE}{t:TA}{id T:String}{r:A1->Hp->VK->Prop}
def Ma(G:PE X e te)(O:PA X es t)(F:Yx e=true:=by rfl):PA X (e::es) (qg te t):=λpos zn s σ H Q I h=>by
 rw[(ZC F)];refine oW (aP (G zn s σ H _ I h) λu q ⟨x,H1,g,B,D⟩=>(aP (O pos zn q σ H1 _ g D) λZ Y ⟨xs,H2,C,T,J⟩=>⟨x::xs,H2,C,.cons B T,J⟩))
def UL(F:uS X.prog X.w X.K X.mg X.base CX k f fd ps sp)(O:JP k X.A)(B:Gl X x)(D:X.mg x=some (.ref f))(J:PySem.W.keepIn X.K (.ref f)=true)(Q:cZ X.K fd ps ds)(I:aJ dvs ds)(G:eJ CX X E)
  (C:PA X (e::es) t) (g:(x == ("__debug__" : Str))=false:=by decide) (q:(e::es).all Yx=true:=by rfl):PE X (.Call (.Name x p) (e::es) [] pos) (DX sp dvs E t):=by
 rw[mS,lI]at q;exact VE F O B D J Q I G C g (ZC q.1) (Wk q.2)
def Zf4 (Y:Wd X (.builtin id) r) (D:Gl X x) (G:X.mg x=none) (O:bootBuiltins x=some (.builtin id)) (Z:PA X (e::es) t) (C:x ≠ "__name__" :=by decide) (q:(x == ("__debug__" : Str))=false:=by decide)
  (g:(e::es).all Yx=true:=by rfl):PE X (.Call (.Name x p) (e::es) [] pos) (CJ r t):=by
 rw[mS,lI]at g;intro zn s σ H Q I h;refine pR (GN I D G O (PyProof.Rows.callWith_builtin1 (aP (Z pos zn s σ H _ I h) λJ F ⟨vs,H1,B,r1,T⟩=>Y zn F σ H1 vs J Q B r1 T) (ZC g.1) (Wk g.2)) C q)
def Zf5 (Z:Wd X (.type T) r) (D:Gl X x) (G:X.mg x=none) (O:bootBuiltins x=some (.type T)) (ha:PA X (e::es) t) (C:x ≠ "__name__" :=by decide) (q:(x == ("__debug__" : Str))=false:=by decide)
  (g:(e::es).all Yx=true:=by rfl):PE X (.Call (.Name x p) (e::es) [] pos) (CJ r t):=by
 rw[mS,lI]at g;intro zn s σ H Q I h;refine pR (GN I D G O (AU (aP (ha pos zn s σ H _ I h) λJ F ⟨vs,H1,B,r1,Y⟩=>Z zn F σ H1 vs J Q B r1 Y) (ZC g.1) (Wk g.2)) C q)
end
def Yn:bootBuiltins "len" = some (.builtin "len"):=Va
def Yj:bootBuiltins "isinstance" = some (.builtin "isinstance"):=Va
def gj:bootBuiltins "sorted" = some (.builtin "sorted"):=Va
def IF:bootBuiltins "all" = some (.builtin "all"):=Va
def Ke:bootBuiltins "int" = some (.type "int"):=Va
def Nz:bootBuiltins "bool" = some (.type "bool"):=Va
def t4:bootBuiltins "str" = some (.type "str"):=Va
def Rf:bootBuiltins "list" = some (.type "list"):=Va
def ZY:bootBuiltins "tuple" = some (.type "tuple"):=Va
def BK:bootBuiltins "set" = some (.type "set"):=Va
def Zaa:bootBuiltins "reversed" = some (.type "reversed"):=Va
def Q8:bootBuiltins "range" = some (.type "range"):=Va
def qj :PySem.W.kitOne K (.type "int") (.type "int")=some true:=by rfl
def zg :PySem.W.kitOne K (.type "int") (.type "bool")=some false:=Vg
def Jp :PySem.W.kitOne K (.type "tuple") (.type "tuple")=some true:=by rfl
def qk :PySem.W.kitOne K (.type "str") (.type "int")=some false:=Vg
def Zab :PySem.W.kitOne K (.type "str") (.type "str")=some true:=by rfl
def Vv :PySem.W.kitOne K (.type "int") (.type "str")=some false:=Vg
structure QE(X:Cx)(e:Aw)(t:TE):Prop where
 out:PE X e t
structure QT(X:Cx)(e:Aw)(t:TT):Prop where
 out:PT X e t
structure QW(X:Cx)(e:Aw)(t:TT):Prop where
 out:PW X e t
structure QA(X:Cx)(e:Am)(t:TA):Prop where
 out:PA X e t
structure mC(X:Cx)(e:List Ax)(t:TS):Prop where
 out:p5 X e t
structure QS(X:Cx)(e:Ax)(t:TS):Prop where
 out:PS X e t
structure QG(X:Cx)(e:Aw)(t:TG):Prop where
 out:PG X e t
structure QI(X:Cx)(tg e:Aw)(t:TI):Prop where
 out:PI X tg e t
structure QO(X:Cx)(e:Option Aw)(t:TO):Prop where
 out:PO X e t
def qv  (i:Nat)   (C:b.N[i]?=some x:=by rfl) (q:F1 b.env.scope x:=by first|exact Or.inl U|exact Or.inr (Or.inl U)|exact Or.inr (Or.inr U)) (B:(x == ("__debug__" : Str))=false:=by decide) (g:(x == ("__classdict__" : Str))=false:=by decide):QE b (.Name x p) (yG i):=⟨Qz C q B g⟩
def Ze{i j pos:_}:QE b (.Constant (.int i) j pos) (tC (.int i)):=⟨λ_ _ _ H _ I h=>wpAny_Constant_int ⟨.int i,H,I.tok _,⟨_,U⟩,h⟩⟩
def YM{b j pos:_}:QE X (.Constant (.bool b) j pos) (tC (.bl b)):=⟨λ_ _ _ H _ I h=>Constant_bool ⟨.bl b,H,I,U,h⟩⟩
def Hj{j pos:_}:QE b (.Constant .none j pos) (tC .aX):=⟨λ_ _ _ H _ I h=>Constant_none ⟨.aX,H,I,U,h⟩⟩
def Zj{x j pos:_}:QE b (.Constant (.str x) j pos) (tC (.str x)):=⟨λ_ _ _ H _ I h=>Calls.Constant_str ⟨.str x,H,I.tok _,⟨_,U⟩,h⟩⟩
def Jq   {v:V} {u:Au}  (g:Gl b x) (q:b.mg x=some u) (r:aH v u) (B:(x == ("__debug__" : Str))=false:=by decide):QE b (.Name x p) (tC v):=⟨λ_ _ _ H _ I h=>vX I g q ⟨v,H,I,r,h⟩ B⟩
def WQ   {v:V} {u:Au}  (g:Gl b x) (B:b.mg x=none) (C:bootBuiltins x=some u) (r:aH v u) (q:x ≠ "__name__" :=by decide) (D:(x == ("__debug__" : Str))=false:=by decide):QE b (.Name x p) (tC v):=⟨λ_ _ _ H _ I h=>GN I g B C ⟨v,H,I,r,h⟩ q D⟩
theorem Zl{X:Cx}{a:Aw}{b:Aw}{g:Operator}{r:R2}(O:b8 X (binaryOp g) r)(F:QE X a A)(C:QE X b J):QE X (.BinOp a g b p) (E1 r A J):=⟨by
 intro zn s σ H Q I h;exact wpAny_BinOp (AF F.out C.out I h λv u B x y H2 T D G q=>O zn B σ H2 x y v u Q T D G q)⟩
theorem Jr{a:Aw}{g:UnaryOp}{r:V->Hp->VK->Prop}(F:HZ b (unaryOp g) r)(D:QE b a A):QE b (.UnaryOp g a p) (tUn r A):=⟨by
 intro zn s σ H Q I h;exact UnaryOp_ (aP (D.out zn s σ H _ I h) λv B ⟨x,H1,q,G,C⟩=>F zn B σ H1 x v Q q G C)⟩
theorem Xr{X:Cx}{a:Aw}{b:Aw}{g:CmpOp}{r:R2}(T:b8 X (compareOp g) r)(G:QE X a A)(D:QE X b J)(B:behindInMarks g b=false):QE X (.Compare a [g] [b] p) (E1 r A J):=⟨by
 intro zn s σ H Q I h;exact wpAny_Compare1 (AF G.out D.out I h λv u C x y H2 Y F O q=>T zn C σ H2 x y v u Q Y F O q) B⟩
theorem Zu{X:Cx}{a:Aw}{b:Aw}{g:CmpOp}{r:R2}(ho:b8 X (compareOp g) r)(F:QE X a A)(hb:QE X b J)(C:behindInMarks g b=false):QT X (.Compare a [g] [b] p) (LR (E1 r A J)):=⟨by
 intro zn s σ H Q I h;refine wpAny_isTrue_Compare1 (aP (F.out zn s σ H _ I h) λv B ⟨x,H1,q,Y,q1⟩=>aP (hb.out zn B σ H1 _ q q1) λu D ⟨y,H2,O,Z,q2⟩=>
  aP (ho zn D σ H2 x y v u _ O Y Z q2) λc s3 ⟨z,T,I3,G,k,e,q3⟩=>?_) C
 subst e;cases G;exact oV ⟨T,I3,q3⟩⟩
def Xn(h:QE b e t)(C:∀g,isTrue e b.env g=(do let v <-g;standAt e.pos;holding [v] (truthy v)):=by intro _;rfl):QT b e (tB t):=⟨by
 intro zn s σ H Q I hw;refine isTrue_plain (aP (h.out zn s σ H _ I hw) λv G ⟨x,H1,B,F,D⟩=>?_) (C _);obtain⟨d,rfl,q⟩:=D;cases F;exact oV ⟨H1,B,q⟩⟩
theorem x8{a:Aw}(g:QT b a M):QW b (.BoolOp .And [a] p) M:=⟨by
 intro q zn s σ H Q I h;refine isTrue_and (aP (g.out zn s σ H Q I h) λc B e=>?_);cases c with
 |true=>exact isTrue_and_nil e
 |false=>exact e⟩
theorem jo{a:Aw}(g:QT b a M):QW b (.BoolOp .Or [a] p) M:=⟨by
 intro q zn s σ H Q I h;refine isTrue_or (aP (g.out zn s σ H Q I h) λc B e=>?_);cases c with
 |false=>exact isTrue_or_nil e
 |true=>exact e⟩
theorem vo{X:Cx}{a:Aw}{b:Aw}{tB':TT}{op:Am}(F:QT X a M)(D:QW X (.BoolOp .And (b::op) p) tB'):QW X (.BoolOp .And (a::b::op) p) (Iy M tB'):=⟨by
 intro B zn s σ H Q I h;refine isTrue_and (aP (F.out zn s σ H _ I h) λc C ⟨H1,g,q⟩=>?_);cases c with
 |true=>exact D.out B zn C σ H1 Q g q
 |false=>exact⟨H1,g,q⟩⟩
theorem q8{X:Cx}{a:Aw}{b:Aw}{tB':TT}{op:Am}(F:QT X a M)(D:QW X (.BoolOp .Or (b::op) p) tB'):QW X (.BoolOp .Or (a::b::op) p) (tOr M tB'):=⟨by
 intro B zn s σ H Q I h;refine isTrue_or (aP (F.out zn s σ H _ I h) λc C ⟨H1,g,q⟩=>?_);cases c with
 |true=>exact⟨H1,g,q⟩
 |false=>exact D.out B zn C σ H1 Q g q⟩
theorem JS{a:Aw}(B:QT b a M):QT b (.UnaryOp .Not a p) (IK M):=⟨by
 intro zn s σ H Q I h;exact isTrue_not (aP (B.out zn s σ H _ I h) λc C ⟨H1,g,q⟩=>⟨H1,g,q⟩)⟩
def gk{a:Aw}{g:_}{t:TE}(h:QE b a t):QE b (.BoolOp g [a] p) t:=⟨λzn s σ H Q I hw=>BoolOp_one (h.out zn s σ H Q I hw)⟩
theorem gm{X:Cx}{a:Aw}{b:Aw}{op:Am}(D:QE X a A)(C:QE X (.BoolOp .And (b::op) p) J):QE X (.BoolOp .And (a::b::op) p) (E2 A J):=⟨by
 intro zn s σ H Q I h;refine BoolOp_and (aP (D.out zn s σ H _ I h) λv B ⟨x,H1,q,F,g⟩=>?_);obtain⟨c,rfl,g⟩:=g;cases F;refine oV ?_;cases c with
 |true=>exact C.out zn B σ H1 Q q g
 |false=>exact⟨.bl false,H1,q,U,g⟩⟩
theorem EJ{X:Cx}{a:Aw}{b:Aw}{op:Am}(D:QE X a A)(C:QE X (.BoolOp .Or (b::op) p) J):QE X (.BoolOp .Or (a::b::op) p) (Mb A J):=⟨by
 intro zn s σ H Q I h;refine BoolOp_or (aP (D.out zn s σ H _ I h) λv B ⟨x,H1,q,F,g⟩=>?_);obtain⟨c,rfl,g⟩:=g;cases F;refine oV ?_;cases c with
 |false=>exact C.out zn B σ H1 Q q g
 |true=>exact⟨.bl true,H1,q,U,g⟩⟩
theorem Q2{a:Aw}(B:QE b a A):QE b (.UnaryOp .Not a p) (EA A):=⟨by
 intro zn s σ H Q I h;refine UnaryOp_ (aP (B.out zn s σ H _ I h) λv D ⟨x,H1,q,C,g⟩=>?_);obtain⟨c,rfl,g⟩:=g;cases C;exact not_of (oV ⟨.bl (!c),H1,q,U,g⟩)⟩
def Zj7{X:Cx}{a:Aw}{b:Aw}{c:Aw}(B:QT X c M)(g:QE X a A)(q:QE X b J):QE X (.IfExp c a b p) (Oq M A J):=⟨T4 B.out g.out q.out⟩
def Z3:mC b [] Dx:=⟨λ_ _ σ H _ I h=>Hy ⟨σ,H,I,h⟩⟩
theorem Zc{st:Ax}{op:List Ax}{t:TS}{u:TS}(h1:QS b st t)(h2:mC b op u):mC b (st::op) (Xj t u):=⟨by
 intro zn s σ H D I h;refine wpAny_execs_cons (aP (h1.out zn s σ H _ I h) λf B q=>?_);cases f with
 |next=>
  obtain⟨g,H',C,q⟩:=q;exact h2.out zn B g H' D C q
 |ret v=>exact q
 |brk=>exact q
 |cont=>exact q⟩
theorem Zf{st:Ax}{t:TS}(h1:QS b st t):mC b [st] t:=⟨by
 intro zn s σ H D I h;refine wpAny_execs_cons (aP (h1.out zn s σ H D I h) λf g q=>?_);cases f with
 |next=>exact Hy q
 |ret v=>exact q
 |brk=>exact q
 |cont=>exact q⟩
def Ya(B:QE b e A)(q:swapsWith e none p.line b.env=pure false:=by rfl):QS b (.Expr e p) (F3 A):=⟨by
 intro zn s σ H D I h;exact wpAny_Expr_any (aP (B.out zn s σ H _ I h) λv F ⟨x,H1,g,G,C⟩=>⟨σ,H1,g,C⟩) I.quiet q⟩
theorem Zq(q:QE b e A):QS b (.Return (some e) p) (KS A):=⟨by
 intro zn s σ H D I h;exact wpAny_Return_some (aP (q.out zn s σ H _ I h) λv F ⟨x,H1,g,C,B⟩=>⟨x,σ,H1,g,C,B⟩)⟩
theorem Yc{X:Cx}{t:TS}{u:TS}{c:Aw}{a b:List Ax}(F:QT X c M)(G:mC X a t)(C:mC X b u):QS X (.If c a b p) (LH M t u):=⟨by
 intro zn s σ H D I h;refine wpAny_If (aP (F.out zn s σ H _ I h) λd q ⟨H1,g,B⟩=>?_);cases d with
 |true=>exact G.out zn q σ H1 D g B
 |false=>exact C.out zn q σ H1 D g B⟩
theorem Zn9(q:b.N.Nodup)(hi:b.N[i]?=some x)(g:pV b.env.scope x)(B:b.fn x=true\/b.env.scope.names.lookup x=some .local:=by first|exact .inl U|exact .inr U|assumption):QG b (.Name x p) (JO i):=⟨vY q hi g⟩
theorem YV(i:Nat)(q:b.N.Nodup)(hi:b.N[i]?=some x:=by exact U)(g:pV b.env.scope x:=by first|exact .inl U|exact .inr U)(B:b.fn x=true\/b.env.scope.names.lookup x=some .local:=by first|exact .inl U|exact .inr U|assumption):QG b (.Name x p) (JO i):=Zn9 q hi g B
def Rk{g:TG}(G:QE b e A)(C:QG b tg g)(O:swapsWithSole [tg] e p.line b.env=pure false:=by rfl)(hw:swappedStores [tg] e b.env=pure none:=by rfl)(h1:(assignEach [tg] b.env).map (·.2)=[assign tg b.env]:=by rfl):QS b (.Assign [tg] e p) (sU A g):=⟨by
 intro zn s σ H D I h;refine wpAny_Assign_stores (aP (G.out zn s σ H _ I h) λv F ⟨x,H1,B,Q,J⟩=>?_) O hw;rw[h1];exact aP (C.out zn F σ H1 x v _ B Q J) λ_ T q=>q⟩
theorem tU(C:b.N.Nodup)(hi:b.N[i]?=some x)(g:pV b.env.scope x)(B:QE b e A)(D:swapsWith e (some (.Name x q)) p.line b.env=pure false:=by rfl)(F:b.fn x=true\/b.env.scope.names.lookup x=some .local:=by first|exact .inl U|exact .inr U|assumption):QS b (.Assign [.Name x q] e p) (sU A (JO i)):=⟨Cq C hi g B.out D⟩
theorem ZA(i:Nat)(C:b.N.Nodup)(B:QE b e A)(hi:b.N[i]?=some x:=by exact U)(g:pV b.env.scope x:=by first|exact .inl U|exact .inr U)(F:swapsWith e (some (.Name x q)) p.line b.env=pure false:=by rfl)(D:b.fn x=true\/b.env.scope.names.lookup x=some .local:=by first|exact .inl U|exact .inr U|assumption):QS b (.Assign [.Name x q] e p) (sU A (JO i)):=tU C hi g B F D
theorem q9{X:Cx}{c:Aw}{body:List Ax}(hp:PassesOwn (model X.prog X.w) X.A X.env X.xe)(hc:QT X c M)(hb:mC X body B):QS X (.While c body [] p) (Rb M B):=⟨by
 rintro zn s σ H D I ⟨W,⟨m0,w0⟩,F⟩;refine wpAny_While (codeAny_whileLoop (λn s'=>∃C H',aE X zn C H' s'/\W n C H') ?_ m0 ⟨σ,H,I,w0⟩);refine λn s1=>ε2 λq H1=>θ1 λI1 w1=>?_;refine AS hp (aP (hc.out zn s1 q H1 _ I1 (F n q H1 w1)) λb s2 ⟨H2,I2,O⟩=>?_);cases b with
 |true=>
  obtain⟨N,hN,O⟩:=O;refine AS hp (aP (hb.out zn s2 q H2 _ I2 O) λf s3 J=>?_);cases f with
  |next=>
   obtain⟨g,G,Y,Z⟩:=J;obtain⟨m',T,Q⟩:=hN g G Z;exact⟨m',T,g,G,Y,Q⟩
  |cont=>
   obtain⟨g,G,Y,Z⟩:=J;obtain⟨m',T,Q⟩:=hN g G Z;exact⟨m',T,g,G,Y,Q⟩
  |brk=>exact J
  |ret v=>exact J
 |false=>
  exact Hy ⟨q,H2,I2,O⟩⟩
def Xs{X:Cx}{tg:Aw}{l:Aw}(B:QE X l A):QI X tg l (Fy X.K A):=⟨by
 intro zn s σ H R I h;refine aP (B.out zn s σ H _ I h) λv O ⟨x,H1,g,G,C⟩=>?_;obtain⟨a,e,⟨xs,F⟩,q⟩:=C;subst e;cases G;obtain⟨J,Q,p,hz⟩:=g.list F;refine Dz p.isList ⟨_,_,_,_,H1,U,g.kept λb o e=>aW _ e,Zfk a _,⟨_,bY _ U,U,U⟩,λb D=>?_,q⟩;have e:=by simpa using D
 subst e;exact g.dZ (aM _) (g.aK.fresh (aM _))⟩
def Xf{X:Cx}{tg:Aw}{l:Aw}(B:QE X l A):QI X tg l (E4 X.K A):=⟨by
 intro zn s σ H R I h;refine aP (B.out zn s σ H _ I h) λv O ⟨x,H1,g,G,C⟩=>?_;obtain⟨a,e,⟨xs,F⟩,q⟩:=C;subst e;cases G;obtain⟨J,Q,p,hz⟩:=g.tuple F;refine wpAny_pyIter_tuple (p) ⟨_,_,_,_,H1,U,g.kept λb o e=>aW _ e,Vn a _,⟨_,bY _ U,U,U⟩,λb D=>?_,q⟩;have e:=by simpa using D
 subst e;exact g.dZ (aM _) (g.aK.fresh (aM _))⟩
def YG{wi:TI}{g:TG}(G:PassesOwn (model b.prog b.w) b.A b.env b.xe)(C:b.calm=true)(hi:QI b tg iter wi)(q:QG b tg g)(F:mC b body B)(D:∀x,foldedSetIterable iter b.env x=pure x:=by intro _;rfl):QS b (.For tg iter body [] p) (Ex wi g B):=⟨AA G C hi.out q.out F.out D⟩
theorem Zt{B:_}(h:QA X G t):QE X (.Tuple G B p) (D8 t):=⟨by
 intro zn s σ H Q I F;refine wpAny_Tuple_spliced (aP (h.out p zn s σ H _ I F) λD J ⟨xs,H1,g,r,z,q⟩=>⟨by rw[<-r.length];exact z,?_⟩);have C:=g.aK.fresh (aM _);refine⟨.ref _,_,g.laid (λb u e=>aW _ e) (aM _) ?_,U,q _ C⟩;exact⟨z,D,r,uW.new _ _⟩⟩
theorem YS(h:QA X G t):QE X (.List G p) (AZ t):=⟨by
 intro zn s σ H Q I D;refine wpAny_List_spliced (aP (h.out p zn s σ H _ I D) λC F ⟨xs,H1,g,r,z,q⟩=>⟨by rw[<-r.length];exact z,?_⟩);have B:=g.aK.fresh (aM _);refine⟨.ref _,_,g.laid (λb u e=>aW _ e) (aM _) ?_,U,q _ B⟩;exact⟨z,C,0,r,bY _ U⟩⟩
def Zb:QA b [] nL:=⟨λ_ _ _ _ H Q I h=>Bs ⟨[],H,I,.nil,h⟩⟩
def Zg(q:QE b e A)(g:QA b G t)(B:Yx e=true:=by rfl):QA b (e::G) (qg A t):=⟨Ma q.out g.out B⟩
def YI {E:XK}      {t:TA} (F:uS b.prog b.w b.K b.mg b.base CX k f fd ps sp) (Y:JP k b.A) (B:Gl b x) (C:b.mg x=some (.ref f)) (I:PySem.W.keepIn b.K (.ref f)=true) (J:cZ b.K fd ps ds) (D:aJ u ds) (T:eJ CX b E) (Q:QA b (e::G) t) (g:(x == ("__debug__" : Str))=false:=by decide) (O:(e::G).all Yx=true:=by rfl):QE b (.Call (.Name x p) (e::G) [] q) (DX sp u E t):=⟨UL F Y B C I J D T Q.out g O⟩
def Zs {id:String} {r:A1->Hp->VK->Prop} (F:Wd b (.builtin id) r) (C:Gl b x) (I:b.mg x=none) (J:bootBuiltins x=some (.builtin id)) (D:QA b (e::G) t) (B:x ≠ "__name__" :=by decide) (g:(x == ("__debug__" : Str))=false:=by decide) (O:(e::G).all Yx=true:=by rfl):QE b (.Call (.Name x p) (e::G) [] q) (CJ r t):=⟨Zf4 F C I J D.out B g O⟩
def ZR {T:String} {r:A1->Hp->VK->Prop} (F:Wd b (.type T) r) (C:Gl b x) (I:b.mg x=none) (J:bootBuiltins x=some (.type T)) (D:QA b (e::G) t) (B:x ≠ "__name__" :=by decide) (g:(x == ("__debug__" : Str))=false:=by decide) (O:(e::G).all Yx=true:=by rfl):QE b (.Call (.Name x p) (e::G) [] q) (CJ r t):=⟨Zf5 F C I J D.out B g O⟩
def XQ {tg a:Aw} (g:Gl b "range") (D:b.mg "range" = none) (B:QA b [a] t) (C:Yx a=true:=by rfl):QI b tg (.Call (.Name "range" p) [a] [] q) (O7 t):=⟨Zfn g D B.out (by rw[ZC C];rfl)⟩
def Yo      {t:TA} {id:String} {T:String} {name:Str}   {I:V->List V->Hp->VK->Prop} (O:PlainAttrs T) (D:Slot T name id) (F:typeOf (.builtin id)=pure (.type "method_descriptor")) (Y:Er b id I) (ho:QE b o A) (Q:QA b (e::G) t) (B:attributeBase o name b.env (eval o b.env)=eval o b.env:=by rfl) (g:(p.endLine == q.line)=true:=by rfl) (J:(e::G).all Yx=true:=by rfl) (Z:(e::G).length<30:=by decide):QE b (.Call (.Attribute o name p) (e::G) [] q) (FW b.K T I A t):=⟨by
 have C:=J;rw[mS,lI]at C;refine Fh O D F Y ho.out Q.out B ?_ g (ZC C.1) (Wk C.2);rw[dA J];exact bC Z⟩
def FY   {T:String} {id:String} {r:V->List V->Hp->VK->Prop} (Z:PlainAttrs T) (C:Slot T name id) (D:typeOf (.builtin id)=pure (.type "method_descriptor")) (O:Er b id r) (ho:QE b o A) (B:attributeBase o name b.env (eval o b.env)=eval o b.env:=by rfl) (g:(p.endLine == q.line)=true:=by rfl):QE b (.Call (.Attribute o name p) [] [] q) (AH b.K T r A):=⟨by
 intro zn s σ H Q I h;refine wpAny_Call_method0_late B g (aP (ho.out zn s σ H _ I h) λv J ⟨x,H1,F,G,ty,Y⟩=>?_);obtain⟨h1,h2⟩:=NS F G ty;exact⟨T,id,Z,C,D,h1,h2,FG U (PySem.evalArgs_none (O zn J σ H1 x [] v [] Q F G .nil Y))⟩⟩
theorem WS:QO b none Zn4:=⟨by
 intro zn s σ H Q I h;exact aG ⟨none,H,I,.none,h⟩⟩
theorem Xb(h:QE b e A):QO b (some e) (EF A):=⟨by
 intro zn s σ H Q I hw;refine aP (h.out zn s σ H _ I hw) λu D ⟨x,H1,g,C,B⟩=>?_;obtain⟨i,rfl,q⟩:=B;obtain⟨t,rfl⟩:=C;exact⟨some i,H1,g,.int i t,q⟩⟩
theorem YY{X:Cx}{lo:Option Aw}{hi:Option Aw}{tl:TO}{th:TO}{r:V->Option Int->Option Int->Hp->VK->Prop}(O:pD X r)(he:QE X e A)(hl:QO X lo tl)(hu:QO X hi th):QE X (.Subscript e (.Slice lo hi none q) p) (UH r A tl th):=⟨by
 intro zn s σ H Q I h;refine Subscript_ (aP (he.out zn s σ H _ I h) λv C ⟨x,H1,B,r1,q1⟩=>(wpAny_Slice (aP (hl.out zn C σ H1 _ B q1) λvl D=>ε2 λl H2=>θ2 λY pl q2=>aP (hu.out zn D σ H2 _ Y q2) λG s3=>ε2 λu Z=>θ2 λI3 pu q3=>(aG ?_))));obtain⟨T,id,J,F,hg⟩:=O zn _ σ Z x v vl G l u _ Q (I3.kept λb ob g=>aW _ g) r1 (Heap.IsSliceOf.new ..) pl pu q3;exact tail_any F J hg Vg⟩
def Zp{X:Cx}{a:Aw}{b:Aw}{r:R2}(T:d5 X r)(F:QE X a A)(C:QE X b J)(G:Sv b:=by exactλ_ _=>U):QE X (.Subscript a b p) (E1 r A J):=⟨by
 intro zn s σ H Q I h;exact Subscript_ (AF F.out C.out I h λv u g x y H2 B D O q=>T a b zn g σ H2 x y v u Q B D O q (G _ _))⟩
def Tf{st:Ax}:QS b st NQ:=⟨Zjz ⟩
def x9(h:QW b e t):QT b e t:=⟨h.out.pt⟩
end L2
set_option maxHeartbeats 4000000
namespace L2
def vp(cells:List (Str×Av)):List (Str×NameKind)->List (Str×Av)->List (Str×Av)
 |[],acc=>acc
 |(n,k)::r,acc=>vp cells r (if(k == NameKind.free)=true then(n,(cells.lookup n).getD 0)::acc else acc)
noncomputable def vq:∀(sw:List (Str×NameKind))(acc:List (Str×Av)),(∀y∈sw,y.2=.free->∃c,env.cells.lookup y.1=some c)->
  (forIn sw acc λ(x:Str×NameKind) (r:List (Str×Av))=>match x with
   | (name,kind)=>if (kind == NameKind.free)=true then do let a <-cellOf env name;pure (ForInStep.yield ((name,a)::r)) else pure (ForInStep.yield r):Sem (List (Str × Av)))=pure (vp env.cells sw acc)
 |[],acc,_=>rfl
 |(n,k)::r,acc,h=>by
  rw[LI];have C:=λg=>vq r g λy D=>h y (cA _ D)
  by_cases B:(k == NameKind.free)=true
  .obtain⟨c,F⟩:=h (n,k) bN Vd;have q:=F;have e:cellOf env n=pure c:=by unfold cellOf;rw[q]
   simp only[B,e];rw[vp,aN B,q];exact C _
  .rw[vp];simp only[B];exact C acc
def G6(h:∀y∈ut.names,y.2=.free->∃c,env.cells.lookup y.1=some c):closureFor ut env=pure (vp env.cells ut.names []):=by
 show(do let r <-_;pure r)=_;rw[vq _ [] h];rfl
noncomputable def qA:∀{sw:List (Str×NameKind)} {acc:List (Str×Av)},(∀y∈sw,y.2=.free->∃c,cells.lookup y.1=some c)->(∀x c,acc.lookup x=some c->cells.lookup x=some c)->
  ∀x c,(vp cells sw acc).lookup x=some c->cells.lookup x=some c
 |[],acc,_,C,x,c,h=>C x c h
 |(n,k)::r,acc,F,C,x,c,h=>by
  refine qA (λy B=>F y (cA _ B)) (λy d g=>?_) x c h
  by_cases I:(k == NameKind.free)=true
  .rw[aN I]at g;obtain⟨e,G⟩:=F (n,k) bN Vd;have q:=G;rw[q,pZ]at g;cases B:y == n with
   |true=>
    rw[B]at g;have D:y=n:=Vd
    rw[D,q];exact g
   |false=>
    rw[B]at g;exact C y d g
  .grind
theorem gn:∀{sw:List (Str×NameKind)} {acc:List (Str×Av)} {x:Str},(∃c,acc.lookup x=some c)->∃c,(vp cells sw acc).lookup x=some c
 |[],acc,x,h=>h
 |(n,k)::r,acc,x,h=>by
  rw[vp];refine gn ?_
  by_cases g:(k == NameKind.free)=true
  .grind
  .rw[aL g];exact h
theorem G7:∀{sw:List (Str×NameKind)} {acc:List (Str×Av)} {x:Str},sw.lookup x=some .free->∃c,(vp cells sw acc).lookup x=some c
 |[],acc,x,h=>by cases h
 |(n,k)::r,acc,x,h=>by
  rw[vp];rw[pZ]at h;cases hx:x == n with
  |true=>
   rw[hx]at h;refine gn ?_;rw[Option.some.inj h,aN (by rfl),pZ,hx];exact⟨_,U⟩
  |false=>
   rw[hx]at h;exact G7 h
noncomputable def zh{ut:Scope}{env:Env}(q:env.scope.kind=.function):∀{sw:List (Str×NameKind)} {x:Str},sw.lookup x=some .free->env.kindOf x=some .cell->
  (sw.map λ(n,k)=>if(k == NameKind.free&&env.scope.kind == .function&&env.kindOf n == some .cell)=true then(n,NameKind.cell)else(n,k)).lookup x=some .cell
 |[],_,h,_=>by cases h
 |(n,k)::r,x,h,B=>by
  rw[pZ]at h;show List.lookup x ((if(k == NameKind.free&&env.scope.kind == .function&&env.kindOf n == some .cell)=true then(n,NameKind.cell)else(n,k))::_)=_;cases hx:x == n with
  |true=>
   rw[hx]at h;have g:x=n:=Vd
   rw[Option.some.inj h,q,<-g,B];simp
  |false=>
   rw[hx]at h;have C:=zh (ut:=ut) q h B
   by_cases D:(k == NameKind.free&&env.scope.kind == .function&&env.kindOf n == some .cell)=true
   .grind
   .grind
def qB{env:Env}:∀{sw:List (Str×NameKind)} {x:Str},sw.lookup x=some .free->env.kindOf x=some .free->
  (sw.map λ(n,k)=>if(k == NameKind.free&&env.scope.kind == .function&&env.kindOf n == some .cell)=true then(n,NameKind.cell)else(n,k)).lookup x=some .free
 |[],_,h,_=>by cases h
 |(n,k)::r,x,h,q=>by
  rw[pZ]at h;show List.lookup x ((if(k == NameKind.free&&env.scope.kind == .function&&env.kindOf n == some .cell)=true then(n,NameKind.cell)else(n,k))::_)=_;cases hx:x == n with
  |true=>
   rw[hx]at h;have g:¬(k == NameKind.free&&env.scope.kind == .function&&env.kindOf n == some .cell)=true:=Vd
   rw[aL g,pZ,hx,Option.some.inj h]
  |false=>
   rw[hx]at h;have B:=qB h q
   by_cases g:(k == NameKind.free&&env.scope.kind == .function&&env.kindOf n == some .cell)=true
   .grind
   .grind
theorem zi{env:Env}:∀{sw:List (Str×NameKind)} {x:Str},(∀y∈sw,y.2≠.cell)->
    ((sw.map λ(n,k)=>if(k == NameKind.free&&env.scope.kind == .function&&env.kindOf n == some .cell)=true then(n,NameKind.cell)else(n,k)).lookup x=some .cell \/
     (sw.map λ(n,k)=>if(k == NameKind.free&&env.scope.kind == .function&&env.kindOf n == some .cell)=true then(n,NameKind.cell)else(n,k)).lookup x=some .free)->sw.lookup x=some .free
  |[],_,_,h=>Vd
  |(n,k)::r,x,q,h=>by
    have B:=zi (env:=env) (x:=x) λy g=>q y (cA _ g)
    by_cases C:(k == NameKind.free&&env.scope.kind == .function&&env.kindOf n == some .cell)=true
    . grind
    . grind
def fX(X:Cx)(N':Ai)(ut:Scope)(C:Av)(s₂:Ar)(H₂:Hp)(ex:List Av):Cx:=
 {X with N:=N',s₀:=s₂,H₀:=H₂,env:=compEnvC ut (vp X.env.cells ut.names []) C X.env,outer:=X.stack,stack:=X.stack,ex:=ex,fn:=λ_=>false,pn:=[],xe:=λ_ _=>False}
def xx(is:Aj)(σ:St)(v:Option V):St:=v::is.map λi=>(σ[i]?).getD none
def ET(xs:Ai)(is:Aj)(σ:St):St:=xs.map (λ_=>none)++is.map λi=>(σ[i]?).getD none
structure Ye(S ut:Scope)(N:Ai)(x:Str)(ys:Ai)(is:Aj):Prop where
 kind:ut.kind=.function:=by rfl
 cell:∀y∈ut.names,y.2≠.cell:=by decide +kernel
 names:∀y∈ut.names,y.2=.local->ut.names.lookup y.1=some .local:=by decide +kernel
 own:ut.names.lookup x=some .local:=by rfl
 free:∀y∈ut.names,y.2=.free->S.names.lookup y.1=some .cell\/S.names.lookup y.1=some .free:=by decide +kernel
 E6:∀p∈ys.zip is,N[p.2]?=some p.1/\ut.names.lookup p.1=some .free:=by decide +kernel
 len:ys.length=is.length:=by rfl
 nd:(x::ys).Nodup:=by decide +kernel
def PF(X:Cx)(ifs:Am)(t:TT):Prop:=
 ∀(zn:Ac)(s:Ar)(σ:St)(H:Hp)(Q:Bool->Hp->Prop),aE X zn σ H s->t σ H Q->
  A3 X (forIn ifs true λc r=>if r=true then do let ok <-isTrue c X.env (eval c X.env);pure (ForInStep.yield ok)else pure (ForInStep.yield r)) (TP X zn σ Q) X.xe s
structure QF(X:Cx)(ifs:Am)(t:TT):Prop where
 out:PF X ifs t
def oU:TT:=λ_ H Q=>Q true H
def YZ:QF b [] oU:=⟨λ_ _ _ H _ I h=>wpAny_tests_nil ⟨H,I,h⟩⟩
def jq{c:Aw}{t:TT}(h:QT b c t):QF b [c] t:=⟨λzn s σ H Q I hw=>wpAny_tests_one (h.out zn s σ H Q I hw)⟩
section
variable {X:Cx}{S ut:Scope}{N:Ai}{x:Str}{ys:Ai}{is:Aj}{zn:Ac}{σ:St}{H₂:Hp}{s₂:Ar}{fp:List Av}
theorem Ye.gB(K:Ye S ut N x ys is)(q:X.env.scope=S)(ok:X.Ok):∀y∈ut.names,y.2=.free->∃c,X.env.cells.lookup y.1=some c:=λy g h=>
 ok.has y.1 (by show X.env.scope.names.lookup y.1=_\/X.env.scope.names.lookup y.1=_;rw[q];exact K.free y g h)
theorem Ye.cl(K:Ye S ut N x ys is)(g:X.env.scope=S)(ok:X.Ok):∀y c,(vp X.env.cells ut.names []).lookup y=some c->X.env.cells.lookup y=some c:=
 qA (K.gB g ok) λ_ _ z=>by cases z
theorem QD{sw:List (Str×NameKind)}{y:Str}{k:NameKind}(h:sw.lookup y=some k):(y,k)∈sw:=by
 induction sw with
 |nil=>cases h
 |cons p r g=>
  obtain⟨n,q⟩:=p;rw[pZ]at h;cases hx:y == n with
  |true=>
   rw[hx]at h;have e1:y=n:=Vd
   rw[e1,Option.some.inj h];exact bN
  |false=>
   rw[hx]at h;exact cA _ (g h)
theorem LU(K:Ye S ut N x ys is)(C:X.env.scope=S)(I:aE X zn σ H₂ s₂)(D:s₂.heap.objs.size<=a)(g:∀b∈fp,z6 X zn H₂ b)(B:∀b∈fp,b<s₂.heap.objs.size):(fX X ns ut a s₂ H₂ fp).Ok where
 mod:=I.ok.mod
 kind:=K.kind
 glob:=I.ok.glob
 blt:=I.ok.blt
 above:=D
 inj:=λy z c h1 h2=>I.ok.inj y z c (K.cl C I.ok y c h1) (K.cl C I.ok z c h2)
 has:=λy F=>G7 (zi K.cell F)
 B6:=λy c h=>by cases h
 hd:=I.ok.hd
 frames:=I.ok.frames
 nY:=.inl U
 EE:=λb q=>⟨λe=>absurd (iA (B b q) (bS D (DD (Eq.symm e)))) (fU _),λy c h=>(g b q).2.2.2.2.1 y c (K.cl C I.ok y c h)⟩
 bs:=I.bs
 mG:=bS I.ok.mG I.sz
 mQ:=λb o e q=>by
  rcases(g b q).2.2.2.1 with z|z
  .exact I.ok.mQ b o e z
  .exact absurd (iA (bE e) (bS I.ok.mG z)) (fU _)
 mL:=λb q z=>by
  rcases bR.mp (I.hG b z)with e|e
  .exact(g b q).2.1 e
  .exact(g b q).2.2.1 e
 cT:=I.stack
 oP:=I.lP
def SA(xs:Ai)(K:Ye S ut N x ys is)(G:X.env.scope=S)(hN:X.N=N)(hk:S.kind=.function)(I:aE X zn σ H₂ s₂){g:Heap}{tk:Nat}{oD:Obj}(hC:s₂.heap.objs.size<=a)(hD:s₂.heap.objs.size<=f)(Y:f≠a)
  (hfp:∀b∈fp,z6 X zn H₂ b) (T:∀b∈fp,b<s₂.heap.objs.size) (q:∀b o,s₂.heap.get? b=some o->g.get? b=some o) (hn:g.Ns a λ_=>none) (F:g.get? f=some oD) (hod:∀v,oD.data≠.cell v):
  aE (fX X (xs++ys) ut a s₂ H₂ fp) [(f,oD)] (ET xs is σ) H₂ {s₂ with heap:=g,toks:=tk}:=by
 have ok:=LU (ns:=xs++ys) K G I hC hfp T;refine⟨ok,U,I.bare,Un.kept q,⟨_,hn,λi y v h1 h2 h3=>?_⟩,λy c h=>?_,I.aK.fresh hC,λy c h=>I.cN y c (K.cl G I.ok y c h),λp hp=>?_,I.aK.kept q,?_⟩
 .unfold ET at h2
  by_cases hi:i<xs.length
  .grind
  .have B:(xs++ys)[i]?=some y:=h1;rw[eL (FV hi)]at B;rw[eL (by rw[aI];exact FV hi),aI]at h2;generalize i-xs.length=i at B h2;have C:=h2;rw[aY]at C;cases hj:is[i]? with
   |none=>rw[hj]at C;cases C
   |some j=>
    have Z:σ[j]?=some (some v):=Vd
    have hz:(y,j)∈ys.zip is:=by
     obtain⟨a1,e1⟩:=bM.mp B;obtain⟨a2,e2⟩:=bM.mp hj;rw[<-e1,<-e2,<-LC (h:=by grind)];exact f7 _
    obtain⟨v1,Q⟩:=K.E6 _ hz;have D:X.env.kindOf y=some .cell\/X.env.kindOf y=some .free:=by show X.env.scope.names.lookup y=_\/X.env.scope.names.lookup y=_;rw[G];exact K.free _ (QD Q) U
    obtain⟨m,hm,hl⟩:=I.loc;obtain⟨u,r,l⟩:=hl j y v Vd Z (.inr D);refine⟨u,r,.inr ?_⟩;rcases l with⟨l1,_⟩|⟨_,c,l2,l3⟩
    .rcases D with D|D<;>rw[D]at l1<;>cases l1
    .obtain⟨c',J⟩:=G7 Q;have e:=by have:=K.cl G I.ok y c' J;rw[l2]at this;exact(Option.some.inj this).symm
     subst e;refine⟨D.imp (zh (ut:=ut) Vd Q) (qB Q),c',J,?_⟩;obtain⟨o,O,hd⟩:=l3;exact⟨o,q _ _ O,hd⟩
 .obtain⟨v,o,O,hd⟩:=I.cell y c (K.cl G I.ok y c h);exact⟨v,o,q _ _ O,hd⟩
 .have e:=by simpa[fX]using hp
  subst e;refine⟨F,I.aK.fresh hD,Y,λz=>?_,hod⟩;obtain⟨_,o,O,_⟩:=ok.cT.mem z;exact absurd (iA (bE O) hD) (fU _)
 .show(ET xs is σ).length=(xs++ys).length;unfold ET;rw[aZ,aI,aI,aZ,K.len]
def Uv(I:aE X zn σ H₂ s₂){N':Ai}{G:St}{H':Hp}{pl:Ac}(F:aE (fX X N' ut a s₂ H₂ fp) pl G H' s)(O:s₂.heap.objs.size<=f)(D:H' f=none)
  (g:∀b∈fp,z6 X zn H₂ b)  {C:Ag}  (hz:m.length<=sizeLine) (r:aJ m C) (Q:s.heap.get? f=some {cls:=.type "list",data:=.seq C.toArray n}):
  aE X zn σ (aC H' f (.lst m)) s:=by
 have b:=F.base;have J:=I.aK.fresh O;refine I.rS F.os ⟨b.keep,b.slot,λc o e n T=>?_,b.there,λc xs e=>?_,λc o u e=>?_,λc ps e=>?_⟩ (λc u e=>?_) F.bare λc B=>⟨(g c B).2.2.2.1,(g c B).2.1,(g c B).2.2.2.2.1,(g c B).2.2.2.2.2⟩
 .rw[Zk ((λc o e z=>absurd (iA (bE e) (bS O (DD (Eq.symm z)))) (fU _)) c o e)];exact b.free c o e n T
 .rw[Zk (Zo e J)];exact b.a7 c xs e
 .rw[Zk (Zo e J)];exact b.eU c o u e
 .rw[Zk (Zo e J)];exact b.fJ c ps e
 .by_cases B:c=f
  .subst B;rw[Za]at e;cases e;exact⟨hz,C,n,r,Q⟩
  .rw[Zk B]at e;exact(F.aK c u e).cI (λ_ _ _ q=>q) (λd q=>by rw[Zk (Zo q D)];exact q) λd xs q=>by rw[Zk (Zo q D)];exact q
end
section
variable {ww:Ao}{w:As}{A:Aq}{R:Result->Shared->Prop}{s:Ar}
def Zgb{g iter:Aw}{ut:Scope}{it acc:Au}{env:Env}(I:Nat->Shared->Prop)
  (Y:∀n s,I n s->A2 ww w A (pyNext it) (λr q=>match r with
   |none=>R (.ok .next) q
   |some v=>A2 ww w A (letOwnedTupleGo g it v) (λ_ C=>A2 ww w A (assign g env v) (λ_ s₂=>
     A2 ww w A (forIn G true λc r=>if r=true then do let ok <-isTrue c env (eval c env);pure (ForInStep.yield ok)else pure (ForInStep.yield r)) (λok B=>
      if ok=true then A2 ww w A (eval o env) (λx O=>
       A2 ww w A (call (.builtin "list.append") [acc,x]) (λ_ F=>∃m,m<n/\I m F) (λ_ _=>False) O) (λ_ _=>False) B
      else∃m,m<n/\I m B) (λ_ _=>False) s₂) (λ_ _=>False) C) (λ_ _=>False) q) (λ_ _=>False) s)
  (n:Nat) (h:I n s):
  codeAny (model ww w) A (.compLoop (.ListComp o [⟨g,iter,G,0⟩] ut p) 0 it acc env) R s:=by
 refine codeAny_loop U I (λn s hI=>(wpAny_noted ?_)) n h;have T:∀{E:Ab} (e:Au) (s':Ar),False->E e s':=λ_ _ z=>z.elim;refine ab (wpAny_standAt (ab (iJ (Y n s hI) (λr q J=>?_) T)));cases r with
 |none=>exact aG J
 |some v=>
  refine ab (iJ J (λ_ C Q=>(ab (iJ Q (λ_ s₂ h₂=>ab (iJ h₂ (λok B D=>?_) T)) T))) T);cases ok with
  |false=>exact aG ⟨U,D⟩
  |true=>
   exact ab (ab (iJ D (λx O h₄=>ab (iJ h₄ (λ_ F Z=>aG (aG ⟨U,Z⟩)) T)) T))
end
def gp(g:TG)(Sg:St->Prop)(tc:TT)(te:TE)(Q:VK)(J:It)(H1:Hp):Prop:=∃W:Nat->Nat->List V->Hp->Prop,(∃m,W 0 m [] H1)/\∀i m zs H,W i m zs H->
 (J.stop i H/\zs.length<=sizeLine/\∀p,H p=none->Q (.ref p) (aC H p (.lst zs))) \/
 (J.go i H/\zs.length<=sizeLine/\∀x H',J.Bq i H x H'->∃q,Sg q/\(∀C,Sg C->g x C H' λD H2=>D=q/\H2=H')/\tc q H' λb H2=>if b=true then te q H2 λy F=>∃B,B<m/\W (i+1) B (zs++[y]) F else∃B,B<m/\W (i+1) B zs H2)
structure Fc(X:Cx)(S ut:Scope)(N:Ai)(x:Str)(ys:Ai)(is:Aj)(xs:Ai)(tg:Aw)(g:TG)(Sg:St->St->Prop):Prop where
 sc:Ye S ut N x ys is
 hX:X.env.scope=S
 hN:X.N=N
 hk:S.kind=.function
 hc:X.calm=true
 pg:∀C s₂ H₂ fp,PG (fX X (xs++ys) ut C s₂ H₂ fp) tg g
 s0:∀σ,Sg σ (ET xs is σ)
def JT(is:Aj)(tc:TT)(te:TE)(σ:St)(Q:VK)(J:It)(H1:Hp):Prop:=∃W:Nat->Nat->List V->Hp->Prop,(∃m,W 0 m [] H1)/\∀i m zs H,W i m zs H->
 (J.stop i H/\zs.length<=sizeLine/\∀p,H p=none->Q (.ref p) (aC H p (.lst zs))) \/
 (J.go i H/\zs.length<=sizeLine/\∀x H',J.Bq i H x H'->tc (xx is σ (some x)) H' λb H2=>if b=true then te (xx is σ (some x)) H2 λy q=>∃g,g<m/\W (i+1) g (zs++[y]) q else∃g,g<m/\W (i+1) g zs H2)
def Oy(wi:TI)(is:Aj)(tc:TT)(te:TE):TE:=λσ H Q=>wi σ H (JT is tc te σ Q)
section
variable {X:Cx}{S ut:Scope}{N:Ai}{x:Str}{ys:Ai}{is:Aj}{zn:Ac}{σ:St}{H₂:Hp}{s₂:Ar}{fp:List Av}{elt iter:Aw}{px pos:Pos}{ifs:Am}{tc:TT}{te:TE}{xs:Ai}{tg:Aw}{g:TG}{Sg:St->St->Prop}{wi:TI}{CW:St->VK->It->Hp->Prop}
def vt{J:It}{it:Av}{tn:Nat->Heap->Prop}{Q:VK}{RR:Au->Addr->Result->Shared->Prop}{E:Ab}(L:Fc X S ut N x ys is xs tg g Sg)
  (hf:∀C s₂ H₂ ex,QF (fX X (xs++ys) ut C s₂ H₂ ex) ifs tc) (he:∀C s₂ H₂ ex,QE (fX X (xs++ys) ut C s₂ H₂ ex) elt te)
  (I:aE X zn σ H₂ s₂) (T:eA X.prog X.w X.K tg J fp it tn) (st:tn 0 s₂.heap) (hfp:∀b∈fp,z6 X zn H₂ b)
  (hw:gp g (Sg σ) tc te Q J H₂)
  (fin:∀D C s' H' m',aE X zn σ H' s'->z6 X zn H' C->s'.heap.Ns C m'->Q (.ref D) H'->RR (.ref D) C (.ok .next) s'):
  A3 X (newList []) (λacc G=>A3 X (newFunctionEnv ut X.env.globals (vp X.env.cells ut.names []) [] X.env.qual none .none (some X.env)) (λcenv s₄=>
   codeAny (model X.prog X.w) X.A (.compStart (.ListComp elt [⟨tg,iter,ifs,0⟩] ut pos) 0 (.ref it) acc {cenv with scope:=relabel ut X.env}) (RR acc cenv.locals) s₄) E G) E s₂:=by
 obtain⟨W,⟨m0,w0⟩,turn⟩:=hw;have K:=L.sc;refine fA (wpAny_newFunctionEnv K.cell (by intro y hy;simp at hy) (λh₁ O F=>?_) K.kind);generalize hH2:s₂.heap.push _=H2 at O F ⊢;have hCs:H2.objs.size=s₂.heap.objs.size+1:=by rw[<-hH2,iL]
 have hDC:s₂.heap.objs.size≠H2.objs.size:=by rw[hCs];exact cQ (tI _)
 have hC:s₂.heap.objs.size<=H2.objs.size:=by rw[hCs];exact nG _
 have hlt:∀b∈fp,b<s₂.heap.objs.size:=λb B=>by obtain⟨o,e,_⟩:=T.obj 0 _ st b B;exact bE e
 have old:=λb o e=>F.extBut b o (by rw[hCs];exact cQ (DL (bE e))) (aW _ (hH2 ▸ aW _ e));have Z:tn 0 h₁:=T.keep _ _ _ st λb _ o e=>old b o e;have fpC:∀{H':Hp} {pl:Ac},(∀p∈pl,∀b∈fp,p.1≠b)->(∀b∈fp,H' b=none)->∀b∈fp,z6 _ pl H' b:=λ{H' pl} hpl hn b B=>by
  have ok:=LU (ns:=xs++ys) K L.hX I hC hfp hlt;exact⟨hn b B,(ok.EE b B).1,ok.mL b B,.inl B,(ok.EE b B).2,λp hp=>hpl p hp b B⟩
 have Dfp:∀(o:Obj),∀p∈[(s₂.heap.objs.size,o)],∀b∈fp,p.1≠b:=λo p hp b B e=>by
  grind
 have loop:∀G:Ar,G={s₂ with heap:=h₁,toks:=s₂.toks+([]:List (Str×Au)).length}->
   codeAny (model X.prog X.w) X.A (.compLoop (.ListComp elt [⟨tg,iter,ifs,0⟩] ut pos) 0 (.ref it) (.ref s₂.heap.objs.size) (compEnvC ut (vp X.env.cells ut.names []) H2.objs.size X.env))
    (RR (.ref s₂.heap.objs.size) H2.objs.size) G:=by
  rintro G rfl;have I0:=SA xs K L.hX L.hN L.hk I (tk:=s₂.toks+([]:List (Str×Au)).length) hC (aM _) hDC hfp hlt old O (F.extBut _ _ hDC (aW _ (hH2 ▸ bY _ U))) (λv z=>by cases z);refine Zgb (λn s'=>∃(i:Nat)(σ1:St)(zs:A1)(Y:Ag)(k:Nat)(H':Hp),aE _ [(s₂.heap.objs.size,{cls:=.type "list",data:=.seq Y.toArray k})] σ1 H' s'/\Sg σ σ1 /\
   aJ zs Y/\tn i s'.heap/\(∀b∈fp,H' b=none)/\W i n zs H') ?_ m0 ⟨0,_,[],[],0,H₂,I0,L.s0 σ,.nil,Z,λb B=>(hfp b B).1,w0⟩
  refine λn s3=>ε6 λi σ1 zs Y k H3=>θ5 λI3 sg3 rv st3 fr3 w3=>?_;rcases turn i n zs H3 w3 with⟨stop,hz,q⟩|⟨go,hz,step⟩
  .refine aP (T.done (fX X (xs++ys) ut H2.objs.size s₂ H₂ fp) U U U L.hc i _ s3 _ H3 _ I3 (fpC (Dfp _) fr3) st3 stop) λr s4 ⟨hr,I4⟩=>?_
   subst hr;have hD4:=I4.pin _ (dW _ (b9.mpr U));have I5:=Uv I I4 (aM _) hD4.2.1 hfp hz rv hD4.1;obtain⟨m',hm',_⟩:=I4.loc;refine fin _ _ s4 _ m' I5 ?_ hm' (q _ hD4.2.1);refine I.dZ hC ?_;rw[Zk (eV hDC)];exact I4.free
  .refine aP (T.item (fX X (xs++ys) ut H2.objs.size s₂ H₂ fp) U U U L.hc i _ s3 _ H3 _ I3 (fpC (Dfp _) fr3) st3 go) λr s4 ⟨u,hr,h4⟩=>?_
   subst hr;refine aP h4 λ_ s5=>ε2 λxv H5=>θ4 λI5 r5 y5 st5 fr5=>?_;have I5':=I5.pinned (fpC (Dfp _) fr5) (T.obj _ _ st5);refine ω (step xv H5 y5) (ε1 λσx=>θ2 λsgx gx stp=>?_);refine aP (L.pg _ _ _ _ _ s5 _ H5 xv u (λσ2 H2=>σ2=σx/\H2=H5) I5' r5 (gx _ sg3)) λ_ s6=>ε2 λσ6 H6=>θ2 λI6 e6 e6'=>?_;subst e6;subst e6';have back:∀{s7:Ar} {H7:Hp},aE (fX X (xs++ys) ut H2.objs.size s₂ H₂ fp) ([(s₂.heap.objs.size,{cls:=.type "list",data:=.seq Y.toArray k})]++Hr fp s5.heap) (σ6) H7 s7->
     tn (i+1) s7.heap/\(∀b∈fp,H7 b=none)/\s7.heap.get? s₂.heap.objs.size=some _/\H7 s₂.heap.objs.size=none:=λ{s7 H7} I7=>by
    refine⟨T.keep _ _ _ st5 λb B o e=>(I7.pin (b,o) (dW _ (dW _ (G4 B e)))).1,λb B=>?_,?_,?_⟩
    .obtain⟨o,e,d⟩:=T.obj _ _ st5 b B;exact(I7.pin (b,o) (dW _ (dW _ (G4 B e)))).2.1
    .exact(I7.pin _ (dW _ (iQ _ (b9.mpr U)))).1
    .exact(I7.pin _ (dW _ (iQ _ (b9.mpr U)))).2.1
   refine aP ((hf _ _ _ _).out _ s6 _ H6 _ I6 stp) λb s7 ⟨H7,I7,q7⟩=>?_;cases b with
   |false=>
    have q7':=by simpa using q7
    obtain⟨m',hm',w7⟩:=q7';refine ω (back I7) (θ3 λb1 b2 b3 b4=>?_);exact⟨m',hm',i+1,_,zs,Y,k,H7,I7.c5,sgx,rv,b1,b2,w7⟩
   |true=>
    have q7':=q7;refine aP ((he _ _ _ _).out _ s7 _ H7 _ I7 q7') λyv s8 ⟨y,H8,I8,r8,m',hm',w8⟩=>?_;refine ω (back I8) (θ3 λb1 b2 b3 b4=>?_);refine append_at b3 (λh9 sb9 e9=>?_) (by rw[nA,<-rv.length];exact hz);have ok:=LU (ns:=xs++ys) K L.hX I hC hfp hlt;have I9:aE _ [] (σ6) H8 {s8 with heap:=h9}:=(I8.dP λp hp=>by cases hp).turned (t':=s8.toks) (it:=s₂.heap.objs.size) (λb o B e=>(sb9.2 b B).trans e) b4 hDC (.inr (aM _))
     (λy c h z=>by
      obtain⟨v,o,ho,_⟩:=I.cell y c (K.cl L.hX I.ok y c h);have:=bE ho;rw[z]at this;exact fU _ this) (λp hp=>by cases hp)
    refine⟨m',hm',i+1,_,zs++[y],Y++[yv],k+1,H8,?_,sgx,rv.append (.cons r8 .nil),T.keep _ _ _ b1 λb B o e=>(sb9.2 b λz=>absurd (hlt b B) (by rw[z];exact fU _)).trans e,b2,w8⟩;refine I9.dP λp hp=>?_;have e1:=by simpa using hp
    subst e1;refine⟨by rw[e9,List.push_toArray],b4,hDC,λz=>?_,λv z=>by cases z⟩;obtain⟨_,o,ho,_⟩:=ok.cT.mem z;exact absurd (bE ho) (fU _)
 exact codeAny_compStart_list (loop _ U) (T.self _ 0 _ _ _ Z (loop _ U))
end
section
variable {X:Cx}{S ut:Scope}{N:Ai}{x:Str}{ys:Ai}{is:Aj}{elt iter:Aw}{px pos:Pos}{ifs:Am}{wi:TI}{tc:TT}{te:TE}{xs:Ai}{tg:Aw}{g:TG}{Sg:St->St->Prop}{CW:St->VK->It->Hp->Prop}
def NG(L:Fc X S ut N x ys is xs tg g Sg)(cv:∀σ Q J H,CW σ Q J H->gp g (Sg σ) tc te Q J H)(hi:QI X tg iter wi)(Z:∀C s₂ H₂ ex,QF (fX X (xs++ys) ut C s₂ H₂ ex) ifs tc)(he:∀C s₂ H₂ ex,QE (fX X (xs++ys) ut C s₂ H₂ ex) elt te)
  (hs:∀v,foldedSetIterable iter X.env v=pure v:=by intro _;rfl):
  QE X (.ListComp elt [⟨tg,iter,ifs,0⟩] ut pos) (λσ H Q=>wi σ H (CW σ Q)):=by
 refine⟨λzn s σ H Q I h=>(wpAny_comprehension_free U hs (G6 (L.sc.gB L.hX I.ok)) L.sc.kind L.sc.names (aP (hi.out zn s σ H _ I h) λv s1 h1=>aP h1 λitv s2 h2=>?_))⟩;revert h2;refine ε5 λit fp tn J H2=>θ5 λzq0 I2 T F O w2=>?_;subst zq0;refine vt L Z he I2 T F O (cv _ _ _ _ w2) ?_;intro D C s' H' m' I' Y B q;revert Y;refine θ5 λf0 f1 f3 f4 f5 f6=>?_;exact⟨m',B,λh' G=>⟨.ref D,H',I'.turned (λb o hb e=>(G.2 b hb).trans e) f0 f1 f4 f5 f6,U,q⟩⟩
def R6{y:Str}{spos:Pos}(Z:X.N.Nodup)(hy:X.N[i]?=some y)(hl:X.env.scope.names.lookup y=some .local)(L:Fc X S ut N x ys is xs tg g Sg)(cv:∀σ Q J H,CW σ Q J H->gp g (Sg σ) tc te Q J H)(hi:QI X tg iter wi)
  (hf:∀C s₂ H₂ ex,QF (fX X (xs++ys) ut C s₂ H₂ ex) ifs tc) (he:∀C s₂ H₂ ex,QE (fX X (xs++ys) ut C s₂ H₂ ex) elt te)
  (G:swapsWith (.ListComp elt [⟨tg,iter,ifs,0⟩] ut pos) (some (.Name y q)) spos.line X.env=pure true:=by rfl)
  (hs:∀v,foldedSetIterable iter X.env v=pure v:=by intro _;rfl):
  QS X (.Assign [.Name y q] (.ListComp elt [⟨tg,iter,ifs,0⟩] ut pos) spos) (sU (λσ H Q=>wi σ H (CW σ Q)) (JO i)):=by
 refine⟨λzn s σ H D I h=>?_⟩;rw[exec_Assign_Name_used _ _ _ _ G];refine ab (wpAny_standAt (ab ?_));refine ab (aP (wpAny_comprehension_free U hs (G6 (L.sc.gB L.hX I.ok)) L.sc.kind L.sc.names
  (aP (hi.out zn s σ H _ I h) λv s1 h1=>aP h1 λitv s2 h2=>?_)) λ_ s' hq=>aG (aG hq))
 revert h2;refine ε5 λit fp tn J H2=>θ5 λzq0 I2 T st2 f2 w2=>?_;subst zq0;refine vt L hf he I2 T st2 f2 (cv _ _ _ _ w2) ?_;intro Dl C s' H' m' I' fC hm' B;revert fC;refine θ5 λf0 f1 f3 f4 f5 f6=>?_;revert hm';refine ε3 λY es ep=>θ2 λhoC O hrC=>?_;have Ip:aE X (zn++[(C,Y)]) σ H' s':=I'.dP λp hp=>(dH.mp hp).elim (λz=>I'.pin p (dW _ z)) λz=>by
  simp_all
 refine wpAny_assign_Name (Jo Ip Z hy (.inl hl) (v:=.ref Dl) U (λs'' F=>⟨m',⟨Y,es,ep,(F.pin (C,Y) (dW _ (dW _ (b9.mpr U)))).1,O,hrC⟩,λh' hs'=>⟨_,H',F.c5.turned (λb o hb e=>(hs'.2 b hb).trans e) f0 f1 f4 f5 f6,B⟩⟩) (.inr hl))
theorem Q5(K:Ye S ut N x ys is)(D:X.env.scope=S)(q:X.N=N)(C:S.kind=.function)(B:X.calm=true):Fc X S ut N x ys is [x] (.Name x px) (JO 0) (λσ g=>∃v,g=xx is σ v):=
 ⟨K,D,q,C,B,λ_ _ _ _=>vY K.nd U (.inl (CO K.own)) (.inr (CO K.own)),λ_=>⟨none,U⟩⟩
theorem ND:∀σ Q J H,JT is tc te σ Q J H->gp (JO 0) (λg=>∃v,g=xx is σ v) tc te Q J H:=λσ Q J H ⟨W,q,t⟩=>
 ⟨W,q,λi m zs H w=>(t i m zs H w).imp_right λz=>⟨z.1,z.2.1,λx H' y=>⟨_,⟨_,U⟩,λg ⟨v,e⟩=>e ▸ ⟨U,U⟩,z.2.2 x H' y⟩⟩⟩
def Yy(K:Ye S ut N x ys is)(hi:QI X (.Name x px) iter wi)(q:∀C s₂ H₂ ex,QF (fX X (x::ys) ut C s₂ H₂ ex) ifs tc)(F:∀C s₂ H₂ ex,QE (fX X (x::ys) ut C s₂ H₂ ex) elt te)
  (B:X.calm=true:=by rfl) (I:X.env.scope=S:=by rfl) (g:X.N=N:=by rfl) (G:S.kind=.function:=by rfl) (D:∀v,foldedSetIterable iter X.env v=pure v:=by intro _;rfl):
  QE X (.ListComp elt [⟨.Name x px,iter,ifs,0⟩] ut pos) (Oy wi is tc te):=
 NG (Q5 K I g G B) ND hi q F D
def jr{y:Str}(B:X.N.Nodup)(D:X.N[i]?=some y)(G:X.env.scope.names.lookup y=some .local)(K:Ye S ut N x ys is)(hi:QI X (.Name x px) iter wi)
  (F:∀C s₂ H₂ ex,QF (fX X (x::ys) ut C s₂ H₂ ex) ifs tc) (I:∀C s₂ H₂ ex,QE (fX X (x::ys) ut C s₂ H₂ ex) elt te)
  (g:swapsWith (.ListComp elt [⟨.Name x px,iter,ifs,0⟩] ut pos) (some (.Name y p)) q.line X.env=pure true:=by rfl)
  (Q:X.calm=true:=by rfl) (Y:X.env.scope=S:=by rfl) (O:X.N=N:=by rfl) (J:S.kind=.function:=by rfl) (T:∀v,foldedSetIterable iter X.env v=pure v:=by intro _;rfl):
  QS X (.Assign [.Name y p] (.ListComp elt [⟨.Name x px,iter,ifs,0⟩] ut pos) q) (sU (Oy wi is tc te) (JO i)):=
 R6 B D G (Q5 K Y O J Q) ND hi F I g T
end
def LB{J:It}{is:Aj}(n:Nat)(g:Nat->List V->Hp->Prop)(G:g 0 [] H)(D:∀i zs H,g i zs H->zs.length<=sizeLine)
  (F:∀i zs H (R:A1->Hp->Prop),(∀zs H,g (i+1) zs H->R zs H)->i<n->g i zs H->J.go i H/\∀x H',J.Bq i H x H'->M (xx is c (some x)) H' λb H2=>if b=true then A (xx is c (some x)) H2 λy I=>R (zs++[y]) I else R zs H2)
  (O:∀zs H,g n zs H->J.stop n H/\∀p,H p=none->E (.ref p) (aC H p (.lst zs))):JT is M A c E J H:=by
 refine⟨λi m zs H=>m=n-i/\i<=n/\g i zs H,⟨n,Ve,cD _,G⟩,?_⟩;rintro i m zs H ⟨rfl,hi,p⟩
 by_cases B:i<n
 .have z:=F i zs H (λzs H=>∃C,C<n-i/\C=n-(i+1)/\i+1<=n/\g _ zs H) (λzs H q=>⟨_,Vc,U,B,q⟩) B p;exact .inr ⟨z.1,D i zs H p,z.2⟩
 .grind
theorem xA{lo:Int}{is:Aj}(g:Nat->List V->Hp->Prop)(D:g 0 [] H)(q:∀i zs H,g i zs H->zs.length<=sizeLine)
  (C:∀i zs H (R:A1->Hp->Prop),(∀zs H,g (i+1) zs H->R zs H)->i<n->g i zs H->M (xx is c (ad (lo+i))) H λb H2=>if b=true then A (xx is c (ad (lo+i))) H2 λy F=>R (zs++[y]) F else R zs H2)
  (B:∀zs H,g n zs H->∀p,H p=none->E (.ref p) (aC H p (.lst zs))):
  JT is M A c E (AW lo n) H:=
 LB n g D q (λi zs H R k hi p=>⟨hi,λx H' ⟨e,y⟩=>by subst e y;exact C i zs _ R k hi p⟩) λzs H p=>⟨aM _,B zs H p⟩
theorem Wv(g:Nat->List V->Hp->Prop)(F:g 0 [] H)(B:∀i zs H,g i zs H->zs.length<=sizeLine)(q:∀i zs H,g i zs H->aD K H a xs)
  (D:∀i x zs H (R:A1->Hp->Prop),(∀zs H,g (i+1) zs H->R zs H)->xs[i]?=some x->g i zs H->M (xx is c (some x)) H λb H2=>if b=true then A (xx is c (some x)) H2 λy G=>R (zs++[y]) G else R zs H2)
  (C:∀zs H,g xs.length zs H->∀p,H p=none->E (.ref p) (aC H p (.lst zs))):
  JT is M A c E (Be K a) H:=
 LB _ g F B (λi zs H R k hi p=>⟨⟨xs,xs[i],q i zs H p,aR hi⟩,λx H' ⟨e,y⟩=>e ▸ D i x zs H R k (y xs (q i zs H p)) p⟩) λzs H p=>⟨⟨xs,q _ zs H p,aM _⟩,C zs H p⟩
def qC{A:Aq}(g:JP k A):A.units<cLine:=g.CC
end L2
namespace RvT
theorem slot_next:Slot "reversed" "__next__" "reversed.__next__" :=
 .of (owner:= "reversed") (n:= "__next__") Vf Va Va Va
  (by first|exact .inl Va|exact .inr _) Vf
def eK:entryFor table "reversed.__next__" = some Builtin.«reversed.__next__»:=entryFor_of_tree Vf
def fW (a:Au):argsOk "reversed.__next__" ⟨[a],[]⟩:=by
 kernel_rfl
theorem gq:Slot "reversed" "__iter__" "reversed.__iter__" :=
 .of (owner:= "reversed") (n:= "__iter__") Vf Va Va Va
  (by first|exact .inl Va|exact .inr _) Vf
def WR (a:Au):argsOk "reversed.__iter__" ⟨[a],[]⟩:=by
 kernel_rfl
theorem RJ:entryFor table "reversed.__iter__" = some Builtin.«dict_keyiterator.__iter__» :=
 entryFor_alias (id':= "dict_keyiterator.__iter__") Vf (by first|rfl|decide +kernel|(unfold String.splitOn;simp +decide)) Va Vf
theorem Zge:Slot "reversed" "__init__" "object.__init__" :=
 .of (owner:= "object") (n:= "__init__") Vf Va Va Va
  (by first|exact .inl Va|exact .inr _) Vf
theorem called:TypeCalled "reversed" "reversed.__new__" "object.__init__" :=
 ⟨Ve,F.create_reversed,⟨_,_,F.mro_reversed⟩,F.made_reversed,F.plain_reversed_new,F.sub_reversed_self,Zge⟩
def UU:typeLookup (.type "tuple") "__reversed__" = pure none:=Vf
def sub_tuple_dict:isSubtype (.type "tuple") (.type "dict")=pure false:=Vf
def revObj (t:Av) (i:Int):Obj:={cls:=.type "reversed",data:=.fields #[.ref t,rawInt i]}
def cY (h:Heap) (a t:Av) (i:Int):Prop:=∃o,h.get? a=some o/\o.cls=.type "reversed" /\ o.data=.fields #[.ref t,rawInt i]
def cY.typeIs {i:Int} (x:cY s.heap a t i):s.TypeIs (.ref a) "reversed" :=let⟨o,ho,hc,_⟩:=x;⟨o,ho,hc⟩
def cY.at{t:Av}{i:Int}(x:cY h a t i)(e:∀o,h.get? a=some o->h'.get? a=some o):cY h' a t i:=let⟨o,ho,r⟩:=x;⟨o,e _ ho,r⟩
section
variable {ww:Ao}{w:As}{A:Aq}{E:Ab}{s:Ar}
theorem JU(t:Av)(items:Ah)(hz:items.size<2^63):
  Meets (Builtin.«reversed.__new__» ⟨[.type "reversed",.ref t],[]⟩) (λ_ R s=>IsTup s.heap t items/\∀tk,R (.ok (.ret (.ref s.heap.objs.size))) {s with heap:=s.heap.push (revObj t ((items.size:Int)-1)),toks:=tk}):=
 .of_wp λww w A R s h=>by
  obtain⟨g,h⟩:=h;refine ab (fH (newClass_reversed _) (ab (fH (by first|rfl|kernel_rfl) (ab (fH (by first|rfl|kernel_rfl) (ab (p4 g.typeIs UU ?_)))))));refine ab (ab (oX g.typeIs sub_tuple_dict ?_));refine ab (p4 g.typeIs tE.lookup (aG ?_));refine ab (len_tuple g Vc (ab (fH U (ab (m:=newObj _ (.fields #[.ref t,rawInt _])) (fA (aG ⟨_,U,h _⟩))))))
theorem nS{t:Av}{items:Ah}(q:IsTup s.heap t items)(hz:items.size<2^63)(h:∀tk,Q (.ref s.heap.objs.size) {s with heap:=s.heap.push (revObj t ((items.size:Int)-1)),toks:=tk}):
  A2 ww w A (call (.type "reversed") [.ref t]) Q E s:=
 FA called Vb (F.typeCall_reversed_1 _) (F.newCall_reversed_1 _) (λg=>KW g _) F.entry_reversed_new (JU t items hz)
  ⟨q,λtk=>⟨⟨_,bY _ U,U⟩,h tk⟩⟩
def next_item{it t:Av}{items:Ah}{x:Au}{Q:Aa}(g:cY s.heap it t (i:Int))(C:IsTup s.heap t items)(hi:(i:Int)<2^63)(D:items[i]?=some x)(G:t≠it)
  (F:∀h' tk,cY h' it t ((i:Int)-1)->Heap.SameBut it s.heap h'->Q (some x) {s with heap:=h',toks:=tk}):A2 ww w A (pyNext (.ref it)) Q E s:=by
 obtain⟨o,B,I,q⟩:=id g;refine ab (mO (wpAny_callSpecial?_slot g.typeIs slot_next
  (eT slot_next g.typeIs eK ?_ (fW _))))
 refine ab (fH U (ab (d7 B q U (ab (d7 B q U ?_)))));show wpAny _ _ _ _ _ s;refine ab (p4 C.typeIs tE.lookup (ab (Dc ?_)));have hsz:=(Array.getElem?_eq_some_iff.mp D).1;refine ab (mO (getItem_tuple C (by simp_all) hi (by rw[seqIndex_of Vc (by simp_all),dr]) D (ab (d7 B q U (ab (mU B q Ve (aG ⟨x,U,aG (F _ _ ?_ (lG ..))⟩)))))));exact⟨_,gV _ B (pL (iG q _)),(CH ..).trans I,by
  rw[iG q];simp⟩
def next_end{it t:Av}{Q:Aa}(hh:A.handled=none)(g:cY s.heap it t (-1))
  (D:∀h',(∀b o,b≠it->s.heap.get? b=some o->h'.get? b=some o)->Q none {s with heap:=h'}):A2 ww w A (pyNext (.ref it)) Q E s:=by
 obtain⟨o,B,F,q⟩:=id g;refine ab (mO (wpAny_callSpecial?_slot g.typeIs slot_next
  (eT slot_next g.typeIs eK ?_ (fW _))))
 refine ab (fH U ?_);refine ab (d7 B q U ?_);refine ab (d7 B q U ?_);show wpAny _ _ _ _ _ s;refine ab (iT (ab ?_));refine ab (mU B q Ve ?_);refine mU (gV _ B (pL (iG q _))) (iG q _) Ve ?_
 first
 |show wpAny _ _ Vc _ _ _
 |(refine ab ?_)
 refine ab (ab (fA ?_ (by size_fits)));refine ab (fH (by first|rfl|(rfl)) ?_);refine fA (ab (Dt ?_)) (by size_fits)
 first|rw[hh]|rw[hh]
 refine ab (aG (Dy ?_));refine ab (oX ⟨_,bY _ U,U⟩ Dj (aG (D _ λb ob C e=>?_)));exact aW _ (aW _ ((nK _ _ (eV C)).trans ((nK _ _ (eV C)).trans e)))
def cB{it t:Av}{i:Int}(g:cY s.heap it t i)(h:Q (.ref it) s):A2 ww w A (pyIter (.ref it)) Q E s:=by
 refine D9 g.typeIs gq (eT gq g.typeIs RJ (aG ⟨_,U,_,_,g.typeIs,slot_next.lookup,h⟩) (WR _))
end
end RvT
namespace L2
def Kl(K:Af)(a:Av)(n:Nat):It:=
 ⟨λi H=>∃xs x,aD K H a xs/\xs.length=n/\xs.reverse[i]?=some x,λi H x H'=>H'=H/\∀xs,aD K H a xs->xs.reverse[i]?=some x,λi _=>i=n⟩
def Zka{tg:Aw}(a it:Av)(n:Nat)(C:a≠it):eA P w K tg (Kl K a n) [it] it (λi h=>RvT.cY h it a ((n:Int)-1-(i:Int)))where
 mem:=Ve
 obj:=λi h st b B=>by
  have e:b=it:=Vd
  subst e;obtain⟨o,e,c,d⟩:=st;exact⟨o,e,λv z=>Vd⟩
 keep:=λi h h' st k=>st.at λo e=>k it Ve o e
 item:=by
  intro X Z hw Q hc i zn s σ H E I q st Y;subst Z hw Q;revert Y;refine ε2 λxs x=>θ2 λhq hn hx=>?_;refine ω (I.tuple hq) (ε1 λits=>θ2 λrv p hz=>?_);have hi:i<xs.length:=by
   grind
  have J:xs[xs.length-1-i]?=some x:=Vd
  obtain⟨u,hu,ru⟩:=rv.get J;refine ω (q it Ve) (θ5 λO f1 f2 F G T=>?_);have D:n-1-i=((xs.length-1-i:Nat):Int):=Vd
  have hl:=jk;rw[D]at st;refine RvT.next_item st p Vc (by simpa using hu) C λh' tk g sb=>?_;have e1:((xs.length-1-i:Nat))-1=n-1-((i+1):Int):=Vc
  rw[e1]at g;obtain⟨o,e,c,d⟩:=id g;exact⟨u,U,ke e c d Vb ⟨x,H,I.turned (λb o B e=>(sb.2 b B).trans e) O f1 F G T,ru,⟨U,λys hy=>by rw[I.d3 hy hq];exact hx⟩,g,λb B=>(q b B).1⟩⟩
 done:=by
  intro X Z hw Q hc i zn s σ H E I q st Y;subst Z hw Q;refine ω (q it Ve) (θ5 λO f1 f2 F G T=>?_);have hg':i=n:=Y;have D:n-1-(i:Int)=-1:=Vc
  rw[D]at st;exact RvT.next_end (I.ok.hd hc) st λh' eb=>⟨U,I.turned (by omega) O f1 F G T⟩
 self:=λ_ _ _ _ _ st h=>RvT.cB st h
inductive NB(K:Af)(R:It->Hp->Prop)(x:V)(H1:Hp):Prop
 |mk (a xs:_):(x=.ref a)->(aD K H1 a xs)->(R (Kl K a xs.length) H1)->NB K R x H1
def KA(K:Af)(te:TE):TI:=λσ H R=>te σ H λx H1=>NB K R x H1
def Pk {X:Cx} {tg:Aw}   (hg:Gl X "reversed") (J:X.mg "reversed" = none) (he:QE X e A) (Q:Yx e=true:=by rfl):QI X tg (.Call (.Name "reversed" p) [e] [] q) (KA X.K A):=by
 refine⟨λzn s σ H R I h=>?_⟩;have F:starEach [e] X.env=[(false,eval e X.env)]:=by rw[ZC Q];rfl
 refine Call_ (GN I hg J Zaa (AU ?_ F U));rw[F];refine oW (aP (he.out zn s σ H _ I h) λu G ⟨x,H1,C,T,Y⟩=>(Bs ?_));obtain⟨a,xs,rfl,hq,B⟩:=Y;cases T;obtain⟨g,rv,pt,hz⟩:=C.tuple hq;have hl:=jk;have D:=rv.length;refine RvT.nS pt Vd λtk=>?_;have O:xs.length-1-(0:Int)=g.toArray.size-1:=Vd
 have st:RvT.cY (G.heap.push (RvT.revObj a (g.toArray.size-1))) G.heap.objs.size a (xs.length-1-(0)):=by
  rw[O];exact⟨_,bY _ U,U,U⟩
 refine RvT.cB st ⟨_,_,_,_,H1,U,C.kept λb o e=>aW _ e,Zka a _ _ (cQ pt.lt),st,λb Z=>?_,B⟩;have e:=by simpa using Z
 subst e;exact C.dZ (aM _) (C.aK.fresh (aM _)) |> λf=>f
theorem OI{g:TG}(q:Nat->St->Hp->Prop)(G:q 0 c H)(D:∀i c H,i<=xs.length->q i c H->aD K H a xs)
  (F:∀i x c H,xs.reverse[i]?=some x->q i c H->g x c H λC H2=>B {Z with nx:=q (i+1),ct:=q (i+1),bk:=Z.nx} C H2) (I:∀c H,q xs.length c H->Z.nx c H):
  pB (Kl K a xs.length) g B Z c H:=
 ze _ q G (λi c H hi p=>⟨⟨xs,xs.reverse[i]' Vd,D i c H (a8 hi) p,U,aR _⟩,λx H' ⟨e,y⟩=>e ▸ F i x c H (y xs (D i c H (a8 hi) p)) p⟩) λc H p=>⟨U,I c H p⟩
end L2
namespace HT
section
variable {ww:Ao}{w:As}{A:Aq}{E:Ab}{s:Ar}
def dB{t:Av}{items:Ah}{F:Au}{lo hi:Option Int}(q:IsTup s.heap t items)(G:s.heap.IsSliceOf a v F .none)(pl:IsPart v lo)(I:IsPart F hi)
  (hw:bW items.size 0 lo=0/\bW items.size items.size hi=items.size) (h:Q (.ref t) s):A2 ww w A (getItem (.ref t) (.ref a)) Q E s:=by
 obtain⟨os,C,D,J⟩:=id G;have B:s.TypeIs (.ref a) "slice" :=⟨os,C,D⟩;unfold getItem;try with_reducible refine iZ ?_
 first|refine ab (aG ?_)|skip
 refine ab (wpAny_sequenceKey q.typeIs Vb ?_);refine ab (wpAny_callSpecial?_slot (name:=Str.ofString "__getitem__") q.typeIs tE
  (eT tE q.typeIs entry_tuple_getitem ?_ (args_tuple_getitem _ _)))
 show wpAny _ _ (Builtin.Tuple.tupleItemsOf (.ref t) >>= _) _ _ s;refine ab (tupleItemsOf_ q ?_);refine ab (B0 B ?_);refine ab (JB G pl I ?_);have g:(((bW items.size 0 lo:Nat):Int) == 0&&(1:Int) == 1&&(bW items.size items.size hi-bW items.size 0 lo) == items.size)=true:=by
  rw[hw.1,hw.2];simp
 show wpAny _ _ (if(((bW items.size 0 lo:Nat):Int) == 0&&(1:Int) == 1&&(bW items.size items.size hi-bW items.size 0 lo) == items.size)=true then _ else _) _ _ s;rw[aN g];refine ab (ab (B0 q.typeIs (aG ?_)))
 first
  |exact ab _
  |exact ab (iT (aG ⟨_,U,aG h⟩))
  |exact ab _
end
end HT
namespace L2
inductive N7(K:Af)(x:V)(lo:Option Int)(hi:Option Int)(H:Hp)(Q:VK):Prop
 |mk (a xs:_):(x=.ref a)->(aD K H a xs)->((HT.bW xs.length 0 lo=0/\HT.bW xs.length xs.length hi=xs.length))->(Q (.ref a) H)->N7 K x lo hi H Q
def Mt(K:Af):V->Option Int->Option Int->Hp->VK->Prop:=λx lo hi H Q=>N7 K x lo hi H Q
def Zoc:pD X (Mt X.K):=by
 rintro zn s σ H x v O Y lo hi T Q I D F pl C ⟨a,xs,rfl,J,hw,q⟩;cases D;obtain⟨G,r,B,hz⟩:=I.tuple J;have g:=r.length.symm;refine⟨"tuple",_,tE.lookup,B.typeIs,(HT.dB B F pl C Vd ⟨.ref a,H,I,U,q⟩)⟩
def NX:pD X (λx lo hi H Q=>∃z,x=.str z/\z.length<=sizeLine/\Q (.str (Txt.slice z lo hi)) H):=by
 rintro zn s σ H x v J T lo hi O Q I G g pl D ⟨z,rfl,hz,q⟩;obtain⟨t,rfl⟩:=G;refine⟨"str",_,F.slot_str_getitem.lookup,typeIs_str _ _ _,?_⟩;have fin:∀t' k,EP X zn σ Q (.str (Txt.slice z lo hi) t') {s with toks:=k}:=λt' k=>⟨.str _,H,I.tok _,⟨_,U⟩,q⟩;cases pl with
 |none=>
  cases D with
  |none=>exact Ic (l:=none) (u:=none) (st:=none) g U (FQ ⟨bS (CT z _ _) hz,fin⟩)
  |int j B=>exact Ic (l:=none) (u:=some (j,B)) (st:=none) g U (FQ ⟨bS (CT z _ _) hz,fin⟩)
 |int i C=>
  cases D with
  |none=>exact Ic (l:=some (i,C)) (u:=none) (st:=none) g U (FQ ⟨bS (CT z _ _) hz,fin⟩)
  |int j B=>exact Ic (l:=some (i,C)) (u:=some (j,B)) (st:=none) g U (FQ ⟨bS (CT z _ _) hz,fin⟩)
theorem xB{ys:Ai}:∀{g:Ag},aJ (ys.map V.str) g->StrsAre g ys:=by
 induction ys with
 |nil=>intro g r;cases r;exact .nil
 |cons n ns q=>
  intro g r;cases r with
  |cons B C=>
   obtain⟨t,e⟩:=B;subst e;exact .cons n t (q C)
def Uk:Er X "str.join" (λx vs H Q=>∃(z:Str)(p:Av)(ys:Ai),x=.str z/\vs=[.ref p]/\aF X.K H p (ys.map V.str)/\(ys.map (·.length)).sum+ys.length*z.length<=16777216/\Q (.str (Txt.join z ys)) H):=by
 refine λzn s σ H x vs v O Q I C D=>ε3 λz p ys=>θ4 λzq0 zq1 F g q=>?_;subst zq0;subst zq1;obtain⟨t,rfl⟩:=C;obtain⟨u,rfl,B⟩:=bZ D;cases B;obtain⟨J,G,pl,hz⟩:=I.list F;exact join_list pl.isList (xB G) g λt' k=>⟨.str _,H,I.tok _,⟨_,U⟩,q⟩
theorem XR(g:Nat->List V->Hp->Prop)(F:g 0 [] H)(B:∀i zs H,g i zs H->zs.length<=sizeLine)(q:∀i zs H,g i zs H->aF K H a xs)
  (D:∀i x zs H (R:A1->Hp->Prop),(∀zs H,g (i+1) zs H->R zs H)->xs[i]?=some x->g i zs H->M (xx is c (some x)) H λb H2=>if b=true then A (xx is c (some x)) H2 λy G=>R (zs++[y]) G else R zs H2)
  (C:∀zs H,g xs.length zs H->∀p,H p=none->E (.ref p) (aC H p (.lst zs))):
  JT is M A c E (tJ K a) H:=
 LB _ g F B (λi zs H R k hi p=>⟨⟨xs,xs[i],q i zs H p,aR hi⟩,λx H' ⟨e,y⟩=>e ▸ D i x zs H R k (y xs (q i zs H p)) p⟩) λzs H p=>⟨⟨xs,q _ zs H p,aM _⟩,C zs H p⟩
def Mv(x:Str):It:=⟨λi _=>i<x.cps.size,λi H v H'=>H'=H/\∃c,x.cps[i]?=some c/\v=.str ⟨#[c]⟩,λi _=>i=x.cps.size⟩
def Zkb (it:Av) (x:Str) (t:Tok) (T:String) (hT:T = "str_ascii_iterator" \/ T = "str_iterator"):eA P w K tg (Mv x) [it] it (λi h=>h.IsStrIter it T x t i)where
 mem:=Ve
 obj:=λi h st b q=>by
  have e:=by simpa using q
  subst e;obtain⟨o,e,c,d⟩:=st;exact⟨o,e,λv z=>Vd⟩
 keep:=λi h h' st k=>let⟨o,ho,r⟩:=st;⟨o,k it Ve o ho,r⟩
 item:=by
  intro X hP hw hK G i zn s σ H E I C st Z;subst hP hw hK;refine ω (C it Ve) (θ5 λJ Y f2 D F O=>?_);rcases hT with rfl|rfl
  .refine(Walks.strAscii (I.ok.hd G) it x t).item i s _ _ Z st λv h' tk hv g kk=>?_
   obtain⟨c,u,B,rfl⟩:=hv;have I1:aE X zn σ H {s with heap:=h',toks:=tk}:=I.turned (λb o q e=>kk b o Vd e) J Y D F O;obtain⟨o,e,cc,d⟩:=id g;exact⟨_,U,ke e cc d Vb ⟨.str _,H,I1,⟨_,U⟩,⟨U,c,B,U⟩,g,λb q=>(C b q).1⟩⟩
  .refine(Walks.strWide (I.ok.hd G) it x t).item i s _ _ Z st λv h' tk hv g kk=>?_
   obtain⟨c,u,B,rfl⟩:=hv;have I1:aE X zn σ H {s with heap:=h',toks:=tk}:=I.turned (λb o q e=>kk b o Vd e) J Y D F O;obtain⟨o,e,cc,d⟩:=id g;exact⟨_,U,ke e cc d Vb ⟨.str _,H,I1,⟨_,U⟩,⟨U,c,B,U⟩,g,λb q=>(C b q).1⟩⟩
 done:=by
  intro X hP hw hK G i zn s σ H E I C st Z;subst hP hw hK;obtain⟨J,Y,f2,D,F,O⟩:=C it Ve;subst Z;rcases hT with rfl|rfl
  .exact(Walks.strAscii (I.ok.hd G) it x t).done s _ _ st λh' tk kk=>⟨U,I.turned (λb o q e=>kk b o Vd e) J Y D F O⟩
  .exact(Walks.strWide (I.ok.hd G) it x t).done s _ _ st λh' tk kk=>⟨U,I.turned (λb o q e=>kk b o Vd e) J Y D F O⟩
 self:=λA i s Q E st h=>by
  rcases hT with rfl|rfl
  .exact wpAny_pyIter_striter_ascii st h
  .exact wpAny_pyIter_striter_wide st h
inductive Rr(R:It->Hp->Prop)(v:V)(H1:Hp):Prop
 |mk (x:_):(v=.str x)->(R (Mv x) H1)->Rr R v H1
def Ln(te:TE):TI:=λσ H R=>te σ H λv H1=>Rr R v H1
def Bx{X:Cx}{tg l:Aw}(C:QE X l A):QI X tg l (Ln A):=by
 refine⟨λzn s σ H R I h=>(aP (C.out zn s σ H _ I h) λv B ⟨y,H1,g,J,D⟩=>?_)⟩;obtain⟨x,rfl,q⟩:=D;obtain⟨t,rfl⟩:=J;have go:∀(o:Obj)(T:String),(T = "str_ascii_iterator" \/ T = "str_iterator")->(B.heap.push o).IsStrIter _ T x t 0->LJ X zn σ tg R _ _:=λo T G st=>
  ⟨_,_,_,_,H1,U,g.kept (t':=B.toks) λb o e=>aW _ e,Zkb _ x t T G,st,λb F=>by
   have e:=by simpa using F
   subst e;exact g.dZ (aM _) (g.aK.fresh (aM _)),q⟩
 cases ha:x.cps.all _
 .exact wpAny_pyIter_wide ha (go _ _ (.inr U) ⟨_,bY _ U,U,U⟩)
 .exact wpAny_pyIter_ascii ha (go _ _ (.inl U) ⟨_,bY _ U,U,U⟩)
def jt (hc:X.calm=true):Wd X (.builtin "all") (λxs H Q=>∃(p:Av)(bs:List Bool),xs=[.ref p]/\aF X.K H p (bs.map V.bl)/\Q (.bl (bs.all id)) H):=by
 rintro zn s σ H xs us Q I r ⟨p,bs,rfl,hq,q⟩;obtain⟨u,rfl,Z⟩:=bZ r;cases Z;obtain⟨G,O,pl,hz⟩:=I.list hq;have F:=pl.isList;have g:=O.length;rw[aI]at g;refine call_all_walk (Dz F ?_);refine⟨_,_,_,_,_,_,λi=>(bs[i]?).getD true,U,Walks.list (A:=X.A.in1) (I.ok.hd hc) _ p (cQ (by obtain⟨_,e,_⟩:=F;exact bE e)) _,
  ⟨⟨_,bY _ U,U,U⟩,F.push _⟩,λi v s' Q' E' hP J=>?_,λh' tk Y=>?_⟩
 .have hi:=by simpa using hP
  have C:i<bs.length:=Vd
  obtain⟨w',e1,e2⟩:=O.get (by rw[aY,aR C];rfl);rw[hi]at e1;cases e1;cases e2;simp[aR C]at J;exact oV J
 .have e:((List.range G.toArray.size).all λi=>(bs[i]?).getD true)=bs.all id:=by
   rw[nA,<-g,pA,i7,i7];constructor
   .intro z b C;obtain⟨i,hi,rfl⟩:=Ig C;have:=z i (fV.mpr hi);simpa[aR hi]using this
   .intro z i hi;have B:=fV.mp hi;have:=z _ (f7 B);simpa[aR B]using this
  rw[e];refine⟨.bl _,H,I.kept (λb o D=>Y b o (λT=>?_) (aW _ D)),U,q⟩;rw[b9.mp T]at D;exact absurd (bE D) (fU _)
theorem JV:∀{g:Ag} {ys:Ai},StrsAre g ys->aJ (ys.map V.str) g
 |_,_,.nil=>.nil
 |_,_,.cons y t h=>.cons ⟨t,U⟩ (JV h)
def gu:Wd X (.builtin "sorted") (λxs H Q=>∃(p:Av)(C:Ai),xs=[.ref p]/\aF X.K H p (C.map V.str)/\C.length<64 /\
  ∀(l:Av)(g:Ai),H l=none->g.Perm C->sortedS g=true->Q (.ref l) (aC H l (.lst (g.map V.str)))):=by
 refine λzn s σ H xs us Q I r=>ε2 λp C=>θ3 λzq0 Z hn q=>?_;subst zq0;obtain⟨u,rfl,T⟩:=bZ r;cases T;obtain⟨F,J,pl,hz⟩:=I.list Z;have B:=J.length;rw[aI]at B;refine sorted_strs pl.isList (xB J) (by simp_all) λD g hi G Y=>?_;obtain⟨e,O⟩:=sortedAll_at s.heap F D;refine⟨.ref _,_,I.laid (λb o e=>sortedAll_old e) (nG _) ?_,U,q _ g (I.aK.fresh (nG _)) G Y⟩;have hm:=G.length_eq;exact⟨Vd,_,e,JV hi,by simpa using O⟩
def Q6:bootBuiltins "abs" = some (.builtin "abs"):=Va
def Mq:bootBuiltins "max" = some (.builtin "max"):=Va
def AN:bootBuiltins "min" = some (.builtin "min"):=Va
def ko :PySem.W.kitOne K (.type "bool") (.type "bool")=some true:=by rfl
def NZ{t u:TS}(J:A0)(h1:∀N:A0,(∀c H,J c H->N c H)->t {Z with nx:=N} c H)(h2:∀c H,J c H->u Z c H):Xj t u Z c H:=h1 _ h2
def aB{xs:List g}{x:g}(h:xs[i]?=some x):xs.take (i+1)=xs.take i++[x]:=by
 rw[List.take_succ,h];rfl
def Zaf(p:V->Bool)(f:V->V)(F:aF K H a xs)(hz:xs.length<=sizeLine)
  (C:∀x∈xs,∀R:Bool->Hp->Prop,R (p x) H->M (xx is c (some x)) H R)
  (B:∀x∈xs,p x=true->∀R:VK,R (f x) H->A (xx is c (some x)) H R)
  (D:∀l,H l=none->E (.ref l) (aC H l (.lst ((xs.filter p).map f)))):JT is M A c E (tJ K a) H:=by
 refine XR (xs:=xs) (λi zs H'=>zs=((xs.take i).filter p).map f/\H'=H) ⟨U,U⟩ ?_ ?_ ?_ ?_
 .grind
 .grind
 .rintro i x zs H' R hR g ⟨rfl,rfl⟩;have q:=bP g;have e:=aB g;refine C x q _ ?_;cases hp:p x with
  |true=>
   refine(aN U) ▸ B x q hp _ (hR _ _ ⟨?_,U⟩);rw[e,tH,dC,nU,aN hp];rfl
  |false=>
   refine(aL fK) ▸ hR _ _ ⟨?_,U⟩;rw[e,tH,nU,aL Vd];simp
 .simp_all
def dN(f:V->V)(q:aF K H a xs)(hz:xs.length<=sizeLine)
  (C:∀x∈xs,∀R:VK,R (f x) H->A (xx is c (some x)) H R)
  (D:∀l,H l=none->E (.ref l) (aC H l (.lst (xs.map f)))):JT is oU A c E (tJ K a) H:=by
 refine Zaf _ f q hz (λx _ R h=>h) (λx g _=>C x g) λl B=>?_;rw[List.filter_eq_self.mpr λ_ _=>U];exact D l B
def Zgi{lo:Int}{is:Aj}(f:Nat->V)(hz:n<=sizeLine)
  (g:∀i,i<n->∀R:VK,R (f i) H->A (xx is c (ad (lo+i))) H R)
  (q:∀l,H l=none->E (.ref l) (aC H l (.lst ((List.range n).map f)))):JT is oU A c E (AW lo n) H:=by
 refine xA (λi zs H'=>i<=n/\zs=(List.range i).map f/\H'=H) ⟨cD _,U,U⟩ ?_ ?_ ?_
 .grind
 .rintro i zs H' R hR hi ⟨_,rfl,rfl⟩;unfold oU;refine g i hi _ (hR _ _ ⟨hi,?_,U⟩);rw[Bt,dC];rfl
 .simp_all
def qD(f:V->V)(C:aD K H a xs)(hz:xs.length<=sizeLine)
  (q:∀x∈xs,∀R:VK,R (f x) H->A (xx is c (some x)) H R)
  (B:∀l,H l=none->E (.ref l) (aC H l (.lst (xs.map f)))):JT is oU A c E (Be K a) H:=by
 refine Wv (xs:=xs) (λi zs H'=>zs=(xs.take i).map f/\H'=H) ⟨U,U⟩ ?_ ?_ ?_ ?_
 .grind
 .grind
 .rintro i x zs H' R hR g ⟨rfl,rfl⟩;unfold oU;refine q x (bP g) _ (hR _ _ ⟨?_,U⟩);rw[aB g,dC];rfl
 .simp_all
section
variable {κ:Type}[DecidableEq κ]
def Y0(ul:List (κ×V))(k:κ):Option V:=(ul.find? λg=>decide (g.1=k)).map (·.2)
def bB(ul:List (κ×V))(k:κ)(v:V):List (κ×V):=
 if(ul.any λg=>decide (g.1=k))=true then ul.map (λg=>if g.1=k then(g.1,v)else g)else ul++[(k,v)]
def YB{p:κ×V}{r:List (κ×V)}{k:κ}(e:p.1=k):Y0 (p::r) k=some p.2:=by simp[Y0,e]
def Y4{p:κ×V}{r:List (κ×V)}{k:κ}(e:¬p.1=k):Y0 (p::r) k=Y0 r k:=by simp[Y0,e]
theorem G8(k:κ):∀ul:List (κ×V),(ul.any λg=>decide (g.1=k))=(Y0 ul k).isSome
 |[]=>rfl
 |p::r=>by
  rw[EU]
  by_cases e:p.1=k
  .simp[YB e,bC e]
  .rw[Y4 e,bO e];exact G8 k r
theorem Qn(k j:κ)(y:V):∀ul:List (κ×V),Y0 (ul.map λg=>if g.1=k then(g.1,y)else g) j=(Y0 ul j).map λx=>if j=k then y else x
 |[]=>rfl
 |p::r=>by
  have q:=Qn k j y r;rw[eE]
  by_cases h:p.1=k
  .rw[aN h]
   by_cases e:p.1=j
   .rw[YB (p:=(p.1,y)) e,YB e,FR,aN (e.symm.trans h)]
   .rw[Y4 (p:=(p.1,y)) e,Y4 e,q]
  .rw[aL h]
   by_cases e:p.1=j
   .rw[YB e,YB e,FR,aL (λz=>h (e.trans z))]
   .rw[Y4 e,Y4 e,q]
theorem ju(k j:κ)(y:V):∀ul:List (κ×V),Y0 ul k=none->Y0 (ul++[(k,y)]) j=if j=k then some y else Y0 ul j
 |[],_=>by
  by_cases e:k=j
  .rw[aN e.symm];exact YB e
  .rw[aL (λz=>e z.symm)];exact Y4 e
 |p::r,g=>by
  rw[FN];have q:¬p.1=k:=λz=>by rw[YB z]at g;cases g
  rw[Y4 q]at g
  by_cases e:p.1=j
  .rw[YB e,YB e,aL (λz=>q (e.trans z))]
  .rw[Y4 e,Y4 e,ju k j y r g]
def G9(ul:List (κ×V))(k j:κ)(y:V):Y0 (bB ul k y) j=if j=k then some y else Y0 ul j:=by
 unfold bB
 by_cases a:(ul.any λg=>decide (g.1=k))=true
 .rw[aN a,Qn];rw[G8]at a
  by_cases e:j=k
  .obtain⟨x,B⟩:=Ie.mp a;rw[aN e,e,B,FR,aN U]
  .rw[aL e];cases Y0 ul j with
   |none=>rfl
   |some x=>rw[FR,aL e]
 .rw[aL a];refine ju k j y ul ?_;rw[G8]at a;cases q:Y0 ul k with
  |none=>rfl
  |some x=>rw[q]at a;exact(a U).elim
def XB(ul:List (κ×V))(k:κ)(v:V):(bB ul k v).length<=ul.length+1:=by
 unfold bB;split
 .rw[aI];simp_all
 .simp_all
def Pp{k:κ}(v:V)(h:Y0 ul k=none):bB ul k v=ul++[(k,v)]:=by
 unfold bB;rw[G8,h];exact aL Vb
def wQ.cC{o:Option V}{u:Option Au}(r:wQ o u):o.isSome=u.isSome:=by
 cases o with
 |none=>cases u with
  |none=>rfl
  |some _=>exact(r).elim
 |some _=>cases u with
  |none=>exact(r).elim
  |some _=>rfl
def wQ.getD{o:Option V}{u:Option Au}{d:V}{g:Au}(r:wQ o u)(rd:aH d g):aH (o.getD d) (u.getD g):=by
 cases o with
 |none=>cases u with
  |none=>exact rd
  |some _=>exact(r).elim
 |some _=>cases u with
  |none=>exact(r).elim
  |some _=>exact r
theorem KV.val(r:KV ul vs)(k:κ):wQ (Y0 ul k) (valueAt vs k):=by
 induction r with
 |nil=>exact True.intro
 | @cons p q ps B h t C=>
  obtain⟨h1,h2⟩:=h
  by_cases e:p.1=k
  .have g:=h1.symm.trans e;have b:valueAt (q::B) k=some q.2:=by simp[valueAt,g]
   rw[YB e,b];exact h2
  .have g:¬q.1=k:=λz=>e (h1.trans z)
   have b:valueAt (q::B) k=valueAt B k:=by simp[valueAt,g]
   rw[Y4 e,b];exact C
theorem KV.any(r:KV ul vs)(k:κ):(ul.any λg=>decide (g.1=k))=vs.any λg=>decide (g.1=k):=by
 induction r with
 |nil=>rfl
 |cons h t q=>rw[EU,EU,q,h.1]
theorem KV.tS(r:KV ul vs)(k:κ){u:Au}(C:aH y u):
  KV (ul.map λg=>if g.1=k then(g.1,y)else g) (vs.map λg=>if g.1=k then(g.1,u)else g):=by
 induction r with
 |nil=>exact .nil
 | @cons p q ps D h t B=>
  refine .cons ?_ B;obtain⟨h1,h2⟩:=h
  by_cases e:p.1=k
  .simp_all
  .simp_all
def KV.put(r:KV ul vs)(k:κ){u:Au}(g:aH y u):KV (bB ul k y) (stored vs k u):=by
 unfold bB stored;rw[r.any k]
 by_cases e:(vs.any λq=>decide (q.1=k))=true
 .rw[aN e,aN e];exact r.tS k g
 .rw[aL e,aL e];exact Paired.snoc r ⟨U,g⟩
theorem KV.keys{vs:List (κ×Au)}(r:KV ul vs):ul.map (·.1)=vs.map (·.1):=by
 induction r with
 |nil=>rfl
 |cons h t g=>rw[eE,eE,g,h.1]
def KV.length(r:KV ul vs):ul.length=vs.length:=oK r
end
def kq{u:Au}(r:aH (kV k) u):(Yi P w).is k u=true:=by
 cases k with
 |inl i=>obtain⟨t,e⟩:=(r);subst e;exact uV P w i t
 |inr x=>obtain⟨t,e⟩:=(r);subst e;exact qf P w x t
theorem gv{P:Ao}{w:As}:∀{ks:List aV} {g:Ag},aJ (ks.map kV) g->ItemsAre (Yi P w) ks g
 |[],_,r=>by cases r;exact .nil
 |k::ks,_,r=>by
  cases r with
  |cons h t=>exact .cons (kq h) (gv t)
abbrev KT(H:Hp):List (List aV×V)->List (List aV×Av×Au)->Prop:=Paired λp q=>p.1=q.1/\H q.2.1=am (p.1.map kV)/\aH p.2 q.2.2
theorem KT.val(r:KT H ul xs)(k:List aV):wQ (Y0 ul k) ((atKey xs k).map (·.2)):=by
 induction r with
 |nil=>exact True.intro
 | @cons p q ps B h t C=>
  obtain⟨h1,_,h2⟩:=h
  by_cases e:p.1=k
  .have g:=h1.symm.trans e;have b:atKey (q::B) k=some q.2:=by simp[atKey,g]
   rw[YB e,b];exact h2
  .have g:¬q.1=k:=λz=>e (h1.trans z)
   have b:atKey (q::B) k=atKey B k:=by simp[atKey,g]
   rw[Y4 e,b];exact C
theorem KT.tS(r:KT H ul xs)(k:List aV){u:Au}(D:aH y u):
  KT H (ul.map λg=>if g.1=k then(g.1,y)else g) (xs.map (putAt k u)):=by
 induction r with
 |nil=>exact .nil
 | @cons p q ps F h t B=>
  refine .cons ?_ B;obtain⟨h1,h2,C⟩:=h;unfold putAt
  by_cases e:p.1=k
  .simp_all
  .simp_all
def KT.put(r:KT H ul xs)(k:List aV){b:Av}{u:Au}(C:H b=am (k.map kV))(g:aH y u):
  KT H (bB ul k y) (storedH xs k b u):=by
 have e:(ul.any λB=>decide (B.1=k))=(atKey xs k).isSome:=by
  rw[G8,(r.val k).cC,Hi]
 unfold bB storedH;rw[e]
 by_cases q:(atKey xs k).isSome=true
 .rw[aN q,aN q];exact r.tS k g
 .rw[aL q,aL q];exact Paired.snoc r ⟨U,C,g⟩
theorem KT.keeps{ul:List (List aV×V)}{xs:List (List aV×Av×Au)}(r:KT H ul xs)(g:∀b ys,H b=am ys->H' b=am ys):KT H' ul xs:=
 Paired.n9 r λ_ _ z=>⟨z.1,g _ _ z.2.1,z.2.2⟩
section
variable {P:Ao}{w:As}{H:Hp}{h:Heap}{a:Av}
def Mj{u:HO}(ok:cK P w H h)(e:Rd H a u):XA P w H h a u:=e.ok ok
theorem BI{ul:Az}(ok:cK P w H h)(e:Rd H a (.dK ul)):ul.length<=sizeLine/\(a == sysModules)=false/\∃vs,KV ul vs/\h.DictOf (Yi P w) a vs:=
 Mj ok e
def Hc{ul:Az}(ok:cK P w H h)(e:H a=some (.dK ul)):ul.length<=sizeLine/\(a == sysModules)=false/\∃vs,KV ul vs/\h.DictOf (Yi P w) a vs:=BI ok (.inl e)
def vv(ok:cK P w H h)(e:H a=am (ks.map kV)):(tupleKind (Yi P w)).is h ks a:=by
 obtain⟨_,q,r,o,h1,h2,⟨n,g⟩,_⟩:=(ok a _ e);exact⟨o,_,n,h1,h2,g,by simpa using gv r⟩
theorem Dv(ok:cK P w H h)(e:Rd H a (.dT ul)):ul.length<=sizeLine/\(a == sysModules)=false /\
  ∃xs,KT H ul xs/\h.DictOfH (tupleKind (Yi P w)) a xs:=by
 refine ω ((Mj ok e)) (θ2 λz y=>ε1 λxs=>θ1 λr=>ε3 λo es ep=>θ4 λh1 h2 B D F=>?_);refine⟨z,y,xs,r,o,es,ep,h1,h2,B,D,λx g=>?_,F⟩;have all:∀{l:List _} {m:List _},KT H l m->∀x∈m,(tupleKind (Yi P w)).is h x.1 x.2.1:=by
  intro l m q
  induction q with
  |nil=>intro x g;exact nomatch g
  | @cons p q ps I G t C=>
   intro x g;rcases bR.mp g with e|g
   .subst e;exact vv ok Vd
   .exact C x g
 exact all r x g
theorem Pj(ok:cK P w H h)(e:H a=some (.dT ul)):ul.length<=sizeLine/\(a == sysModules)=false /\
  ∃xs,KT H ul xs/\h.DictOfH (tupleKind (Yi P w)) a xs:=Dv ok (.inl e)
end
def Dm(H:Hp)(a:Av)(y:V)(r:Option V):Prop:=
 (∃ul k,Rd H a (.dK ul)/\y=kV k/\r=Y0 ul k)\/∃ul k b,Rd H a (.dT ul)/\y=.ref b/\H b=am (k.map kV)/\r=Y0 ul k
def lT(H:Hp)(a:Av)(y v:V)(H':Hp):Prop:=
 (∃ul k,H a=some (.dK ul)/\y=kV k/\ul.length<sizeLine/\H'=aC H a (.dK (bB ul k v))) \/
 ∃ul k b,H a=some (.dT ul)/\y=.ref b/\H b=am (k.map kV)/\ul.length<sizeLine/\H'=aC H a (.dT (bB ul k v))
def lT.k{H:Hp}{a:Av}{ul:Az}{k:aV}{v:V}(e:H a=some (.dK ul))(g:ul.length<sizeLine):lT H a (kV k) v (aC H a (.dK (bB ul k v))):=.inl ⟨ul,k,e,U,g,U⟩
theorem lT.t{b:Av}{ul:List (List aV×V)}{k:List aV}{v:V}(e:H a=some (.dT ul))(q:H b=am (k.map kV))(g:ul.length<sizeLine):
  lT H a (.ref b) v (aC H a (.dT (bB ul k v))):=.inr ⟨ul,k,b,e,U,q,g,U⟩
section
variable {X:Cx}{zn:Ac}{σ:St}{H:Hp}{s:Ar}{a:Av}{y v:V}{u r:Au}{o:Option V}{A:Aq}{E:Ab}
def aE.big(I:aE X zn σ H s):sysModules<s.heap.objs.size:=Nat.lt_trans Vb (I.mod.glob.keeps I.bk).lt
def S9(Y:A.units+1<cLine)(I:aE X zn σ H s)(g:Dm H a y (some v))(G:aH y u)(h:∀C s',aE X zn σ H s'->aH v C->Q C s'):
  A2 X.prog X.w A (getItem (.ref a) u) Q E s:=by
 rcases g with⟨ul,k,e,D,l⟩|⟨ul,k,b,e,D,T,l⟩
 .subst D;obtain⟨z,J,vs,B,dd⟩:=BI I.aK e;obtain⟨C,hw,q⟩:=wQ.some_of (by rw[l];exact B.val k);exact wpAny_getItem_of (kq G) dd.mapOf hw (h C _ (I.tok _) q)
 .subst D;cases(G);obtain⟨z,J,xs,B,dd⟩:=Dv I.aK e;obtain⟨C,hw,q⟩:=wQ.some_of (by rw[l];exact B.val k);obtain⟨p,O,F⟩:=eG.mp hw;refine wpAny_getItem_heap (Ib Y) (vv I.aK T) dd O ?_;rw[F];exact h C _ (I.tok _) q
def MP(J:A.units+1<cLine)(I:aE X zn σ H s)(g:Dm H a y o)(F:aH y u)(h:∀s',aE X zn σ H s'->Q (.bool o.isSome) s'):
  A2 X.prog X.w A (compareOp .In u (.ref a)) Q E s:=by
 rcases g with⟨ul,k,e,C,l⟩|⟨ul,k,b,e,C,G,l⟩
 .subst C;obtain⟨z,D,vs,B,dd⟩:=BI I.aK e;refine wpAny_in_of (kq F) D dd.mapOf ?_;rw[<-(B.val k).cC,<-l];exact h _ (I.tok _)
 .subst C;cases(F);obtain⟨z,D,xs,B,dd⟩:=Dv I.aK e;refine wpAny_in_heap (Ib J) (vv I.aK G) D dd ?_;have q:=(B.val k).cC;rw[Hi]at q;rw[<-q,<-l];exact h _ (I.tok _)
def Zof(J:A.units+1<cLine)(I:aE X zn σ H s)(g:Dm H a y o)(F:aH y u)(h:∀s',aE X zn σ H s'->Q (.bool (!o.isSome)) s'):
  A2 X.prog X.w A (compareOp .NotIn u (.ref a)) Q E s:=by
 rcases g with⟨ul,k,e,C,l⟩|⟨ul,k,b,e,C,G,l⟩
 .subst C;obtain⟨z,D,vs,B,dd⟩:=BI I.aK e;refine wpAny_notIn_of (kq F) D dd.mapOf ?_;rw[<-(B.val k).cC,<-l];exact h _ (I.tok _)
 .subst C;cases(F);obtain⟨z,D,xs,B,dd⟩:=Dv I.aK e;refine wpAny_notIn_heap (Ib J) (vv I.aK G) D dd ?_;have q:=(B.val k).cC;rw[Hi]at q;rw[<-q,<-l];exact h _ (I.tok _)
theorem xC(I:aE X zn σ H s)(B:AG (H a))(g:Heap.SameBut a s.heap h')(C:∃q,h'.get? a=some q)(new:XA X.prog X.w (aC H a Ua) h' a Ua):
  aE X zn σ (aC H a Ua) {s with heap:=h',toks:=t'}:=
 I.write B (.inl U) (λb q D z=>(g.2 b D).trans z) C new
theorem MX{ul:Az}{vs:List (aV×Au)}(z:ul.length<=sizeLine)(q:(a == sysModules)=false)(g:KV ul vs)(dd:h'.DictOf (Yi P w) a vs):
  XA P w H' h' a (.dK ul):=⟨z,q,vs,g,dd⟩
def Vz{Q:Unit->Shared->Prop}(hu:A.units+1<cLine)(I:aE X zn σ H s)(g:lT H a y v H')(ry:aH y u)(Z:aH v r)(h:∀s',aE X zn σ H' s'->Q () s'):
  A2 X.prog X.w A (setItem (.ref a) u r) Q E s:=by
 rcases g with⟨ul,k,e,F,l,D⟩|⟨ul,k,b,e,F,T,l,D⟩
 .subst F D;obtain⟨z,J,vs,B,dd⟩:=Hc I.aK e;have hz:vs.length<=sizeLine:=by rw[<-B.length];exact z
  have G:(bB ul k v).length<=sizeLine:=by have:=XB ul k v;lia
  refine wpAny_setItem_pairs (kq ry) dd λh' dd' O=>h _ ?_;exact xC I (by rw[e];exact True.intro) O (let⟨q,_,_,C,_⟩:=dd';⟨q,C⟩) (MX G J (B.put k Z) dd')
 .subst F D;cases(ry);obtain⟨z,J,xs,B,dd⟩:=Pj I.aK e;have hz:xs.length<=sizeLine:=by rw[<-oK B];exact z
  have G:(bB ul k v).length<=sizeLine:=by have:=XB ul k v;lia
  refine wpAny_setItem_heap (Ib hu) (vv I.aK T) dd λh' dd' O=>h _ ?_;revert dd';refine ε3 λq es ep=>θ5 λC h2 h3 h4 _ h5=>?_;refine xC I (by rw[e];exact True.intro) O ⟨q,C⟩ ⟨G,J,_,(B.put k T Z).keeps λc ys Y=>?_,q,es,ep,C,h2,h3,h4,h5⟩;rw[Zk (Xp Y e nofun)];exact Y
end
section
variable {X:Cx}{zn:Ac}{σ:St}{H:Hp}{s:Ar}{a:Av}{ul:Az}{k:aV}{u:Au}{A:Aq}{E:Ab}
def Ed  (I:aE X zn σ H s) (e:Rd H a (.dK ul)) (h:∀t s',aE X zn σ H s'->Q (.int ul.length t) s'):A2 X.prog X.w A (call (.builtin "len") [.ref a]) Q E s:=by
 obtain⟨z,q,vs,g,dd⟩:=BI I.aK e;refine call_len_dict q dd (by rw[<-g.length];rw[CY]at z;lia) ?_;rw[<-g.length];exact h _ _ (I.tok _)
end
def FT(i:Aw):Prop:=∀q g,subscripted i false q g=operate [q,g] (getItem q g)
def Qw{ww:Ao}{A:Aq}{E:Ab}{env:Env}{g:Aw}{T id:String}
  (G:typeLookup (.type T) "__getitem__" = pure (some (.builtin id))) (I:FT g)
  (h:A2 ww w A (eval e env) (λo B=>A2 ww w A (eval g env) (λi s₂=>s₂.TypeIs o T/\A2 ww w A (getItem o i) Q E s₂) E B) E s):
  A2 ww w A (eval (.Subscript e g p) env) Q E s:=by
 refine Subscript_ (iJ h (λo B F=>iJ F (λi s₂ q=>?_) λ_ _ x=>x) λ_ _ x=>x);obtain⟨J,q⟩:=q;refine ab (ab (p4 J G ?_));have fin:A2 ww w A (subscripted g false o i) (λr C=>A2 ww w A (letTemporaryGo e o r >>= λ_=>pure r) Q E C) E s₂:=by
  rw[I o i];exact wpAny_operating (iJ q (λr C D=>ab (wpAny_letTemporaryGo (aG D))) λ_ _ x=>x)
 first
  |exact aG (ab fin)
  |exact ab _
  |exact ab fin
inductive N1(Q:VK)(x:V)(y:V)(H2:Hp):Prop
 |mk (a v:_):(x=.ref a)->(Dm H2 a y (some v))->(Q v H2)->N1 Q x y H2
def N3(td ty:TE):TE:=λσ H Q=>td σ H λx H1=>ty σ H1 λy H2=>N1 Q x y H2
inductive P0(D:Ends)(σ:St)(v:V)(x:V)(y:V)(H3:Hp):Prop
 |mk (a H4:_):(x=.ref a)->(lT H3 a y v H4)->(D.nx σ H4)->P0 D σ v x y H3
def Et(td ty tv:TE):TS:=λD σ H=>tv σ H λv H1=>td σ H1 λx H2=>ty σ H2 λy g=>P0 D σ v x y g
section
variable {X:Cx}{o i e value:Aw}{pos pos' tpos:Pos}{td ty tv:TE}
def Zog(Y:X.A.units+1<cLine)(ho:PE X o td)(hi:PE X i ty)(T:FT i):PE X (.Subscript o i pos) (N3 td ty):=λzn s σ H Q I h=>by
 refine Qw PySem.F.slot_dict_getitem.lookup T (aP (ho zn s σ H _ I h) λu D ⟨x,H1,C,G,O⟩=>aP (hi zn D σ H1 _ C O) λiv s2 ⟨y,H2,q,Z,a,v,ex,g,q2⟩=>?_);subst ex;obtain rfl:u=Value.ref a:=G;exact⟨(by
    rcases g with⟨ul,k,e,_,_⟩|⟨ul,k,b,e,_,_,_⟩
    .obtain⟨_,_,vs,_,dd⟩:=BI q.aK e;exact dd.typeIs
    .obtain⟨_,_,xs,_,dd⟩:=Dv q.aK e;exact dd.typeIs),S9 Y q g Z λw' s3 J B=>⟨v,H2,J,B,q2⟩⟩
end
theorem kr    (h:Heap) (g:sysModules<h.objs.size):XA P w H (h.push {cls:=.type "dict",data:=.dict #[]}) h.objs.size (.dK []):=
 ⟨cD _,L6.mpr (eV (cQ g)),[],.nil,Heap.DictOf.new h⟩
theorem Pn    (h:Heap) (g:sysModules<h.objs.size):XA P w H (h.push {cls:=.type "dict",data:=.dict #[]}) h.objs.size (.dT []):=
 ⟨cD _,L6.mpr (eV (cQ g)),[],.nil,_,#[],0,bY _ U,⟨U,U,U⟩,U,U,iW⟩
def Bv:TE:=λ_ H Q=>∀p,H p=none->Q (.ref p) (aC H p (.dK []))
def Bf:TE:=λ_ H Q=>∀p,H p=none->Q (.ref p) (aC H p (.dT []))
def L3:List (TE×TE)->St->Hp->(List (V×V)->Hp->Prop)->Prop
 |[],_,H,Q=>Q [] H
 |(tk,tv)::r,σ,H,Q=>tk σ H λx H1=>tv σ H1 λy H2=>L3 r σ H2 λps g=>Q ((x,y)::ps) g
abbrev VV:List (V×V)->List (Au×Au)->Prop:=Paired λp q=>aH p.1 q.1/\aH p.2 q.2
def PPs(X:Cx)(pos:Pos)(keys:List (Option Aw))(g:Am)(q:List (TE×TE)):Prop:=
 ∀(zn:Ac)(s:Ar)(σ:St)(H:Hp)(Q:List (V×V)->Hp->Prop),aE X zn σ H s->L3 q σ H Q->
  A3 X (evalPairs (pairTrees keys g X.env pos)) (λvs s'=>∃ps H',aE X zn σ H' s'/\VV ps vs/\Q ps H') X.xe s
def JC(ul more:Az):Az:=more.foldl (λacc g=>bB acc g.1 g.2) ul
theorem KV.merge:∀{more:Az} {g:List (aV×Au)} {ul:Az} {vs:List (aV×Au)},KV more g->KV ul vs->KV (JC ul more) (merged vs g):=by
 intro more g ul vs r
 induction r generalizing ul vs with
 |nil=>intro q;exact q
 | @cons p q ps D h t B=>
  intro C;have e:KV (bB ul p.1 p.2) (stored vs q.1 q.2):=by
   have:=C.put p.1 h.2;rw[<-h.1];exact this
  exact B e
theorem qE:∀(more ul:Az),(JC ul more).length<=ul.length+more.length
 |[],ul=>by show ul.length<=ul.length+0;simp_all
 |p::r,ul=>by
  have h1:=qE r (bB ul p.1 p.2);have h2:=XB ul p.1 p.2;show(JC _ r).length<=_;rw[lL];lia
theorem vw{P:Ao}{w:As}:∀{ul:Az} {C:List (Au×Au)},VV (ul.map λB=>(kV B.1,B.2)) C->∃g,Carries (Yi P w) C g/\KV ul g
 |[],_,r=>by cases r;exact⟨[],True.intro,.nil⟩
 |p::ul,_,r=>by
  cases r with
  | @cons a b as bs h t=>
   obtain⟨g,c,q⟩:=vw t;obtain⟨b1,b2⟩:=b;exact⟨(p.1,b2)::g,⟨kq h.1,U,c⟩,.cons ⟨U,h.2⟩ q⟩
def EM(g:List (TE×TE)):TE:=λσ H Q=>∀p,H p=none->L3 g σ (aC H p (.dK [])) λps H2=>H2 p=some (.dK [])/\∃ul:Az,ps=ul.map (λq=>(kV q.1,q.2))/\ul.length<=15/\Q (.ref p) (aC H2 p (.dK (JC [] ul)))
structure M2(X:Cx)(o:Aw)(m:Str)(apos:Pos)(e f:Aw)(pi:Pos):Prop where
 base:attributeBase o m X.env (eval o X.env)=eval o X.env
 mP:((backTo pi (starEach [e,f] X.env)).all (λx=>!x.1)&&(backToKw pi (keywordEach [] X.env)).all (λx=>x.1.isSome)
  && decide (([e,f]:Am).length+([]:List Keyword).length+(if([]:List Keyword).isEmpty then 0 else 1)<30))=true
 line:(apos.endLine == pi.line)=true
 trees:backTo pi (starEach [e,f] X.env)=[(false,eval e X.env),(false,eval f X.env)]
end L2
namespace EnT
section
variable {ww:Ao}{w:As}{A:Aq}{E:Ab}{s:Ar}
def pT{it l:Av}{items:_}{x:Au}(g:s.heap.IsTupleIter it l i)(J:s.heap.IsTuple l items)(I:items[i]?=some x)
  (F:∀h',h'.IsTupleIter it l (i+1)->Heap.SameBut it s.heap h'->Q x {s with heap:=h'}):A2 ww w A (Builtin.SmallTypes.nextOf (.ref it)) Q E s:=by
 obtain⟨o,B,G,q⟩:=id g;obtain⟨O,D,_,T,C⟩:=J;refine ab (wpAny_callSpecial?_slot g.typeIs F2 (eT F2 g.typeIs Qs ?_ (O8 _)));show wpAny _ _ (field _ 0 >>= _) _ _ s;refine ab (d7 B q U (ab (d7 B q U (ab (i0 D C ?_)))));simp[I];refine ab (mU B q Ve (aG ⟨x,U,aG (F _ ⟨_,gV _ B (pL (iG q _)),(CH ..).trans G,?_⟩ (lG ..))⟩));rw[iG q];simp[rawInt]
def rA{it l:Av}{items:_}(hh:A.handled=none)(g:s.heap.IsTupleIter it l i)(G:s.heap.IsTuple l items)(I:items[i]?=none)
  (F:∀h' e,Heap.ExtBut it s.heap h'->(∃o,h'.get? e=some o/\o.cls=.type "StopIteration")->E (.ref e) {s with heap:=h'}):A2 ww w A (Builtin.SmallTypes.nextOf (.ref it)) Q E s:=by
 obtain⟨o,D,T,B⟩:=id g;obtain⟨J,C,_,O,q⟩:=G;refine ab (wpAny_callSpecial?_slot g.typeIs F2 (eT F2 g.typeIs Qs ?_ (O8 _)));show wpAny _ _ (field _ 0 >>= _) _ _ s;refine ab (d7 D B U (ab (d7 D B U (ab (i0 C q ?_)))));simp[I];refine ab (iT (ab (mU D B Ve (ab (ab (fA (ab (fH (by first|rfl|(rfl)) (fA (ab (Dt ?_)) (by size_fits)))) (by size_fits)))))))
 first|rw[hh]|rw[hh]
 refine ab (aG (Dy (F _ _ (((lG ..).extBut.push _).push _) ⟨_,bY _ U,U⟩)))
end
end EnT
namespace ZpT
def Yk:Bool->Heap->Addr->Addr->Nat->Prop
 |true,h,it,l,k=>h.IsTupleIter it l k
 |false,h,it,l,k=>h.IsListIter it l k
def SeqAt:Bool->Heap->Addr->Array Au->Prop
 |true,h,l,xs=>h.IsTuple l xs
 |false,h,l,xs=>h.IsList l xs
def Yk.mv{b:Bool}{h':Heap}{it l:Av}{k:Nat}(x:Yk b h it l k)(f:∀o,h.get? it=some o->h'.get? it=some o):Yk b h' it l k:=by
 cases b
 .exact Heap.IsListIter.at x f
 .exact Heap.IsTupleIter.at x f
def SeqAt.mv{b:Bool}{h':Heap}{l:Av}{xs:Ah}(x:SeqAt b h l xs)(f:∀o,h.get? l=some o->h'.get? l=some o):SeqAt b h' l xs:=by
 cases b
 .obtain⟨o,g,r⟩:=(x);exact(⟨o,f o g,r⟩)
 .obtain⟨o,g,r⟩:=(x);exact(⟨o,f o g,r⟩)
def Yk.ob{b:Bool}{it l:Av}{k:Nat}(x:Yk b h it l k):∃o,h.get? it=some o/\∀v,o.data≠.cell v:=by
 cases b
 .obtain⟨o,g,q,B⟩:=(x);exact⟨o,g,λv z=>Vd⟩
 .obtain⟨o,g,q,B⟩:=(x);exact⟨o,g,λv z=>Vd⟩
def rD (b:Bool) (l:Av):Obj:={cls:=.type (if b then "tuple_iterator" else "list_iterator"),data:=.fields #[.ref l,.int 0 0]}
section
variable {ww:Ao}{w:As}{A:Aq}{E:Ab}{s:Ar}
def JW{b:Bool}{it l:Av}{k:Nat}{xs:Ah}{x:Au}(g:Yk b s.heap it l k)(C:SeqAt b s.heap l xs)(B:xs[k]?=some x)
  (q:∀h',Yk b h' it l (k+1)->Heap.SameBut it s.heap h'->Q x {s with heap:=h'}):A2 ww w A (Builtin.SmallTypes.nextOf (.ref it)) Q E s:=by
 cases b
 .exact wpAny_nextOf_list_item g C B q
 .exact EnT.pT g C B q
def vx{b:Bool}{it l:Av}{k:Nat}{xs:Ah}(hh:A.handled=none)(g:Yk b s.heap it l k)(B:SeqAt b s.heap l xs)(q:xs[k]?=none)
  (C:∀h' e,Heap.ExtBut it s.heap h'->(∃o,h'.get? e=some o/\o.cls=.type "StopIteration")->E (.ref e) {s with heap:=h'}):A2 ww w A (Builtin.SmallTypes.nextOf (.ref it)) Q E s:=by
 cases b
 .exact wpAny_nextOf_list_end hh g B q C
 .exact EnT.rA hh g B q C
def Ja{b:Bool}{l:Av}{xs:Ah}(g:SeqAt b s.heap l xs)(h:Q (.ref s.heap.objs.size) {s with heap:=s.heap.push (rD b l)}):A2 ww w A (pyIter (.ref l)) Q E s:=by
 cases b
 .exact Dz g h
 .exact wpAny_pyIter_tuple g h
def zS{b:Bool}{it l:Av}(e:h.get? it=some (rD b l)):Yk b h it l 0:=by
 cases b
 .exact(⟨_,e,U,U⟩)
 .exact(⟨_,e,U,U⟩)
end
end ZpT
namespace L2
open ZpT (SeqAt Yk)
def bV(K:Af):Bool->Hp->Addr->List V->Prop
 |true,H,a,xs=>aD K H a xs
 |false,H,a,xs=>aF K H a xs
def bV.t{xs:A1}(h:H a=am xs):bV K true H a xs:=(aD.of h)
def bV.l{xs:A1}(h:H a=ap xs):bV K false H a xs:=(aF.of h)
def aE.iI{X:Cx}{σ:L2.St}{xs:A1}{b:Bool}(I:aE X C σ H s)(h:bV X.K b H a xs):∃g:Ag,aJ xs g/\SeqAt b s.heap a g.toArray/\xs.length<=sizeLine:=by
 cases b
 .obtain⟨g,q,p,hz⟩:=I.list (h);revert p;refine ε2 λo n=>θ3 λe D _ B=>?_;exact⟨g,q,(⟨o,e,D,n,B⟩),hz⟩
 .obtain⟨g,q,p,hz⟩:=I.tuple (h);exact⟨g,q,(p),hz⟩
def aE.iC{X:Cx}{σ:L2.St}{xs ys:A1}{b:Bool}(I:aE X C σ H s)(h:bV X.K b H a xs)(h':bV X.K b H a ys):xs=ys:=by
 cases b
 .exact I.iV h h'
 .exact I.d3 h h'
end L2
namespace EnT
open AutoSeq1 (wpAny_loadPart')
open ZpT (SeqAt Yk rD Ja JW vx zS)
def Pt (it:Av):Obj:={cls:=.type "enumerate",data:=.fields #[.none,.bool false,.ref it,rawInt 0,.none,.none]}
set_option tactic.hygienic true in
theorem JU(b:Bool)(l:Av)(items:Ah):
  Meets (Builtin.«enumerate.__new__» ⟨[.type "enumerate",.ref l],[]⟩) (λ_ R s=>SeqAt b s.heap l items /\
   R (.ok (.ret (.ref (s.heap.push (rD b l)).objs.size))) {s with heap:=(s.heap.push (rD b l)).push (Pt s.heap.objs.size)}):=
 .of_wp λww w A R s h=>by
  obtain⟨F,g,d,tk,os⟩:=s;obtain⟨D,h⟩:=h;have C:=sub_enumerate;have q:=D;obtain⟨o,B,G⟩:∃o,F.get? l=some o/\∀v,o.data≠.cell v:=by cases b<;>(obtain⟨o,e,_,_,I⟩:=D;exact⟨o,e,λv z=>Vd⟩)
  wp_walk using wpAny_loadPart' B
  refine wpAny_stack_any λst=>aG ?_
  split
  .rename_i c _ _ _ _ _;cases(c == Value.type _)
   .wp_walk using wpAny_loadPart' B,Ja q
    exact⟨_,U,h⟩
   .wp_walk using wpAny_loadPart' B,Ja q
    exact⟨_,U,h⟩
  .wp_walk using wpAny_loadPart' B,Ja q
   exact⟨_,U,h⟩
section
variable {ww:Ao}{w:As}{A:Aq}{E:Ab}{s:Ar}
def VN{b:Bool}{e it l:Av}{items:Ah}{x old:Au}
  (he:IsEnum s.heap e it i old) (hit:Yk b s.heap it l i) (hl:SeqAt b s.heap l items) (hx:items[i]?=some x) (Y:e≠it)
  (hQ:∀h',IsEnumOut h' e it ((i:Int)+1) x s.heap.objs.size->Yk b h' it l (i+1)->
   h'.get? s.heap.objs.size=some {cls:=.type "tuple",data:=.seq #[.int i s.toks,x]}->h'.objs.size=s.heap.objs.size+1->
   (∀b o,b≠e->b≠it->s.heap.get? b=some o->h'.get? b=some o)->Q (.ref s.heap.objs.size) {s with heap:=h',toks:=s.toks+1}):
  A2 ww w A (Builtin.«enumerate.__next__» ⟨[.ref e],[]⟩) (λfin s'=>∃v,fin=.done (.ret v)/\Q v s') E s:=by
 obtain⟨hp,g,d,tk,os⟩:=s;show wpAny _ _ (field (.ref e) 2 >>= _) _ _ _;refine ab (d7 he U U ?_);refine ab (JW hit hl hx λh₁ hit₁ J=>?_);have F:=(J.2 e Y).trans he;refine ab (d7 F U U ?_);refine ab (d7 F U U ?_);refine ab (Dc ?_);refine ab (mH F Ve λh₂ he₂ O=>?_);refine ab (mH he₂ Ve λZ he₃ G=>?_);refine ab (Hz ?_);have C:IsEnum (Z.push {cls:=.type "tuple",data:=.seq #[.int i tk,x]}) e it _ old:=aW _ he₃;generalize hh₄:Z.push _=T at C;have hsz:Z.objs.size=hp.objs.size:=by rw[G.1,O.1,J.1]
 have hel:=bE he;have ht₄:T.get? hp.objs.size=some {cls:=.type "tuple",data:=.seq #[.int i tk,x]}:=by rw[<-hh₄,<-hsz];exact bY _ U
 have hz₄:T.objs.size=hp.objs.size+1:=by rw[<-hh₄,iL,hsz]
 have hk₄:∀b o,b≠e->b≠it->hp.get? b=some o->T.get? b=some o:=λb o I hbi hb=>by
  rw[<-hh₄];exact aW _ (G.extBut b o I (O.extBut b o I (J.extBut b o hbi hb)))
 have hit₄:Yk b T it l (i+1):=by
  rw[<-hh₄];exact hit₁.mv λo z=>aW _ (G.extBut _ _ (eV Y) (O.extBut _ _ (eV Y) z))
 show wpAny _ _ _ _ _ _;rw[hsz];refine ab ?_
 .refine ab (d7 C U U (aG (ab (iT ?_))));refine ab (d7 C U U (ab (mH C Ve λh₅ he₅ D=>?_)));refine ab ?_
  .refine ab (mH he₅ Ve λh₆ he₆ B=>(mH he₆ Ve λh₇ he₇ q=>?_));refine ab (pW (aG ⟨_,U,hQ h₇ he₇ (hit₄.mv λo z=>q.extBut _ _ (eV Y) (B.extBut _ _ (eV Y) (D.extBut _ _ (eV Y) z))) (q.extBut _ _ (rP hel) (B.extBut _ _ (rP hel) (D.extBut _ _ (rP hel) ht₄))) ?_ (λb o I hbi hb=>q.extBut b o I (B.extBut b o I (D.extBut b o I (hk₄ b o I hbi hb))))⟩))
   .rw[q.1,B.1,D.1,hz₄]
def next_item{b:Bool}{e it l:Av}{items:Ah}{x:Au}{Q:Aa}
  (B:IsEnum s.heap e it i v) (q:Yk b s.heap it l i) (G:SeqAt b s.heap l items) (I:items[i]?=some x) (g:e≠it)
  (D:∀h',IsEnumOut h' e it ((i:Int)+1) x s.heap.objs.size->Yk b h' it l (i+1)->
   h'.get? s.heap.objs.size=some {cls:=.type "tuple",data:=.seq #[.int i s.toks,x]}->h'.objs.size=s.heap.objs.size+1->
   (∀b o,b≠e->b≠it->s.heap.get? b=some o->h'.get? b=some o)->Q (some (.ref s.heap.objs.size)) {s with heap:=h',toks:=s.toks+1}):
  A2 ww w A (pyNext (.ref e)) Q E s:=by
 have C:s.TypeIs (.ref e) _:=⟨_,B,U⟩;exact ab (mO (wpAny_callSpecial?_slot C Hg (eT Hg C F.entry_enumerate_next
   (VN B q G I g λh' a b c d k=>aG (D h' a b c d k)) (F.args_enumerate_next_1 _))))
def next_end{b:Bool}{e it l:Av}{items:Ah}{Q:Aa}(hh:A.handled=none)
  (C:IsEnum s.heap e it i v) (q:Yk b s.heap it l i) (I:SeqAt b s.heap l items) (O:items[i]?=none)
  (G:∀h',Heap.ExtBut it s.heap h'->Q none {s with heap:=h'}):A2 ww w A (pyNext (.ref e)) Q E s:=by
 have D:s.TypeIs (.ref e) _:=⟨_,C,U⟩;refine ab (mO (wpAny_callSpecial?_slot D Hg (eT Hg D F.entry_enumerate_next ?_ (F.args_enumerate_next_1 _))));show wpAny _ _ (field _ 2 >>= _) _ _ _;refine ab (d7 C U U (ab (vx hh q I O λh' x g B=>?_)));obtain⟨o,T,J⟩:=B;refine ab (oX ⟨o,T,J⟩ Dj (aG (G _ g)))
def eM{b:Bool}{l:Av}{items:Ah}(B:SeqAt b s.heap l items)
  (h:∀h',IsEnum h' (s.heap.objs.size+1) s.heap.objs.size 0 .none->Yk b h' s.heap.objs.size l 0->h'.objs.size=s.heap.objs.size+2->
   (∀b o,s.heap.get? b=some o->h'.get? b=some o)->Q (.ref (s.heap.objs.size+1)) {s with heap:=h'}):A2 ww w A (call (.type "enumerate") [.ref l]) Q E s:=by
 refine FA F.called_enumerate Vb (F.typeCall_enumerate_1 _) (F.newCall_enumerate_1 _) (λg=>KW g _) F.entry_enumerate_new (JU b l items) ⟨B,?_⟩;have hz:(s.heap.push (rD b l)).objs.size=s.heap.objs.size+1:=iL ..;rw[hz];have q:=by
  have:=bY (s.heap.push (rD b l)) (o:=Pt s.heap.objs.size) rfl;rw[hz]at this;exact this
 refine⟨⟨_,q,U⟩,h _ q (zS (aW _ (bY _ U))) Ve λb o x=>aW _ (aW _ x)⟩
end
end EnT
namespace L2
open ZpT (SeqAt Yk)
def XC{X:Cx}{σ:St}{h':Heap}{t':Nat}{fp:List Av}(I:aE X C σ H s)(B:∀b∈fp,z6 X C H b)(k:∀b o,b∉fp->s.heap.get? b=some o->h'.get? b=some o):aE X C σ H {s with heap:=h',toks:=t'}:=by
 have D:∀b u,H b=some u->b∉fp:=λb u e z=>by rw[(B b z).1]at e;cases e
 refine I.step (λb F=>⟨(B b F).2.2.2.1,(B b F).2.1,(B b F).2.2.2.2.1,(B b F).2.2.2.2.2⟩) (λb o _ _ g e _=>k b o g e) (λb o _ _ g e _=>⟨o.slots,k b o g e⟩) (λ_ _ _ _ n=>n)
  (λb o g e=>⟨o,k b o g e⟩) (λ_ _ e=>e) (λ_ _ _ e=>e) (λb ps e=>⟨#[],Vd⟩) (λm G=>?_) (λb u e=>?_) I.bare
 .obtain⟨o,es,ep,J,r⟩:=G;exact⟨o,es,ep,k _ o (λz=>(B _ z).2.1 rfl) J,r⟩
 .refine(I.aK b u e).cI (λc v g q=>k c v ?_ q) (λ_ q=>q) λ_ _ q=>q
  rcases g with z|z
  .rw[z];exact D b u e
  .exact D c _ z
def Lq(K:Af)(b:Bool)(a:Av)(n:Nat):It:=
 ⟨λi H=>∃xs x,bV K b H a xs/\xs.length=n/\xs[i]?=some x,λi H v H'=>∃p,H p=none/\v=.ref p/\∀xs x,bV K b H a xs->xs[i]?=some x->H'=aC H p (.tup [.int i,x]),λi H=>∃xs,bV K b H a xs/\xs.length=n/\n<=i⟩
def SQ(b:Bool)(a e it:Av)(n:Nat)(O:e≠it):eA P w K (.Tuple G L ps) (Lq K b a n) [e,it] e (λi h=>(∃q,IsEnum h e it i q)/\Yk b h it a i)where
 mem:=Ve
 obj:=λi h st b B=>by
  obtain⟨⟨q,D⟩,g⟩:=st;rcases bR.mp B with rfl|B
  .simp_all
  .have:b=it:=Vd
   subst this;exact g.ob
 keep:=λi h h' st k=>by
  obtain⟨⟨q,D⟩,g⟩:=st;exact⟨⟨q,k e Ve _ D⟩,g.mv λo x=>k it Ve o x⟩
 item:=by
  intro X hP hw hK hc i zn s σ H E I J st hg;subst hP hw hK;revert hg;refine ε2 λxs x=>θ2 λZ hn hx=>?_;refine ω (I.iI Z) (ε1 λits=>θ2 λrv p hz=>?_);obtain⟨u,hu,ru⟩:=rv.get hx;obtain⟨⟨q,D⟩,g⟩:=st;refine ω (J e Ve) (θ5 λf0 f1 f2 f3 f4 f5=>?_);refine ω (J it Ve) (θ5 λg0 g1 g2 g3 g4 g5=>?_);have hilt:it<s.heap.objs.size:=by obtain⟨_,z,_⟩:=g.ob;exact bE z
  refine EnT.next_item D g p (x:=u) Vd O λh' ho Q hT hsz hk=>⟨_,U,wpAny_letOwnedTupleGo_enum ho λh2 he2 hs2=>?_⟩;have C:=hs2;have I1:aE X zn σ (aC H _ (.tup [.int i,x])) {s with heap:=s.heap.push _,toks:=s.toks+1}:=
   I.laid (λb o y=>aW _ y) (aM _) ⟨yF,[.int i s.toks,u],.cons ⟨_,U⟩ (.cons ru .nil),uW.new _ _⟩
  have T:∀b∈[e,it],z6 X zn (aC H _ (.tup [.int i,x])) b:=λb B=>by
   have hlb:b≠s.heap.objs.size:=Vd
   obtain⟨a0,ar⟩:=J b B;exact⟨by rw[Zk hlb];exact a0,ar⟩
  have I2:aE X zn σ (aC H s.heap.objs.size (.tup [.int i,x])) {s with heap:=h2,toks:=s.toks+1}:=by
   refine XC (s:={s with heap:=s.heap.push _,toks:=s.toks+1}) I1 T λb o B y=>?_;have F:b≠e:=λz=>B (by simp[z]);rcases MG y with⟨rfl,rfl⟩|y
   .exact(C.2 _ F).trans hT
   .exact(C.2 b F).trans (hk b o F (λz=>B (by simp[z])) y)
  refine⟨.ref _,_,I2,U,⟨_,I.aK.fresh (aM _),U,λys y hy Y=>?_⟩,⟨⟨u,?_⟩,Q.mv λo y=>(C.2 it O.symm).trans y⟩,λb B=>(T b B).1⟩
  .rw[I.iC hy Z,hx]at Y;cases Y;rfl
  .grind
 done:=by
  intro X hP hw hK hc i zn s σ H E I J st hg;subst hP hw hK;obtain⟨xs,Z,hn,hx⟩:=hg;obtain⟨its,rv,p,hz⟩:=I.iI Z;obtain⟨⟨q,D⟩,g⟩:=st;refine ω (J it Ve) (θ5 λg0 g1 g2 g3 g4 g5=>?_);have hl:=rv.length;exact EnT.next_end (I.ok.hd hc) D g p (by simp;simp_all) λh' eb=>⟨U,I.turned (λb o B e=>eb b o B e) g0 g1 g3 g4 g5⟩
 self:=λ_ _ _ _ _ st h=>let⟨⟨_,D⟩,_⟩:=st;wpAny_pyIter_enum D h
def Km(K:Af)(b:Bool)(te:TE):TI:=λσ H R=>te σ H λx H1=>∃a xs,x=.ref a/\bV K b H1 a xs/\R (Lq K b a xs.length) H1
def gy:bootBuiltins "enumerate" = some (.type "enumerate"):=Va
def Qo {b:Bool} {X:Cx}    {ps:Pos}  {pos:Pos} (Q:Gl X "enumerate") (F:X.mg "enumerate" = none) (T:QE X e A) (O:Yx e=true:=by rfl):QI X (.Tuple G i ps) (.Call (.Name "enumerate" p) [e] [] pos) (Km X.K b A):=by
 refine⟨λzn s σ H R I h=>?_⟩;have D:starEach [e] X.env=[(false,eval e X.env)]:=by rw[ZC O];rfl
 refine Call_ (GN I Q F gy (AU ?_ D U));rw[D];refine oW (aP (T.out zn s σ H _ I h) λu s1 ⟨x,H1,g,Y,Z⟩=>(Bs ?_));obtain⟨a,xs,rfl,hq,r⟩:=Z;cases Y;obtain⟨its,rv,pt,hz⟩:=g.iI hq;refine EnT.eM pt λh' q B hsz J=>?_;refine wpAny_pyIter_enum q ⟨_,_,_,_,H1,U,g.kept J,SQ b a _ _ _ (Nat.succ_ne_self _),⟨⟨_,q⟩,B⟩,λb C=>?_,r⟩;rcases bR.mp C with rfl|C
 .exact g.dZ (nG _) (g.aK.fresh (nG _))
 .have:=by simpa using C
  subst this;exact g.dZ (aM _) (g.aK.fresh (aM _))
def ku (q:Gl b "enumerate") (C:b.mg "enumerate" = none) (g:QE b e A) (B:Yx e=true:=by rfl):QI b (.Tuple G i ps) (.Call (.Name "enumerate" p) [e] [] pos) (Km b.K true A):=Qo q C g B
def Sd (q:Gl b "enumerate") (C:b.mg "enumerate" = none) (g:QE b e A) (B:Yx e=true:=by rfl):QI b (.Tuple G i ps) (.Call (.Name "enumerate" p) [e] [] pos) (Km b.K false A):=Qo q C g B
theorem ql{y:Str}{pos:Pos}{k:Nat}{g t2:TG}(B:b.calm=true)(h1:QG b (.Name x p) g)(h2:QG b (.Name y q) t2):QG b (.Tuple [.Name x p,.Name y q] k pos) (EN b.K 2 (vZ g (vZ t2 Du))):=
 ⟨Rw B (zP h1.out (zP h2.out Rm))⟩
theorem zT{b:Bool}{xs:A1}{j k:Nat}(g:Nat->St->Hp->Prop)(G:g 0 c H)(q:∀i c H,i<=xs.length->g i c H->bV K b H a xs)
  (F:∀i x c H p,xs[i]?=some x->H p=none->g i c H->B {Z with nx:=g (i+1),ct:=g (i+1),bk:=Z.nx} ((c.set j (ad i)).set k (some x)) (aC H p (.tup [.int i,x]))) (C:∀c H,g xs.length c H->Z.nx c H):
  pB (Lq K b a xs.length) (EN K 2 (vZ (JO j) (vZ (JO k) Du))) B Z c H:=
 ze _ g G (λi c H hi p=>⟨⟨xs,xs[i],q i c H (a8 hi) p,U,aR hi⟩,λv H' y=>by
  obtain⟨t,D,rfl,y⟩:=y;have e:=y xs _ (q i c H (a8 hi) p) (aR hi);subst e;exact⟨t,_,U,aD.of Za,U,_,_,U,_,_,U,U,F i _ c H t (aR hi) D p⟩⟩) λc H p=>⟨⟨xs,q _ c H (aM _) p,U,aM _⟩,C c H p⟩
end L2
namespace L2
def kx{i:Aw}{ty:TE}(g:X.A.units+1<cLine)(q:QE X o J)(hi:QE X i ty)(B:FT i):QE X (.Subscript o i p) (N3 J ty):=⟨Zog g q.out hi.out B⟩
theorem jv:QE X (.Dict [] [] p) Bv:=⟨λzn s σ H Q I h=>
 wpAny_Dict_empty ⟨.ref _,_,I.laid (λ_ _ q=>aW _ q) (aM _) (kr s.heap I.big),U,h _ (I.aK.fresh (aM _))⟩⟩
theorem JX{i:Aw}{ty tv:TE}(hu:X.A.units+1<cLine)(ho:QE X o J)(hi:QE X i ty)(Z:QE X e tv)(hs:swapsWith e (some (.Subscript o i q)) p.line X.env=pure false):
  QS X (.Assign [.Subscript o i q] e p) (Et J ty tv):=⟨by
 intro zn s σ H D I h;refine wpAny_Assign_Subscript (aP (Z.out zn s σ H _ I h) λr C ⟨v,H1,B,rv,q1⟩=>aP (ho.out zn C σ H1 _ B q1) λu G ⟨x,H2,T,Q,q2⟩=>aP (hi.out zn G σ H2 _ T q2) λiv s3 ⟨y,H3,Y,ry,a,F,ex,g,q3⟩=>?_) hs;subst ex;obtain rfl:u=Value.ref a:=Q;exact Vz hu Y g ry rv λs4 O=>⟨σ,F,O,q3⟩⟩
inductive QB(neg:Bool)(y:V)(x:V)(H:Hp)(Q:VK):Prop
 |mk (a o:_):(x=.ref a)->(Dm H a y o)->(Q (.bl (if neg then !o.isSome else o.isSome)) H)->QB neg y x H Q
def DN(neg:Bool):R2:=λy x H Q=>QB neg y x H Q
def xD(D:X.A.units+1<cLine):b8 X (compareOp .In) (DN false):=by
 rintro zn s σ H x y v u Q I C F ⟨a,o,rfl,g,q⟩;cases F;exact MP D I g C λs' B=>⟨.bl _,H,B,U,q⟩
def Xt(D:X.A.units+1<cLine):b8 X (compareOp .NotIn) (DN true):=by
 rintro zn s σ H x y v u Q I C F ⟨a,o,rfl,g,q⟩;cases F;exact Zof D I g C λs' B=>⟨.bl _,H,B,U,q⟩
def RH:Wd X (.builtin "len") (λxs H Q=>∃a ul,xs=[V.ref a]/\Rd H a (.dK ul)/\Q (.int ul.length) H):=by
 rintro zn s σ H xs C Q I r ⟨a,ul,rfl,e,q⟩;obtain⟨u,rfl,B⟩:=bZ r;cases B;exact Ed I e λt s' g=>⟨.int _,H,g,⟨t,U⟩,q⟩
theorem ky[DecidableEq κ]:∀{ul:List (κ×V)},(ul.map (·.1)).Nodup->∀p∈ul,Y0 ul p.1=some p.2
 |[],_,_,h=>nomatch h
 |q::r,g,p,h=>by
  rw[eE,iO]at g;rcases bR.mp h with rfl|h
  .exact YB U
  .rw[Y4 λz=>g.1 Vd];exact ky g.2 p h
def RY{x:V}(h:WO x=true):dR x x=true:=by
 cases x<;>first
  |exact sY _
  |rfl
  |cases h
theorem aE.freeze{σ:St}{ul:Az}{o:Obj}(I:aE X C σ H s)(e:Rd H a (.dK ul))(B:s.heap.get? a=some o):aE X C σ (aC H a (.b7 o (.dK ul))) s:=by
 rcases e with e|⟨o',e⟩
 .have ne:∀b u,H b=some u->u≠.dK ul->b≠a:=λb u g J z=>by
   grind
  refine I.step (ch:=[]) (λ_ z=>nomatch z) (λb o _ _ _ q _=>q) (λb o _ _ _ q _=>⟨o.slots,q⟩) (λb o _ _ n=>?_) (λb o _ q=>⟨o,q⟩)
   (λb xs q=>by rw[Zk (ne b _ q nofun)];exact q) (λb o u q=>by rw[Zk (ne b _ q nofun)];exact q) (λb ps q=>⟨#[],by rw[Zk (ne b _ q nofun),q];simp⟩) (λm D=>D) (λb u q=>?_) I.bare
  .rw[Zk (λz=>Vd)];exact n
  .have st:∀u,XA X.prog X.w H s.heap b u->XA X.prog X.w (aC H a (.b7 o (.dK ul))) s.heap b u:=λu x=>
    x.cI (λ_ _ _ q=>q) (λc q=>by rw[Zk (ne c _ q nofun)];exact q) λc xs q=>by rw[Zk (ne c _ q nofun)];exact q
   by_cases g:b=a
   .subst g;rw[Za]at q;cases q;exact⟨B,st _ (I.aK b _ e)⟩
   .rw[Zk g]at q;exact st u (I.aK b u q)
 .have z:=I.aK a _ e;obtain⟨G,_⟩:=z;have:=Option.some.inj (B.symm.trans G);subst this;have F:aC H a (.b7 o (.dK ul))=H:=by
   funext b;unfold aC;split
   .rename_i g;rw[g,e]
   .rfl
  rw[F];exact I
def K8(a:Av)(o:Obj)(ul:Az):It:=⟨λi H=>i<ul.length/\H a=some (.b7 o (.dK ul)),λi H v H'=>H'=H/\∃p,ul[i]?=some p/\v=kV p.1,λi H=>i=ul.length/\H a=some (.b7 o (.dK ul))⟩
def Zkf(h:(Yi P w).is k v=true):aH (kV k) v:=by
 rw[Zdr]at h;cases k with
 |inl i=>
  cases v<;>first
   |(have e:=h;unfold jh Value.isInt at e;simp at e;exact⟨_,by rw[e]⟩)
   |(unfold jh Value.isInt at h;simp at h)
 |inr x=>
  cases v<;>first
   |(have e:=h;unfold jh Value.isStrOf at e;simp at e;exact⟨_,by rw[e]⟩)
   |(unfold jh Value.isStrOf at h;simp at h)
def RW(a it:Av)(o:Obj)(ul:Az)(ep:Nat)(hep:∃es,o.data=.dict es ep)(Y:a≠it):eA P w K tg (K8 a o ul) [it] it (λi h=>h.IsKeyIter it a i ul.length ep)where
 mem:=Ve
 obj:=λi h st b D=>by
  have e:b=it:=by simpa using D
  subst e;obtain⟨o,e,c,d⟩:=st;exact⟨o,e,λv z=>by rw[d]at z;cases z⟩
 keep:=λi h h' st k=>st.at λo e=>k it Ve o e
 item:=by
  intro X hP hw hK hc i zn s σ H E I hf st hg;subst hP hw hK;obtain⟨hi,hH⟩:=hg;obtain⟨f0,f1,f2,f3,f4,f5⟩:=hf it Ve;obtain⟨T,z,nm,vs,B,dd⟩:=(I.aK a _ hH);obtain⟨o',es,ep',J,F,g,hk,hp,hn⟩:=id dd;have eo:o'=o:=Option.some.inj (J.symm.trans T);subst eo;obtain⟨es2,q⟩:=hep;rw[g]at q;cases q;have G:s.heap.DictAt (Yi X.prog X.w) a vs ep:=⟨o',es,T,F,g,hk,hp,hn⟩;have hl:=B.length;rw[hl]at st;refine(Walks.dictKeys (knd:=Yi X.prog X.w) (prog:=X.prog) (w:=X.w) (I.ok.hd hc) it a Y vs ep).item i s _ _ Vc ⟨st,G⟩ λv h' tk hv st' kk=>?_;revert hv;refine ε2 λk x=>θ1 λhkx Z=>?_;have I1:aE X zn σ H {s with heap:=h',toks:=tk}:=I.turned (λb o D e=>kk b o (by simpa using D) e) f0 f1 f3 f4 f5;obtain⟨C,_⟩:=st';refine ω (id C) (ε1 λoi=>θ2 λe cc d=>?_);have O:(ul.map (·.1))[i]?=some k:=by
   rw[B.keys,aY,hkx];rfl
  rw[aY]at O;obtain⟨p,hp1,hp2⟩:=eG.mp O;rw[<-hl]at C;exact⟨_,U,ke (s:={s with heap:=h',toks:=tk}) e cc d Vb ⟨kV k,H,I1,Zkf Z,⟨U,p,hp1,by rw[hp2]⟩,C,λb D=>(hf b D).1⟩⟩
 done:=by
  intro X hP hw hK hc i zn s σ H E I hf st hg;subst hP hw hK;obtain⟨hi,hH⟩:=hg;obtain⟨f0,f1,f2,f3,f4,f5⟩:=hf it Ve;obtain⟨T,z,nm,vs,B,dd⟩:=(I.aK a _ hH);obtain⟨o',es,ep',J,F,g,hk,hp,hn⟩:=id dd;have eo:o'=o:=Option.some.inj (J.symm.trans T);subst eo;obtain⟨es2,q⟩:=hep;rw[g]at q;cases q;have G:s.heap.DictAt (Yi X.prog X.w) a vs ep:=⟨o',es,T,F,g,hk,hp,hn⟩;have hl:=B.length;rw[hi,hl]at st;exact(Walks.dictKeys (knd:=Yi X.prog X.w) (prog:=X.prog) (w:=X.w) (I.ok.hd hc) it a Y vs ep).done s _ _ ⟨st,G⟩ λh' tk kk=>⟨U,I.turned (t':=tk) (λb o D e=>kk b o (by simpa using D) e) f0 f1 f3 f4 f5⟩
 self:=λA i s Q E st h=>wpAny_pyIter_keyiter st h
theorem Pe{o:Obj}{ul:Az}{g:TG}(C:Nat->St->Hp->Prop)(O:C 0 c H)(F:∀i c H,i<=ul.length->C i c H->H a=some (.b7 o (.dK ul)))
  (Q:∀i p c H,ul[i]?=some p->C i c H->g (kV p.1) c H λD H2=>B {Z with nx:=C (i+1),ct:=C (i+1),bk:=Z.nx} D H2) (G:∀c H,C ul.length c H->Z.nx c H):
  pB (K8 a o ul) g B Z c H:=
 ze _ C O (λi c H hi p=>⟨⟨hi,F i c H (a8 hi) p⟩,λv H' ⟨e,q,I,J⟩=>Vd⟩) λc H p=>⟨⟨U,F _ c H (aM _) p⟩,G c H p⟩
inductive i9(P:Params):List DictEntry->List (Str×Int)->Prop
 |nil:i9 P [] []
 |cons {k:Str} {v:Int} {t u:Tok} {es:List DictEntry} {l:List (Str×Int)}:i9 P es l->i9 P ({hash:=PyData.keyHash P k,key:=.str k t,val:=.int v u}::es) ((k,v)::l)
structure KD(K:Af)(w:As)(a:Av)(l:List (Str×Int)):Prop where
 ex:∃es ep,K.lookup a=some {cls:=.type "dict",dict:=none,data:=.dict es ep,slots:=#[]}/\i9 w.params es.toList l
 nd:(l.map (·.1)).Nodup
 ns:(a == sysModules)=false
def bK(l:List (Str×Int)):Az:=l.map λp=>((Sum.inr p.1:aV),V.int p.2)
theorem i9.pairs(h:i9 w.params es l):(∃vs,KV (bK l) vs/\Pairs (Yi P w) es vs)/\∀e∈es,∃k,(Yi P w).is k e.key=true/\e.hash=(Yi P w).hash k:=by
 induction h with
 |nil=>exact⟨⟨[],.nil,.nil⟩,λ_ h=>nomatch h⟩
 | @cons k v t u es l _ B=>
  obtain⟨⟨vs,r,p⟩,q⟩:=B;refine⟨⟨(.inr k,.int v u)::vs,.cons ⟨U,⟨u,U⟩⟩ r,.cons (qf P w k t) U p⟩,λe g=>?_⟩;rcases bR.mp g with rfl|g
  .exact⟨.inr k,qf P w k t,U⟩
  .exact q e g
section
variable {X:Cx}{zn:Ac}{σ:St}{H:Hp}{s:Ar}{a:Av}{l:List (Str×Int)}{k:aV}{u:Au}{A:Aq}{E:Ab}
def KD.of(I:aE X zn σ H s)(d:KD X.K X.w a l):∃vs,KV (bK l) vs/\s.heap.DictOf (Yi X.prog X.w) a vs:=by
 obtain⟨es,ep,g,t⟩:=d.ex;obtain⟨⟨vs,r,p⟩,q⟩:=t.pairs;refine⟨vs,r,_,es,ep,I.fE a _ g,⟨U,U,U⟩,U,λe B=>q e Vd,p,?_⟩;rw[<-r.keys];unfold bK;rw[cR];have:=d.nd;rw[List.nodup_iff_pairwise_ne]at *;rw[MB]at *;exact this.imp λh z=>h (Sum.inr.inj z)
def Fw(I:aE X zn σ H s)(d:KD X.K X.w a l)(q:aH (kV k) u)(h:∀s',aE X zn σ H s'->Q (.bool (Y0 (bK l) k).isSome) s'):A2 X.prog X.w A (compareOp .In u (.ref a)) Q E s:=by
 obtain⟨vs,g,dd⟩:=d.of I;refine wpAny_in_of (kq q) d.ns dd.mapOf ?_;rw[<-(g.val k).cC];exact h _ (I.tok _)
def Zoj{z:V}{r:Au}(I:aE X zn σ H s)(d:KD X.K X.w a l)(B:aH (kV k) u)(C:aH z r)(h:∀q s',aE X zn σ H s'->aH ((Y0 (bK l) k).getD z) q->Q q s'):
  A2 X.prog X.w A (call (.builtin "dict.get") [.ref a,u,r]) Q E s:=by
 obtain⟨vs,g,dd⟩:=d.of I;exact call_meetsIn PySem.F.slot_dict_get dd.typeIs PySem.F.entry_dict_get (PySem.F.args_dict_get_3 _ _ _) (meets_dict_get_default _ a (kq B) d.ns r) ⟨_,dd.mapOf,h _ _ (I.tok _) ((g.val k).getD C)⟩
end
def MQ(K:Af)(w:As):R2:=λy x H Q=>∃a l k,x=.ref a/\KD K w a l/\y=kV k/\Q (.bl (Y0 (bK l) k).isSome) H
def Kr:b8 X (compareOp .In) (MQ X.K X.w):=by
 refine λzn s σ H x y v u Q I B C=>ε3 λa l k=>θ3 λzq0 d zq1 q=>?_;subst zq0;subst zq1;cases C;exact Fw I d B λs' g=>⟨.bl _,H,g,U,q⟩
def Ff(K:Af)(w:As)(td ty tx:TE):TE:=λσ H Q=>td σ H λx H1=>∃a l,x=.ref a/\KD K w a l/\ty σ H1 λy H2=>tx σ H2 λz g=>∃k,y=kV k/\Q ((Y0 (bK l) k).getD z) g
def Eu{f:Aw}{m:Str}(B:Yx e=true)(C:Yx f=true)(D:attributeBase o m X.env (eval o X.env)=eval o X.env)(g:(p.endLine == q.line)=true):M2 X o m p e f q where
 base:=D
 mP:=by
  rw[dA Vd];rfl
 line:=g
 trees:=by
  rw[ZC B,ZC C];rfl
def LA {f:Aw}  {tx:TE} (ho:QE X o A) (he:QE X e J) (D:QE X f tx) (h1:Yx e=true:=by rfl) (h2:Yx f=true:=by rfl) (hb:attributeBase o "get" X.env (eval o X.env)=eval o X.env:=by rfl) (hl:(p.endLine == q.line)=true:=by rfl):
  QE X (.Call (.Attribute o "get" p) [e,f] [] q) (Ff X.K X.w A J tx):=by
 have m:=Eu h1 h2 hb hl;refine⟨λzn s σ H Q I h=>(wpAny_Call_method m.base m.mP m.line PySem.F.plainAttrs_dict PySem.F.slot_dict_get PySem.F.type_dict_get (aP (ho.out zn s σ H _ I h) λu G ⟨x,H1,C,Y,a,l,ex,d,q1⟩=>?_))⟩;subst ex;obtain rfl:u=Value.ref a:=Y;obtain⟨vs,Z,dd⟩:=d.of C;refine⟨dd.typeIs,λb g=>?_,?_⟩
 .cases g;revert dd;refine ε3 λob _ _=>θ2 λg1 g2 _=>?_;exact⟨ob,g1,g2.2.1⟩
 rw[m.trees];refine FG U (Io (oW (aP (he.out zn G σ H1 _ C q1) λiv O ⟨y,H2,I2,ry,q2⟩=>oW (aP (D.out zn O σ H2 _ I2 q2) λfv s3 ⟨z,H3,I3,rz,k,ey,q3⟩=>Bs ?_))));subst ey;exact Zoj I3 d ry rz λw' s4 T B=>⟨_,H3,T,B,q3⟩
def Zkg(f:Nat->V)(hz:x.cps.size<=sizeLine)
  (D:∀c∈x.cps.toList,∀R:VK,R (f c) H->A (xx is σ (some (.str ⟨#[c]⟩))) H R)
  (F:∀l,H l=none->E (.ref l) (aC H l (.lst (x.cps.toList.map f)))):JT is oU A σ E (Mv x) H:=by
 refine⟨λi m zs H'=>m=x.cps.size-i/\i<=x.cps.size/\zs=(x.cps.toList.take i).map f/\H'=H,⟨x.cps.size,Ve,cD _,U,U⟩,?_⟩;rintro i m zs H' ⟨rfl,hi,rfl,rfl⟩;have C:((x.cps.toList.take i).map f).length<=sizeLine:=by
  grind
 by_cases g:i<x.cps.size
 .refine .inr ⟨g,C,λv H2 y=>?_⟩;obtain⟨e,c,G,rfl⟩:=y;subst e;have q:x.cps.toList[i]?=some c:=Vd
  refine D c (bP q) _ ⟨_,Vd,U,g,?_,U⟩;rw[aB q,dC];rfl
 .have e:i=x.cps.size:=Vc
  refine .inl ⟨e,C,λl B=>?_⟩;rw[i8 Vd];exact F l B
def gz:A1->List V->Bool
 |[],[]=>true
 |x::xs,y::ys=>dR x y&&gz xs ys
 |_,_=>false
def BX(xs ys:A1)(j:Nat):Bool:=match xs[j]?,ys[j]? with
 |some a,some b=>dR a b
 |_,_=>true
theorem xE:∀xs ys:A1,((List.range (min xs.length ys.length)).all (BX xs ys)&&xs.length == ys.length)=gz xs ys
 |[],[]=>rfl
 |[],y::ys=>by simp[gz]
 |x::xs,[]=>by simp[gz]
 |x::xs,y::ys=>by
  have e1:min (x::xs).length (y::ys).length=min xs.length ys.length+1:=Ve
  have e2:((x::xs).length == (y::ys).length)=(xs.length == ys.length):=Ve
  rw[e1,e2,List.range_succ_eq_map,mS,Fq,Bool.and_assoc];show(dR x y&&((List.range _).all (BX xs ys)&&xs.length == ys.length))=(dR x y&&gz xs ys);rw[xE xs ys]
def g9{A:Aq}{xs ys:A1}{q g:Ag}(r:aJ xs q)(G:aJ ys g)(f:xs.all WO=true)(I:ys.all WO=true):∀j (h1:j<q.toArray.size) (h2:j<g.toArray.size),SeqAt.EqAt A s q.toArray[j] g.toArray[j] (BX xs ys j):=λj h1 h2=>by
 have Y:=r.length;have T:=G.length;have D:j<xs.length:=Vd
 have B:j<ys.length:=Vd
 obtain⟨u,e1,O⟩:=r.get (aR D);obtain⟨J,e2,Q⟩:=G.get (aR B);have C:q.toArray[j]=u:=by
  grind
 have F:g.toArray[j]=J:=by
  grind
 have e3:BX xs ys j=dR xs[j] ys[j]:=by
  unfold BX;rw[aR D,aR B]
 rw[C,F,e3];exact Ol O Q (i7.mp f _ (f7 D)) (i7.mp I _ (f7 B))
theorem Sb(f:xs.all WO=true):gz xs xs=true:=by
 induction xs with
 |nil=>rfl
 |cons x xs g=>
  rw[mS,lI]at f;show(dR x x&&gz xs xs)=true;rw[RY f.1,g f.2];rfl
inductive Qh(K:Af)(neg:Bool)(x:V)(y:V)(H:Hp)(Q:VK):Prop
 |mk (a c xs ys:_):(x=.ref a)->(y=.ref c)->(aD K H a xs)->(aD K H c ys)->(xs.all WO=true)->(ys.all WO=true)->(Q (.bl (if neg then !gz xs ys else gz xs ys)) H)->Qh K neg x y H Q
def AK(K:Af)(neg:Bool):R2:=λx y H Q=>Qh K neg x y H Q
def UM(O:X.A.units<cLine):b8 X (compareOp .Eq) (AK X.K false):=by
 rintro zn s σ H x y v u Q I D T ⟨a,c,xs,ys,rfl,rfl,F,G,f,C,q⟩;cases D;cases T;obtain⟨J,r,p,_⟩:=I.tuple F;obtain⟨B,g,p2,_⟩:=I.tuple G;refine SeqAt.eq_tupleAt (e:=BX xs ys) p p2 O (g9 r g f C) (Ym I q ?_);show gz xs ys=_;rw[nA,nA,<-r.length,<-g.length,xE]
def kz(O:X.A.units<cLine):b8 X (compareOp .NotEq) (AK X.K true):=by
 rintro zn s σ H x y v u Q I D T ⟨a,c,xs,ys,rfl,rfl,F,G,f,C,q⟩;cases D;cases T;obtain⟨J,r,p,_⟩:=I.tuple F;obtain⟨B,g,p2,_⟩:=I.tuple G;refine SeqAt.RcNeAt.tuples (e:=BX xs ys) p p2 O (g9 r g f C) X.prog X.w _ _ (Ym I q ?_);show(!gz xs ys)=_;rw[nA,nA,<-r.length,<-g.length,xE]
def Js(t:SetTable)(n:Nat):(t.standIn n).led=t.led/\(t.plain=false->(t.standIn n).plain=false):=⟨U,λ_=>U⟩
def k4(t:SetTable)(n:Nat):(t.orStandIn n).led=t.led/\(t.plain=false->(t.orStandIn n).plain=false):=by
 unfold SetTable.orStandIn;split
 .exact⟨U,id⟩
 .exact Js _ _
def Vr(t:SetTable)(es:Array (Int×Au))(h:Int)(x:Au):(layNew t es h x).2.1.led=t.led/\(t.plain=false->(layNew t es h x).2.1.plain=false):=by
 unfold layNew;split
 .exact k4 _ _
 .exact Js _ _
set_option tactic.hygienic true in
theorem gC(t:SetTable)(es:Array (Int×Au))(n:Nat):(relayAll t es n).2.1.led=t.led/\(t.plain=false->(relayAll t es n).2.1.plain=false):=by
 unfold relayAll;split
 .rename_i t' B g;have q:t'.led=t.led/\(t.plain=false->t'.plain=false):=by
   unfold SetTable.relaid SetTable.laid at g;cases hc:SetTable.layClean _ _ with
   |none=>rw[hc]at g;exact nomatch g
   |some C=>
    rw[hc]at g;obtain⟨rfl,_⟩:=g;exact⟨U,id⟩
  dsimp only;split
  .exact q
  .exact Js _ _
 .exact Js _ _
def tx:Au->Str
 |.str x _=>x
 |_=>⟨#[]⟩
def jw(ww:Ao)(w:As)(h:Heap)(a:Av)(led:Bool)(S:Ai):Prop:=
 ∃o es ep t,h.get? a=some o/\o.ExactSet/\o.data=.set es ep t/\ElemsOf (strKind ww w) es.toList/\(es.toList.map λe=>tx e.2).Perm S/\t.fits es.size=true/\t.led=led/\(es.size=0\/t.plain=false)
section
variable {ww:Ao}{w:As}{A:Aq}{E:Ab}{s:Ar}
def Ql{e:Au}{k:Str}(h:(strKind ww w).is k e=true):tx e=k:=by
 obtain⟨t,rfl⟩:=Iw h;rfl
def Pb{l:List (Int×Au)}(h:ElemsOf (strKind ww w) l){e:Int×Au}(q:e∈l):(strKind ww w).is (tx e.2) e.2=true/\∃t,e.2=.str (tx e.2) t:=by
 obtain⟨⟨k,g,_⟩,_⟩:=h e q;rw[Ql g];exact⟨g,Iw g⟩
def ins(S:Ai)(x:Str):Ai:=if x∈S then S else S++[x]
def Zol{l:List (Int×Au)}(h:ElemsOf (strKind ww w) l):
  (l.findIdx? (λe=>(strKind ww w).is x e.2)).isSome=true↔x∈l.map (λe=>tx e.2):=by
 rw[List.findIdx?_isSome,AM,bG];constructor
 .rintro⟨e,g,q⟩;exact⟨e,g,Ql q⟩
 .rintro⟨e,g,q⟩;exact⟨e,g,q ▸ (Pb h g).1⟩
def jx{o:Obj}{es:Array (Int×Au)}{t:SetTable}(O:h.get? a=some o)(C:o.ExactSet)(F:o.data=.set es i t)
  {g:Array (Int×Au)} {t':SetTable} {S:Ai} {led:Bool} (q:ElemsOf (strKind ww w) g.toList) (G:(g.toList.map λe=>tx e.2).Perm S) (I:t'.fits g.size=true) (J:t'.led=led) (B:g.size=0\/t'.plain=false):
  (h.update a (Obj.putSet g t')).get? a=some {o with data:=.set g (i+1) t'}/\jw ww w (h.update a (Obj.putSet g t')) a led S:=by
 have D:=by
  have:=gV (Obj.putSet g t') O (by rw[putSet_of g t' F];rfl);rw[putSet_of g t' F]at this;exact this
 exact⟨D,_,g,i+1,t',D,C,U,q,G,I,J,B⟩
theorem Vq{S:Ai}{tk:Tok}{Q:Bool->Shared->Prop}(hS:jw ww w s.heap a led S)(hroom:S.length+1<scanBound)
  (h:∀h' b,Heap.SameBut a s.heap h'->jw ww w h' a led (ins S x)->Q b {s with heap:=h'}):
  A2 ww w A (setAddHashed a (.str x tk) ((strKind ww w).hash x)) Q E s:=by
 revert hS;refine ε4 λo es ep t=>θ6 λho hex hd G hp hf=>θ1 λhl hpl=>?_;have hn:es.size=S.length:=by rw[<-hp.length_eq,aI,nH]
 have J:(strKind ww w).is x (.str x tk)=true:=by show Value.isStrOf x (.str x tk)=true;simp[Value.isStrOf]
 refine iZ (ab (Dn ho hd hf ?_));dsimp only;rw[byScan_of U Vc G];refine ab ?_;refine ab (iT (ab (wpAny_setScan_of J ho hd hf G ?_)));have hfi:=Zol G (x:=x);cases hr:List.findIdx? _ _ with
 |some j=>
  rw[hr]at hfi;have hx:=hp.mem_iff.mp (hfi.mp U);refine aG (aG ?_);have:=h s.heap false (Heap.SameBut.refl a s.heap) (by rw[ins,aN hx];exact⟨o,es,ep,t,ho,hex,hd,G,hp,hf,hl,hpl⟩);exact this
 |none=>
  rw[hr]at hfi;have hx:x∉S:=λhm=>Vd
  have I:=Vr t es ((strKind ww w).hash x) (.str x tk);have C:=layNew_perm t es ((strKind ww w).hash x) (.str x tk);have F:=layNew_fits t es ((strKind ww w).hash x) (.str x tk);generalize hL:layNew t es _ _=L at I C F ⊢;obtain⟨q,t1,wd,gave⟩:=L;rw[Mc]at C;have Y:=(G.push J U).perm C;have hp1:(q.toList.map λe=>tx e.2).Perm (ins S x):=by
   rw[ins,aL hx];refine(C.map _).trans ?_;rw[dC];exact hp.append_right _
  have oE:q.size=S.length+1:=by
   have:=hp1.length_eq;rw[ins,aL hx,aI,aZ]at this;exact this
  have hg:∀(b:Bool) {B:Ar} {T:Unit->Shared->Prop},T () B->A2 ww w A (match b with|true=>rule "set.scan.the-table-gave-way" |false=>pure ()) T E B:=
   λb B T D=>by cases b<;>first|exact aG D|exact iT D
  refine ab (hg _ ?_);have key:∀(g:Bool->Sem Unit),(∀(b:Bool)(B:Ar)(T:Unit->Shared->Prop),T () B->A2 ww w A (g b) T E B)->∀t2,t2.fits q.size=true->t2.led=led->t2.plain=false->
    A2 ww w A (do
     storeSet a q t2
     if(!wd&&t2.tooFull)=true then do
       g (relayAll t2 q (SetTable.grown q.size)).2.2
       storeSet a (relayAll t2 q (SetTable.grown q.size)).1 (relayAll t2 q (SetTable.grown q.size)).2.1
       pure (some true)
      else pure (some true)) (λr s'=>r=some true/\∀b,Q b s') E s:=by
   intro g hg t2 hf2 hl2 hp2;refine ab (wpAny_storeSet_of ho hd ?_ (Lc Vc));obtain⟨ho1,hS1⟩:=jx ho hex hd Y hp1 hf2 hl2 (.inr hp2);have O:=lG s.heap a (Obj.putSet q t2);split
   .have D:=relayAll_perm t2 q (SetTable.grown q.size);have hfr:=relayAll_fits t2 q (SetTable.grown q.size);have Z:=gC t2 q (SetTable.grown q.size);generalize relayAll t2 q _=Rl at D hfr Z ⊢;obtain⟨es2,t3,g2⟩:=Rl;have lY:es2.size=q.size:=by rw[<-nH,D.length_eq,nH]
    refine ab (hg _ _ _ (ab (wpAny_storeSet_of ho1 U ?_ (Lc (by simp_all)))));obtain⟨_,hS2⟩:=jx ho1 hex U (Y.perm D) ((D.map _).trans hp1) hfr (Z.1.trans hl2) (.inr (Z.2 hp2));exact aG ⟨U,λb=>h _ b (O.trans (lG _ a _)) hS2⟩
   .exact aG ⟨U,λb=>h _ b O hS1⟩
  split
  .rename_i hpt;refine ab ?_;rw[hashByValue_scannable 8 rfl];refine aG ?_;rw[show plainKind _=false from U];refine iJ (key _ ?_ _ (SetTable.fits_plain_off F) (I.1.trans hl) U) ?_ (λ_ _ e=>e)
   .intro b B T D;cases b<;>first|exact aG D|exact iT D
   .rintro r s' ⟨rfl,D⟩;exact aG (D _)
  .rename_i hpt;refine ab (aG (iJ (key _ ?_ t1 F (I.1.trans hl) (by simpa using hpt)) ?_ (λ_ _ e=>e)))
   .intro b B T D;cases b<;>first|exact aG D|exact iT D
   .rintro r s' ⟨rfl,D⟩;exact aG (D _)
end
def JY(ys:Ai):Ai:=ys.foldl ins []
def vy(ys:Ai)(y:Str):JY (ys++[y])=ins (JY ys) y:=by simp[JY]
def Zom(S:Ai)(x:Str):(ins S x).length<=S.length+1:=by unfold ins;split<;>simp
theorem WT(ys:Ai):∀i,(JY (ys.take i)).length<=i
 |0=>by simp[JY]
 |i+1=>by
  by_cases h:i<ys.length
  .rw[MZ,aR h,Option.toList_some,vy];have:=WT ys i;have:=Zom (JY (ys.take i)) ys[i];lia
  .rw[i8 Vc];have:=WT ys i;rw[i8 Vc]at this;lia
def xF{led:Bool}{S:Ai}(B:jw ww w h a led S)(q:∀o,h.get? a=some o->h'.get? a=some o):jw ww w h' a led S:=by
 revert B;refine ε4 λo es ep t=>θ1 λg op=>?_;exact⟨o,es,ep,t,q o g,op⟩
section
variable {ww:Ao}{w:As}{A:Aq}{R:Result->Shared->Prop}{I:Av}{fp wr:List Av}{G:Array GenState->Array GenState->Prop}{n:Nat}{P:Nat->Value->Prop}{St:Nat->Shared->Prop}
theorem Zd1(W:WalksS ww w A.in1 I fp wr G n P St)(S:Av)(Q:S∉fp){led:Bool}{ys:Ai}(hn:ys.length=n)
  (Y:∀i v,P i v->∃y t,ys[i]?=some y/\v=.str y t) (Z:n+1<scanBound):
  ∀(k i:Nat)(s:Ar),n-i=k->i<=n->St i s->jw ww w s.heap S led (JY (ys.take i))->
   (∀s',Moved (S::wr) G s s'->jw ww w s'.heap S led (JY ys)->R (.ok (.ret .none)) s')->
   codeAny (model ww w) A (.builtin "set.update.loop" ⟨[.ref S,.ref I],[]⟩) R s:=by
 have C:S∉wr:=λh=>Q (W.sub _ h);have g:∀b∈wr,b∈S::wr:=λb Z=>cA _ Z;intro k
 induction k with
 |zero=>
  intro i s hk hi q hS hR;have T:i=n:=Vd
  rw[T,<-hn,dI]at hS;subst T;refine mD F.entry_set_update_loop ?_;refine ab (W.done s _ _ q λs' J=>?_);exact aG (hR s' (J.mono g) (xF hS λo ho=>J.heap S _ C ho))
 |succ k ih=>
  intro i s hk hi q hS hR;have D:i<n:=Vd
  refine mD F.entry_set_update_loop ?_;refine ab (W.item i s _ _ D q λv s' hP hst' J=>?_);obtain⟨y,t,hy,rfl⟩:=Y i v hP;refine ab (iZ ?_);refine iZ ?_;refine ab ((PySem.strKind ww w).pyHash (k:=y) (by show Value.isStrOf y (.str y t)=true;simp[Value.isStrOf]) ?_);refine Vq (xF hS λo ho=>J.heap S _ C ho) (by have:=WT ys i;lia) λh' b hsb hS2=>?_;rw[<-vy,show ys.take i++[y]=ys.take (i+1) by rw[MZ,hy,Option.toList_some]]at hS2;refine aG ⟨nV F.plain_set_update_loop _,ih (i+1) _ Vd D (W.frame _ s' _ _ hst' (nG _) λb Z o e=>?_) hS2 λs'' B O=>?_⟩
  .rw[hsb.2 b (λh:b=S=>Q Vd)];exact e
  .refine hR s'' (Moved.trans W.gtrans ((J.mono g).then_heap (nG _) λb o Z e=>?_) B) O;rw[hsb.2 b (λh:b=S=>Z Vd)];exact e
end
section
variable {ww:Ao}{w:As}{A:Aq}{E:Ab}{s:Ar}
def uT (w:As):Bool:=w.params.followText "set-order"
def YW (w:As):Obj:={cls:=.type "set",dict:=none,data:=.set #[] 0 (.fresh 0 0 (!uT w))}
def Uy(a:Au){Q₁:Ab}(h:Q₁ (.ref s.heap.objs.size) {s with heap:=s.heap.push (YW w)}):
  codeAny (model ww w) A (.call (.builtin "set.__new__") ⟨[.type "set",a],[]⟩) (wants Q₁ E) s:=by
 refine codeAny_of_tree ?_;show wpAny _ A.in1 _ _ _ s;refine ab (fH (F.newCall_set_1 a) (aG ⟨nV F.plain_set_new _,mD F.entry_set_new ?_⟩));rw[DI F.plain_set_new _];unfold Builtin.«set.__new__» Builtin.Frozenset.newClass;have q:=sub_set_self;obtain⟨B,g,d,tk,os⟩:=s;dsimp only
 wp_walk
 refine MW (aG ?_);dsimp only;simp[newObj];refine ab (wpAny_alloc (aG (aG h)))
theorem yI{l:Av}{items:Ah}{ys:Ai}
  (hh:A.handled=none) (hl:s.heap.IsList l items) (hi:StrsAre items.toList ys) (hb:items.size+1<scanBound)
  (h:∀(h':Heap)(tk:Nat),s.toks<=tk->jw ww w h' s.heap.objs.size (!uT w) (JY ys)->
   (∀b o,b<s.heap.objs.size->s.heap.get? b=some o->h'.get? b=some o)->Q (.ref s.heap.objs.size) {s with heap:=h',toks:=tk}):
  wpAny (model ww w) A (call (.type "set") [.ref l]) Q E s:=by
 obtain⟨c,tl,hmro⟩:=r9.mro;have hmade:=r9.made;have hsub:=r9.sub;refine wpAny_call (codeAny_of_tree ?_);show wpAny _ _ (callAny (.type "set") _) _ _ _;refine aG ⟨Code.quiet_builtin _ Va,mD F.entry_type_call ?_⟩;rw[Around.under_plain (weight_type_call_type "set" [.ref l] []) U];have h1:=r9.notType;have h2:=r9.canCreate;have hct:=F.typeCall_set_1 (.ref l)
 repeat (any_goals (first|assumption|wp_step))
 refine sX (Uy (.ref l) (E:=E) (Q₁:=λobj B=>obj=.ref s.heap.objs.size/\B={s with heap:=s.heap.push (YW w)}) ⟨U,U⟩) λr B hr=>?_;cases r with
 |error e=>exact hr
 |ok fl=>
  cases fl with
  |ret obj=>
   obtain⟨rfl,rfl⟩:=hr;have hS:(s.heap.push (YW w)).get? s.heap.objs.size=some (YW w):=bY _ rfl;have hT:Shared.TypeIs {s with heap:=s.heap.push (YW w)} (.ref s.heap.objs.size) "set" :=⟨_,hS,U⟩;have hli:=r9.init.lookup;have hbi:=r9.init.bind (.ref s.heap.objs.size)
   repeat (any_goals (first|assumption|wp_step))
   refine sX (codeAny_call_builtin (R:=wants (λr s₂=>r=.none/\∃h' tk,s.toks<=tk/\s₂={s with heap:=h',toks:=tk} /\
     jw ww w h' s.heap.objs.size (!uT w) (JY ys) /\
     (∀b o,b<s.heap.objs.size->s.heap.get? b=some o->h'.get? b=some o)) E) r9.init.plain F.entry_set_init (check_set_init_1 hT ?_)) λr₂ s₂ g=>?_
   .obtain⟨ol,T,hcl,nl,hdl⟩:=hl;obtain⟨ocls,D,odata,q⟩:=ol;simp only at hcl hdl;subst hcl;subst hdl;have Z:(s.heap.push (YW w)).get? l=some {cls:=.type "list",dict:=D,data:=.seq items nl,slots:=q}:=aW _ T;have hsls:=F.sub_list_set;have hslf:=F.sub_list_frozenset;have hne:(Value.type "list" == Value.type "dict")=false:=Vb
    have hl1:(s.heap.push (YW w)).IsList l items:=⟨_,Z,U,nl,U⟩;unfold Builtin.«set.__init__» noKeywords Builtin.Frozenset.updateFrom;generalize hPI:pyIter=PI
    wp_walk
    subst hPI;refine Dz hl1 ?_;refine ab (wpAny_runValue ?_);have O:l<s.heap.objs.size:=bE T;have hh3:A.in1.in1.in1.handled=none:=by simp[hh]
    have Y:l≠(s.heap.push (YW w)).objs.size:=by
     rw[iL];exact cQ (DL O)
    have hSf:s.heap.objs.size∉[(s.heap.push (YW w)).objs.size,l]:=by
     rw[iL];simp only[bR,b9,fQ,nR,not_or];exact⟨cQ (tI _),rP O⟩
    have hval:∀(i:Nat)(v:Au),items[i]?=some v->∃y t,ys[i]?=some y/\v=.str y t:=λi v hv=>by
     rw[<-Array.getElem?_toList]at hv;obtain⟨y,t,e1,e2⟩:=StrsAre.item hi i v hv;exact⟨y,t,e2,e1⟩
    refine Zd1 ((Walks.list hh3 _ l Y items).toS) s.heap.objs.size
     hSf (led:=!uT w) (ys:=ys) (by rw[<-nH];exact hi.length.symm) hval hb (items.size-0) 0 _ Vc (cD _)
     ⟨⟨_,bY _ U,U,U⟩,(hl1.push _)⟩ ?hS0 ?hR
    case hS0=>
     exact⟨YW w,#[],0,.fresh 0 0 (!uT w),aW _ hS,⟨U,U,U⟩,U,λe he=>by simp at he,by simp[JY],U,U,.inl U⟩
    case hR=>
     intro s' J C;have I:=J.toks;obtain⟨h',g',d',tk',os'⟩:=s';have eg:g'=s.gens:=J.gens;have ed:d'=s.drawn:=J.drawn;have eo:os'=s.os:=J.os;subst eg;subst ed;subst eo;show wpAny _ _ _ _ _ _;refine aG ?_;show wpAny _ _ (ret Value.none) _ _ _;refine aG ⟨U,h',tk',I,U,C,λb o hb e=>?_⟩;have hb1:b≠s.heap.objs.size:=cQ hb;have hb2:b≠(s.heap.push (YW w)).objs.size:=by
      rw[iL];exact cQ (DL hb)
     exact J.heap b o (by simp only[bR,b9,fQ,nR,not_or];exact⟨hb1,hb2⟩) (aW _ (aW _ e))
   .cases r₂ with
    |error e=>exact g
    |ok G=>
     cases G with
     |ret r=>
      obtain⟨rfl,h',tk,I,rfl,C,hk'⟩:=g
      repeat (any_goals (first|assumption|wp_step))
      exact h _ _ I C hk'
     |_=>exact g.elim
  |_=>exact hr.elim
end
theorem ZZ:Slot "set_iterator" "__next__" "set_iterator.__next__" :=
 .of (owner:= "set_iterator") (n:= "__next__") Vf Va Va Va
  (by first|exact .inl Va|exact .inr _) Vf
def Xu:entryFor table "set_iterator.__next__" = some Builtin.«set_iterator.__next__»:=entryFor_of_tree Vf
def XM (a:Au):argsOk "set_iterator.__next__" ⟨[a],[]⟩:=by
 kernel_rfl
theorem yJ:entryFor table "set.__iter__" = some Builtin.«frozenset.__iter__» :=
 entryFor_alias (id':= "frozenset.__iter__") Vf U Va Vf
section
variable {ww:Ao}{w:As}{A:Aq}{E:Ab}{s:Ar}
def Zd2{g:Source}{Q:Nat->Shared->Prop}(q:n≠0)(h:∀i d,i<n->Q i {s with drawn:=d}):A2 ww w A (choose g n) Q E s:=λΓ p B=>by
 exact⟨q,h _ _ (Nat.mod_lt _ (Nat.pos_of_ne_zero q))⟩
theorem Xv{α:Type}:∀(xs:List α)(i:Nat)(x:α),xs[i]?=some x->(x::xs.eraseIdx i).Perm xs
 |[],i,x,h=>by simp at h
 |y::ys,0,x,h=>by simp at h;subst h;exact .rfl
 |y::ys,i+1,x,h=>(List.Perm.swap y x _).trans ((Xv ys i x h).cons y)
theorem qF:∀(n:Nat)(xs:List α)(s:Ar)(Q:List α->Shared->Prop),xs.length<=n->(∀ys d,ys.Perm xs->Q ys {s with drawn:=d})->A2 ww w A (drawOrder n xs) Q E s
 |0,xs,s,Q,g,h=>by
  have:xs=[]:=sW Vc;subst this;exact aG (h [] s.drawn .rfl)
 |n+1,[],s,Q,g,h=>aG (h [] s.drawn .rfl)
 |n+1,y::ys,s,Q,g,h=>by
  refine ab (Zd2 Ve λi d hi=>?_);obtain⟨x,q⟩:∃x,(y::ys)[i]?=some x:=⟨_,aR hi⟩;rw[q];refine ab (qF n _ _ _ Vd λzs B hz=>(aG (h _ B ((hz.cons x).trans (Xv _ i x q)))))
end
theorem zj(next:Nat->Nat):∀(g k:Nat)(left:List α)(q:Array α),g=left.length->(pickOrder.go next g k left q).toList.Perm (q.toList++left)
 |0,k,left,q,h=>by
  have:=sW h.symm;subst this;unfold pickOrder.go;simp
 |g+1,k,left,q,h=>by
  unfold pickOrder.go;have hi:next k%left.length<left.length:=Nat.mod_lt _ Vc;rw[aR hi];refine(zj next g _ _ _ Vd).trans ?_;rw[Mc,lW];exact(Xv left _ _ (aR hi)).append_left _
def WU(next:Nat->Nat)(xs:Array g):(pickOrder next xs).toList.Perm xs.toList:=by
 unfold pickOrder;simpa using zj next xs.size 0 _ #[] Ve
def JZ(h:Heap)(a:Av)(es:Array (Int×Au))(ep:Nat)(t:SetTable):Prop:=∃o,h.get? a=some o/\o.ExactSet/\o.data=.set es ep t/\t.fits es.size=true
def YX (h:Heap) (I a:Av) (first:Au) (i n ep:Nat):Prop:=∃o,h.get? I=some o/\o.cls=.type "set_iterator" /\ o.data=.fields #[first,.int i 0,.ref a,.int n 0,.int ep 0]
section
variable {ww:Ao}{w:As}{A:Aq}{E:Ab}{s:Ar}
def YX.typeIs  (x:YX s.heap I a first i n L):s.TypeIs (.ref I) "set_iterator" :=let⟨o,ho,hc,_⟩:=x;⟨o,ho,hc⟩
def YX.at{first:Au}(x:YX h I a first i n L)(e:∀o,h.get? I=some o->h'.get? I=some o):YX h' I a first i n L:=let⟨o,ho,r⟩:=x;⟨o,e _ ho,r⟩
def JZ.at{es:Array (Int×Au)}{t:SetTable}(x:JZ h a es i t)(e:∀o,h.get? a=some o->h'.get? a=some o):JZ h' a es i t:=let⟨o,ho,r⟩:=x;⟨o,e _ ho,r⟩
def We{Q:Bool->Shared->Prop}(h:Q (uT w) s):A2 ww w A setsByText Q E s:=ab (MW (aG h))
def zk{Q:Option (Au×Nat)->Shared->Prop}(C:uT w=true)(D:JZ s.heap a es i t)
  (h:Q (((pickOrder (w.params.setOrder a i) es)[given]?).map λe=>(e.2,0)) s):A2 ww w A (setNext a 0 given i) Q E s:=by
 revert D;refine ε1 λo=>θ3 λq F B g=>?_;refine ab (Dn q B g (ab (We ?_)));rw[C];simp;refine ab (ab (Dn q B g (ab (We ?_))));rw[C];refine ab (MW (aG (aG h)))
def qG{Q:Option (Au×Nat)->Shared->Prop}(G:uT w=false)(B:JZ s.heap a es i t)(C:t.led=true)(hz:es.size<=1)
  (h:Q (match es[SetTable.below t.place n]?,t.place[SetTable.below t.place n]? with|some (_,x),some j=>some (x,j+1)|_,_=>none) s):A2 ww w A (setNext a n given i) Q E s:=by
 revert B;refine ε1 λo=>θ3 λD I F q=>?_;refine ab (Dn D F q (ab (We ?_)));rw[G];have g:decide (es.size>1)=false:=by simp;lia
 show wpAny _ _ (if(!t.plain&&decide _)=true then _ else _) _ _ _;rw[g,Bool.and_false];refine ab (m:=(if(!t.led && !es.isEmpty)=true then unsupported _ else pure ())) ?_;rw[C];exact aG (aG h)
def k6{e:Int×Au}(q:JZ s.heap a es i t)(B:es[n]?=some e)
  (h:Q e.2 s):A2 ww w A (setNextDrawn a n i) Q E s:=by
 revert q;refine ε1 λo=>θ3 λC F D g=>?_;refine ab (Dn C D g ?_);simp;rw[B];exact aG h
def Sj(x:YX s.heap I a first i n L){B:Nat}:
  YX ((s.heap.update I (Obj.mapFields (·.setIfInBounds 0 v))).update I (Obj.mapFields (·.setIfInBounds 1 (.int B 0)))) I a v B n L:=by
 revert x;refine ε1 λo=>θ2 λD C q=>?_;have h1:=gV (Obj.mapFields (·.setIfInBounds 0 v)) D (pL (iG q _));have g:=iG q (·.setIfInBounds 0 v);refine⟨_,gV _ h1 (pL (iG g _)),(CH ..).trans ((CH ..).trans C),?_⟩;rw[iG g];simp
def gD{t:SetTable}{x:Au}{nx:Nat}{Q:Aa}(g:YX s.heap I a (.int L 0) i es.size n)(Y:JZ s.heap a es n t)
  (T:∀(F:Option (Au×Nat)->Shared->Prop)(Z:Ab),F (some (x,nx)) s->A2 ww w A.in1 (setNext a L i n) F Z s)
  (G:∀h',YX h' I a (.int nx 0) (i+1) es.size n->Heap.SameBut I s.heap h'->Q (some x) {s with heap:=h'}):A2 ww w A (pyNext (.ref I)) Q E s:=by
 obtain⟨o,C,hc,q⟩:=id g;obtain⟨os,B,O,D,J⟩:=id Y;refine ab (mO (wpAny_callSpecial?_slot g.typeIs ZZ
  (eT ZZ g.typeIs Xu (ab (aG (ab (C8 C q (ab (Fm B D J ?_)))))) (XM _))))
 simp;refine ab (T _ _ (ab (mU C q Ve (ab (mU (gV _ C (pL (iG q _))) (iG q _) Ve (aG ⟨_,U,aG (G _ (Sj g) ((lG ..).trans (lG ..)))⟩))))))
def PZ{Q:Aa}(hh:A.handled=none)(g:YX s.heap I a (.int L 0) i es.size n)(Y:JZ s.heap a es n t)
  (T:∀(C:Option (Au×Nat)->Shared->Prop)(Z:Ab),C none s->A2 ww w A.in1 (setNext a L i n) C Z s)
  (G:∀h',Heap.ExtBut I s.heap h'->Q none {s with heap:=h'}):A2 ww w A (pyNext (.ref I)) Q E s:=by
 obtain⟨o,F,hc,D⟩:=id g;obtain⟨os,q,O,B,J⟩:=id Y;refine ab (mO (wpAny_callSpecial?_slot g.typeIs ZZ
  (eT ZZ g.typeIs Xu (ab (aG (ab (C8 F D (ab (Fm q B J ?_)))))) (XM _))))
 simp;refine ab (T _ _ (ab (mU F D Ve (ab (ab (fA (ab (fH (by first|rfl|(rfl)) (fA ?_ (by size_fits)))) (by size_fits)))))));refine ab (Dt ?_);rw[hh];refine ab (aG (Dy ?_));refine ab (oX ⟨_,bY _ U,U⟩ Dj (aG (G _ (((lG ..).extBut.push _).push _))))
def Ts{p:Av}{es:Array (Int×Au)}{t:SetTable}{ps:Aj}{pl:Nat}{e:Int×Au}{J:Obj}{Q:Aa}(g:YX s.heap I a (.ref p) i es.size n)(G:JZ s.heap a es n t)
  (Z:s.heap.get? p=some J) (C:J.data=.seq (ps.map λ(k:Nat)=>rawInt k).toArray L) (hi:ps[i]?=some pl) (Y:es[pl]?=some e)
  (O:∀h',YX h' I a (.ref p) (i+1) es.size n->Heap.SameBut I s.heap h'->Q (some e.2) {s with heap:=h'}):A2 ww w A (pyNext (.ref I)) Q E s:=by
 obtain⟨o,D,hc,q⟩:=id g;obtain⟨os,B,hex,F,T⟩:=id G;refine ab (mO (wpAny_callSpecial?_slot g.typeIs ZZ
  (eT ZZ g.typeIs Xu (ab (aG (ab (C8 D q (ab (Fm B F T ?_)))))) (XM _))))
 simp only[Kj];refine ab (i0 Z C ?_);dsimp only;rw[show((ps.map _).toArray)[(i:Int).toNat]?=some (rawInt pl) by simp[hi]];simp[rawInt];refine ab (k6 G Y (ab (mU D q Ve (aG ⟨_,U,aG (O _ ⟨_,gV _ D (pL (iG q _)),(CH ..).trans hc,?_⟩ (lG ..))⟩))));rw[iG q];simp
def Zgx{p:Av}{es:Array (Int×Au)}{t:SetTable}{ps:Aj}{G:Obj}{Q:Aa}(hh:A.handled=none)(g:YX s.heap I a (.ref p) i es.size n)(Z:JZ s.heap a es n t)
  (T:s.heap.get? p=some G) (C:G.data=.seq (ps.map λ(k:Nat)=>rawInt k).toArray L) (hi:ps[i]?=none)
  (J:∀h',Heap.ExtBut I s.heap h'->Q none {s with heap:=h'}):A2 ww w A (pyNext (.ref I)) Q E s:=by
 obtain⟨o,D,hc,q⟩:=id g;obtain⟨os,B,Y,F,O⟩:=id Z;refine ab (mO (wpAny_callSpecial?_slot g.typeIs ZZ
  (eT ZZ g.typeIs Xu ?_ (XM _))))
 refine ab (aG (ab (C8 D q ?_)));refine ab (Fm B F O ?_);simp only[Kj,↓reduceIte];refine ab (i0 T C ?_);dsimp only;rw[show((ps.map _).toArray)[(i:Int).toNat]?=none by simp;simpa using hi];refine ab (mU D q Ve ?_);refine ab (mU (gV _ D (pL (iG q _))) (iG q _) Ve (ab ?_));refine ab (fA ?_ (by size_fits));refine ab (fH (by first|rfl|(rfl)) (fA ?_ (by size_fits)));refine ab (Dt ?_);rw[hh];refine ab (aG (Dy ?_));refine ab (oX ⟨_,bY _ U,U⟩ Dj (aG (J _ ((((lG ..).trans (lG ..)).extBut.push _).push _))))
end
theorem GO:Slot "set_iterator" "__iter__" "set_iterator.__iter__" :=
 .of (owner:= "set_iterator") (n:= "__iter__") Vf Va Va Va
  (by first|exact .inl Va|exact .inr _) Vf
theorem jy:entryFor table "set_iterator.__iter__" = some Builtin.«dict_keyiterator.__iter__» :=
 entryFor_alias (id':= "dict_keyiterator.__iter__") Vf U Va Vf
def yK (a:Au):argsOk "set_iterator.__iter__" ⟨[a],[]⟩:=by
 kernel_rfl
section
variable {ww:Ao}{w:As}{A:Aq}{E:Ab}{s:Ar}
def jz(g:YX s.heap I a first i n L)(h:Q (.ref I) s):A2 ww w A (pyIter (.ref I)) Q E s:=by
 refine D9 g.typeIs GO (eT GO g.typeIs jy (aG ⟨_,U,_,_,g.typeIs,ZZ.lookup,h⟩) (yK _))
def FK(g:List (Int×Au))(i:Nat)(v:Au):Prop:=∃e,g[i]?=some e/\v=e.2
def RZ(g:uT w=true)(hh:A.handled=none)(F:a≠I):
  Walks ww w A I [I,a] [I] es.size (FK (pickOrder (w.params.setOrder a n) es).toList) (λi h=>YX h I a (.int (0:Nat) 0) i es.size n/\JZ h a es n t)where
 sub:=λb g=>Vd
 frame:=λ_ _ _ st J=>⟨st.1.at λo e=>J I Ve o e,st.2.at λo e=>J a Ve o e⟩
 item:=λi s Q E hi st B=>by
  have hsz:=by simpa using (WU (w.params.setOrder a n) es).length_eq
  obtain⟨e,Y⟩:∃e,(pickOrder (w.params.setOrder a n) es)[i]?=some e:=⟨_,De (by simp_all)⟩;refine gD st.1 st.2 (λO T q=>zk g st.2 Vd) λh' C D=>(B e.2 h' s.toks ⟨e,Vd,U⟩ ⟨C,st.2.at λo e=>D.extBut a o F e⟩ λb o g e=>D.extBut b o (λh=>g (by simp[h])) e)
 done:=λs Q E st B=>by
  have hsz:=by simpa using (WU (w.params.setOrder a n) es).length_eq
  exact PZ hh st.1 st.2 (λO T q=>zk g st.2 Vd) λh' G=>B h' s.toks λb o g e=>G b o (λh=>g (by simp[h])) e
 self:=λ_ _ _ _ st B=>jz st.1 B
theorem Uw{p:Av}{es:Array (Int×Au)}{t:SetTable}{ps:Aj}(D:ps.Perm (List.range es.size))(hh:A.handled=none)(Y:a≠I)(Z:p≠I):
  Walks ww w A I [I,a,p] [I] es.size (FK (ps.filterMap (es[·]?))) (λi h=>YX h I a (.ref p) i es.size n/\JZ h a es n t/\∃B np,h.get? p=some B/\B.data=.seq (ps.map λ(k:Nat)=>rawInt k).toArray np)where
 sub:=λb T=>Vd
 frame:=λ_ _ _ st q=>⟨st.1.at λo e=>q I Ve o e,st.2.1.at λo e=>q a Ve o e,let⟨B,np,h1,h2⟩:=st.2.2;⟨B,np,q p Ve B h1,h2⟩⟩
 item:=λi s Q E hi st J=>by
  obtain⟨B,np,h1,h2⟩:=st.2.2;have C:=by simpa using D.length_eq
  have g:∀k∈ps,k<es.size:=λk q=>Vd
  have F:ps[i]?=some (ps[i]' (by simp_all)):=aR _;have q:ps[i]' Vc<es.size:=g _ (f7 _);have hfm:ps.filterMap (es[·]?)=ps.map (λk=>es.getD k (0,.none)):=by
   clear F D C q hi h1 h2 st J
   induction ps with
   |nil=>rfl
   |cons k ks ih=>
    have:=g k Ve;rw[List.filterMap_cons_some (b:=es.getD k _) (by simp[this]),ih λk q=>g k (by simp[q]),eE]
  refine Ts st.1 st.2.1 h1 h2 F (De q) λh' O G=>(J _ h' s.toks ⟨_,?_,U⟩ ⟨O,st.2.1.at λo e=>G.extBut a o Y e,B,np,G.extBut p B Z h1,h2⟩ λb o T e=>G.extBut b o (λh=>T (by simp[h])) e);rw[hfm,aY,F];simp[q]
 done:=λs Q E st J=>by
  obtain⟨B,np,h1,h2⟩:=st.2.2;have C:=by simpa using D.length_eq
  exact Zgx hh st.1 st.2.1 h1 h2 (by simp;simp_all) λh' he'=>J h' s.toks λb o T e=>he' b o (λh=>T (by simp[h])) e
 self:=λ_ _ _ _ st J=>jz st.1 J
def gE(j:Nat):SetTable.below #[j] 0=0/\SetTable.below #[j] (j+1)=1:=by
 constructor<;>simp[SetTable.below,SetTable.below.go]
def RL(B:uT w=false)(hl:t.led=true)(hz:es.size<=1)(hh:A.handled=none)(T:a≠I):
  Walks ww w A I [I,a] [I] es.size (FK es.toList) (λi h=>∃g:Nat,(i=0->g=0)/\(i=1->∃j,t.place=#[j]/\g=j+1)/\YX h I a (.int g 0) i es.size n/\JZ h a es n t)where
 sub:=λb B=>Vd
 frame:=λ_ _ _ st hk=>by
  revert st;refine ε1 λg=>θ3 λD F h1 h2=>?_;exact⟨g,D,F,h1.at λo e=>hk I Ve o e,h2.at λo e=>hk a Ve o e⟩
 item:=λi s Q E hi st C=>by
  revert st;refine ε1 λg=>θ3 λD F h1 h2=>?_;have Y:i=0:=Vc
  subst Y;obtain rfl:=D rfl;have hps:t.place.size=1:=by
   obtain⟨o,ho,hex,hd,hf⟩:=h2;simp[SetTable.fits,beq_iff_eq]at hf;lia
  obtain⟨j,O⟩:∃j,t.place=#[j]:=⟨t.place[0],Vd⟩;obtain⟨e,he⟩:∃e,es[0]?=some e:=⟨_,De (by omega)⟩;refine gD h1 h2 (λQ' E' q=>qG B h2 hl hz (by rw[O,(gE j).1,he];exact q)) λh' G J=>(C e.2 h' s.toks ⟨e,by simpa using he,U⟩ ⟨j+1,λz=>absurd z Vb,λ_=>⟨j,O,U⟩,G,h2.at λo e=>J.extBut a o T e⟩ λb o B e=>J.extBut b o (λh=>B (by simp[h])) e)
 done:=λs Q E st C=>by
  obtain⟨g,D,F,h1,h2⟩:=st;refine PZ hh h1 h2 (λQ' E' q=>qG B h2 hl hz ?_) λh' Z=>C h' s.toks λb o B e=>Z b o (λh=>B (by simp[h])) e
  by_cases h0:es.size=0
  .simp_all
  .obtain⟨j,O,rfl⟩:=F Vc;rw[O,(gE j).2,Array.getElem?_eq_none (by omega)];exact q
 self:=λ_ _ _ _ st C=>by
  obtain⟨g,D,F,h1,h2⟩:=st;exact jz h1 C
def Zam{Q:Bool->Shared->Prop}(q:JZ s.heap a es i t)(h:Q (!uT w&&(!t.plain&&decide (es.size>1))) s):A2 ww w A (setDrawn a) Q E s:=by
 revert q;refine ε1 λo=>θ3 λB D C g=>?_;refine ab (Dn B C g (ab (We (aG h))))
structure Il(prog:Ao)(w:As)(h h':Heap)(I a:Av)(es:Array (Int×Au))(ord:List (Int×Au))(fp:List Av)(St:Nat->Heap->Prop):Prop where
 old:∀b o,h.get? b=some o->h'.get? b=some o
 new:h.objs.size<=I
 perm:ord.Perm es.toList
 lt:∀b∈fp,b<h'.objs.size
 mem:I∈fp
 st:St 0 h'
 walks:∀A:Aq,A.handled=none->Walks prog w A I fp [I] es.size (FK ord) St
 apart:∀b∈fp,b=a\/h.objs.size<=b
def U9(O:JZ s.heap a es i t)(hl:t.led=!uT w)(hp:es.size=0\/t.plain=false)(hz:es.size<=sizeLine)
  (Z:∀h' d I ord fp St,Il ww w s.heap h' I a es ord fp St->Q (.ref I) {s with heap:=h',drawn:=d}):A2 ww w A (pyIter (.ref a)) Q E s:=by
 refine ω (id O) (ε1 λo=>θ3 λD hex Y T=>?_);have hT:s.TypeIs (.ref a) "set" :=⟨o,D,hex.1⟩;have G:=bE D;refine D9 hT F.slot_set_iter (eT F.slot_set_iter hT yJ ?_ (F.args_set_iter_1 _));unfold Builtin.«frozenset.__iter__» Builtin.Frozenset.slot0 slotArgs;simp only[List.isEmpty_nil,Bool.not_true,FD,↓reduceIte,bind_assoc,Bg,Kj];refine ab (aG ?_);refine ab (aG ?_);refine ab (ab (Fm D Y T (aG ?_)));refine ab (Zam O ?_);cases hb:uT w with
 |true=>
  refine ab (aG ?_);refine ab (LO D Y T ?_);have q:(s.heap.push _).get? s.heap.objs.size=some {cls:=.type "set_iterator",data:=.fields #[rawInt 0,rawInt 0,.ref a,rawInt es.size,rawInt i]}:=bY _ rfl;refine ab (fA (aG ⟨_,U,"set_iterator",_,⟨_,q,U⟩,ZZ.lookup,?_⟩));refine Z _ s.drawn s.heap.objs.size _ _ _ ⟨λb o e=>aW _ e,aM _,WU (w.params.setOrder a i) es,λb g=>?_,bN,⟨⟨_,q,U,U⟩,O.at λo e=>aW _ e⟩,λA' hh=>RZ hb hh (cQ G),λb g=>(bR.mp g).elim (λe=>.inr (e ▸ aM _)) λg=>.inl (b9.mp g)⟩;rw[iL];rcases bR.mp g with rfl|g
  .exact tI _
  .grind
 |false=>
  rw[hb]at hl
  by_cases hd1:es.size>1
  .rw[hp.resolve_left Vc,bC hd1];refine ab (qF _ _ _ _ (DD dS) λps d C=>?_);have hpn:ps.length=es.size:=by simpa using C.length_eq
   refine ab (Hz ?_ (by rw[aI];simp_all));refine ab (LO (aW _ D) Y T ?_);generalize hH:s.heap.push _=H;have J:H.objs.size=s.heap.objs.size+1:=by rw[<-hH,iL]
   have B:∀b o,s.heap.get? b=some o->H.get? b=some o:=λb o e=>hH ▸ aW _ e;have q:(H.push {cls:=.type "set_iterator",data:=.fields #[.ref s.heap.objs.size,rawInt 0,.ref a,rawInt es.size,rawInt i]}).get? H.objs.size=some _:=bY _ rfl;refine ab (fA (aG ⟨_,U,"set_iterator",_,⟨_,q,U⟩,ZZ.lookup,?_⟩));refine Z _ d H.objs.size _ _ _ ⟨λb o e=>aW _ (B b o e),by rw[J];exact nG _,?_,λb g=>?_,bN,⟨⟨_,q,U,U⟩,O.at λo e=>aW _ (B a o e),_,_,aW _ (hH ▸ bY _ U),U⟩,λA' hh=>Uw (p:=s.heap.objs.size) C hh (λe=>Vd) (λe=>Vd),λb g=>(bR.mp g).elim (λe=>.inr (by rw[e,J];exact nG _)) λg=>(bR.mp g).elim .inl λg=>.inr Vd⟩
   .exact(C.filterMap _).trans (by rw[filterMap_getElem?_range])
   .rw[iL];rcases bR.mp g with rfl|g
    .exact tI _
    .grind
  .have hd2:decide (es.size>1)=false:=by simp;simp_all
   rw[hd2,Bool.and_false];refine ab (aG ?_);refine ab (LO D Y T ?_);have q:(s.heap.push _).get? s.heap.objs.size=some {cls:=.type "set_iterator",data:=.fields #[rawInt 0,rawInt 0,.ref a,rawInt es.size,rawInt i]}:=bY _ rfl;refine ab (fA (aG ⟨_,U,"set_iterator",_,⟨_,q,U⟩,ZZ.lookup,?_⟩));refine Z _ s.drawn s.heap.objs.size _ _ _ ⟨λb o e=>aW _ e,aM _,.rfl,λb g=>?_,bN,⟨0,λ_=>U,λz=>absurd z Vb,⟨_,q,U,U⟩,O.at λo e=>aW _ e⟩,λA' hh=>RL hb (by simpa using hl) Vc hh (cQ G),λb g=>(bR.mp g).elim (λe=>.inr (e ▸ aM _)) λg=>.inl (b9.mp g)⟩;rw[iL];rcases bR.mp g with rfl|g
   .exact tI _
   .grind
def Uc{Q:Ag->Shared->Prop}(hh:A.handled=none)(hs:JZ s.heap a es n t)(hl:t.led=!uT w)(hp:es.size=0\/t.plain=false)(hz:es.size<=sizeLine)
  (hQ:∀(h':Heap)(d:Drawn)(tk:Nat)(q:List (Int×Au)),(∀b o,s.heap.get? b=some o->h'.get? b=some o)->s.heap.objs.size<=h'.objs.size->q.Perm es.toList->Q (q.map (·.2)) {s with heap:=h',drawn:=d,toks:=tk}):A2 ww w A (collect (.ref a)) Q E s:=by
 obtain⟨o,ho,hex,hd,hf⟩:=id hs;have Y:=bE ho;unfold collect;refine ab (wpAny_runValue (mD F.entry_proto_collect ?_));rw[DI F.plain_proto_collect _];show wpAny _ A.in1 _ _ _ s;refine ab (fA ?_);refine aG ⟨nV ML _,mD F.entry_list_iadd ?_⟩;rw[DI ML _];generalize hH:s.heap.push _=H;have hHs:H.objs.size=s.heap.objs.size+1:=by rw[<-hH,iL]
 have g:∀b o,s.heap.get? b=some o->H.get? b=some o:=λb o e=>hH ▸ aW _ e;have hs1:JZ H a es n t:=hs.at λo e=>g a o e;show wpAny _ A.in1 (Builtin.List.listExtendWith (.ref s.heap.objs.size) (.ref a) (.ref s.heap.objs.size)) _ _ _;unfold Builtin.List.listExtendWith;refine ab (B0 ⟨o,g a o ho,hex.1⟩ ?_);have h1:Builtin.List.listSameRef (.ref s.heap.objs.size) (.ref a)=false:=by simp[Builtin.List.listSameRef];exact rP Y
 have h2:(Value.type "set" == Value.type "list")=false:=Vb
 have h3:(Value.type "set" == Value.type "tuple")=false:=Vb
 simp only[h1,h2,h3,Bool.or_false,FD,if_false];refine ab (U9 (s:={s with heap:=H}) hs1 hl hp hz λh1 d I q fp St W=>?_);refine ab (iZ ?_);unfold Builtin.List.listLengthHint;have J:Shared.TypeIs {s with heap:=h1,drawn:=d} (.ref a) "set" :=⟨o,W.old a o (g a o ho),hex.1⟩;refine ab (p4 J F.slot_set_len.lookup ?_)
 wp_delta
 refine ab (oX (b:=true) J (by rw[isSubtype_type];kernel_rfl) ?_);show wpAny _ A.in1 (typeOf (Value.ref a) >>= _) _ _ _;refine ab (B0 J ?_);refine aG ?_;show wpAny _ A.in1 _ _ _ _;refine ab (iT ?_);have Z:s.heap.objs.size∉fp:=λO=>by
  rcases W.apart _ O with e|e
  .exact absurd Y (e ▸ fU _)
  .exact absurd e (by show¬H.objs.size<=_;rw[hHs];exact Nat.not_succ_le_self _)
 have hS1:=W.old _ _ (hH ▸ bY _ U);refine ab ?_;show wpAny _ A.in1 _ _ _ _;refine ab (rH (s:={s with heap:=h1,drawn:=d}) hS1 U ?_);have hS2:=gV (Obj.mapSeq (·.push Value.none)) hS1 rfl;refine rH hS2 U ?_;have hS3:=gV (Obj.mapSeq (·.pop)) hS2 rfl;have oth:∀b o,b≠s.heap.objs.size->h1.get? b=some o->
   ((h1.update s.heap.objs.size (Obj.mapSeq (·.push Value.none))).update s.heap.objs.size (Obj.mapSeq (·.pop))).get? b=some o:=
  λb o T e=>(nK _ _ (eV T)).trans ((nK _ _ (eV T)).trans e)
 refine aG ⟨nV Ef _,codeAny_extend_loopS (W.walks A.in1 hh).toS hz _ Z _ es.size 0 _ _ _ U (cD _)
  ((W.walks A hh).frame 0 _ _ W.st λb T o e=>oth b o (λh=>Z (h ▸ T)) e) hS3 (ItemsOf.nil _) λs' C c' O hS' D=>?_⟩
 show wpAny _ A (load s.heap.objs.size >>= _) _ _ s';refine ab (wpAny_load hS' ?_);have G:C.toList=q.map (·.2):=by
  have hol:q.length=es.size:=by simpa using W.perm.length_eq
  apply List.ext_getElem
  .rw[aI,nH,D.1,hol]
  .intro i i1 i2;rw[nH]at i1;obtain⟨e,he,hv⟩:=D.2 i C[i] (De i1);rw[Array.getElem_toList,hv,List.getElem_map];rw[aI]at i2;rw[aR i2]at he;rw[Option.some.inj he]
 have eg:s'.gens=s.gens:=O.gens;have ed:s'.drawn=d:=O.drawn;have eo:s'.os=s.os:=O.os;refine aG ?_;have:=hQ s'.heap s'.drawn s'.toks q (λb ob e=>?_) ?_ W.perm
 .rw[<-G,<-eg,<-eo]at this;exact this
 .have B:=bE e;refine O.heap b ob (λT=>?_) (oth b ob (cQ B) (W.old b ob (g b ob e)));rcases bR.mp T with h|h
  .exact absurd B (h ▸ fU _)
  .rw[b9.mp h]at B;have:=W.new;exact absurd B (E9.mpr (bS (by rw[hHs];exact nG _) this))
 .exact a8 (bE hS')
theorem qH:∀{l:List (Int×Au)},ElemsOf (PySem.strKind ww w) l->StrsAre (l.map (·.2)) (l.map λe=>tx e.2)
 |[],_=>.nil
 |e::l,h=>by
  obtain⟨_,t,g⟩:=Pb h (bN);rw[eE,g];exact .cons _ t (qH h.tail)
def Zd6{led:Bool}{S:Ai}(hh:A.handled=none)(hS:jw ww w s.heap a (!uT w) S)(h64:S.length<64)
  (h:∀(h':Heap)(d:Drawn)(tk:Nat)(l:Av)(D:Ah)(G:Ai)(e:Nat),StrsAre D.toList G->G.Perm S->sortedS G=true->(∀b o,s.heap.get? b=some o->h'.get? b=some o)->s.heap.objs.size<=l->
   h'.get? l=some (seqObj "list" D e)->Q (.ref l) {s with heap:=h',drawn:=d,toks:=tk}):
  A2 ww w A (call (.builtin "sorted") [.ref a]) Q E s:=by
 revert hS;refine ε4 λo es ep t=>θ6 λho T hd O Z hf=>θ1 λhl Y=>?_;have hn:es.size=S.length:=by rw[<-Z.length_eq,aI,nH]
 refine Calls.call_function_entry kind_sorted plain_sorted entry_sorted (args_sorted1 _) (ab (aG (ab (Uc hh ⟨o,ho,T,hd,hf⟩ hl Y (Lc (by unfold scanBound;lia)) λh1 d tk J F hsz g=>?_))));have I:(J.map (·.2)).length<64:=by rw[aI,g.length_eq,nH];simp_all
 have q:=qH (O.perm g);generalize hV:J.map _=vs at I q ⊢;refine ab (wpAny_newList ?_);have B:(h1.push _).get? _=some (seqObj "list" vs.toArray 0):=bY _ rfl;refine ab (iZ (eT slot_list_sort ⟨_,B,U⟩ entry_list_sort (list_sort_treeK strKind_oneLt B q.keysOf (λv₁ v₂ op e=>keyKind_strs (by rw[<-e];exact q)) I λst' a1 a2=>⟨_,U,?_⟩) (args_list_sort _)));refine ω (sorted_out_str q a1 a2) (ε1 λG=>θ2 λb1 b2 b3=>?_);obtain⟨e,he⟩:=sortedHeap_at B;refine aG ⟨_,U,h _ d tk _ _ G e b1 (b2.trans ((g.map _).trans Z)) b3 (λb ob hb=>?_) hsz he⟩;have C:=iA (bE hb) hsz;rw[sortedHeap_old (cQ C) (by rw[size_push'];exact DL C)];exact aW _ (F b ob hb)
end
def QV(P:Ao)(w:As)(a:Av)(S:Ai):HO:=.ext λh=>jw P w h a (!uT w) S
theorem aE.drew(I:aE X C c H s)(d:Drawn):aE X C c H {s with drawn:=d}:=
 ⟨I.ok,I.os,I.bare,I.base,I.loc,I.cell,I.free,I.cN,I.pin,I.aK,I.len⟩
def T7 (J:X.calm=true):Wd X (.type "set") (λxs H Q=>∃(p:Av)(B:Ai),xs=[.ref p]/\aF X.K H p (B.map V.str)/\B.length<4000 /\
  ∀a:Av,H a=none->Q (.ref a) (aC H a (QV X.prog X.w a (JY B)))):=by
 refine λzn s σ H xs us Q I r=>ε2 λp B=>θ3 λzq0 T hn q=>?_;subst zq0;obtain⟨u,rfl,G⟩:=bZ r;cases G;obtain⟨Z,D,pl,hz⟩:=I.list T;have g:=D.length;rw[aI]at g;refine yI (I.ok.hd J) pl.isList (by simpa using xB D) (by rw[nA];unfold scanBound;lia) λh' tk O C F=>⟨.ref _,_,I.laid (λb o e=>F b o (bE e) e) (aM _) ?_,U,q _ (I.aK.fresh (aM _))⟩;refine ω (id C) (ε4 λo es ep t=>θ1 λY op=>?_);exact⟨C,⟨o,Y⟩,λh1 h2 x k=>xF x k⟩
def kA (Y:X.calm=true):Wd X (.builtin "sorted") (λxs H Q=>∃(a:Av)(S:Ai),xs=[.ref a]/\H a=some (QV X.prog X.w a S)/\S.length<64 /\
  ∀(l:Av)(g:Ai),H l=none->g.Perm S->sortedS g=true->Q (.ref l) (aC H l (.lst (g.map V.str)))):=by
 refine λzn s σ H xs us Q I r=>ε2 λa S=>θ3 λzq0 hq D q=>?_;subst zq0;obtain⟨u,rfl,T⟩:=bZ r;cases T;refine Zd6 (led:=true) (I.ok.hd Y) (I.aK a _ hq).1 D λh' d tk l G F e hi C Z O B J=>⟨.ref l,_,(I.drew d).laid O B ?_,U,q _ F (I.aK.fresh B) C Z⟩;have hm:=C.length_eq;exact⟨by rw[aI];exact a8 (Zw Vc),_,e,JV hi,by simpa using J⟩
def Zon{y:Str}(h1:ltCps x.cps.toList y.cps.toList=false)(h2:ltCps y.cps.toList x.cps.toList=false):x=y:=by
 rw[ltCps_eq]at h1 h2;cases x;cases y;simp;exact Array.toList_inj.mp (List.le_antisymm (FH h2) (FH h1))
def TU{y z:Str}(h1:ltCps y.cps.toList x.cps.toList=false)(h2:ltCps z.cps.toList y.cps.toList=false):ltCps z.cps.toList x.cps.toList=false:=by
 rw[ltCps_eq]at h1 h2 ⊢;refine bO ((List.le_trans (FH h1) (FH h2)))
theorem GA:∀(p:Str)(l:Ai),risingS p l=true->∀y∈l,ltCps y.cps.toList p.cps.toList=false
 |p,[],_,y,g=>nomatch g
 |p,x::r,h,y,g=>by
  have h':(!ltCps _ _&&risingS x r)=true:=h;rw[lI,Bool.not_eq_true']at h';rcases bR.mp g with rfl|g
  .exact h'.1
  .exact TU h'.1 (GA x r h'.2 y g)
def qm{p:Str}{l:Ai}(h:sortedS (p::l)=true):sortedS l=true:=by
 cases l with
 |nil=>rfl
 |cons x r=>
  have h':(!ltCps _ _&&risingS x r)=true:=h;rw[lI]at h';exact h'.2
theorem vz:∀(l m:Ai),sortedS l=true->sortedS m=true->l.Perm m->l=m
 |[],m,_,_,p=>by rw[List.nil_perm.mp p]
 |x::l,m,h1,h2,p=>by
  cases m with
  |nil=>exact absurd (List.perm_nil.mp p) Ve
  |cons y m=>
   have q:x=y:=by
    have B:=p.mem_iff.mp bN;have g:=p.mem_iff.mpr bN;rcases bR.mp B with e|B
    .exact e
    .rcases bR.mp g with e|g
     .exact e.symm
     .exact Zon (GA y m h2 x B) (GA x l h1 y g)
   subst q;rw[vz l m (qm h1) (qm h2) (p.cons_inv)]
def TK{S:Ai}{y:Str}:y∈ins S x↔y∈S\/y=x:=by
 unfold ins;split
 .simp_all
 .simp
def RQ{S:Ai}(h:S.Nodup):(ins S x).Nodup:=by
 unfold ins;split
 .exact h
 .grind
theorem kB:∀(ys S:Ai),S.Nodup->(ys.foldl ins S).Nodup/\∀y,y∈ys.foldl ins S↔y∈S\/y∈ys
 |[],S,h=>⟨h,λy=>Ve⟩
 |x::r,S,h=>by
  obtain⟨a,b⟩:=kB r _ (RQ h);refine⟨a,λy=>(b y).trans ?_⟩;rw[TK,bR,or_assoc]
def VC(ys:Ai):(JY ys).Nodup:=(kB ys [] iW).1
def j4(p:V->Bool)(S:Hp->Hp->Prop)(I:∀H,S H H)(st:∀H1 H2 D,S H1 H2->S H2 D->S H1 D)(O:∀H1,S H H1->aD K H1 a xs)(hz:xs.length<=sizeLine)
  (G:∀x∈xs,∀H1,S H H1->∀R:Bool->Hp->Prop,(∀H2,S H1 H2->R (p x) H2)->M (xx is c (some x)) H1 R)
  (F:∀x∈xs,∀H1,∀R:VK,R x H1->A (xx is c (some x)) H1 R)
  (J:∀H1 l,S H H1->H1 l=none->E (.ref l) (aC H1 l (.lst (xs.filter p)))):JT is M A c E (Be K a) H:=by
 refine Wv (xs:=xs) (λi zs H'=>zs=(xs.take i).filter p/\S H H') ⟨U,I H⟩ ?_ ?_ ?_ ?_
 .grind
 .grind
 .rintro i x zs H' R hR g ⟨rfl,q⟩;have B:=bP g;have e:=aB g;refine G x B H' q _ λH2 C=>?_;cases hp:p x with
  |true=>
   refine(aN U) ▸ F x B H2 _ (hR _ _ ⟨?_,st _ _ _ q C⟩);rw[e,tH,nU,aN hp];rfl
  |false=>
   refine(aL fK) ▸ hR _ _ ⟨?_,st _ _ _ q C⟩;rw[e,tH,nU,aL Vd];simp
 .grind
abbrev Jn(o:Obj):HO:=.b7 o (.ext λ_=>True)
def xG{o:Obj}(e:h.get? a=some o):XA P w H h a (Jn o):=⟨e,trivial,⟨o,e⟩,λ_ _ _ _=>trivial⟩
def aQ(cs:List Av)(H:Hp):Hp:=λb=>if b∈cs then none else H b
def Ww(cs:List Av)(H H':Hp):Hp:=λb=>if b∈cs then H b else H' b
def Xw{b:Av}(h:b∈cs):aQ cs H b=none:=aN h
def ZX{b:Av}(h:b∉cs):aQ cs H b=H b:=aL h
def Jb{b:Av}(h:b∈cs):Ww cs H H' b=H b:=aN h
def Yv{b:Av}(h:b∉cs):Ww cs H H' b=H' b:=aL h
def hJ{b:Av}{o:HO}(h:aQ cs H b=some o):b∉cs/\H b=some o:=by
 by_cases m:b∈cs
 .rw[Xw m]at h;cases h
 .rw[ZX m]at h;exact⟨m,h⟩
def xH(H H1:Hp):Prop:=∀b o u,H b=some (.b7 o u)->H1 b=some (.b7 o u)
def xH.refl(H:Hp):xH H H:=λ_ _ _ h=>h
def xH.trans(a:xH H d)(b:xH d H2):xH H H2:=λc o u h=>b c o u (a c o u h)
def ZK.b7(a:ZK H H1):xH H H1:=λb o u h=>a b _ h
def XN(P:Ao)(w:As)(K:Af)(mg:Ae)(wn:Heap)(k:Nat)(f:Av)(H:Hp)(τ:Sp):Prop:=
 (∃o fd,H f=some (Jn o)/\o.data=.func fd) /\
 ∀(A:Aq)(xz:List Env)(s:Ar)(H1:Hp)(g:Ag)(vs:A1)(Q:VK)(E:XK),xH H H1->JP k A->C9 P w K mg wn A xz s H1->aJ vs g->τ vs H1 Q E->
  codeAny (model P w) A (.call (.ref f) ⟨g,[]⟩) (CR j3 xz P w H1 s Q E) s
theorem XN.b7{P:Ao}{w:As}{K:Af}{mg:Ae}{wn:Heap}{k:Nat}{f:Av}{H H1:Hp}{τ:Sp}(c:XN P w K mg wn k f H τ)(h:xH H H1):XN P w K mg wn k f H1 τ:=
 ⟨let⟨o,fd,e,d⟩:=c.1;⟨o,fd,h _ _ _ e,d⟩,λA xz s H2 g vs Q E q=>c.2 A xz s H2 g vs Q E (h.trans q)⟩
section
variable {P:Ao}{w:As}{H H':Hp}{h h':Heap}{cs:List Av}
theorem IY(x:cK P w H h)(g:∀c∈cs,∃o,H c=some (Jn o)):cK P w (aQ cs H) h:=λa o e=>by
 obtain⟨_,B⟩:=hJ e;refine(x a o B).cI (λ_ _ _ q=>q) (λd q=>?_) λd xs q=>?_
 .by_cases m:d∈cs
  .grind
  .rw[ZX m];exact q
 .by_cases m:d∈cs
  .grind
  .rw[ZX m];exact q
theorem Zg0(x:cK P w H' h')(C:∀c∈cs,H' c=none)(B:∀c∈cs,∃o,H c=some (Jn o)/\h'.get? c=some o):cK P w (Ww cs H H') h':=λa o e=>by
 by_cases m:a∈cs
 .rw[Jb m]at e;obtain⟨ob,z,g⟩:=B a m;rw[z]at e;cases e;exact xG g
 .rw[Yv m]at e;refine(x a o e).cI (λ_ _ _ q=>q) (λd q=>?_) λd xs q=>?_
  .by_cases m:d∈cs
   .rw[C d m]at q;cases q
   .rw[Yv m];exact q
  .by_cases m:d∈cs
   .rw[C d m]at q;cases q
   .rw[Yv m];exact q
end
structure QX(ut:Scope)(ps ys:Ai):Prop where
 kind:ut.kind=.function
 co:ut.isCoroutine=false
 gen:ut.isGenerator=false
 cell:∀y∈ut.names,y.2≠.cell
 par:∀p∈ps,ut.names.lookup p=some .local
 free:∀y∈ys,ut.names.lookup y=some .free
 nd:(ps++ys).Nodup
def Lh(P:Ao)(w:As)(K:Af)(mg:Ae)(wn:Heap)(N:Ai)(tz:Str)(ut:Scope)(f:Av)(g:Au)(cl:List (Str×Av))(A:Aq)(xz:List Env)(s:Ar)(H:Hp):Cx where
 prog:=P
 w:=w
 K:=K
 mg:=mg
 base:=wn
 A:=A.deeper (PySem.W.envX tz ut s.heap.objs.size f g cl)
 N:=N
 s₀:=s
 H₀:=H
 env:=PySem.W.envX tz ut s.heap.objs.size f g cl
 outer:=xz
 stack:=PySem.W.envX tz ut s.heap.objs.size f g cl::xz
 ex:=[]
 calm:=true
 fn:=λ_=>false
 pn:=[]
 xe:=λ_ _=>False
def OY(n:Nat)(te:TE)(cs:List Av)(g:List (Option V)):Sp:=λvs H Q _=>vs.length=n/\te (vs.map some++g) (aQ cs H) λv H'=>(∀c∈cs,H' c=none)->Q v (Ww cs H H')
theorem v7{ps:Ai}{g:Ag}(D:ps.Nodup){u:Au}(h1:ps[i]?=some x)(h2:g[i]?=some u)(J:ps.length=g.length):(ps.zip g).reverse.lookup x=some u:=by
 have C:(x,u)∈ps.zip g:=by
  obtain⟨a1,e1⟩:=bM.mp h1;obtain⟨a2,e2⟩:=bM.mp h2;rw[<-e1,<-e2,<-LC (h:=by simp_all)];exact f7 _
 have F:((ps.zip g).map (·.1)).Nodup:=by
  rw[List.map_fst_zip (by simp_all)];exact D
 have B:((ps.zip g).reverse.map (·.1)).Nodup:=by
  grind
 have q:=List.mem_reverse.mpr C;generalize (ps.zip g).reverse=l at B q
 induction l with
 |nil=>cases q
 |cons p r I=>
  obtain⟨n,v⟩:=p;rcases bR.mp q with e|G
  .simp_all
  .grind
section
variable {P:Ao}{w:As}{K:Af}{mg:Ae}{wn:Heap}
theorem NM{A:Aq}{xz:List Env}{s':Ar}{H':Hp}{cs:List Av}{v:V}{u:Au}(Q:C9 P w K mg wn A xz s H)(B:∀c∈cs,∃o v,H c=some (Jn o)/\o.data=.cell v/\s.heap.get? c=some o)
  (os:s'.os=s.os) (C:AllBare s'.gens) (b:Un (lU xz) [] (aQ cs H) H' s.heap s'.heap) (I:cK P w H' s'.heap) (Y:aH v u) (q:(∀c∈cs,H' c=none)->E v (Ww cs H H')):CE xz P w H s E u s':=by
 have D:∀c∈cs,∃o,H c=some _:=λc m=>let⟨o,_,e,_⟩:=B c m;⟨o,e⟩;have J:∀c∈cs,c∉lU xz:=λc m z=>by
  obtain⟨o,e⟩:=D c m;rw[Q.oP c z]at e;cases e
 have O:∀c∈cs,H' c=none:=λc m=>by
  obtain⟨o,v,e,d,g⟩:=B c m;exact b.free c o g (Xw m) nofun
 have hh:∀d,H d=none->aQ cs H d=none:=λd n=>by
  by_cases m:d∈cs
  .exact Xw m
  .rw[ZX m];exact n
 have nm:∀d o,H d=some o->(∀ob,o≠Jn ob)->d∉cs:=λd o e ne m=>by
  grind
 refine⟨v,_,os,C,⟨λd o e n G F=>b.keep d o e (hh d n) G F,λd o e n G F=>b.slot d o e (hh d n) G F,λd o e n F=>?_,b.there,λd xs e=>?_,λd o u e=>?_,λd T e=>?_⟩,Zg0 I O λc m=>?_,Y,q O⟩
 .by_cases m:d∈cs
  .rw[Jb m];exact n
  .rw[Yv m];exact b.free d o e (hh d n) F
 .have m:=nm d _ e (λob z=>nomatch z);rw[Yv m];exact b.a7 d xs (by rw[ZX m];exact e)
 .by_cases m:d∈cs
  .rw[Jb m];exact e
  .rw[Yv m];exact b.eU d o u (by rw[ZX m];exact e)
 .have m:=nm d _ e (λob z=>nomatch z);rw[Yv m];exact b.fJ d T (by rw[ZX m];exact e)
 .obtain⟨o,v,e,d,g⟩:=B c m;exact⟨o,e,b.keep c o g (Xw m) (J c m) nofun⟩
theorem gF{k:Nat}{name tz:Str}{sn:Arguments}{body:Aw}{ut:Scope}{cl:List (Str×Av)}{pm ctv:Au}{oc:Obj}{ps ys:Ai}{cv:List (Option V)}{cs:List Av}
  (S:QX ut ps ys) (hf:H f=some (Jn (PySem.W.kla_obj name tz sn body ut cl pm a ctv))) (hc:H a=some (Jn oc)) (hoc:∃vs t,oc.data=.fields vs/\vs[1]?=some (.str tz t))
  (hcl:∀x c,cl.lookup x=some c->c∈cs) (hcs:∀c∈cs,∃o v,H c=some (Jn o)/\o.data=.cell v)
  (inj:∀x y c,cl.lookup x=some c->cl.lookup y=some c->x=y) (has:∀x,ut.names.lookup x=some .free->∃c,cl.lookup x=some c)
  (hcv:cv.length=ys.length) (hval:∀(i:Nat)(y:Str)(v:V),ys[i]?=some y->cv[i]?=some (some v)->∃c o u,cl.lookup y=some c/\H c=some (Jn o)/\o.data=.cell (some u)/\aH v u)
  (hb:∀T:Ag,T.length=ps.length->bindArgs (PySem.W.kla_fn name tz sn body ut cl pm (.ref a) ctv) ⟨T,[]⟩=pure (ps.zip T))
  (Y:∀(A:Aq)(xz:List Env)(s:Ar)(H1:Hp),JP k (A.deeper (PySem.W.envX tz ut s.heap.objs.size f (.ref a) cl))->PE (Lh P w K mg wn (ps++ys) tz ut f (.ref a) cl A xz s H1) body J):
  XN P w K mg wn (k+1) f H (OY ps.length J cs cv):=by
 refine⟨⟨_,_,hf,U⟩,?_⟩;rintro A xz s H1 T vs Q E fz hr B r ⟨hl,ht⟩;have F:∀c∈cs,∃o v,H1 c=some (Jn o)/\o.data=.cell v/\s.heap.get? c=some o:=λc m=>by
  obtain⟨o,v,e,d⟩:=hcs c m;exact⟨o,v,fz _ _ _ e,d,(B.aK c _ (fz _ _ _ e)).1⟩
 obtain⟨vs0,t0,hd0,hv0⟩:=hoc;have lim:=B.mod.nolimit.keeps λb o e=>(B.bs b o e).1;have lus:T.length=ps.length:=by rw[<-r.length];exact hl
 refine PySem.W.kla_callFunE hr.depth (B.aK f _ (fz _ _ _ hf)).1 rfl S.co S.gen U ⟨a,oc,vs0,t0,U,(B.aK a _ (fz _ _ _ hc)).1,hd0,hv0⟩ ?_;rw[hb T lus];refine aG (wpAny_newFunctionEnv S.cell (λx hx=>S.par _ (En hx).1) (λh₁ hns hsb=>⟨lim.fresh _ hsb,?_⟩) S.kind);have G:=λb o e=>hsb.extBut b o (cQ (bE e)) (aW _ e);have I:aE (Lh P w K mg wn (ps++ys) tz ut f (.ref a) cl A xz s (aQ cs H1)) [] (vs.map some++cv) (aQ cs H1) {s with heap:=h₁,toks:=s.toks+(ps.zip T).length}:=by
  have O:∀b:Av,b∉([]):=λb z=>nomatch z;refine⟨⟨B.mod,S.kind,U,U,aM _,inj,λy Z=>?_,(λy c h=>by cases h),λ_=>hr.hd,Mh B.frames,.inr ⟨U,U⟩,λb z=>absurd z (O b),λb o e=>⟨(B.bs b o e).1,?_⟩,B.mG,λb _ _=>O b,λb z=>absurd z (O b),B.cT,λb hb=>?_⟩,
   rfl,B.bare,Un.kept G,⟨_,hns,λi y v h1 h2 h3=>?_⟩,λy c h=>?_,?_,λy c h=>Xw (hcl y c h),λp hp=>absurd (show p∈([])from hp) Ve,(IY B.aK λc m=>let⟨o,_,e,_⟩:=F c m;⟨o,e⟩).kept G,?_⟩
  .rcases Z with Z|Z
   .exact absurd U (S.cell _ (oB Z))
   .exact has y Z
  .by_cases m:b∈cs
   .exact Xw m
   .exact(ZX m).trans (B.bs b o e).2
  .by_cases m:b∈cs
   .exact Xw m
   .exact(ZX m).trans (B.oP b hb)
  .by_cases hi:i<vs.length
   .have ha:vs[i]?=some v:=Vd
    obtain⟨u,hu,rv⟩:=r.get ha;have C:(ps++ys)[i]?=some y:=h1;rw[eH Vc]at C;exact⟨u,rv,.inl ⟨S.par y (bP C),v7 (DC.mp S.nd).1 C hu lus.symm⟩⟩
   .rw[eL Vd,aI]at h2;have C:(ps++ys)[i]?=some y:=h1;rw[eL (by simp_all),<-hl]at C;refine ω (hval _ y v C h2) (ε3 λc o u=>θ3 λe1 e2 e3 rv=>?_);refine⟨u,rv,.inr ⟨.inr (S.free y (bP C)),c,e1,o,G _ _ (B.aK c _ (fz _ _ _ e2)).1,e3⟩⟩
  .obtain⟨o,v,_,d,g⟩:=F c (hcl y c h);exact⟨v,o,G _ _ g,d⟩
  .show aQ cs H1 s.heap.objs.size=none
   by_cases m:s.heap.objs.size∈cs
   .exact Xw m
   .rw[ZX m];exact B.aK.fresh (aM _)
  .show(vs.map some++cv).length=(ps++ys).length;rw[aZ,aZ,aI,hl,hcv]
 refine PySem.W.kla_codeExpr (iJ (Y A xz s _ (hr.deeper _) [] _ _ _ _ I ht) (λu s' hs=>?_) λ_ _ z=>z.elim);obtain⟨v,H',D,rv,q⟩:=hs;exact NM B F D.os D.bare D.base D.aK rv q
end
def v8(oc:Obj)(tz:Str):Prop:=∃vs t,oc.data=.fields vs/\vs[1]?=some (.str tz t)
def Yd(H:Hp)(P:Av)(pos:Pos)(tz:Str):Prop:=
 H P=some (.d4 #[])\/∃g oc,H P=some (.d4 #[rawInt pos.line,rawInt pos.col,.ref g])/\H g=some (Jn oc)/\v8 oc tz
def Yd.ex{P:Av}{tz:Str}(h:Yd H P p tz):∃ps,H P=some (.d4 ps):=by
 rcases h with h|⟨_,_,h,_⟩<;>exact⟨_,h⟩
structure kC(mg:Ae)(base:Heap):Prop where
 ex:∃bm ob,mg "__builtins__" = some (.ref bm)/\bm≠builtinsNs/\base.get? bm=some ob/\ob.cls=.type "module" /\ ob.dict=some builtinsNs/\ob.data=.plain
def Lm(P:Av)(rc:Pos)(tz:Str)(q:Av->Value->Obj):TE:=λ_ H Q=>Yd H P rc tz /\
 ∀(f B:Av)(oc:Obj)(g:Au)(H2:Hp),H f=none->H2 f=some (Jn (q B g))->H2 B=some (Jn oc)->v8 oc tz->Yd H2 P rc tz->(∀b o,H b=some o->b≠P->H2 b=some o)->Q (.ref f) H2
def NO{X:Cx}{P:Av}{rc:Pos}{oc fo:Obj}{h':Heap}{tk:Nat}(I:aE X C c H s)(G:H P=some (.d4 #[]))(J:Heap.ExtBut P s.heap h')(T:s.heap.objs.size<=a)(Z:a<h'.objs.size)(Q:h'.get? a=some oc)
  (D:h'.get? P=some (PySem.W.tabObj #[rawInt rc.line,rawInt rc.col,.ref a])) (O:fo.isFreed=false:=by rfl):aE X C c (aC (aC (aC H P (.d4 #[rawInt rc.line,rawInt rc.col,.ref a])) a (Jn oc)) h'.objs.size (Jn fo)) {s with heap:=h'.push fo,toks:=tk}:=by
 have B:=I.aK.fresh T;have cP:a≠P:=λe=>Vd
 have Y:aE X C c (aC (aC H P (.d4 #[rawInt rc.line,rawInt rc.col,.ref a])) a (Jn oc)) {s with heap:=h',toks:=tk}:=by
  refine I.un ⟨λb o e n _ _=>J b o (λz=>Vd) e,λb o e n _ _=>⟨o.slots,J b o (λz=>Vd) e⟩,λb o e n _=>?_,λb o e _=>?_,λb xs e=>?_,λb o u e=>?_,λb pz e=>?_⟩ λb u e=>?_
  .rw[Zk ((λe z=>absurd (bE e) Vd) e),Zk (λz=>Vd)];exact n
  .by_cases g:b=P
   .rw[g];exact⟨_,D⟩
   .exact⟨o,J b o g e⟩
  .rw[Zk (Zo e B),Zk (Xp e G nofun)];exact e
  .rw[Zk (Zo e B),Zk (Xp e G nofun)];exact e
  .by_cases g:b=P
   .subst g;rw[G]at e;cases e;exact⟨#[rawInt _,rawInt _,.ref a],by rw[Zk cP.symm,Za];rfl⟩
   .exact⟨#[],by rw[Zk (Zo e B),Zk g,e];simp⟩
  .by_cases F:b=a
   .subst F;rw[Za]at e;cases e;exact xG Q
   .rw[Zk F]at e
    by_cases g:b=P
    .subst g;rw[Za]at e;cases e;exact D
    .rw[Zk g]at e;refine(I.aK b u e).cI (λd v hd q=>J d v ?_ q) (λd q=>?_) λd xs q=>?_
     .lia
     .rw[Zk (Zo q B),Zk (Xp q G nofun)];exact q
     .rw[Zk (Zo q B),Zk (Xp q G nofun)];exact q
 exact Y.laid (λb u e=>aW _ e) (aM _) (xG (bY _ O))
section
variable {X:Cx}{sn:Arguments}{body:Aw}{ut:Scope}{rc:Pos}{c P:Av}{tz:Str}
abbrev gG (X:Cx) (tz:Str) (sn:Arguments) (body:Aw) (ut:Scope):Av->Value->Obj:=λq g=>PySem.W.kla_obj "<lambda>" tz sn body ut (vp X.env.cells ut.names []) ((X.mg "__name__").getD .none) q g
def Tz (D:X.env.code=.ref c) (C:PySem.W.CodeHd X.base c P) (B:kC X.mg X.base) (hdef:defaultsOf sn X.env=([],[])) (hq:X.env.qual ++ "<lambda>" = tz)
  (Z:∀y∈ut.names,y.2=.free->X.env.scope.names.lookup y.1=some .cell):
  PE X (.Lambda sn body ut rc) (Lm P rc tz (gG X tz sn body ut)):=by
 rintro zn s σ H Q I ⟨G,hq2⟩;refine PySem.W.kla_eval hdef ?_;rw[hq];have hcl:=G6 λy hy h=>I.ok.has y.1 (.inl (Z y hy h));have hg:=I.mod.glob.keeps I.bk;obtain⟨pz,hPs⟩:=G.ex;have Y:X.base.get? P=none:=by
  cases e:X.base.get? P with
  |none=>rfl
  |some o=>rw[(I.bs P o e).2]at hPs;cases hPs
 have hgP:mainGlobals≠P:=λe=>by
  obtain⟨o,es,ep,g,_⟩:=I.mod.glob;rw[e,Y]at g;cases g
 have hb:s.heap.BuiltinsAt X.mg P:=by
  refine ω B.ex (ε2 λbm ob=>θ5 λb1 b2 b3 b4 b5 b6=>?_);refine⟨bm,ob,b1,b2,λe=>?_,(λe=>Vd),I.bk _ _ b3,b4,b5,b6⟩;obtain⟨o,es,ep,g,hd,_⟩:=I.mod.glob;rw[<-e,b3]at g;cases g;rw[b6]at hd;cases hd
 rcases G with G|⟨F,oc,G,hc',J⟩
 .have hP:=I.aK P _ G;refine PySem.W.kla_makeFunction hcl I.ok.glob hg D (C.keeps I.bk) hP trivial U hgP hb λF q h' tk hx T O hrec htb=>?_;revert hrec;refine ε4 λc₂ oc vs t=>θ3 λe2 J hd hv=>?_;cases e2;have cn:=I.aK.fresh T;have cP:F≠P:=λe=>Vd
  have hsz:=bS T (a8 O);have I2:=NO (fo:=gG X tz sn body ut F q) (tk:=tk) I G hx T O J htb;have fn:=I.aK.fresh hsz;have fc:=cQ O;refine⟨.ref _,_,I2,U,hq2 _ F oc q _ fn Za ?_ ⟨vs,t,hd,hv⟩ (.inr ⟨F,oc,?_,?_,⟨vs,t,hd,hv⟩⟩) λb o e hbP=>?_⟩
  .rw[Zk fc];exact Za
  .rw[Zk (Zo G fn),Zk cP.symm];exact Za
  .rw[Zk fc];exact Za
  .rw[Zk (Zo e fn),Zk (Zo e cn),Zk hbP];exact e
 .have hP:=I.aK P _ G;have hf:codeAmong rc (#[rawInt rc.line,rawInt rc.col,.ref F]).toList=some (.ref F):=by
   show(if((rc.line:Int) == rc.line&&(rc.col:Int) == rc.col)=true then some _ else _)=_;rw[sY,sY];rfl
  refine PySem.W.kla_makeFunctionHit hcl I.ok.glob hg D (C.keeps I.bk) hP trivial hf hb λq h' tk hk hsz=>?_;have I2:=I.laid (t':=tk) (o:=Jn (gG X tz sn body ut F q)) (λb u e=>aW _ (hk b u e)) hsz (xG (bY _ U));have fn:=I.aK.fresh hsz;have sm:∀b o,H b=some o->aC H _ (Jn (gG X tz sn body ut F q)) b=some o:=λb o e=>by rw[Zk (Zo e fn)];exact e
  exact⟨.ref _,_,I2,U,hq2 _ F oc q _ fn Za (sm _ _ hc') J (.inr ⟨F,oc,sm _ _ G,sm _ _ hc',J⟩) λb o e _=>sm b o e⟩
end
def aS(cells:List (Str×Av)):List Av:=(cells.map (·.1)).filterMap λx=>cells.lookup x
def XD{c:Av}:c∈aS cells↔∃x,cells.lookup x=some c:=by
 unfold aS;rw[Kq];constructor
 .grind
 .rintro⟨x,h⟩;exact⟨x,bG.mpr ⟨(x,c),oB h,U⟩,h⟩
def oT(X:Cx)(s:Ar)(H:Hp):Hp:=λb=>if b∈aS X.env.cells then(s.heap.get? b).map Jn else H b
section
variable {X:Cx}{zn:Ac}{σ:St}{H:Hp}{s:Ar}
theorem kD(I:aE X zn σ H s):∀d∈aS X.env.cells,∃o v,oT X s H d=some (Jn o)/\o.data=.cell v/\s.heap.get? d=some o:=λd m=>by
 obtain⟨y,q⟩:=XD.mp m;obtain⟨v,o,g,B⟩:=I.cell y d q;exact⟨o,v,by unfold oT;rw[aN m,g];rfl,B,g⟩
def qI{d:Av}(m:d∉aS X.env.cells):oT X s H d=H d:=aL m
def Jc(I:aE X zn σ H s):∀d∈aS X.env.cells,H d=none:=λd m=>let⟨y,hy⟩:=XD.mp m;I.cN y d hy
theorem zU(I:aE X zn σ H s):∀b o,H b=some o->oT X s H b=some o:=λb o e=>by
 rw[qI λm=>by rw[Jc I b m]at e;cases e];exact e
def j5{vs:A1}{us:Ag}(F:uS X.prog X.w X.K X.mg X.base j3 k a gd N sp)(hr:JP k X.A)(J:cZ X.K gd N [])(hfn:X.fn=λ_=>true)
  (I:aE X zn σ H s) (rv:aJ vs us) (hsp:sp vs (oT X s H) (λv H3=>E v (aQ (aS X.env.cells) H3)) E0):A3 X (call (.ref a) us) (EP X zn σ E) X.xe s:=by
 have O:=kD I;have hn:=Jc I;have B:=zU I;have nloc:∀d∈aS _,d≠X.env.locals:=λd m e=>by
  obtain⟨o,v,_,hd,a⟩:=O d m;obtain⟨m',⟨o',es,ep,Z,hd',_⟩,_⟩:=I.loc;rw[e,Z]at a;cases a;rw[hd']at hd;cases hd
 have D:∀d∈aS _,X.s₀.heap.objs.size<=d:=λd m=>by
  obtain⟨y,hy⟩:=XD.mp m;exact I.ok.B6 y d (by rw[hfn]) hy
 have nfr:∀d∈aS _,d∉lU X.stack:=λd m z=>by
  rcases bR.mp (I.hG d z)with e|e
  .exact nloc d m e
  .obtain⟨_,o,a,_⟩:=I.ok.cT.mem e;exact absurd (bE a) (E9.mpr (D d m))
 have T:cK X.prog X.w (oT X s H) s.heap:=λb o e=>by
  by_cases m:b∈aS X.env.cells
  .obtain⟨ob,v,e',hd,a⟩:=O b m;rw[e']at e;cases e;exact xG a
  .rw[qI m]at e;exact(I.aK b o e).cI (λ_ _ _ q=>q) (λd q=>B _ _ q) λd xs q=>B _ _ q
 have e0:C9 X.prog X.w X.K X.mg X.base X.A X.stack s (oT X s H):=by
  have z:=I.Bo;refine⟨z.frames,z.mod,λb o e=>⟨(z.bs b o e).1,?_⟩,z.mG,z.cT,λb J=>?_,T,z.bare⟩
  .rw[qI λm=>absurd (bE e) (E9.mpr (bS I.ok.mG (D b m)))];exact(z.bs b o e).2
  .rw[qI λm=>nfr b m J];exact z.oP b J
 refine wpAny_call (sX (F.run X.A X.stack s _ _ us vs _ _ hr e0 (by simpa using J s us I.fE (by rw[d9,<-rv.length];exact F.len _ _ _ _ hsp)) rv hsp) λr s' hq=>?_);cases r with
 |error e=>exact hq.elim
 |ok fl=>
  cases fl with
  |next=>exact False.elim hq
  |brk=>exact False.elim hq
  |cont=>exact False.elim hq
  |ret uu=>
   revert hq;refine ε2 λv H4=>θ5 λos Y un G rv4 q4=>?_;have C:∀d∈aS _,∃o,H4 d=some _/\s.heap.get? d=some o/\s'.heap.get? d=some o:=λd m=>by
    obtain⟨o,v,e,hd,a⟩:=O d m;have e4:=un.eU d o _ e;exact⟨o,e4,a,(G d _ e4).1⟩
   have g:∀d,H d=none->d∉aS _->oT X s H d=none:=λd n m=>by rw[qI m];exact n
   have nm:∀d o,H d=some o->d∉aS X.env.cells:=λd o e m=>Vd
   refine⟨v,_,I.rS os ⟨λd o e n J Q=>?_,λd o e n J Q=>?_,λd o e n Q=>?_,λd o e Q=>un.there d o e Q,λd xs e=>?_,λd o u e=>?_,λd pz e=>?_⟩ (IY G λd m=>let⟨o,e,_⟩:=C d m;⟨o,e⟩) Y (λ_ z=>nomatch z),rv4,q4⟩
   .by_cases m:d∈aS X.env.cells
    .obtain⟨o',_,a,Z⟩:=C d m;rw[e]at a;cases a;exact Z
    .exact un.keep d o e (g d n m) J Q
   .by_cases m:d∈aS X.env.cells
    .obtain⟨o',_,a,Z⟩:=C d m;rw[e]at a;cases a;exact⟨o.slots,Z⟩
    .exact un.slot d o e (g d n m) J Q
   .by_cases m:d∈aS X.env.cells
    .exact Xw m
    .rw[ZX m];exact un.free d o e (g d n m) Q
   .rw[ZX (nm d _ e)];exact un.a7 d xs (B _ _ e)
   .rw[ZX (nm d _ e)];exact un.eU d o u (B _ _ e)
   .rw[ZX (nm d _ e)];exact un.fJ d pz (B _ _ e)
def gH{ut:Scope}{ys:Ai}{is:Aj}{N0:Ai}(I:aE X zn σ H s)(g:∀y∈ut.names,y.2=.free->X.env.scope.names.lookup y.1=some .cell)(D:∀y∈ys,ut.names.lookup y=some .free)(hN:∀q∈ys.zip is,X.N[q.2]?=some q.1)(O:ys.length=is.length):
  ∀(i:Nat)(y:Str)(v:V),ys[i]?=some y->(is.map λi=>(σ[i]?).getD none)[i]?=some (some v)->∃c o u,(vp X.env.cells ut.names []).lookup y=some c/\oT X s H c=some (Jn o)/\o.data=.cell (some u)/\aH v u:=by
 intro i y v h1 h2;have hcl:∀y d,(vp _ _ []).lookup y=some d->X.env.cells.lookup y=some d:=
  qA (λy Y h=>I.ok.has y.1 (.inl (g y Y h))) λ_ _ z=>by cases z
 rw[aY]at h2;cases hj:is[i]? with
 |none=>rw[hj]at h2;cases h2
 |some j=>
  have C:σ[j]?=some (some v):=by
   grind
  have hz:(y,j)∈ys.zip is:=by
   obtain⟨a1,e1⟩:=bM.mp h1;obtain⟨a2,e2⟩:=bM.mp hj;rw[<-e1,<-e2,<-LC (h:=by simp_all)];exact f7 _
  have J:=D y (bP h1);have G:X.env.kindOf y=some .cell:=g _ (QD J) rfl;obtain⟨m,hm',hl⟩:=I.loc;obtain⟨u,r,l⟩:=hl j y v (hN _ hz) C (.inr (.inl G));rcases l with⟨T,_⟩|⟨_,d,l2,Z⟩
  .rw[G]at T;cases T
  .obtain⟨F,B⟩:=G7 (cells:=X.env.cells) (acc:=[]) J;have e:F=d:=Vd
   subst e;obtain⟨o,ho,hd⟩:=Z;refine ω (kD I F (XD.mpr ⟨y,l2⟩)) (ε2 λo' v'=>θ2 λe' _ Q=>?_);rw[ho]at Q;cases Q;exact⟨F,o,u,B,e',hd,r⟩
def Ti{P:Av}{rc:Pos}{tz:Str}(I:aE X zn σ H s)(T:Yd H P rc tz)(F:ZK (oT X s H) d):Yd (aQ (aS X.env.cells) d) P rc tz:=by
 have g:∀b o,H b=some o->aQ _ d b=some o:=λb o e=>by
  rw[ZX (λm=>by rw[Jc I b m]at e;cases e)];exact F _ _ (zU I _ _ e)
 rcases T with z|⟨D,q,B,C,G⟩
 .exact .inl (g _ _ z)
 .exact .inr ⟨D,q,g _ _ B,g _ _ C,G⟩
end
structure Ii(S0 ut:Scope)(N0 ps ys:Ai)(is:Aj):Prop where
 sc:QX ut ps ys
 free:∀y∈ut.names,y.2=.free->S0.names.lookup y.1=some .cell
 E6:∀q∈ys.zip is,N0[q.2]?=some q.1
 len:ys.length=is.length
section
variable {X:Cx}{sn:Arguments}{body a:Aw}{ut:Scope}{rc p pos:Pos}{c P g:Av}{tz x:Str}{k kl:Nat}{gd:An}{pg ps ys:Ai}{is:Aj}{sp:Sp}{ta te:TE}
def Wl{b:Av}{u:HO}(g:∀c∈cs,∃o,H c=some (Jn o))(s:ZK H d)(h:d b=some u)(q:∀o,u≠Jn o):aQ cs d b=some u:=by
 rw[ZX λm=>?_]
 .exact h
 .obtain⟨o,e⟩:=g b m;rw[s _ _ e]at h;exact q o (Option.some.inj h).symm
def Yd.other{P:Av}{tz:Str}(h:Yd H P q tz)(g:P≠f)(B:∃ps,H f=some (.d4 ps))(s:∀b o,H b=some o->b≠f->H' b=some o):Yd H' P q tz:=by
 rcases h with h|⟨c,oc,h1,h2,C⟩
 .exact .inl (s _ _ h g)
 .obtain⟨ps,e⟩:=B;exact .inr ⟨c,oc,s _ _ h1 g,s _ _ h2 (Xp h2 e nofun),C⟩
def Yd.same{P:Av}{tz:Str}(h:Yd H P q tz)(s:ZK H H'):Yd H' P q tz:=by
 rcases h with h|⟨c,oc,h1,h2,g⟩
 .exact .inl (s _ _ h)
 .exact .inr ⟨c,oc,s _ _ h1,s _ _ h2,g⟩
def Bn(g:Ao)(w:As)(K:Af)(mg:Ae)(wn:Heap)(k:Nat)(i:Nat)(t:TA):TE:=λσ H Q=>∃(f:Av)(τ:Sp),σ[i]?=some (ac f)/\XN g w K mg wn k f H τ /\
 t σ H λvs H1=>xH H H1/\τ vs H1 Q E0
theorem OH{P:Ao}{mg:Ae}{wn:Heap}{k:Nat}{H1:Hp}{τ:Sp}(c:XN P w K mg wn k f H τ)(B:xH H H1)(q:cK P w H1 h):PySem.W.FnAt f h:=by
 obtain⟨o,fd,e,d⟩:=c.1;have g:=(q f _ (B _ _ _ e)).1;obtain⟨oc,od,D,C⟩:=o;cases d;exact⟨oc,od,fd,C,g⟩
def Zkj(i:Nat){t:TA}(hr:JP k X.A)(ha:QA X (e::G) t)(hN:X.N[i]?=some x:=by rfl)(hv:F1 X.env.scope x:=by first|exact Or.inl U|exact Or.inr (Or.inl U)|exact Or.inr (Or.inr U))
  (O:(x == ("__debug__" : Str))=false:=by decide) (D:(x == ("__classdict__" : Str))=false:=by decide) (he:starEach (e::G) X.env=(false,eval e X.env)::starEach G X.env:=by rfl) (T:(backTo pos (starEach G X.env)).any (·.1)=false:=by rfl):
  QE X (.Call (.Name x p) (e::G) [] pos) (Bn X.prog X.w X.K X.mg X.base k i t):=by
 refine⟨?_⟩;refine λzn s σ H Q I=>ε2 λf τ=>θ2 λC B ht=>?_;refine pR (aP (Qz hN hv O D zn s σ H (λv H'=>v=.ref f/\H'=H) I ⟨.ref f,C,U,U⟩) λu s1 ⟨v,H',Y,r,q,hH⟩=>?_);subst q;subst hH;cases r;refine PySem.W.callWith_F (OH B (xH.refl _) Y.aK) (aP (ha.out pos zn s1 σ H' _ Y ht) λus s2 ⟨vs,H1,F,rv,Z,J⟩=>⟨OH B Z F.aK,(wpAny_call (sX (B.2 X.A X.stack s2 H1 us vs Q E0 Z hr F.Bo rv J) λr s' g=>?_))⟩) he T;cases r with
 |error e=>exact g.elim
 |ok fl=>
  cases fl with
  |ret u=>exact F.after g
  |next=>exact False.elim g
  |brk=>exact False.elim g
  |cont=>exact False.elim g
end
theorem Zg3{mg mb:Ae}{CX:lO}{k:Nat}{fd:An}{sp:Sp}{B:Ar}{vs:Ag}{ns:Ak}{C:List (Av×Av)}
  (KX:K.In B.heap) (hns:B.heap.Ns mainGlobals mg) (Y:B.heap.Ns builtinsNs mb) (hbb:∀x:Str,x ≠ "__name__" ->mb x=bootBuiltins x) (hlim:B.heap.NoLimit) (hg:B.gens=#[])
  (ha:B.heap.get? a=some {cls:=.type "list",data:=.seq vs.toArray}) (hi:IntsAre vs ns) (hl:ns.length<=sizeLine) (hr:JP k callerA)
  (hT:PySem.W.TabsAt C B.heap) (hKt:PySem.W.noTabs K=true) (hbm:kC mg B.heap)
  (F:∀wn:Heap,K.In wn->wn.Ns mainGlobals mg->(∀q∈C,PySem.W.CodeHd wn q.1 q.2)->kC mg wn->uS P w K mg wn CX k f fd [x] sp) (Z:∀(s:Ar)(u:Au),BindsTo s fd ⟨[u],[]⟩ [(x,u)])
  (hsp:∀H:Hp,(∀q∈C,H q.2=some (.d4 #[]))->aF K H a (ns.map V.int)->sp [.ref a] H (λv _=>v=.bl true) λ_ _ _=>False)
  (hCX:∀H e s',CX [] H B (λ_ _ _=>False) e s'->False):
  codeAny (model P w) callerA (.call (.ref f) ⟨[.ref a],[]⟩) (λr s'=>r=.ok (.ret (.bool true))/\OldK B.heap s'.heap/\s'.os=B.os/\AllBare s'.gens) B:=by
 have rv:=gh hi;have lenV:=hi.length;have D:∀b,b∈C.map (·.2)->B.heap.get? b=some (PySem.W.tabObj #[]):=λb m=>by
  obtain⟨q,I,rfl⟩:=bG.mp m;exact(hT q I).2
 have aT:a∉C.map (·.2):=λm=>by
  have e:=D a m;rw[ha]at e;cases e
 have Q:∀H:Hp,(∀q∈C,H q.2=some (.d4 #[]))->(∀b,H b=none\/(b=a/\∃o xs,H b=some (.b7 o (.lst xs)))\/(b∈C.map (·.2)/\H b=some (.d4 #[])))->aF K H a (ns.map V.int)->cK P w H B.heap->(H a≠none->K.lookup a=none)->
   codeAny (model P w) callerA (.call (.ref f) ⟨[.ref a],[]⟩) (λr s'=>r=.ok (.ret (.bool true))/\OldK B.heap s'.heap/\s'.os=B.os/\AllBare s'.gens) B:=by
  intro H hTb hO hS aK hK;have G:∀{b:Av} {o:Obj},B.heap.get? b=some o->H b=none->(rV B.heap H).get? b=some o:=λe n=>SW e n;have noA:∀{b:Av} {o:Obj},B.heap.get? b=some o->(∀its n,o.data≠.seq its n)->o.cls≠.none->H b=none:=λ{b o} e d1 d2=>by
   rcases hO b with z|⟨rfl,_⟩|⟨m,_⟩
   .exact z
   .rw[ha]at e;cases e;exact absurd U (d1 _ _)
   .rw[D b m]at e;cases e;exact absurd U d2
  have O:∀{b:Av} {m:Ae},B.heap.Ns b m->(rV B.heap H).Ns b m:=λ{b m} ⟨o,es,ep,e,d,r⟩=>⟨o,es,ep,G e (by
   grind),d,r⟩
  have hKb:=λb o e=>G (KX b o e) (by
   rcases hO b with z|⟨rfl,ob,xs,z⟩|⟨m,_⟩
   .exact z
   .rw[hK (by rw[z];simp)]at e;cases e
   .have g:=KX b o e;rw[D b m]at g;cases g;have h2:=i7.mp hKt (b,_) (PySem.W.mem_of_lookupK e);exact absurd (h2) fK)
  have hM:Mod K mg (rV B.heap H):=⟨hKb,O hns,⟨mb,O Y,hbb⟩,let⟨mc,h1,h2⟩:=hlim;⟨mc,O h1,h2⟩⟩;have hB:kC mg (rV B.heap H):=by
   refine ω hbm.ex (ε2 λbm ob=>θ5 λb1 b2 b3 b4 b5 b6=>?_);exact⟨bm,ob,b1,b2,G b3 (noA b3 (λits n z=>by rw[b6]at z;cases z) (λz=>by rw[b4]at z;cases z)),b4,b5,b6⟩
  have hC:∀q∈C,PySem.W.CodeHd (rV B.heap H) q.1 q.2:=λq I=>by
   refine ω ((hT q I).1) (ε6 λo vs' file tf flags tg=>ε3 λinF text tt=>θ3 λe1 r1 r2 r3=>?_);exact⟨o,vs',file,tf,flags,tg,inF,text,tt,G e1 (noA e1 (λits n z=>by rw[r2]at z;cases z) (λz=>by rw[r1]at z;cases z)),r1,r2,r3⟩
  refine sX ((F _ hKb (O hns) hC hB).run callerA [] B H ⟨[.ref a],[]⟩ [.ref a] [.ref a] _ _ hr ⟨U,hM,λb o e=>Znx e,DD (PySem.W.hideAll_size _ _),trivial,λb Y=>absurd (show b∈([]:List Av)from Y) Ve,aK,.of_eq hg⟩ (Z B (.ref a)) (.cons U .nil) (hsp H hTb hS)) λr s' h=>?_;cases r with
  |error e=>exact(hCX H e s' h).elim
  |ok fl=>
   cases fl with
   |next=>exact False.elim h
   |brk=>exact False.elim h
   |cont=>exact False.elim h
   |ret u=>
    revert h;refine ε2 λv H'=>θ5 λos bare un T r' q=>?_;subst q;obtain rfl:u=Value.bool true:=r';have all:∀b o,B.heap.get? b=some o->s'.heap.get? b=some o\/∃more,b∈C.map (·.2)/\o=PySem.W.tabObj #[]/\s'.heap.get? b=some (PySem.W.tabObj (#[]++more)):=λb o e=>by
     rcases hO b with z|⟨_,ob,xs,z⟩|⟨m,z⟩
     .exact .inl (un.keep b o e z (by intro z;exact absurd (show b∈([]:List Av)from z) Ve) Ve)
     .obtain⟨e1,_⟩:=aK b _ z;obtain⟨e2,_⟩:=T b _ (un.eU b ob _ z);rw[e]at e1;cases e1;exact .inl e2
     .obtain⟨more,z2⟩:=un.fJ b _ z;rw[D b m]at e;cases e;exact .inr ⟨more,m,U,T b _ z2⟩
    refine⟨U,⟨λb o e=>?_,λb o e=>?_⟩,os,bare⟩
    .rcases all b o e with z|⟨more,m,rfl,z⟩
     .exact .inl z
     .obtain⟨q,I,rfl⟩:=bG.mp m;exact .inr (.inl ⟨((hT q I).1.tab (hT q I).2).isCodeTable,U,#[],more,U,z⟩)
    .rcases all b o e with z|⟨more,_,_,z⟩
     .exact⟨_,z⟩
     .exact⟨_,z⟩
 have tm:∀q∈C,q.2∈C.map (·.2):=λq I=>mY I;cases hk:K.lookup a with
 |some o=>
  have e:=KX a o hk;rw[ha]at e;cases e;refine Q (λb=>if b∈C.map (·.2)then some (.d4 #[])else none) (λq I=>aN (tm q I)) (λb=>?_) (.inr ⟨_,vs.toArray,_,hk,U,U,U,Vd,by simpa using rv⟩) (λb u z=>?_) (λz=>absurd (aL aT) z)
  .by_cases m:b∈C.map (·.2)
   .exact .inr (.inr ⟨m,aN m⟩)
   .exact .inl (aL m)
  .by_cases m:b∈C.map (·.2)
   .have J:=(aN m).symm.trans z;cases J;exact D b m
   .have J:=(aL m).symm.trans z;cases J
 |none=>
  refine Q (λb=>if b∈C.map (·.2)then some (.d4 #[])else if b=a then some _ else none) (λq I=>aN (tm q I)) (λb=>?_) (.inl (.inr ⟨{cls:=.type "list",data:=.seq vs.toArray},(aL aT).trans (aN U)⟩)) (λb u z=>?_) λ_=>hk
  .grind
  .by_cases m:b∈C.map (·.2)
   .have J:=(aN m).symm.trans z;cases J;exact D b m
   .by_cases Y:b=a
    .have J:=((aL m).trans (aN Y)).symm.trans z;cases J;subst Y;exact⟨ha,Vd,vs,_,rv,ha⟩
    .have J:=((aL m).trans (aL Y)).symm.trans z;cases J
def nZ{l:PySem.W.OpenLaw}{k:Nat}{XP:(Ae)->Heap->Prop}{YP:As->Heap->Prop}{d:DefRec}{K:Params->PySem.W.Frag}{CX:As->lO}{sp:As->Sp}{q:List (Av×Av)}
  (hn:l.most=some n) (hn2:n<=sizeLine) (Z:d.params.defaults=[]) (hr:JP k callerA)
  (hY:∀(w:As)(h:Heap),YP w h->(K w.params).In h)
  (O:∀(w:As)(I:ExcName->Option Au)(mg mb:Ae)(h:Heap),Top P (PySem.W.looseW P N) I mg mb h->(K w.params).In h->PySem.W.TabsAt q h) (hKt:∀w:As,PySem.W.noTabs (K w.params)=true)
  (F:∀(w:As)(mg:Ae)(Q:Av)(h:Heap),(K w.params).In h->h.Ns mainGlobals mg->mg d.name=some (.ref Q)->
   ∃fd:An,(∀(s:Ar)(u:Au),BindsTo s fd ⟨[u],[]⟩ [(x,u)]) /\
    ∀wn:Heap,(K w.params).In wn->wn.Ns mainGlobals mg->(∀P∈q,PySem.W.CodeHd wn P.1 P.2)->kC mg wn->uS l.prog w (K w.params) mg wn (CX w) k Q fd [x] (sp w))
  (hsp:∀(w:As)(H:Hp)(a:Av)(ns:Ak),ns.length<=n->(∀P∈q,H P.2=some (.d4 #[]))->aF (K w.params) H a (ns.map V.int)->sp w [.ref a] H (λv _=>v=.bl true) λ_ _ _=>False)
  (hCX:∀(w:As)(H:Hp)(s:Ar)(e:Au)(s':Ar),CX w [] H s (λ_ _ _=>False) e s'->False):
  PySem.W.WalkO P N XP YP l.row.toRowW d [] (λf vs=>PySem.call f vs):=by
 refine Att.iR hn Z λw s₀ D mg mb Q o pm cd doc a vs ns G Y ho hd hcd hmg J C B hg=>?_;have KX:=hY w _ Y;obtain⟨fd,hb,hF⟩:=F w mg Q _ KX G.T.g hmg;exact Zg3 KX G.T.g G.T.b G.T.builtins G.T.nolimit hg J C (bS B hn2) hr (O w _ mg mb _ G.T KX) (hKt w) ⟨G.T.bmain⟩ hF hb (λH hTb hS=>hsp w H a ns B hTb hS) λH e s'=>hCX w H D e s'
theorem sM.IS{mg:Ae}{wn:Heap}{tz:Str}{st:Ax}{fd:An}{ps:Ai}{k:Nat}{sp:Sp}(F:sM K x tz st f fd)(S:Zy N ps (Zh st))(len:∀vs H Q E,sp vs H Q E->vs.length=ps.length)
  (g:∀(A:Aq)(xz:List Env)(s:Ar)(H:Hp)(vs:A1)(Q:VK)(E:XK),JP k (A.deeper (envOfC tz (Zh st) s.heap.objs.size f fd.code))->sp vs H Q E->
   ∃t,p5 (pS j3 P w K mg wn N tz (Zh st) f fd.code A xz s H E).rQ (XY st) t/\t {nx:=λ_ H'=>Q .aX H',rt:=Q} (d6 N vs) H):uS P w K mg wn j3 (k+1) f fd ps sp:=by
 refine ω F.ex (ε6 λoc od kV I T Y=>ε3 λD ct J=>θ2 λzq0 O B=>?_);subst zq0;refine Qu O B S len λA xz s H vs Q E G C=>?_;obtain⟨t,h,q⟩:=g A xz s H vs Q E G C;exact⟨t,h.rQ,q⟩
def tR:b8 X (compareOp .Is) (λx y H Q=>∃a b,x=.bl a/\y=.bl b/\Q (.bl (a == b)) H):=by
 rintro zn s σ H x y v u Q I g B ⟨a,b,rfl,rfl,q⟩;cases g;cases B;exact aG ⟨.bl (a == b),H,I,by cases a<;>cases b<;>rfl,q⟩
def Zkk{x:V}{g:Ag}(r:aJ [x,y] g):∃a b,g=[a,b]/\aH x a/\aH y b:=by
 cases r with
 |cons h1 t=>
  cases t with
  |cons h2 t=>
   cases t;exact⟨_,_,U,h1,h2⟩
structure Hl(X:Cx)(pos:Pos)(keys:List (Option Aw))(values:Am)(trs:List (TE×TE)):Prop where
 out:PPs X pos keys values trs
def Kc:Hl X p [] [] []:=⟨λzn s σ H Q I h=>pairTrees_nil_walk ⟨[],H,I,.nil,h⟩⟩
theorem kE{k v:Aw}{ks:List (Option Aw)}{vs:Am}{tk:TE}{g:List (TE×TE)}(F:QE X k tk)(Z:QE X v A)(J:Hl X p ks vs g):Hl X p (some k::ks) (v::vs) ((tk,A)::g):=⟨λzn s σ H Q I h=>
 pairTrees_cons_walk (aP (F.out zn s σ H _ I h) λu C ⟨x,H1,B,G,q1⟩=>aP (Z.out zn C σ H1 _ B q1) λw2 D ⟨y,H2,O,ry,q2⟩=>
  aP (J.out zn D σ H2 _ O q2) λws s3=>ε2 λps T=>θ2 λY q q3=>⟨_,T,Y,.cons ⟨G,ry⟩ q,q3⟩)⟩
def La{g:List (TE×TE)}(h:Hl X p keys G g)(B:keys.all (·.isSome)=true)(hl:keys.length=G.length)(h0:keys≠[])(C:keys.length<=15):QE X (.Dict keys G p) (EM g):=⟨by
 intro zn s σ H Q I q;refine wpAny_Dict_walk (knd:=Yi X.prog X.w) B hl h0 C (aP (h.out zn _ σ _ _ (I.laid (λ_ _ q=>aW _ q) (aM _) (kr s.heap I.big)) (q _ (I.aK.fresh (aM _)))) λws s2 ⟨ps,H2,F,D,e,ul,ep,lk,Z⟩=>?_);subst ep;obtain⟨rs,c,O⟩:=vw D;obtain⟨z,T,vs0,J,dd⟩:=Hc F.aK e;cases J;refine⟨rs,c,dd,λh' dd' Y=>⟨.ref _,_,?_,U,Z⟩⟩;have hz:(JC [] ul).length<=sizeLine:=by
  have h1:=qE ul [];rw[Bg]at h1;rw[CY];lia
 exact xC F (by rw[e];exact True.intro) Y (let⟨q,_,_,hq,_⟩:=dd';⟨q,hq⟩) (MX hz T (O.merge .nil) dd')⟩
end L2
namespace ZpT
def zO (g:Au) (b:Bool) (TI TO:Av):Obj:={cls:=.type "zip",dict:=none,data:=.fields #[g,.bool b,.bool false,.ref TI,.ref TO],slots:=#[]}
def F0(g:Au):Prop:=g=.none\/∃T:Av,g=rawInt T
structure Ap(z TI TO i1 i2:Av):Prop where
 TIz:TI≠z
 TOz:TO≠z
 i1z:i1≠z
 i2z:i2≠z
 TITO:TI≠TO
 TIi1:TI≠i1
 TIi2:TI≠i2
 TOi1:TO≠i1
 TOi2:TO≠i2
 i12:i1≠i2
section
variable {ww:Ao}{w:As}{A:Aq}{E:Ab}{s:Ar}
def alive{Q:Option Obj->Shared->Prop}(h:Q (s.heap.get? a) s):A2 ww w A (loadIfAlive a) Q E s:=λΓ p _=>h
def N6{z:Av}{Q:Bool->Shared->Prop}(hz:s.heap.get? z=some (zO v j a f))(D:F0 v)
  (h:∀r h' C,h'.get? z=some (zO v C a f)->Heap.SameBut z s.heap h'->Q r {s with heap:=h'}):A2 ww w A (Builtin.SmallTypes.ownedTupleIsFree (.ref z)) Q E s:=by
 refine ab (d7 hz U U ?_);rcases D with rfl|⟨T,rfl⟩
 .exact aG (h true s.heap j hz ⟨U,λ_ _=>U⟩)
 .refine ab (alive ?_);cases hT:s.heap.get? _ with
  |none=>exact aG (h true s.heap j hz ⟨U,λ_ _=>U⟩)
  |some o=>
   refine ab (d7 hz U U ?_);cases j
   .refine ab (mH hz Ve λB q g=>aG (h false B true q g))
   .exact aG (h false s.heap true hz ⟨U,λ_ _=>U⟩)
end
structure Of(z TO i1 i2 l:Av):Prop where
 z:l≠z
 o:l≠TO
 i:l≠i1
 j:l≠i2
structure St(b1 b2:Bool)(z TI TO i1 i2 l1 l2:Av)(k1 k2:Nat)(h:Heap):Prop where
 z:∃f0 fb,h.get? z=some (zO f0 fb TI TO)/\F0 f0
 I:IsPair h TI (.ref i1) (.ref i2)
 O:∃a b,IsPair h TO a b
 n1:Yk b1 h i1 l1 k1
 n2:Yk b2 h i2 l2 k2
section
variable {ww:Ao}{w:As}{A:Aq}{E:Ab}{s:Ar}
def item{z i1 i2 l1 l2:Av}{xs ys:Ah}{x y:Au}(D:Ap z f I i1 i2)(D1:Of z I i1 i2 l1)(D2:Of z I i1 i2 l2)
  (S:St b1 b2 z f I i1 i2 l1 l2 n L s.heap) (q1:SeqAt b1 s.heap l1 xs) (q2:SeqAt b2 s.heap l2 ys) (hx:xs[n]?=some x) (hy:ys[L]?=some y)
  (hQ:∀h',St b1 b2 z f I i1 i2 l1 l2 (n+1) (L+1) h'->IsPair h' s.heap.objs.size x y->
   (∀c o,c≠z->c≠I->c≠i1->c≠i2->s.heap.get? c=some o->h'.get? c=some o)->Q (.ref s.heap.objs.size) {s with heap:=h'}):
  A2 ww w A (Builtin.«zip.__next__» ⟨[.ref z],[]⟩) (λfin s'=>∃v,fin=.done (.ret v)/\Q v s') E s:=by
 obtain⟨⟨f0,fb,hz,hf⟩,hTI,⟨a,b,hTO⟩,n1,n2⟩:=S;show wpAny _ _ (field (.ref z) 2 >>= _) _ _ _;refine ab (d7 hz U (x:=.bool false) U ?_);refine ab (d7 hz U (x:=.ref f) U ?_);refine ab (i0 hTI U ?_);refine ab (N6 hz hf λr h0 fb' hz0 T=>?_);have hz0':h0.get? z=some (zO f0 fb' f I):=hz0;have hTO0:IsPair h0 I a b:=T.extBut _ _ D.TOz hTO;have n10:Yk b1 h0 i1 l1 n:=n1.mv λo e=>T.extBut _ _ D.i1z e;have n20:Yk b2 h0 i2 l2 L:=n2.mv λo e=>T.extBut _ _ D.i2z e;have q10:SeqAt b1 h0 l1 xs:=q1.mv λo e=>T.extBut _ _ D1.z e;have q20:SeqAt b2 h0 l2 ys:=q2.mv λo e=>T.extBut _ _ D2.z e;cases r with
 |true=>
  refine ab (iT ?_);refine ab (d7 hz0 U (x:=.ref I) U ?_);refine ab (mH hz0 Ve λh₁ hz₁ C=>?_);refine ab ?_;refine ab (ab (Ia ?_));refine ab (JW (n10.mv λo e=>C.extBut _ _ D.i1z e) (q10.mv λo e=>C.extBut _ _ D1.z e) hx λh₂ Z g=>aG ?_);have hTO₂:IsPair h₂ I a b:=g.extBut _ _ D.TOi1 (C.extBut _ _ D.TOz hTO0);refine ab (i0 hTO₂ U ?_);refine ab (IL hTO₂ λF hTO₃ q=>?_);refine ab (pW (aG ?_));refine ab (ab (Ia ?_));refine ab (JW (n20.mv λo e=>q.extBut _ _ D.TOi2.symm (g.extBut _ _ D.i12.symm (C.extBut _ _ D.i2z e)))
   (q20.mv λo e=>q.extBut _ _ D2.o (g.extBut _ _ D2.i (C.extBut _ _ D2.z e))) hy λh₄ h2₄ J=>aG ?_)
  have hTO₄:IsPair h₄ I x b:=J.extBut _ _ D.TOi2 hTO₃;refine ab (i0 hTO₄ U ?_);refine ab (IL hTO₄ λB G O=>?_);replace G:IsPair B I x y:=G;refine ab (pW (aG (aG ?_)));refine ab (i0 G U ?_);refine ab (Hz ?_);have hsz:B.objs.size=s.heap.objs.size:=by rw[O.1,J.1,q.1,g.1,C.1];exact T.1
  have hz₅:B.get? z=some (zO .ellipsis fb' f I):=O.extBut _ _ D.TOz.symm (J.extBut _ _ D.i2z.symm (q.extBut _ _ D.TOz.symm (g.extBut _ _ D.i1z.symm hz₁)));have hk₅:∀c o,c≠z->c≠I->c≠i1->c≠i2->s.heap.get? c=some o->B.get? c=some o:=λc o c1 c2 c3 c4 e=>
   O.extBut _ _ c2 (J.extBut _ _ c4 (q.extBut _ _ c2 (g.extBut _ _ c3 (C.extBut _ _ c1 (T.extBut _ _ c1 e)))))
  have h1₅:Yk b1 B i1 l1 (n+1):=Z.mv λo e=>O.extBut _ _ D.TOi1.symm (J.extBut _ _ D.i12 (q.extBut _ _ D.TOi1.symm e));have h2₅:Yk b2 B i2 l2 (L+1):=h2₄.mv λo e=>O.extBut _ _ D.TOi2.symm e;have hzlt:z<B.objs.size:=bE hz₅;refine ab ?_;have hz₆:(B.push {cls:=.type "tuple",data:=.seq #[x,y]}).get? z=some (zO .ellipsis fb' f I):=aW _ hz₅;refine ab (mH hz₆ Ve λh₇ hz₇ hs₇=>?_);refine mH hz₇ Ve λh₈ hz₈ hs₈=>?_;have up:∀c o,c≠z->B.get? c=some o->h₈.get? c=some o:=λc o c1 e=>hs₈.extBut _ _ c1 (hs₇.extBut _ _ c1 (aW _ e));have hT₈:IsPair h₈ B.objs.size x y:=hs₈.extBut _ _ (rP hzlt) (hs₇.extBut _ _ (rP hzlt) (bY _ U));rw[hsz]at hz₈ hT₈;refine aG ⟨_,U,?_⟩;rw[hsz];exact hQ h₈ ⟨⟨_,_,hz₈,.inr ⟨_,U⟩⟩,up _ _ D.TIz (hk₅ _ _ D.TIz D.TITO D.TIi1 D.TIi2 hTI),⟨_,_,up _ _ D.TOz G⟩,h1₅.mv λo e=>up _ o D.i1z e,h2₅.mv λo e=>up _ o D.i2z e⟩ hT₈ λc o c1 c2 c3 c4 e=>up c o c1 (hk₅ c o c1 c2 c3 c4 e)
 |false=>
  refine ab ?_;refine ab (ab (iZ ?_));refine ab (JW n10 q10 hx λh₂ Z g=>aG (aG ?_));refine ab (ab (iZ ?_));refine ab (JW (n20.mv λo e=>g.extBut _ _ D.i12.symm e) (q20.mv λo e=>g.extBut _ _ D2.i e) hy λF h2₃ q=>aG (aG (aG ?_)));refine ab (Hz (hsz:=(show 2<=sizeLine by decide)) (aG ⟨_,U,?_⟩));have hsz:F.objs.size=s.heap.objs.size:=by rw[q.1,g.1];exact T.1
  have Y:∀c o,c≠z->c≠i1->c≠i2->s.heap.get? c=some o->F.get? c=some o:=λc o c1 c3 c4 e=>q.extBut _ _ c4 (g.extBut _ _ c3 (T.extBut _ _ c1 e));have zz:F.get? z=some (zO f0 fb' f I):=q.extBut _ _ D.i2z.symm (g.extBut _ _ D.i1z.symm hz0');have hT:IsPair (F.push {cls:=.type "tuple",data:=.seq #[x,y]}) F.objs.size x y:=bY _ rfl;rw[hsz]at hT ⊢;have up:∀c o,F.get? c=some o->(F.push {cls:=.type "tuple",data:=.seq #[x,y]}).get? c=some o:=λc o e=>aW _ e;exact hQ _ ⟨⟨_,_,up _ _ zz,hf⟩,up _ _ (Y _ _ D.TIz D.TIi1 D.TIi2 hTI),⟨_,_,up _ _ (Y _ _ D.TOz D.TOi1 D.TOi2 hTO)⟩,Z.mv λo e=>up _ _ (q.extBut _ _ D.i12 e),h2₃.mv λo e=>up _ _ e⟩ hT λc o c1 c2 c3 c4 e=>up c o (Y c o c1 c3 c4 e)
end
section
variable {ww:Ao}{w:As}{A:Aq}{E:Ab}{s:Ar}
def fin{z i1 i2 l1 l2:Av}{xs ys:Ah}{Q:Fin->Shared->Prop}(hh:A.handled=none)(D:Ap z f I i1 i2)(D1:Of z I i1 i2 l1)(D2:Of z I i1 i2 l2)
  (S:St b1 b2 z f I i1 i2 l1 l2 n L s.heap) (q1:SeqAt b1 s.heap l1 xs) (q2:SeqAt b2 s.heap l2 ys) (hend:xs[n]?=none\/ys[L]?=none)
  (hE:∀h' e,(∀c o,c≠z->c≠I->c≠i1->c≠i2->s.heap.get? c=some o->h'.get? c=some o)->(∃o,h'.get? e=some o/\o.cls=.type "StopIteration")->E (.ref e) {s with heap:=h'}):
  A2 ww w A (Builtin.«zip.__next__» ⟨[.ref z],[]⟩) Q E s:=by
 obtain⟨⟨f0,fb,hz,hf⟩,hTI,⟨a,b,hTO⟩,n1,n2⟩:=S;show wpAny _ _ (field (.ref z) 2 >>= _) _ _ _;refine ab (d7 hz U (x:=.bool false) U ?_);refine ab (d7 hz U (x:=.ref f) U ?_);refine ab (i0 hTI U ?_);refine ab (N6 hz hf λr h0 fb' hz0 F=>?_);have hTO0:IsPair h0 I a b:=F.extBut _ _ D.TOz hTO;have n10:Yk b1 h0 i1 l1 n:=n1.mv λo e=>F.extBut _ _ D.i1z e;have n20:Yk b2 h0 i2 l2 L:=n2.mv λo e=>F.extBut _ _ D.i2z e;have q10:SeqAt b1 h0 l1 xs:=q1.mv λo e=>F.extBut _ _ D1.z e;have q20:SeqAt b2 h0 l2 ys:=q2.mv λo e=>F.extBut _ _ D2.z e;cases r with
 |true=>
  refine ab (iT ?_);refine ab (d7 hz0 U (x:=.ref I) U ?_);refine ab (mH hz0 Ve λh₁ hz₁ B=>?_);refine ab ?_;refine ab (ab (Ia ?_));cases hx:xs[n]? with
  |none=>
   refine ab (vx hh (n10.mv λo e=>B.extBut _ _ D.i1z e) (q10.mv λo e=>B.extBut _ _ D1.z e) hx λC e g he=>?_);obtain⟨oe,G,hce⟩:=he;have Y:C.get? z=some (zO .ellipsis fb' f I):=g _ _ D.i1z.symm hz₁;have hez:e≠z:=λx=>by subst x;rw[Y]at G;cases G;simp[zO]at hce
   refine mH Y Ve λO _ q=>hE O e (λc o T _ c3 _ x=>q.extBut _ _ T (g _ _ c3 (B.extBut _ _ T (F.extBut _ _ T x)))) ⟨oe,q.extBut _ _ hez G,hce⟩
  |some x=>
   have hy:ys[L]?=none:=Vd
   refine ab (JW (n10.mv λo e=>B.extBut _ _ D.i1z e) (q10.mv λo e=>B.extBut _ _ D1.z e) hx λC h1₂ g=>aG ?_);have J:IsPair C I a b:=g.extBut _ _ D.TOi1 (B.extBut _ _ D.TOz hTO0);refine ab (i0 J U ?_);refine ab (IL J λO hTO₃ q=>?_);refine ab (pW (aG ?_));refine ab (ab (Ia ?_));refine ab (vx hh (n20.mv λo e=>q.extBut _ _ D.TOi2.symm (g.extBut _ _ D.i12.symm (B.extBut _ _ D.i2z e)))
    (q20.mv λo e=>q.extBut _ _ D2.o (g.extBut _ _ D2.i (B.extBut _ _ D2.z e))) hy λh₄ e Z he=>?_)
   obtain⟨oe,G,hce⟩:=he;have hz₄:h₄.get? z=some (zO .ellipsis fb' f I):=Z _ _ D.i2z.symm (q.extBut _ _ D.TOz.symm (g.extBut _ _ D.i1z.symm hz₁));have hez:e≠z:=λx=>by subst x;rw[hz₄]at G;cases G;simp[zO]at hce
   refine mH hz₄ Ve λh₅ _ hs₅=>hE h₅ e (λc o T c2 c3 c4 x=>hs₅.extBut _ _ T (Z _ _ c4 (q.extBut _ _ c2 (g.extBut _ _ c3 (B.extBut _ _ T (F.extBut _ _ T x)))))) ⟨oe,hs₅.extBut _ _ hez G,hce⟩
 |false=>
  refine ab ?_;refine ab (ab (iZ ?_));cases hx:xs[n]? with
  |none=>exact ab (vx hh n10 q10 hx λC e g he=>hE C e (λc o T _ c3 _ x=>g _ _ c3 (F.extBut _ _ T x)) he)
  |some x=>
   have hy:ys[L]?=none:=Vd
   refine ab (JW n10 q10 hx λC h1₂ g=>aG (aG ?_));refine ab (ab (iZ ?_));exact ab (vx hh (n20.mv λo e=>g.extBut _ _ D.i12.symm e) (q20.mv λo e=>g.extBut _ _ D2.i e) hy λO e q he=>hE O e (λc o T _ c3 c4 x=>q _ _ c4 (g.extBut _ _ c3 (F.extBut _ _ T x))) he)
def next_item{b1 b2:Bool}{z i2 q g:Av}{xs ys:Ah}{x y:Au}{Q:Aa}(D:Ap z a f I i2)(J:Of z f I i2 q)(Y:Of z f I i2 g)
  (S:St b1 b2 z a f I i2 q g i n s.heap) (O:SeqAt b1 s.heap q xs) (Z:SeqAt b2 s.heap g ys) (hx:xs[i]?=some x) (C:ys[n]?=some y)
  (G:∀h',St b1 b2 z a f I i2 q g (i+1) (n+1) h'->IsPair h' s.heap.objs.size x y->
   (∀c o,c≠z->c≠f->c≠I->c≠i2->s.heap.get? c=some o->h'.get? c=some o)->Q (some (.ref s.heap.objs.size)) {s with heap:=h'}):
  A2 ww w A (pyNext (.ref z)) Q E s:=by
 obtain⟨f0,fb,hz,hf⟩:=S.z;have B:s.TypeIs (.ref z) "zip" :=⟨_,hz,U⟩;exact ab (mO (wpAny_callSpecial?_slot B Fs
  (eT Fs B F.entry_zip_next (item D J Y S O Z hx C λh' a1 a2 T=>aG (G h' a1 a2 T)) (F.args_zip_next_1 _))))
def next_end{b1 b2:Bool}{z i2 B q:Av}{xs ys:Ah}{Q:Aa}(hh:A.handled=none)(D:Ap z a f I i2)(J:Of z f I i2 B)(Z:Of z f I i2 q)
  (S:St b1 b2 z a f I i2 B q i n s.heap) (Y:SeqAt b1 s.heap B xs) (q2:SeqAt b2 s.heap q ys) (g:xs[i]?=none\/ys[n]?=none)
  (G:∀h',(∀c o,c≠z->c≠f->c≠I->c≠i2->s.heap.get? c=some o->h'.get? c=some o)->Q none {s with heap:=h'}):
  A2 ww w A (pyNext (.ref z)) Q E s:=by
 obtain⟨f0,fb,hz,hf⟩:=id S.z;have C:s.TypeIs (.ref z) "zip" :=⟨_,hz,U⟩;refine ab (mO (wpAny_callSpecial?_slot C Fs (eT Fs C F.entry_zip_next (fin hh D J Z S Y q2 g λh' e T O=>?_) (F.args_zip_next_1 _))));obtain⟨o,ho,hc⟩:=O;exact ab (oX ⟨o,ho,hc⟩ Dj (aG (G _ T)))
def cB{z:Av}(hz:s.heap.get? z=some (zO v j a f))(h:Q (.ref z) s):A2 ww w A (pyIter (.ref z)) Q E s:=by
 have g:s.TypeIs (.ref z) "zip" :=⟨_,hz,U⟩;refine D9 g F.slot_zip_iter (eT F.slot_zip_iter g F.entry_zip_iter (aG ⟨_,U,"zip",_,g,Fs.lookup,h⟩) (F.args_zip_iter_1 _))
end
def oE(b1:Bool)(h:Heap)(g:Av):Heap:=h.push (rD b1 g)
def lY(b1 b2:Bool)(h:Heap)(q g:Av):Heap:=(oE b1 h q).push (rD b2 g)
def iX (b1 b2:Bool) (h:Heap) (g q:Av):Heap:=(lY b1 b2 h g q).push {cls:=.type "tuple",data:=.seq #[.ref h.objs.size,.ref (oE b1 h g).objs.size]}
def mZ (b1 b2:Bool) (h:Heap) (q g:Av):Heap:=(iX b1 b2 h q g).push {cls:=.type "tuple",data:=.seq #[.none,.none]}
def Ba(b1 b2:Bool)(h:Heap)(q g:Av):Heap:=(mZ b1 b2 h q g).push (zO .none false (lY b1 b2 h q g).objs.size (iX b1 b2 h q g).objs.size)
theorem JU(b1 b2:Bool)(B q:Av)(xs ys:Ah):
  Meets (Builtin.«zip.__new__» ⟨[.type "zip",.ref B,.ref q],[]⟩) (λ_ R s=>SeqAt b1 s.heap B xs/\SeqAt b2 s.heap q ys /\
   R (.ok (.ret (.ref (mZ b1 b2 s.heap B q).objs.size))) {s with heap:=Ba b1 b2 s.heap B q}):=
 .of_wp λww w A R s h=>by
  obtain⟨G,g,d,tk,os⟩:=s;obtain⟨C,D,h⟩:=h;have F:=sub_zip
  wp_walk using Ja C,Ja (D.mv λo e=>aW _ e)
  exact⟨_,U,h⟩
section
variable {ww:Ao}{w:As}{A:Aq}{E:Ab}{s:Ar}
def eM{b1 b2:Bool}{xs ys:Ah}(B:SeqAt b1 s.heap a xs)(D:SeqAt b2 s.heap f ys)
  (h:∀h',St b1 b2 (s.heap.objs.size+4) (s.heap.objs.size+2) (s.heap.objs.size+3) s.heap.objs.size (s.heap.objs.size+1) a f 0 0 h'->(∀c o,s.heap.get? c=some o->h'.get? c=some o)->Q (.ref (s.heap.objs.size+4)) {s with heap:=h'}):
  A2 ww w A (call (.type "zip") [.ref a,.ref f]) Q E s:=by
 refine FA F.called_zip Vb (F.typeCall_zip_2 _ _) (F.newCall_zip_2 _ _) (λG=>F.args_object_init_3 G _ _) F.entry_zip_new (JU b1 b2 a f xs ys) ⟨B,D,?_⟩;have q:(oE b1 s.heap a).objs.size=s.heap.objs.size+1:=iL ..;have C:(lY b1 b2 s.heap a f).objs.size=s.heap.objs.size+2:=by unfold lY;rw[iL,q]
 have g:(iX b1 b2 s.heap a f).objs.size=s.heap.objs.size+3:=by unfold iX;rw[iL,C]
 have O:(mZ b1 b2 s.heap a f).objs.size=s.heap.objs.size+4:=by unfold mZ;rw[iL,g]
 have I:(Ba b1 b2 s.heap a f).get? _=some _:=bY _ rfl;have J:(Ba b1 b2 s.heap a f).get? _=some _:=aW _ (bY _ U);have T:(Ba b1 b2 s.heap a f).get? _=some _:=aW _ (aW _ (bY _ U));have Y:(Ba b1 b2 s.heap a f).get? _=some _:=aW _ (aW _ (aW _ (bY _ U)));rw[C,g,O]at I;rw[q,C]at T;rw[g]at J;rw[q]at Y;rw[O];exact⟨⟨_,I,U⟩,h _ ⟨⟨_,_,I,.inl U⟩,T,⟨_,_,J⟩,zS (aW _ (aW _ (aW _ (aW _ (bY _ U))))),zS Y⟩ λc o x=>
  aW _ (aW _ (aW _ (aW _ (aW _ x))))⟩
theorem St.other{z TO i1 i2 B q:Av}{h':Heap}(D:Ap z f TO i1 i2)(S:St b1 b2 z f TO i1 i2 B q i n h)(hz:h'.get? z=some (zO v j f TO))(C:F0 v)(g:Heap.SameBut z h h'):St b1 b2 z f TO i1 i2 B q i n h':=
 ⟨⟨v,j,hz,C⟩,g.extBut _ _ D.TIz S.I,(let⟨a,b,e⟩:=S.O;⟨a,b,g.extBut _ _ D.TOz e⟩),S.n1.mv λo e=>g.extBut _ _ D.i1z e,S.n2.mv λo e=>g.extBut _ _ D.i2z e⟩
def Cr{z i2 F B T:Av}{tg:Aw}{Q:Unit->Shared->Prop}(D:Ap z a f I i2)(S:St b1 b2 z a f I i2 F B i L s.heap)
  (h:∀h',St b1 b2 z a f I i2 F B i L h'->Heap.SameBut z s.heap h'->Q () {s with heap:=h'}):A2 ww w A (letOwnedTupleGo tg (.ref z) (.ref T)) Q E s:=by
 have C:=h s.heap S ⟨U,λ_ _=>U⟩;obtain⟨J,G,hz,O⟩:=id S.z;have tup:A2 ww w A (do
   let o <-load z
   match o.cls,o.data with
   |.type n,.fields vs=>
    if["enumerate","zip","dict_itemiterator","dict_reverseitemiterator","odict_iterator","itertools.zip_longest","itertools.pairwise"].contains n&&vs[0]? == some (rawInt T)then
     rule "for.unpacks-the-owned-tuple"
     updateField z 0 .none
   |_,_=>pure ()) Q E s:=by
  refine ab (wpAny_load hz ?_);show wpAny _ _ (if(["enumerate","zip","dict_itemiterator","dict_reverseitemiterator","odict_iterator","itertools.zip_longest","itertools.pairwise"].contains "zip" && (#[J,.bool G,.bool false,.ref a,.ref f])[0]? == some _)=true then _ else _) Q E s;split
  .refine ab (iT (mH hz Ve λh' q g=>h h' (S.other D q (.inl U) g) g))
  .exact aG C
 cases tg<;>first
  |exact tup
  |exact aG C
end
end ZpT
namespace L2
open ZpT (St Ap Of SeqAt Yk)
def Ew(K:Af)(b1 b2:Bool)(a1 a2:Av):It:=
  ⟨λi H=>∃xs ys x y,bV K b1 H a1 xs/\bV K b2 H a2 ys/\xs[i]?=some x/\ys[i]?=some y,
   λi H v H'=>∃p,H p=none/\v=.ref p/\∀xs ys x y,bV K b1 H a1 xs->bV K b2 H a2 ys->xs[i]?=some x->ys[i]?=some y->H'=aC H p (.tup [x,y]),
   λi H=>∃xs ys,bV K b1 H a1 xs/\bV K b2 H a2 ys/\(xs.length<=i\/ys.length<=i)⟩
def qJ{z i2 a1 a2:Av}(D:Ap z a f I i2)(D1:Of z f I i2 a1)(D2:Of z f I i2 a2):
  eA P w K tg (Ew K b1 b2 a1 a2) [z,a,f,I,i2] z (λi h=>ZpT.St b1 b2 z a f I i2 a1 a2 i i h)where
 mem:=Ve
 obj:=λi h st b B=>by
  obtain⟨⟨f0,fb,hz,J⟩,C,⟨x,y,F⟩,n1,T⟩:=st;simp at B;rcases B with rfl|rfl|rfl|rfl|rfl
  .exact⟨_,hz,λv q=>by
    have q':=q;cases q'⟩
  .simp_all
  .simp_all
  .exact n1.ob
  .exact T.ob
 keep:=λi h h' st k=>by
  obtain⟨⟨f0,fb,hz,J⟩,C,⟨x,y,F⟩,n1,T⟩:=st;exact⟨⟨f0,fb,k z Ve _ hz,J⟩,k a Ve _ C,⟨x,y,k f Ve _ F⟩,n1.mv λo e=>k I Ve o e,T.mv λo e=>k i2 Ve o e⟩
 item:=by
  intro X hP hw hK hc i zn s σ H E g J st hg;subst hP hw hK;revert hg;refine ε4 λxs ys x y=>θ3 λq1 q2 hx hy=>?_;refine ω (g.iI q1) (ε1 λQ=>θ2 λr1 p1 z1=>?_);refine ω (g.iI q2) (ε1 λZ=>θ2 λr2 p2 z2=>?_);obtain⟨u1,hu1,ru1⟩:=r1.get hx;obtain⟨u2,hu2,ru2⟩:=r2.get hy;have olt:∀b∈[z,a,f,I,i2],b<s.heap.objs.size:=λb B=>by
   obtain⟨⟨f0,fb,hz,J⟩,C,⟨x,y,F⟩,n1,T⟩:=st;simp at B;rcases B with rfl|rfl|rfl|rfl|rfl
   .exact bE hz
   .exact bE C
   .exact bE F
   .obtain⟨o,ho,_⟩:=n1.ob;exact bE ho
   .obtain⟨o,ho,_⟩:=T.ob;exact bE ho
  refine ZpT.next_item D D1 D2 st p1 p2 (by simpa using hu1) (by simpa using hu2) λh' st' hT hk=>?_;refine⟨_,U,ZpT.Cr D st' λh2 st2 hs2=>?_⟩;have G:=hs2;have I1:aE X zn σ (aC H _ (.tup [x,y])) {s with heap:=s.heap.push _,toks:=s.toks}:=
   g.laid (λb o y=>aW _ y) (aM _) ⟨yF,_,.cons ru1 (.cons ru2 .nil),uW.new _ _⟩
  have fp':∀b∈[z,a,f,I,i2],z6 X zn (aC H _ (.tup [x,y])) b:=λb B=>by
   obtain⟨a0,ar⟩:=J b B;exact⟨by rw[Zk (cQ (olt b B))];exact a0,ar⟩
  have I2:aE X zn σ (aC H s.heap.objs.size (.tup [x,y])) {s with heap:=h2,toks:=s.toks}:=by
   refine XC (s:={s with heap:=s.heap.push _,toks:=s.toks}) I1 fp' λb o B q=>?_;have O:b≠z:=λe=>B (by simp[e]);rcases MG q with⟨rfl,rfl⟩|q
   .exact(G.2 _ O).trans hT
   .exact(G.2 b O).trans (hk b o O (λe=>B (by simp[e])) (λe=>B (by simp[e])) (λe=>B (by simp[e])) q)
  refine⟨.ref _,_,I2,U,⟨_,g.aK.fresh (aM _),U,λxs' ys' x' y' q1' q2' Y hy'=>?_⟩,st2,λb B=>(fp' b B).1⟩;rw[g.iC q1' q1,hx]at Y;rw[g.iC q2' q2,hy]at hy';cases Y;cases hy';rfl
 done:=by
  intro X hP hw hK hc i zn s σ H E g J st hg;subst hP hw hK;obtain⟨xs,ys,q1,q2,hx⟩:=hg;obtain⟨Q,r1,p1,z1⟩:=g.iI q1;obtain⟨Z,r2,p2,z2⟩:=g.iI q2;have e1:=r1.length;have e2:=r2.length;refine ZpT.next_end (g.ok.hd hc) D D1 D2 st p1 p2 (by simp;simp_all) λh' hk=>⟨U,?_⟩;exact XC g J λb o B q=>hk b o (λe=>B (by simp[e])) (λe=>B (by simp[e])) (λe=>B (by simp[e])) (λe=>B (by simp[e])) q
 self:=λ_ _ _ _ _ st h=>let⟨_,_,hz,_⟩:=st.z;ZpT.cB hz h
def Bz:bootBuiltins "zip" = some (.type "zip"):=Va
end L2
namespace L2
open ZpT (Ap Of SeqAt Yk)
def Zd7:typeLookup (.type "zip") "__len__" = pure none:=Vf
def TR:typeLookup (.type "zip") "__length_hint__" = pure none:=Vf
def ZK.iI{xs:A1}{b:Bool}(e:ZK H H')(h:bV K b H a xs):bV K b H' a xs:=by
 cases b
 .exact(ZK.seq e (h))
 .rcases(h)with h|h
  .refine(.inl ?_);rcases h with h|⟨o,h⟩
   .exact .inl (e _ _ h)
   .exact .inr ⟨o,e _ _ h⟩
  .exact(.inr h)
def aE.adopt{X:Cx}{σ:St}{o:HO}(I:aE X C σ H s)(f:z6 X C H a)(ob:XA X.prog X.w (aC H a o) s.heap a o):aE X C σ (aC H a o) s:=by
 have ne:∀{b u},H b=some u->b≠a:=λe z=>by rw[z,f.1]at e;cases e
 refine I.step (ch:=[a]) (λb g=>?_) (λb o _ _ _ e _=>e) (λb o _ _ _ e _=>⟨o.slots,e⟩) (λb u g _ B=>?_) (λb o _ e=>⟨o,e⟩) (λb xs e=>?_) (λb o u e=>?_) (λb ps e=>⟨#[],?_⟩) (λm D=>D) (λb u e=>?_) I.bare
 .have:b=a:=Vd
  subst this;exact⟨f.2.2.2.1,f.2.1,f.2.2.2.2.1,f.2.2.2.2.2⟩
 .rw[Zk (λz=>g (by simp[z]))];exact B
 .rw[Zk (ne e)];exact e
 .rw[Zk (ne e)];exact e
 .rw[Zk (ne e),e];simp
 .by_cases g:b=a
  .subst g;rw[Za]at e;cases e;exact ob
  .rw[Zk g]at e;exact(I.aK b u e).cI (λc v _ q=>q) (λc q=>by rw[Zk (ne q)];exact q) λc xs q=>by rw[Zk (ne q)];exact q
def Wm(H:Hp)(ps:List (V×V))(g:A1):Prop:=Paired (λ(p:V×V) (r:V)=>∃a,r=.ref a/\H a=am [p.1,p.2]) ps g
def Wm.same{ps:List (V×V)}(h:Wm H ps u)(s:ZK H H'):Wm H' ps u:=Paired.n9 h λ_ _ ⟨a,e,q⟩=>⟨a,e,s _ _ q⟩
theorem Wm.snoc(h:Wm H ps u){x:V}(e:H a=am [x,y]):Wm H (ps++[(x,y)]) (u++[.ref a]):=by
 induction h with
 |nil=>exact .cons ⟨a,U,e⟩ .nil
 |cons r _ g=>exact .cons r g
def Wm.len(h:Wm H ps u):ps.length=u.length:=oK h
section
variable {X:Cx}{A:Aq}{b1 b2:Bool}{z TI TO i1 i2 a1 a2 S:Av}{xs ys:A1}{zn:Ac}{σ:St}{R:Result->Shared->Prop}
theorem UI(hh:A.handled=none)(D:Ap z TI TO i1 i2)(D1:Of z TO i1 i2 a1)(D2:Of z TO i1 i2 a2)(B:S∉[z,TI,TO,i1,i2]):∀(m i:Nat)(s:Ar)(H:Hp)(zs:A1)(C:Ag)(c:Nat),min xs.length ys.length-i=m->i<=min xs.length ys.length->
  aE X zn σ H s->(∀b∈[z,TI,TO,i1,i2],z6 X zn H b)->z6 X zn H S->ZpT.St b1 b2 z TI TO i1 i2 a1 a2 i i s.heap->bV X.K b1 H a1 xs->bV X.K b2 H a2 ys->
  s.heap.get? S=some {cls:=.type "list",dict:=none,data:=.seq C.toArray c,slots:=#[]}->aJ zs C->Wm H ((xs.zip ys).take i) zs->
  (∀s' H' J G c',aE X zn σ H' s'->z6 X zn H' S->ZK H H'->s'.heap.get? S=some {cls:=.type "list",dict:=none,data:=.seq G.toArray c',slots:=#[]}->aJ J G->Wm H' (xs.zip ys) J->R (.ok (.ret .none)) s')->
  codeAny (model X.prog X.w) A (.builtin "list.extend.loop" ⟨[.ref S,.ref z,.none],[]⟩) R s:=by
 intro m
 induction m with
 |zero=>
  intro i s H zs C c hm hi I hf fS st q1 q2 hS rv tw hR;obtain⟨Z,r1,p1,z1⟩:=I.iI q1;obtain⟨its2,r2,p2,z2⟩:=I.iI q2;have e1:=r1.length;have e2:=r2.length;refine mD F.entry_extend_loop ?_;rw[DI Ef _];show wpAny _ A.in1 (pyNext (.ref z) >>= _) _ _ s;refine ab (ZpT.next_end hh D D1 D2 st p1 p2 (by simp;lia) λh' hk=>?_);have I':=XC (t':=s.toks) I hf λb o g q=>hk b o (λe=>g (by simp[e])) (λe=>g (by simp[e])) (λe=>g (by simp[e])) (λe=>g (by simp[e])) q;refine aG (hR _ H zs C c I' fS (ZK.refl H) (hk S _ (λe=>B (by simp[e])) (λe=>B (by simp[e])) (λe=>B (by simp[e])) (λe=>B (by simp[e])) hS) rv ?_);rw[i8 (by rw[mI];lia)]at tw;exact tw
 |succ m ih=>
  intro i s H zs C c hm hi I hf fS st q1 q2 hS rv tw hR;obtain⟨Z,r1,p1,z1⟩:=I.iI q1;obtain⟨its2,r2,p2,z2⟩:=I.iI q2;have hx:=aR (show i<xs.length by lia);have hy:=aR (show i<ys.length by lia);obtain⟨u1,hu1,ru1⟩:=r1.get hx;obtain⟨u2,hu2,ru2⟩:=r2.get hy;have olt:∀b∈[z,TI,TO,i1,i2],b<s.heap.objs.size:=λb g=>by
   obtain⟨o,ho,_⟩:=(qJ (P:=X.prog) (w:=X.w) (K:=X.K) (tg:=.Name "x" ⟨0,0,0,0⟩) (b1:=b1) (b2:=b2) D D1 D2).obj _ _ st b g;exact bE ho
  have Slt:S<s.heap.objs.size:=bE hS;refine mD F.entry_extend_loop ?_;rw[DI Ef _];show wpAny _ A.in1 (pyNext (.ref z) >>= _) _ _ s;refine ab (ZpT.next_item D D1 D2 st p1 p2 (x:=u1) (y:=u2) (by simpa using hu1) (by simpa using hu2) λh' st' hT hk=>?_);have I1:aE X zn σ (aC H s.heap.objs.size (.tup [xs[i],ys[i]])) {s with heap:=s.heap.push {cls:=.type "tuple",data:=.seq #[u1,u2]},toks:=s.toks}:=
   I.laid (λb o y=>aW _ y) (aM _) ⟨yF,[u1,u2],.cons ru1 (.cons ru2 .nil),uW.new _ _⟩
  have Y:∀{b},b<s.heap.objs.size->z6 X zn H b->z6 X zn (aC H s.heap.objs.size (.tup [xs[i],ys[i]])) b:=λg ⟨a0,ar⟩=>⟨by rw[Zk (cQ g)];exact a0,ar⟩;have fp':∀b∈[z,TI,TO,i1,i2],z6 X zn (aC H s.heap.objs.size (.tup [xs[i],ys[i]])) b:=λb g=>Y (olt b g) (hf b g);have O:H s.heap.objs.size=none:=I.aK.fresh (aM _);have sH:ZK H (aC H s.heap.objs.size (.tup [xs[i],ys[i]])):=λb o e=>by rw[Zk (Zo e O)];exact e
  have I2:aE X zn σ (aC H s.heap.objs.size (.tup [xs[i],ys[i]])) {s with heap:=h',toks:=s.toks}:=by
   refine XC (s:={s with heap:=s.heap.push {cls:=.type "tuple",data:=.seq #[u1,u2]},toks:=s.toks}) I1 fp' λb o g q=>?_;rcases MG q with⟨rfl,rfl⟩|q
   .exact hT
   .exact hk b o (λe=>g (by simp[e])) (λe=>g (by simp[e])) (λe=>g (by simp[e])) (λe=>g (by simp[e])) q
  have hS':=hk S _ (λe=>B (by simp[e])) (λe=>B (by simp[e])) (λe=>B (by simp[e])) (λe=>B (by simp[e])) hS;have lz:C.length=i:=by
   have e1:=tw.len;have e2:=rv.length;rw[cE,mI]at e1;lia
  show wpAny _ A.in1 (updateSeq S (·.push (.ref s.heap.objs.size)) >>= _) _ _ _;refine ab (rH hS' U (aG ⟨nV Ef _,?_⟩) (by rw[nA];lia) (by show(C.toArray.push _).size<=sizeLine+1;rw[Array.size_push,nA];lia));have Q:∀b o,b≠S->h'.get? b=some o->(h'.update S (Obj.mapSeq (·.push (Value.ref s.heap.objs.size)))).get? b=some o:=λb o g e=>(nK _ _ (eV g)).trans e;have hS2:=gV (Obj.mapSeq (·.push (Value.ref s.heap.objs.size))) hS' rfl;have T:=Y Slt fS;have I3:aE X zn σ (aC H s.heap.objs.size (.tup [xs[i],ys[i]])) {s with heap:=h'.update S (Obj.mapSeq (·.push (Value.ref s.heap.objs.size))),toks:=s.toks}:=
   XC (s:={s with heap:=h',toks:=s.toks}) (fp:=[S]) I2 (λb g=>by have:b=S:=(by simpa using g);subst this;exact T) λb o g q=>Q b o (λe=>g (by simp[e])) q
  have st3:=(qJ (P:=X.prog) (w:=X.w) (K:=X.K) (tg:=.Name "x" ⟨0,0,0,0⟩) (b1:=b1) (b2:=b2) D D1 D2).keep (i+1) h' (h'.update S (Obj.mapSeq (·.push (Value.ref s.heap.objs.size)))) st' λb g o e=>Q b o (λz=>B (by rw[<-z];exact g)) e;refine ih (i+1) _ (aC H s.heap.objs.size (.tup [xs[i],ys[i]])) (zs++[.ref s.heap.objs.size]) (C++[.ref s.heap.objs.size]) _ Vd (by omega) I3 fp' T st3 (sH.iI q1) (sH.iI q2) (by rw[<-List.push_toArray];exact hS2) (rv.append (.cons (show aH (.ref s.heap.objs.size) (.ref s.heap.objs.size)from U) .nil)) ?_ λs' H' J G c' J1 J2 J3 J4 J5 J6=>hR s' H' J G c' J1 J2 (sH.trans J3) J4 J5 J6;have hzi:(xs.zip ys)[i]?=some (xs[i],ys[i]):=by rw[C3];exact⟨hx,hy⟩
  rw[aB hzi];exact(tw.same sH).snoc Za
end
end L2
namespace L2
open ZpT (Ap Of SeqAt Yk)
def Fo(n:Nat):List Av:=[n+4,n+2,n+3,n,n+1]
def Hk(n:Nat):Ap (n+4) (n+2) (n+3) n (n+1):=by constructor<;>(simp_all)
def sJ(h:l<n):Of (n+4) (n+3) n (n+1) l:=by constructor<;>(lia)
section
variable {X:Cx}{e1 e2:Aw}{t:TA}{p pos:Pos}{b1 b2:Bool}
def Qf{b:Bool}{l:Av}{xs:Ah}(q:SeqAt b h l xs):l<h.objs.size:=by
 cases b
 .obtain⟨o,g,_⟩:=(q);exact bE g
 .obtain⟨o,g,_⟩:=(q);exact bE g
def NF     {RR:Av->Addr->List V->List V->Hp->Prop}  (hg:Gl X "zip") (hm:X.mg "zip" = none) (ha:QA X [e1,e2] t) (G:[e1,e2].all Yx=true) (I:aE X C c H s)
  (h:t c H λvs H1=>∃a1 a2 xs ys,vs=[.ref a1,.ref a2]/\bV X.K b1 H1 a1 xs/\bV X.K b2 H1 a2 ys/\RR a1 a2 xs ys H1)
  (fin:∀a1 a2 xs ys n H1 q,aE X C c H1 q->bV X.K b1 H1 a1 xs->bV X.K b2 H1 a2 ys->RR a1 a2 xs ys H1->a1<n->a2<n->ZpT.St b1 b2 (n+4) (n+2) (n+3) n (n+1) a1 a2 0 0 q.heap->(∀b∈Fo n,z6 X C H1 b)->Q (.ref (n+4)) q):
  A3 X (eval (.Call (.Name "zip" p) [e1,e2] [] pos) X.env) Q X.xe s:=by
 rw[mS,lI]at G;refine pR (GN I hg hm Bz (AU (aP (ha.out pos C s c H _ I h) λus q ⟨vs,H1,g,r1,D⟩=>?_) (ZC G.1) (Wk G.2)));revert D;refine ε4 λa1 a2 xs ys=>θ3 λzq0 D Z r=>?_;subst zq0;obtain⟨u1,u2,rfl,F,J⟩:=Zkk r1;cases F;cases J;obtain⟨O,v1,p1,z1⟩:=g.iI D;obtain⟨T,v2,p2,z2⟩:=g.iI Z;refine ZpT.eM p1 p2 λh' st hk=>(fin a1 a2 xs ys _ H1 _ (g.kept hk) D Z r (Qf p1) (Qf p2) st λb Y=>?_);have B:q.heap.objs.size<=b:=by
  simp[Fo]at Y;rcases Y with rfl|rfl|rfl|rfl|rfl
  .exact FF _ _
  .exact FF _ _
  .exact FF _ _
  .exact aM _
  .exact FF _ _
 exact g.dZ B (g.aK.fresh B)
def Dw(K:Af)(b1 b2:Bool)(t:TA):TI:=λσ H R=>t σ H λvs H1=>∃a1 a2 xs ys,vs=[.ref a1,.ref a2]/\bV K b1 H1 a1 xs/\bV K b2 H1 a2 ys/\R (Ew K b1 b2 a1 a2) H1
def FI (q:Gl X "zip") (C:X.mg "zip" = none) (F:QA X [e1,e2] t) (D:[e1,e2].all Yx=true:=by rfl):QI X tg (.Call (.Name "zip" p) [e1,e2] [] pos) (Dw X.K b1 b2 t):=by
 refine⟨λzn s σ H R I h=>?_⟩;refine NF q C F D I h λa1 a2 xs ys n H1 O g Q Y r J G st B=>?_;obtain⟨Z,T,hz,_⟩:=id st.z;exact ZpT.cB hz ⟨n+4,Fo n,_,_,H1,U,g,qJ (Hk n) (sJ J) (sJ G),st,B,r⟩
def Vi(K:Af)(b1 b2:Bool)(t:TA):TE:=λσ H Q=>t σ H λvs H1=>∃a1 a2 xs ys,vs=[.ref a1,.ref a2]/\bV K b1 H1 a1 xs/\bV K b2 H1 a2 ys/\∀l zs H',H1 l=none->ZK H1 H'->Wm H' (xs.zip ys) zs->H' l=ap zs->Q (.ref l) H'
def Zd8 (hg:Gl X "zip") (hm:X.mg "zip" = none) (hgl:Gl X "list") (hml:X.mg "list" = none) (hc:X.calm=true) (ha:QA X [e1,e2] t) (hp:[e1,e2].all Yx=true:=by rfl):
  QE X (.Call (.Name "list" q) [.Call (.Name "zip" p) [e1,e2] [] pos] [] pos2) (Vi X.K b1 b2 t):=by
 refine⟨λzn s σ H Q I h=>?_⟩;have hs:starEach [.Call (.Name "zip" p) [e1,e2] [] pos] X.env=[(false,eval (.Call (.Name "zip" p) [e1,e2] [] pos) X.env)]:=by rfl
 refine pR (GN I hgl hml Rf ?_);refine AU ?_ hs rfl;rw[hs];refine oW (NF (b1:=b1) (b2:=b2) (RR:=λa1 a2 xs ys H1=>∀l zs H',H1 l=none->ZK H1 H'->Wm H' (xs.zip ys) zs->H' l=ap zs->Q (.ref l) H') hg hm ha hp I h λa1 a2 xs ys n H1 g Y q1 q2 k l1 l2 st hf=>?_);refine Bs ?_;have hh:X.A.handled=none:=Y.ok.hd hc;have D:H1 g.heap.objs.size=none:=Y.aK.fresh (aM _);have J:g.heap.objs.size∉Fo n:=λB=>by
  obtain⟨o,ho,_⟩:=(qJ (P:=X.prog) (w:=X.w) (K:=X.K) (tg:=.Name "x" ⟨0,0,0,0⟩) (b1:=b1) (b2:=b2) (Hk n) (sJ l1) (sJ l2)).obj _ _ st _ B;exact fU _ (bE ho)
 refine callType_codes (Q₁:=λobj G=>obj=.ref g.heap.objs.size/\G={g with heap:=g.heap.push {cls:=.type "list",data:=.seq #[]}}) F.called_list (F.typeCall_list_1 _) F.entry_list_init (code_list_new _ ⟨U,U⟩) λobj G h₁=>?_;obtain⟨rfl,rfl⟩:=h₁;have hS:(g.heap.push {cls:=.type "list",data:=.seq #[]}).get? g.heap.objs.size=some {cls:=.type "list",data:=.seq #[]}:=bY _ rfl;refine⟨⟨_,hS,U⟩,F.args_list_init_2 _ _,?_⟩;have fS:z6 X zn H1 g.heap.objs.size:=Y.dZ (aM _) D;have I2:aE X zn σ H1 {g with heap:=g.heap.push {cls:=.type "list",data:=.seq #[]},toks:=g.toks}:=Y.kept (t':=g.toks) λb o e=>aW _ e;have T0:=qJ (P:=X.prog) (w:=X.w) (K:=X.K) (tg:=.Name "x" ⟨0,0,0,0⟩) (b1:=b1) (b2:=b2) (Hk n) (sJ l1) (sJ l2);have st2:=T0.keep 0 g.heap (g.heap.push {cls:=.type "list",data:=.seq #[]}) st λb _ o e=>aW _ e;generalize hSe:g.heap.objs.size=S at *;generalize g.heap.push {cls:=.type "list",data:=.seq #[]}=h2 at *;refine ab ?_;refine ab (i0 (s:={g with heap:=h2}) hS U (aG ?_));refine ab (rH (s:={g with heap:=h2}) hS U ?_);have T:∀{s':Ar} {H':Hp} {f:Ah->Array Au},aE X zn σ H' s'->z6 X zn H' S->ZpT.St b1 b2 (n+4) (n+2) (n+3) n (n+1) a1 a2 0 0 s'.heap->aE X zn σ H' {s' with heap:=s'.heap.update S (Obj.mapSeq f),toks:=s'.toks}/\ZpT.St b1 b2 (n+4) (n+2) (n+3) n (n+1) a1 a2 0 0 (s'.heap.update S (Obj.mapSeq f)):=λ{s' H' f} I' f' st'=>by
  have Z:∀b o,b≠S->s'.heap.get? b=some o->(s'.heap.update S (Obj.mapSeq f)).get? b=some o:=λb o B e=>(nK _ _ (eV B)).trans e;refine⟨XC (t':=s'.toks) (fp:=[S]) I' (λb B=>?_) λb o B zq19=>Z b o (λe=>B (by simp[e])) zq19,T0.keep 0 _ _ st' λb B o e=>Z b o (λz=>J (by rw[<-z];exact B)) e⟩;have:b=S:=by simpa using B
  subst this;exact f'
 obtain⟨I3,st3⟩:=T (f:=λ_=>#[]) I2 fS st2;have hS3:=gV (Obj.mapSeq (λ_=>(#[]:Ah))) hS rfl;refine ab (pW ?_);refine ω (id st3.z) (ε2 λf0 fb=>θ1 λiX _=>?_);have O:Shared.TypeIs {g with heap:=h2.update S (Obj.mapSeq (λ_=>(#[]:Ah)))} (.ref (n+4)) "zip" :=⟨_,iX,U⟩;have hSI:S≠n+4:=λe=>J (by rw[e];simp[Fo]);refine ab (B0 O ?_);have g1:Builtin.List.listSameRef (.ref S) (.ref (n+4))=false:=by simp[Builtin.List.listSameRef,hSI]
 have g2:(Value.type "zip" == Value.type "list")=false:=Vb
 have g3:(Value.type "zip" == Value.type "tuple")=false:=Vb
 simp only[g1,g2,g3,Bool.or_false,FD,if_false];refine ab (ZpT.cB iX ?_);refine ab (iZ ?_);refine ab (p4 O Zd7 ?_);refine ab (p4 O TR ?_);refine aG ?_;refine ab (iT ?_);refine ab ?_;refine ab (rH hS3 U ?_);obtain⟨I4,st4⟩:=T (f:=(·.push Value.none)) I3 fS st3;have hS4:=gV (Obj.mapSeq (·.push Value.none)) hS3 rfl;refine rH (hz:=by seq_fits) hS4 U ?_;obtain⟨I5,st5⟩:=T (f:=(·.pop)) I4 fS st4;have hS5:=gV (Obj.mapSeq (·.pop)) hS4 rfl;refine aG ⟨nV Ef _,UI (A:=X.A.in1) (xs:=xs) (ys:=ys) hh (Hk n) (sJ l1) (sJ l2) J _ 0 _ H1 [] [] _ U (cD _) I5 hf fS st5 q1 q2 hS5 .nil .nil λs' H' C its' c' J1 J2 J3 J4 J5 J6=>?_⟩;have hz:C.length<=sizeLine:=by
  obtain⟨_,_,_,B⟩:=Y.iI q1;rw[<-J6.len,mI];lia
 have sS:ZK H' (aC H' S (.lst C)):=λb o e=>by rw[Zk (Zo e J2.1)];exact e
 refine⟨U,.ref S,_,J1.adopt (o:=.lst C) J2 ⟨hz,its',c',J5,J4⟩,U,k S C _ D (J3.trans sS) (J6.same sS) Za⟩
end
end L2
namespace L2
structure Mz(ut:Scope)(x x2:Str)(ys:Ai):Prop where
 own:ut.names.lookup x2=some .local
 nd:(x::x2::ys).Nodup
def Di(is:Aj)(σ:St)(v w:Option V):St:=v::w::is.map λi=>(σ[i]?).getD none
def Nc(K:Af)(is:Aj)(tc:TT)(te:TE)(σ:St)(Q:VK)(J:It)(H1:Hp):Prop:=∃W:Nat->Nat->List V->Hp->Prop,(∃m,W 0 m [] H1)/\∀i m zs H,W i m zs H->
 (J.stop i H/\zs.length<=sizeLine/\∀p,H p=none->Q (.ref p) (aC H p (.lst zs))) \/
 (J.go i H/\zs.length<=sizeLine/\∀x H',J.Bq i H x H'->∃a q B,x=.ref a/\aD K H' a [q,B]/\tc (Di is σ (some q) (some B)) H' λb H2=>if b=true then te (Di is σ (some q) (some B)) H2 λy C=>∃g,g<m/\W (i+1) g (zs++[y]) C else∃g,g<m/\W (i+1) g zs H2)
def BL(K:Af)(wi:TI)(is:Aj)(tc:TT)(te:TE):TE:=λσ H Q=>wi σ H (Nc K is tc te σ Q)
section
variable {X:Cx}{S ut:Scope}{N:Ai}{x x2:Str}{ys:Ai}{is:Aj}{zn:Ac}{σ:St}{H₂:Hp}{s₂:Ar}{fp:List Av}{elt iter:Aw}{px px2 pp pos:Pos}{pq:Nat}{ifs:Am}{tc:TT}{te:TE}{wi:TI}
theorem BG(K:Ye S ut N x ys is)(g:Mz ut x x2 ys)(I:X.env.scope=S)(F:X.N=N)(C:S.kind=.function)(B:X.calm=true):Fc X S ut N x ys is [x,x2] (.Tuple [.Name x px,.Name x2 px2] pq pp) (EN X.K 2 (vZ (JO 0) (vZ (JO 1) Du))) (λσ q=>∃G D,q=Di is σ G D):=
 ⟨K,I,F,C,B,λ_ _ _ _=>Rw B (zP (vY g.nd U (.inl (CO K.own)) (.inr (CO K.own))) (zP (vY g.nd U (.inl (CO g.own)) (.inr (CO g.own))) Rm)),λ_=>⟨none,none,U⟩⟩
theorem EH:∀σ Q J H,Nc K is tc te σ Q J H->gp (EN K 2 (vZ (JO 0) (vZ (JO 1) Du))) (λg=>∃B q,g=Di is σ B q) tc te Q J H:=λσ Q J H ⟨W,C,t⟩=>
 ⟨W,C,λi m zs H w=>(t i m zs H w).imp_right λz=>⟨z.1,z.2.1,λx H' y=>by
  refine ω (z.2.2 x H' y) (ε3 λa D F=>θ2 λzq0 sq k=>?_);subst zq0;exact⟨_,⟨_,_,U⟩,λg ⟨_,_,e⟩=>e ▸ ⟨a,_,U,sq,U,_,_,U,_,_,U,U,U,U⟩,k⟩⟩⟩
def Vx(K:Ye S ut N x ys is)(I:Mz ut x x2 ys)(hi:QI X (.Tuple [.Name x px,.Name x2 px2] pq pp) iter wi)(q:∀C s₂ H₂ ex,QF (fX X (x::x2::ys) ut C s₂ H₂ ex) ifs tc)(F:∀C s₂ H₂ ex,QE (fX X (x::x2::ys) ut C s₂ H₂ ex) elt te)
  (B:X.calm=true:=by rfl) (J:X.env.scope=S:=by rfl) (g:X.N=N:=by rfl) (G:S.kind=.function:=by rfl) (D:∀v,foldedSetIterable iter X.env v=pure v:=by intro _;rfl):
  QE X (.ListComp elt [⟨(.Tuple [.Name x px,.Name x2 px2] pq pp),iter,ifs,0⟩] ut pos) (BL X.K wi is tc te):=
 NG (BG K I J g G B) EH hi q F D
end
section
variable {ww:Ao}{w:As}{A:Aq}{E:Ab}{s:Ar}{c it:Av}{oc:Obj}{es:Array DictEntry}{ep i:Nat}
def Zkn(nm:(c == sysModules)=false)(g:s.heap.get? c=some oc)(B:oc.ExactDict)(gd:oc.data=.dict es ep)
  (q:Q (.ref s.heap.objs.size) {s with heap:=s.heap.push {cls:=.type "dict_keyiterator",data:=.fields #[.ref c,.int 0 0,.int es.size 0,.int ep 0]}}):
  A2 ww w A (pyIter (.ref c)) Q E s:=by
 have ty:s.TypeIs (.ref c) "dict" :=⟨oc,g,B.1⟩;refine D9 ty F.slot_dict_iter (eT F.slot_dict_iter ty F.entry_dict_iter (by
  unfold Builtin.«dict.__iter__»;refine ab (ab (ID ty (aG ?_)));show wpAny _ _ (Builtin.Dict.showsAll c >>= _) _ _ s;unfold Builtin.Dict.showsAll;rw[aL (λz=>Vd)];refine ab (aG (ab (Fb g gd (ab (Ij g gd (ab (fA (aG ⟨_,U,_,_,⟨_,bY _ U,U⟩,EY.lookup,?_⟩))))))));simpa[rawInt]using q) (F.args_dict_iter_1 _))
def RI{Q:Aa}(D:s.heap.IsKeyIter it c i es.size ep)(F:s.heap.get? c=some oc)(gd:oc.data=.dict es ep)(lt:i<es.size)
  (q:∀h',h'.IsKeyIter it c (i+1) es.size ep->Heap.SameBut it s.heap h'->Q (some es[i].key) {s with heap:=h'}):
  A2 ww w A (pyNext (.ref it)) Q E s:=by
 obtain⟨J,C,I,B⟩:=id D;have ty:=D.typeIs;refine ab (mO (wpAny_callSpecial?_slot ty EY
  (eT EY ty OE (ab (aG (ab (ab ?_)))) (PB _))))
 first|refine ab (FZ ty (aG (ab (C8 C B ?_))))|refine ab _
 have G:Builtin.Dict_items.ownsTuple "dict_keyiterator" = false:=Vb
 refine ab (aG (ab (Fb F gd ?_)));rw[aL Ve];refine ab (aG (ab (Ij F gd ?_)));rw[aL Ve];refine aG ?_;simp[dr,De lt];refine ab ?_
 first|refine ab (FZ ty (aG (ab (wpAny_isOneOf_keyiter ty ?_))))|refine ab _
 show wpAny _ _ (setField _ 1 _ >>= _) _ _ s;refine ab (mU C B Ve ?_);have g:(s.heap.update it (Obj.mapFields (·.setIfInBounds 1 (rawInt (i+1))))).IsKeyIter it c (i+1) es.size ep:=
  ⟨_,gV _ C (pL (iG B _)),(CH ..).trans I,by rw[iG B];simp[rawInt]⟩
 refine ab (iZ (ab (wpAny_isOneOf_keyiter g.typeIs (aG (aG ⟨_,U,aG (q _ g (lG ..))⟩)))))
def Zko{Q:Aa}(hh:A.handled=none)(B:s.heap.IsKeyIter it c es.size es.size ep)(D:s.heap.get? c=some oc)(gd:oc.data=.dict es ep)
  (q:∀h',Heap.ExtBut it s.heap h'->Q none {s with heap:=h'}):A2 ww w A (pyNext (.ref it)) Q E s:=by
 obtain⟨G,g,I,C⟩:=id B;have ty:=B.typeIs;refine ab (mO (wpAny_callSpecial?_slot ty EY
  (eT EY ty OE (ab (aG (ab (ab ?_)))) (PB _))))
 first|refine ab (FZ ty (aG (ab (C8 g C ?_))))|refine ab _
 have F:Builtin.Dict_items.ownsTuple "dict_keyiterator" = false:=Vb
 refine ab (aG (ab (Fb D gd ?_)));rw[aL Ve];refine ab (aG (ab (Ij D gd ?_)));rw[aL Ve];refine aG ?_;simp;refine ab ?_
 first|refine ab (FZ ty (aG ?_))|refine ab _
 show wpAny _ _ (setField _ 0 .none >>= _) _ _ s;refine ab (mU g C Ve (ab ?_));refine ab (fA (ab (fH (by first|rfl|(rfl)) (fA (ab (Dt ?_)) (by size_fits)))) (by size_fits));rw[hh];refine ab (aG (Dy ?_));refine ab (oX ⟨_,bY _ U,U⟩ Dj (aG (q _ (((lG ..).extBut.push _).push _))))
end
def IV(ok:XA P w H h a (.dT ul)):(a == sysModules)=false /\
  ∃xs o es ep,KT H ul xs/\h.get? a=some o/\o.ExactDict/\o.data=.dict es ep/\es.toList=xs.map (entryOfKey (tupleKind (Yi P w))):=by
 revert ok;refine θ2 λz y=>ε1 λxs=>θ1 λr=>ε3 λo es ep=>θ4 λh1 h2 g q B=>?_;exact⟨y,xs,o,es,ep,r,h1,h2,g,q⟩
theorem aE.pH{σ:St}{ul:List (List aV×V)}{o:Obj}(I:aE X C σ H s)(e:Rd H a (.dT ul))(B:s.heap.get? a=some o):aE X C σ (aC H a (.b7 o (.dT ul))) s:=by
 rcases e with e|⟨o',e⟩
 .have ne:∀b u,H b=some u->u≠.dT ul->b≠a:=λb u g J z=>by
   grind
  refine I.step (ch:=[]) (λ_ z=>nomatch z) (λb o _ _ _ q _=>q) (λb o _ _ _ q _=>⟨o.slots,q⟩) (λb o _ _ n=>?_) (λb o _ q=>⟨o,q⟩)
   (λb xs q=>by rw[Zk (ne b _ q nofun)];exact q) (λb o u q=>by rw[Zk (ne b _ q nofun)];exact q) (λb ps q=>⟨#[],by rw[Zk (ne b _ q nofun),q];simp⟩) (λm D=>D) (λb u q=>?_) I.bare
  .rw[Zk (λz=>Vd)];exact n
  .have st:∀u,XA X.prog X.w H s.heap b u->XA X.prog X.w (aC H a (.b7 o (.dT ul))) s.heap b u:=λu x=>
    x.cI (λ_ _ _ q=>q) (λc q=>by rw[Zk (ne c _ q nofun)];exact q) λc xs q=>by rw[Zk (ne c _ q nofun)];exact q
   by_cases g:b=a
   .subst g;rw[Za]at q;cases q;exact⟨B,st _ (I.aK b _ e)⟩
   .rw[Zk g]at q;exact st u (I.aK b u q)
 .have z:=I.aK a _ e;obtain⟨G,_⟩:=z;have:=Option.some.inj (B.symm.trans G);subst this;have F:aC H a (.b7 o (.dT ul))=H:=by
   funext b;unfold aC;split
   .rename_i g;rw[g,e]
   .rfl
  rw[F];exact I
def Ko(a:Av)(o:Obj)(ul:List (List aV×V)):It:=⟨λi H=>i<ul.length/\H a=some (.b7 o (.dT ul)),λi H v H'=>H'=H/\∃p b,ul[i]?=some p/\v=.ref b/\H b=am (p.1.map kV),λi H=>i=ul.length/\H a=some (.b7 o (.dT ul))⟩
theorem KT.at(r:KT H ul xs){i:Nat}{q:List aV×Av×Au}(h:xs[i]?=some q):∃p,ul[i]?=some p/\H q.2.1=am (p.1.map kV):=by
 induction r generalizing i with
 |nil=>simp at h
 | @cons p q' ps B e t g=>
  cases i with
  |zero=>
   simp at h;subst h;exact⟨p,U,e.2.1⟩
  |succ j=>
   exact g h
def To(a it:Av)(o:Obj)(ul:List (List aV×V))(ep:Nat)(O:∃es,o.data=.dict es ep)(hne:a≠it):eA P w K tg (Ko a o ul) [it] it (λi h=>h.IsKeyIter it a i ul.length ep)where
 mem:=Ve
 obj:=λi h st b G=>by
  have e:b=it:=by simpa using G
  subst e;obtain⟨o,e,c,d⟩:=st;exact⟨o,e,λv z=>by rw[d]at z;cases z⟩
 keep:=λi h h' st k=>st.at λo e=>k it Ve o e
 item:=by
  intro X hP hw hK hc i zn s σ H E I Y st hg;subst hP hw hK;obtain⟨hi,hH⟩:=hg;refine ω (Y it Ve) (θ5 λf0 f1 f2 f3 f4 f5=>?_);obtain⟨T,ok⟩:=(I.aK a _ hH);obtain⟨nm,xs,o',es,ep',g,F,Z,q,C⟩:=IV ok;have eo:o'=o:=Option.some.inj (F.symm.trans T);subst eo;obtain⟨es2,B⟩:=O;rw[q]at B;cases B;have hsz:es.size=ul.length:=by rw[My C,oK g]
  rw[<-hsz]at st;have J:i<es.size:=by rw[hsz];exact hi
  have hx:i<xs.length:=by rw[<-oK g];exact hi
  refine RI st T q J λh' D sb=>?_;refine ω (id D) (ε1 λoi=>θ2 λe cc d=>?_);have ek:=entry_at C i;rw[De J,aR hx]at ek;have ek2:es[i].key=.ref (xs[i]).2.1:=by rw[Option.some.inj ek];rfl
  obtain⟨p,hp1,hp2⟩:=g.at (aR hx);rw[ek2];rw[hsz]at D;exact⟨_,U,ke e cc d Vb ⟨.ref (xs[i]).2.1,H,I.turned (λb o G e=>sb.extBut b o (λh=>G (by simp[h])) e) f0 f1 f3 f4 f5,U,⟨U,p,_,hp1,U,hp2⟩,D,λb G=>(Y b G).1⟩⟩
 done:=by
  intro X hP hw hK hc i zn s σ H E I Y st hg;subst hP hw hK;obtain⟨hi,hH⟩:=hg;obtain⟨f0,f1,f2,f3,f4,f5⟩:=Y it Ve;obtain⟨T,ok⟩:=(I.aK a _ hH);obtain⟨nm,xs,o',es,ep',g,F,Z,q,C⟩:=IV ok;have eo:o'=o:=Option.some.inj (F.symm.trans T);subst eo;obtain⟨es2,B⟩:=O;rw[q]at B;cases B;have hsz:es.size=ul.length:=by rw[My C,oK g]
  rw[hi,<-hsz]at st;exact Zko (I.ok.hd hc) st T q λh' kk=>⟨U,I.turned (t':=s.toks) (λb o G e=>kk b o (λh=>G (by simp[h])) e) f0 f1 f3 f4 f5⟩
 self:=λA i s Q E st h=>wpAny_pyIter_keyiter st h
def Cm(te:TE):TI:=λσ H R=>te σ H λx H1=>∃a ul,x=.ref a/\Rd H1 a (.dT ul)/\∀o,R (Ko a o ul) (aC H1 a (.b7 o (.dT ul)))
def Zkp(Q:QE X e A):QI X tg e (Cm A):=by
 refine⟨λzn s σ H R I h=>(aP (Q.out zn s σ H _ I h) λv O ⟨y,H1,J,Z,T⟩=>?_)⟩;obtain⟨a,ul,rfl,e,q⟩:=T;cases Z;refine ω (IV (Mj J.aK e)) (θ1 λnm=>ε4 λxs o es ep=>θ4 λD F B g C=>?_);have G:=J.pH e F;have hsz:es.size=ul.length:=by rw[My C,oK D]
 refine Zkn nm F B g ?_;have st:(O.heap.push {cls:=.type "dict_keyiterator",data:=.fields #[.ref a,.int 0 0,.int es.size 0,.int ep 0]}).IsKeyIter O.heap.objs.size a 0 ul.length ep:=by
  rw[hsz];exact⟨_,bY _ U,U,U⟩
 refine⟨_,_,_,_,_,U,G.kept λb o e=>aW _ e,To a _ o ul ep ⟨es,g⟩ (cQ (bE F)),st,λb Y=>?_,q o⟩;have e:=by simpa using Y
 subst e;exact G.dZ (aM _) (G.aK.fresh (aM _))
theorem NH:QE X (.Dict [] [] p) Bf:=⟨λzn s σ H Q I h=>
 wpAny_Dict_empty ⟨.ref _,_,I.laid (λ_ _ q=>aW _ q) (aM _) (Pn s.heap I.big),U,h _ (I.aK.fresh (aM _))⟩⟩
def V2(tk tv:TE):TE:=λσ H Q=>∀p,H p=none->tk σ (aC H p (.dT [])) λx H1=>tv σ H1 λy H2=>H2 p=some (.dT [])/\∃b ks,x=.ref b/\H2 b=am (ks.map kV)/\Q (.ref p) (aC H2 p (.dT [(ks,y)]))
def Rv{a b c:Aw}{tc:TE}{B g:CmpOp}{r C:R2}(I:b8 X (compareOp B) r)(q:b8 X (compareOp g) C)(D:QE X a A)(O:QE X b J)(F:QE X c tc)
  (G:lastMarks [B,g] [b,c]=false:=by with_unfolding_all rfl):QT X (.Compare a [B,g] [b,c] p) (LR (Ni r C A J tc)):=⟨SJ I q D.out O.out F.out G⟩
def Us(X:Cx)(pos:Pos)(k v:Aw)(tk tv:TE):Prop:=∀zn s σ H (R:V->V->Hp->Prop),aE X zn σ H s->(tk σ H λx H1=>tv σ H1 λy H2=>R x y H2)->
 A3 X (evalPairs (pairTrees [some k] [v] X.env pos)) (λq g=>∃x y u r H2,q=[(u,r)]/\aE X zn σ H2 g/\aH x u/\aH y r/\R x y H2) X.xe s
def Ce{A:Aq}{E:Ab}{p b:Av}{ks:List aV}{r:Au}{Q:PUnit->Shared->Prop}(Y:A.units<cLine)(I:aE X C c H s)(e:H p=some (.dT []))(g:H b=am (ks.map kV))(Z:aH y r)
  (q:∀s',aE X C c (aC H p (.dT [(ks,y)])) s'->Q PUnit.unit s'):A2 X.prog X.w A (storeAll p [(.ref b,r)]) Q E s:=by
 unfold storeAll;rw[LI];refine ω (Pj I.aK e) (θ2 λz G=>ε1 λxs=>θ1 λB dd=>?_);cases B;refine ab (ab (wpAny_dictSet_heap Y (vv I.aK g) dd λh' dd' T=>aG ?_));show wpAny _ A _ Q E _;refine aG (q _ ?_);revert dd';refine ε3 λo es ep=>θ5 λD h2 F J _ h5=>?_;have O:(aC H p (.dT [(ks,y)])) b=am (ks.map kV):=by
  rw[Zk (Xp g e nofun)];exact g
 exact xC I (by rw[e];exact True.intro) T ⟨o,D⟩ ⟨(vV),G,_,.cons ⟨U,O,Z⟩ .nil,o,es,ep,D,h2,F,J,h5⟩
def Rg{k v:Aw}{tk:TE}(D:QE X k tk)(C:QE X v A):Us X p k v tk A:=λzn s σ H R I q=>by
 refine pairTrees_cons_walk (aP (D.out zn s σ H _ I q) λu B ⟨x,H1,g,G,F⟩=>aP (C.out zn B σ H1 _ g F) λr T ⟨y,H2,Q,J,O⟩=>pairTrees_nil_walk ⟨x,y,u,r,H2,U,Q,G,J,O⟩)
def Zg7{k v:Aw}{tk:TE}(hu:X.A.units+1<cLine)(D:QE X k tk)(C:QE X v J):QE X (.Dict [some k] [v] p) (V2 tk J):=by
 refine⟨λzn s σ H Q I q=>?_⟩;refine wpAny_Dict_any U U nofun Ve (aP (Rg D C zn _ σ _ _ (I.laid (λ_ _ q=>aW _ q) (aM _) (Pn s.heap I.big)) (q _ (I.aK.fresh (aM _)))) λws Z ⟨x,y,u,r,H2,g,Y,F,O,e,b,ks,ex,G,T⟩=>?_);subst g ex;cases(F);exact Ce Vc Y e G O λs' B=>⟨.ref _,_,B,U,T⟩
theorem Oj{xs ys:A1}{g:TG}{σ:St}(q:Nat->St->Hp->Prop)(Y:q 0 σ H)(D:∀i σ H,q i σ H->bV K b1 H a xs/\bV K b2 H f ys)
  (T:∀i x y p σ H,xs[i]?=some x->ys[i]?=some y->q i σ H->H p=none->g (.ref p) σ (aC H p (.tup [x,y])) λC H2=>B {Z with nx:=q (i+1),ct:=q (i+1),bk:=Z.nx} C H2) (O:∀σ H,q (xs.zip ys).length σ H->Z.nx σ H):
  pB (Ew K b1 b2 a f) g B Z σ H:=
 ze _ q Y (λi σ H hi p=>by
  obtain⟨I,J⟩:=D i σ H p;have hz:(xs.zip ys).length=min _ _:=mI;have G:=aR (show i<xs.length by lia);have F:=aR (show i<ys.length by lia);refine⟨⟨xs,ys,_,_,I,J,G,F⟩,λx H' y=>?_⟩;obtain⟨c,Q,rfl,e⟩:=y;rw[e xs ys _ _ I J G F];exact T i _ _ c σ H G F p Q) λσ H p=>⟨⟨xs,ys,(D _ σ H p).1,(D _ σ H p).2,Vd⟩,O σ H p⟩
def Vs{xs ys:A1}{is:Aj}{σ:St}(g:Nat->List V->Hp->Prop)(Y:g 0 [] H)(I:∀i zs H,g i zs H->zs.length<=sizeLine)(Z:∀i zs H,g i zs H->bV K b1 H a xs/\bV K b2 H f ys)
  (T:∀i x y p zs H (R:A1->Hp->Prop),(∀zs H,g (i+1) zs H->R zs H)->xs[i]?=some x->ys[i]?=some y->g i zs H->H p=none->M (xx is σ (ac p)) (aC H p (.tup [x,y])) λb H2=>if b=true then A (xx is σ (ac p)) H2 λy H3=>R (zs++[y]) H3 else R zs H2)
  (O:∀zs H,g (xs.zip ys).length zs H->∀p,H p=none->E (.ref p) (aC H p (.lst zs))):
  JT is M A σ E (Ew K b1 b2 a f) H:=by
 refine⟨λi m zs H=>m=(xs.zip ys).length-i/\i<=(xs.zip ys).length/\g i zs H,⟨(xs.zip ys).length,Ve,cD _,Y⟩,?_⟩;rintro i m zs H ⟨rfl,hi,p⟩;obtain⟨B,C⟩:=Z i zs H p;have hz:(xs.zip ys).length=min xs.length ys.length:=mI
 by_cases q:i<(xs.zip ys).length
 .have F:i<xs.length:=Vc
  have D:i<ys.length:=Vc
  refine .inr ⟨⟨xs,ys,xs[i],ys[i],B,C,aR F,aR D⟩,I i zs H p,λx H' y=>?_⟩;revert y;refine ε1 λc=>θ2 λQ zq0 e=>?_;subst zq0;rw[e xs ys _ _ B C (aR F) (aR D)];exact T i _ _ c zs H (λzs H=>∃G,G<(xs.zip ys).length-i/\(λi m zs H=>m=(xs.zip ys).length-i/\i<=(xs.zip ys).length/\g i zs H) (i+1) G zs H) (λzs H J=>⟨(xs.zip ys).length-(i+1),Vd,U,q,J⟩) (aR F) (aR D) p Q
 .have e:i=(xs.zip ys).length:=Vc
  subst e;exact .inl ⟨⟨xs,ys,B,C,Vc⟩,I _ zs H p,O zs H p⟩
def Zea{o:Obj}{ul:List (List aV×V)}{is:Aj}(g:Nat->List V->Hp->Prop)(T:g 0 [] H)(C:∀i zs H,g i zs H->zs.length<=sizeLine)(Y:∀i zs H,g i zs H->H a=some (.b7 o (.dT ul)))
  (Q:∀i p b zs H (R:A1->Hp->Prop),(∀zs H,g (i+1) zs H->R zs H)->ul[i]?=some p->H b=am (p.1.map kV)->g i zs H->M (xx is c (ac b)) H λG H2=>if G=true then A (xx is c (ac b)) H2 λy Z=>R (zs++[y]) Z else R zs H2)
  (I:∀zs H,g ul.length zs H->∀p,H p=none->E (.ref p) (aC H p (.lst zs))):
  JT is M A c E (Ko a o ul) H:=by
 refine⟨λi m zs H=>m=ul.length-i/\i<=ul.length/\g i zs H,⟨ul.length,Ve,cD _,T⟩,?_⟩;rintro i m zs H ⟨rfl,hi,p⟩;have D:=Y i zs H p
 by_cases q:i<ul.length
 .refine .inr ⟨⟨q,D⟩,C i zs H p,λx H' y=>?_⟩;revert y;refine θ1 λe=>ε2 λe1 b=>θ2 λJ zq0 O=>?_;subst zq0;subst e;exact Q i e1 b zs _ (λzs H=>∃B,B<ul.length-i/\(λi m zs H=>m=ul.length-i/\i<=ul.length/\g i zs H) (i+1) B zs H) (λzs H F=>⟨ul.length-(i+1),Vd,U,q,F⟩) J O p
 .have e:i=ul.length:=Vc
  subst e;exact .inl ⟨⟨U,D⟩,C _ zs H p,I zs H p⟩
def HT.nX{ww:Ao}{A:Aq}{E:Ab}{t b:Av}{ws:Ag}(Z:IsTup s.heap t #[])(Y:IsTup s.heap b ws.toArray)(q:Q (.ref b) s):
  A2 ww w A (binaryOp .Add (.ref t) (.ref b)) Q E s:=by
 obtain⟨⟨cls,dd,data,J⟩,I,hc,n,O⟩:=id Z;obtain⟨⟨G,C,data2,B⟩,g,D,T,F⟩:=id Y;subst hc O D F;exact concat_meets ⟨_,I,U⟩ ⟨_,g,U⟩ M6 seq_tuple_add Mx Ku (Lx _ _)
  (tuple_addW0 t b #[] _ n T dd C J B U) ⟨I,g,q⟩
inductive Nr(x:V)(y:V)(H:Hp)(Q:VK):Prop
 |mk (a b xs ys:_):(x=.ref a)->(y=.ref b)->(H a=am xs)->(H b=am ys)->(xs.length+ys.length<=sizeLine)->(∀p H',H' p=am (xs++ys)->ZK H H'->Q (.ref p) H')->Nr x y H Q
def OK  : R2:=λx y H Q=>Nr x y H Q
def Zm:b8 X (binaryOp .Add) OK:=by
 rintro zn s σ H x y v u Q I J O ⟨a,b,xs,ys,rfl,rfl,G,D,hz,q⟩;cases J;cases O;obtain⟨T,g,p1,_⟩:=I.tuple (aD.of G);obtain⟨F,B,p2,_⟩:=I.tuple (aD.of D)
 by_cases C:xs=[]
 .have e:=g.iB.mpr C;subst e C;exact HT.nX p1 p2 ⟨.ref b,H,I,U,q b H D λ_ _ z=>z⟩
 .refine HT.rB p1 p2 (λz=>C (g.iB.mp z)) (λz=>⟨.ref a,H,I,U,q a H ?_ λ_ _ z=>z⟩) (λz=>?_) (by rw[<-g.length,<-B.length];exact hz)
  .rw[B.iB.mp z,d9];exact G
  .have Y:=I.aK.fresh (aM _);refine⟨.ref _,_,I.laid (λb ob q=>aW _ q) (aM _) ?_,U,q _ _ Za λc o z=>by rw[Zk (λe=>Vd)];exact z⟩;exact⟨Vd,_,g.append B,uW.new _ _⟩
open PySem.W (hideAll of_hideAll hideAll_get hideAll_none funFrames_hide)
end L2
namespace L2
open PySem.Calls
open PySem.W
end L2
namespace L2
open PySem
theorem MD{P:List g->Prop}(h:∀a,P [a]):∀q:List g,q.length=1->P q
 |[a],_=>h a
theorem lF{P:List g->Prop}(h:∀a b,P [a,b]):∀q:List g,q.length=2->P q
 |[a,b],_=>h a b
theorem ME{P:List g->Prop}(h:∀a b c,P [a,b,c]):∀q:List g,q.length=3->P q
 |[a,b,c],_=>h a b c
theorem K0{P:List g->Prop}(h:∀a b c d,P [a,b,c,d]):∀q:List g,q.length=4->P q
 |[a,b,c,d],_=>h a b c d
theorem Lk{P:List g->Prop}(h:∀a b c d e,P [a,b,c,d,e]):∀q:List g,q.length=5->P q
 |[a,b,c,d,e],_=>h a b c d e
theorem BZ{q:Ao}{F:(Ae)->Heap->Prop}{K:Params->PySem.W.Frag}{as:List Av}{t:Nat}{r:PySem.W.RowW}{d:DefRec}{B:List (Str×Aw)}{run:Au->List Au->Sem Au}
  (e:∀P,as=(K P).map (·.1)) (W:PySem.W.WalkO q N F (PySem.W.InK K) r d B run):PySem.W.WalkX q N F (PySem.W.X.obsZ as) (PySem.W.X.valZ K n t) r d B run:=
 λw s₀ g mg Y G y a o T J D I kV e1 e2 e3 e4 Z O args C as L p l R Q nn=>
  W w s₀ g mg Y G (PySem.W.InK.keeps w _ _ (PySem.W.X.z_facts e y).2.1 L.keeps) a o T J D I kV e1 e2 e3 e4 Z O args C as p l R Q nn
def k5(K:Af):Af:=K.filter λp=>match p.2.cls,p.2.data with
 |.none,.fields _=>false
 |_,_=>true
def AV(K:Af):PySem.W.noTabs (k5 K)=true:=by
 unfold PySem.W.noTabs k5;rw[i7];intro p g;exact(iU.mp g).2
def tN:Aj->Bool
 |[]=>true
 |a::r=>r.all (λb=>!(Nat.beq a b))&&tN r
theorem eI{a:Av}{o:Obj}:∀{K:Af},K.lookup a=some o->(a,o)∈K
 |(b,u)::r,h=>by
  rw[pZ]at h
  by_cases e:(a == b)=true
  .grind
  .rw[Hf.mpr e]at h;exact cA _ (eI h)
theorem eF{a:Av}{o:Obj}:∀{K:Af},tN (K.map (·.1))=true->(a,o)∈K->K.lookup a=some o
 |(b,u)::r,q,h=>by
  rw[pZ];have g:=lH.mp q;rcases bR.mp h with e|e
  .cases e;rw[sY]
  .have B:(a == b)=false:=by
    rw[L6];intro z;have:=i7.mp g.1 a (mY e);rw[z,Nat.beq_refl b]at this;cases this
   rw[B];exact eF g.2 e
theorem BP(g:tN (K.map (·.1))=true)(X:K.In h):(k5 K).In h:=λa o e=>
 X a o (eF g (iU.mp (eI e)).1)
def iN{CX:lO}{mg:Ae}{tz:Str}{ut:Scope}{A:Aq}{xz:List Env}{E:XK}:(pS CX P w K mg h N tz ut f v A xz s H E).rQ.K=K:=rfl
def c8{CX:lO}{mg:Ae}{tz:Str}{ut:Scope}{A:Aq}{xz:List Env}{E:XK}:(pS CX P w K mg h N tz ut f v A xz s H E).K=K:=rfl
def Ll{g:TS}(h:let q:=g;Xj B q Z c H):Xj B g Z c H:=h
def pI{g q:TS}(h:let C:=q;let D:=Xj g C;Xj B D Z c H):Xj B (Xj g q) Z c H:=h
def Co{q F D g C:TS}(h:let G:=C;let I:=Xj g G;let O:=Xj D I;let Q:=Xj F O;let J:=Xj q Q;Xj B J Z c H):Xj B (Xj q (Xj F (Xj D (Xj g C)))) Z c H:=h
def Iq{q I D g C G F:TS}(h:let U7:=F;let Q:=Xj G U7;let J:=Xj C Q;let O:=Xj g J;let Y:=Xj D O;let U2:=Xj I Y;let T:=Xj q U2;Xj B T Z c H):Xj B (Xj q (Xj I (Xj D (Xj g (Xj C (Xj G F)))))) Z c H:=h
end L2
namespace ZpT
abbrev OD (h:Heap) (T:Av) (a b c:Au):Prop:=h.get? T=some {cls:=.type "tuple",data:=.seq #[a,b,c]}
end ZpT
namespace L2
def BD(b:Bool):Int:=if b=true then 1 else 0
def O6(k:Int):Au->Bool
 |.int i _=>i == k
 |.bool b=>BD b == k
 |_=>false
def XE(h:O6 k v=true):(∃t,v=.int k t)\/∃b,v=.bool b/\k=BD b:=by
 cases v with
 |int i t=>exact .inl ⟨t,by rw[eq_of_beq h]⟩
 |bool b=>exact .inr ⟨b,U,(eq_of_beq h).symm⟩
 |_=>cases h
section
variable {ww:Ao}{w:As}
def Tw{A:Aq}{E:Ab}{b:Bool}{Q:Int->Shared->Prop}(h:Q (hashInt (BD b)) {s with toks:=s.toks+1}):A2 ww w A (pyHash (.bool b)) Q E s:=by
 refine PySem.W.pyHash_slot U F.slot_bool_hash F.entry_int_hash (F.args_int_hash_1 _) Ve (.inl U) ?_;cases b
 .exact ab (fH U (ab (Dc (aG ⟨0,_,U,h⟩))))
 .exact ab (fH U (ab (Dc (aG ⟨1,_,U,h⟩))))
end
def A6(a b:Int):decide (a=b)=(a == b):=Vd
def XF(ww:Ao)(w:As):KeyKind ww w Int where
 is:=O6
 hash:=hashInt
 inj:=λv a b B q=>by
  rcases XE B with⟨t,rfl⟩|⟨x,rfl,rfl⟩
  .exact(eq_of_beq (show(a == b)=true from q))
  .exact(eq_of_beq (show(BD x == b)=true from q))
 byValue:=λk v h=>by
  rcases XE h with⟨t,rfl⟩|⟨x,rfl,rfl⟩<;>rfl
 pyHash:=λg h=>by
  rcases XE g with⟨t,rfl⟩|⟨x,rfl,rfl⟩
  .exact Nb h
  .exact Tw h
 eqBool:=λC g h=>by
  rw[A6]at h;rcases XE C with⟨t,rfl⟩|⟨x,rfl,rfl⟩
  .rcases XE g with⟨u,rfl⟩|⟨y,rfl,rfl⟩
   .exact wpAny_eqBool_int h
   .exact SeqAt.EqAt.int_bool _ t y _ _ _ _ h
  .rcases XE g with⟨u,rfl⟩|⟨y,rfl,rfl⟩
   .exact SeqAt.EqAt.bool_int x _ u _ _ _ _ h
   .refine SeqAt.EqAt.bool_bool x y _ _ _ _ ?_;have e:(BD x == BD y)=(x == y):=by cases x<;>cases y<;>rfl
    rw[e]at h;exact h
 «strs»:=λk x t v h=>by cases h
section
variable {ww:Ao}{w:As}
def IsPair(ww:Ao)(w:As)(h:Heap)(k:Int×Ak)(a:Av):Prop:=
 ∃o n t tk,h.get? a=some o/\o.cls=.type "tuple" /\ o.data=.seq #[.int k.1 tk,.ref t] n/\IsTupleKey (XF ww w) h k.2 t
def Rt(ww:Ao)(w:As)(k:Int×Ak):Int:=reduceHash (Builtin.Tuple.tupleHashOf [hashInt k.1,tupleKeyHash (XF ww w) k.2])
def IsPair.inj{h:Heap}{a:Av}{x y:Int×Ak}(p:IsPair ww w h x a)(q:IsPair ww w h y a):x=y:=by
 revert p;refine ε4 λo n t tk=>θ3 λe c d k=>?_;revert q;refine ε4 λo' T t' G=>θ3 λg Z B Q=>?_;rw[e]at g;cases g;rw[d]at B;injection B with C Y;injection congrArg Array.toList C with F O;injection F with D _;injection O with I _;injection I with J;subst J;have:=(tupleKind _).inj k Q;exact C5 D this
def IsPair.keeps{h h':Heap}{k:Int×Ak}{a d:Av}{o:Obj}{es:Array DictEntry}{ep:Nat}(p:IsPair ww w h k a)(e:h.get? d=some o)(C:o.data=.dict es ep)(s:Heap.SameBut d h h'):IsPair ww w h' k a:=by
 revert p;refine ε4 λo1 n t tk=>θ3 λe1 B q k1=>?_;have g:a≠d:=λz=>by
  grind
 exact⟨o1,n,t,tk,(s.2 a g).trans e1,B,q,(tupleKind _).keeps k1 e C s⟩
def IsPair.pyHash{A:Aq}{E:Ab}{s:Ar}{k:Int×Ak}{a:Av}{Q:Int->Shared->Prop}(C:A.units+1<cLine)(p:IsPair ww w s.heap k a)
  (h:Q (Rt ww w k) {s with toks:=s.toks+(k.2.length+3)}):A2 ww w A (PySem.pyHash (.ref a)) Q E s:=by
 revert p;refine ε4 λo n t tk=>θ3 λe c d B=>?_;refine PySem.W.pyHash_slot ⟨o,e,c⟩ F.slot_tuple_hash F.entry_tuple_hash (F.args_tuple_hash_1 _) Ve (.inr Vc) ?_;refine ab (fH U ?_);refine ab (wpAny_tupleItemsOf e d (ab (Le _ (λop g s'=>(op=[.int k.1 tk,.ref t]/\g=#[]/\s'=s)\/(op=[.ref t]/\g=#[hashInt k.1]/\s'={s with toks:=s.toks+1})\/(op=[]/\g=#[hashInt k.1,tupleKeyHash (XF ww w) k.2]/\s'={s with toks:=s.toks+1+(k.2.length+1)})) _ ?_ ?_ _ _ (.inl ⟨U,U,U⟩))))
 .rintro x op b s' (⟨e1,rfl,rfl⟩|⟨e1,rfl,rfl⟩|⟨e1,_,_⟩)
  .cases e1;exact ab (Nb (aG (.inr (.inl ⟨U,U,U⟩))))
  .cases e1;refine ab (wpAny_pyHash_tuple (C) B (aG (.inr (.inr ⟨U,U,U⟩))))
  .cases e1
 .rintro b s' (⟨e1,_,_⟩|⟨e1,_,_⟩|⟨_,rfl,rfl⟩)
  .cases e1
  .cases e1
  .refine ab (Dc (aG ⟨_,_,U,?_⟩));have q:s.toks+1+(k.2.length+1)+1=s.toks+(k.2.length+3):=Vc
   rw[q];exact h
theorem _root_.PySem.IsTupleKey.any(k:IsTupleKey (XF ww w) h D a)(g:Ao)(q:As):IsTupleKey (XF g q) h D a:=by
 revert k;refine ε3 λo items n=>θ3 λe c d it=>?_;have go:∀{D:Ak} {vs:Ag},ItemsAre (XF ww w) D vs->ItemsAre (XF g q) D vs:=by
  intro D vs hh
  induction hh with
  |nil=>exact .nil
  |cons h1 _ B=>exact .cons h1 B
 exact⟨o,items,n,e,c,d,go it⟩
def IsPair.eqBool{A:Aq}{E:Ab}{s:Ar}{x y:Int×Ak}{a b:Av}{Q:Bool->Shared->Prop}(T:A.units+1<cLine)(p:IsPair ww w s.heap x a)(q:IsPair ww w s.heap y b)
  (h:Q (decide (x=y)) s):A2 ww w A (PySem.eqBool (.ref a) (.ref b)) Q E s:=by
 by_cases C:a=b
 .subst C;have:=p.inj q;rw[bC this]at h;exact SeqAt.EqAt.same _ ww w E Q h
 .revert p;refine ε4 λo n t tk=>θ3 λe c d O=>?_;revert q;refine ε4 λo' I t' g=>θ3 λJ Y Z D=>?_;have it:∀j (h1:j<(#[Value.int x.1 tk,.ref t]).size) (h2:j<(#[Value.int y.1 g,.ref t']).size),SeqAt.EqAt A.in1 s (#[Value.int x.1 tk,.ref t])[j] (#[Value.int y.1 g,.ref t'])[j] (if j=0 then x.1 == y.1 else decide (x.2=y.2)):=by
   intro j h1 h2
   match j,h1,h2 with
   |0,_,_=>exact SeqAt.EqAt.int_int x.1 tk y.1 g
   |1,_,_=>exactλB F E' Q' h'=>wpAny_eqBool_tuple (T) (O.any B F) (D.any B F) h'
  have r:=SeqAt.RcAt.tuples ⟨o,e,c,n,d⟩ ⟨o',J,Y,I,Z⟩ Vc it;have G:((List.range (min (#[Value.int x.1 tk,.ref t]).size (#[Value.int y.1 g,.ref t']).size)).all (λj=>if j=0 then x.1 == y.1 else decide (x.2=y.2))&&(#[Value.int x.1 tk,.ref t]).size == (#[Value.int y.1 g,.ref t']).size)=decide (x=y):=by
   show((x.1 == y.1)&&(decide _&&true)&&true)=decide _
   by_cases h1:x.1=y.1
   .grind(gen:=1)
   .lia
  rw[G]at r;exact SeqAt.EqAt.of_refs C r ww w E Q h
theorem Zeb{A:Aq}{E:Ab}{Q:Bool->Shared->Prop}(m:Nat)(k:IsTupleKey (XF ww w) s.heap D a)(h:Q true s):A2 ww w A (eqIsQuiet (m+1) (.ref a)) Q E s:=by
 revert k;refine ε3 λo items n=>θ3 λe c d it=>?_;rw[eqIsQuiet.eq_2];have q:s.TypeIs (.ref a) "tuple" :=⟨o,e,c⟩;refine ab (p4 q F.slot_tuple_eq.lookup (ab (oX (b:=true) q Vf (ab (i0 e d (ab (Le _ (λop b s'=>(∀v∈op,carriedByValue v=true)/\b=(none,())/\s'=s) _ ?_ ?_ _ _ ⟨λv g=>?_,U,U⟩)))))))
 .rintro x op b s' ⟨g,rfl,rfl⟩;refine ab ?_;rw[eqIsQuiet_byValue m (g x bN)];exact aG (aG ⟨λv C=>g v (cA _ C),U,U⟩)
 .rintro b s' ⟨_,rfl,rfl⟩;exact aG h
 .have go:∀{D:Ak} {vs:Ag},ItemsAre (XF ww w) D vs->∀v∈vs,carriedByValue v=true:=by
   intro D vs hh
   induction hh with
   |nil=>exactλv g=>nomatch g
   |cons h1 _ B=>
    intro v g;rcases bR.mp g with rfl|g
    .exact(XF ww w).byValue _ _ h1
    .exact B v g
  exact go it v g
def IsPair.quiet{A:Aq}{E:Ab}{k:Int×Ak}{Q:Bool->Shared->Prop}(p:IsPair ww w s.heap k a)(h:Q true s):A2 ww w A (eqIsQuiet 8 (.ref a)) Q E s:=by
 revert p;refine ε4 λo n t tk=>θ3 λe c d q=>?_;rw[eqIsQuiet.eq_2];have g:s.TypeIs (.ref a) "tuple" :=⟨o,e,c⟩;refine ab (p4 g F.slot_tuple_eq.lookup (ab (oX (b:=true) g Vf (ab (i0 e d (ab (Le _ (λop b s'=>(op=[.int k.1 tk,.ref t]\/op=[.ref t]\/op=[])/\b=(none,())/\s'=s) _ ?_ ?_ _ _ ⟨.inl U,U,U⟩)))))))
 .rintro x op b s' ⟨B,rfl,rfl⟩;rcases B with e1|e1|e1
  .cases e1;refine ab (aG (aG ⟨.inr (.inl U),U,U⟩))
  .cases e1;exact ab (Zeb 6 q (aG ⟨.inr (.inr U),U,U⟩))
  .cases e1
 .rintro b s' ⟨_,rfl,rfl⟩;exact aG h
end
def Zkr(ww:Ao)(w:As):HeapKind ww w (Int×Ak)where
 is:=IsPair ww w
 hash:=Rt ww w
 draws:=λk=>k.2.length+3
 room:=λA=>A.units+1<cLine
 inj:=λp q=>p.inj q
 keeps:=λp e B s=>p.keeps e B s
 pyHash:=λg p h=>p.pyHash g h
 eqBool:=λg p q h=>p.eqBool g q h
 quiet:=λp h=>p.quiet h
section
variable {ww:Ao}{w:As}{K:Type}[DecidableEq K]
theorem Sx{xs:List (K×Av×Au)}{k:K}{j:Nat}{p:Av×Au}(g:(xs.map (·.1)).Nodup)(h:xs[j]?=some (k,p)):atKey xs k=some p:=by
 unfold atKey
 induction xs generalizing j with
 |nil=>cases h
 |cons x r q=>
  rw[eE,iO]at g;rw[Ir];cases j with
  |zero=>
   cases h;rw[bC U];rfl
  |succ j=>
   rw[bO λz=>g.1 (by rw[z];exact bG.mpr ⟨_,bP h,U⟩)];exact q g.2 h
def Zec{xs:List (K×Av×Au)}{k:K}(h:∀(j:Nat)(p:Av×Au),xs[j]?≠some (k,p)):atKey xs k=none:=by
 unfold atKey;rw[Option.map_eq_none_iff,List.find?_eq_none];intro x g z;obtain⟨j,q⟩:=oH g;refine h j x.2 ?_;rw[q,<-dJ z]
def xI(knd:HeapKind ww w K)(d a:Av)(hd:(d == sysModules)=false)(dflt:Au):
  MeetsIn ww w (Builtin.«dict.setdefault» ⟨[.ref d,.ref a,dflt],[]⟩) λA R s=>knd.room A.in1/\∃k xs,knd.is s.heap k a/\Heap.DictOfH knd s.heap d xs/\xs.length<=sizeLine /\
   (∀p,atKey xs k=some p->R (.ok (.ret p.2)) {s with toks:=s.toks+knd.draws k}) /\
   (atKey xs k=none->∀h',Heap.DictOfH knd h' d (xs++[(k,a,dflt)])->Heap.SameBut d s.heap h'->R (.ok (.ret dflt)) {s with heap:=h',toks:=s.toks+knd.draws k}):=by
 intro A R s ⟨hr,k,xs,hk,dd,hz,h1,h2⟩;refine ω (id dd) (ε3 λo es ep=>θ5 λe ex B g C D=>?_);refine ab (ab (ID dd.typeIs (ab (fH U ?_))));refine ab (fH U (ab (fH U (aG ?_))));try dsimp only
 rw[hd];refine ab (iZ (ab (knd.pyHash hr hk (ab (wpAny_dictFind_heap hr hk e B g C D (λF=>?_) (λj p G=>?_))))))
 .refine ab (iT (ab (wpAny_updateDictKeys e B (aG (aG ?_)) ?_ ?_)))
  .refine h2 (Zec F) _ ?_ (lG ..);obtain⟨oc,od,Y,osl⟩:=o;obtain⟨Z,x2,x3⟩:=ex;subst B;have Q:Heap.SameBut d s.heap (s.heap.update d (Obj.mapDictKeys λx=>x.push {hash:=knd.hash k,key:=.ref a,val:=dflt})):=lG ..;refine⟨_,_,_,gV _ e U,⟨Z,x2,x3⟩,U,?_,λx J=>?_,?_⟩
   .rw[Mc,g,dC];rfl
   .rcases dH.mp J with z|z
    .exact knd.keeps (C x z) e U Q
    .rw[b9.mp z];exact knd.keeps hk e U Q
   .rw[dC,DC];refine⟨D,iO.mpr ⟨fQ,iW⟩,λy O z hz q=>?_⟩;rw[eE,List.map_nil]at hz;rw[q]at O;obtain⟨x,J,ex⟩:=bG.mp O;obtain⟨j,G⟩:=oH J;have T:=ex;exact F j x.2 Vd
  .rw[<-nH,g,aI];exact hz
  .simp_all
 .refine ab (Fb e B ?_);have I:es[j]?=some (entryOfKey knd (k,p)):=by
   rw[<-Array.getElem?_toList,g,aY,G];rfl
  rw[I];exact ab (iT (aG (aG (h1 p (Sx D G)))))
end
def SI{ww:Ao}{A:Aq}{E:Ab}{d:Av}{o:Obj}{es:Array DictEntry}(B:(d == sysModules)=false)(e:s.heap.get? d=some o)(ex:o.ExactDict)(q:o.data=.dict es i)(hz:es.size<=sizeLine)
  (h:Q (.int (es.size:Int) (s.toks+1)) {s with toks:=s.toks+1+1}):A2 ww w A (call (.builtin "len") [.ref d]) Q E s:=by
 have g:s.TypeIs (.ref d) "dict" :=⟨o,e,ex.1⟩;rw[CY]at hz;refine call_len_slot g F.slot_dict_len (λC h'=>(eT F.slot_dict_len g F.entry_dict_len (ab (ab (ID g (ab (fH U (aG (ab (fH U (ab (ab (Fb e q (aG (ab ?_))))))))))))) (F.args_dict_len_1 _))) Vc Vc h;unfold Builtin.Dict.pendingCount;rw[B];refine aG (ab (Dc (aG ⟨_,U,h'⟩)))
structure KN(Kk:Type)[DecidableEq Kk]where
 knd:∀(P:Ao)(w:As),HeapKind P w Kk
 CK:Kk->Int
 at_:Hp->Kk->Addr->Prop
 hash_eq:∀P w k,(knd P w).hash k=CK k
 ok:∀(P:Ao)(w:As)(H:Hp)(h:Heap)(k:Kk)(a:Av),cK P w H h->at_ H k a->(knd P w).is h k a
 room:∀(P:Ao)(w:As)(A:Aq),A.units+2<cLine->(knd P w).room A.in1
 iM:∀(P:Ao)(w:As)(A:Aq),A.units+2<cLine->(knd P w).room A
 keep:∀(H H':Hp)(k:Kk)(a:Av),(∀b xs,H b=am xs->H' b=am xs)->at_ H k a->at_ H' k a
section
variable {Kk:Type}[DecidableEq Kk](kn:KN Kk)
def E5(x:Kk×Av×Au):DictEntry:={hash:=kn.CK x.1,key:=.ref x.2.1,val:=x.2.2}
def F6(d:Av)(xs:List (Kk×Av×Au))(h:Heap):Prop:=(d == sysModules)=false/\∃o es ep,h.get? d=some o/\o.ExactDict/\o.data=.dict es ep/\es.toList=xs.map (E5 kn)
def zm(H:Hp)(d:Av)(ul:List (Kk×V)):Prop:=(ul.map (·.1)).Nodup/\ul.length<sizeLine /\
 ((ul=[]/\H d=some (.dK []))\/∃xs,H d=some (.ext (F6 kn d xs))/\Paired (λ(p:Kk×V) (q:Kk×Av×Au)=>p.1=q.1/\kn.at_ H q.1 q.2.1/\aH p.2 q.2.2) ul xs)
variable {kn}
def Ot(xs:List (Kk×Av×Au)):xs.map (entryOfKey (kn.knd P w))=xs.map (E5 kn):=by
 refine mK λx _=>?_;show DictEntry.mk _ _ _=DictEntry.mk _ _ _;rw[kn.hash_eq]
theorem zm.dict{d:Av}{ul:List (Kk×V)}(n:zm kn H d ul)(I:aE b C c H s):
  ∃xs,Heap.DictOfH (kn.knd b.prog b.w) s.heap d xs/\Paired (λ(p:Kk×V) (q:Kk×Av×Au)=>p.1=q.1/\kn.at_ H q.1 q.2.1/\aH p.2 q.2.2) ul xs/\AG (H d)/\(d == sysModules)=false:=by
 obtain⟨J,T,h|h⟩:=n
 .obtain⟨rfl,e⟩:=h;obtain⟨z,Q,vs,G,dd⟩:=Hc I.aK e;cases G;revert dd;refine ε3 λo es ep=>θ5 λe1 ex e2 _ g _=>?_;have D:es.toList=[]:=by
   generalize es.toList=l at g;cases g;rfl
  exact⟨[],⟨o,es,ep,e1,ex,e2,D,(λx B=>nomatch B),iW⟩,.nil,by rw[e];exact True.intro,Q⟩
 .obtain⟨xs,e,g⟩:=h;obtain⟨⟨O,o,es,ep,e1,ex,e2,D⟩,_,_⟩:=(I.aK d _ e);refine⟨xs,⟨o,es,ep,e1,ex,e2,by rw[D,Ot],λx B=>?_,?_⟩,g,by rw[e];exact True.intro,O⟩
  .have go:∀{l:List (Kk×V)} {m:List (Kk×Av×Au)},Paired (λp q=>p.1=q.1/\kn.at_ H q.1 q.2.1/\aH p.2 q.2.2) l m->∀x∈m,kn.at_ H x.1 x.2.1:=by
    intro l m g
    induction g with
    |nil=>exactλx B=>nomatch B
    |cons h _ F=>
     intro x B;rcases bR.mp B with rfl|B
     .exact h.2.1
     .exact F x B
   exact kn.ok _ _ _ _ _ _ I.aK (go g x B)
  .have go:∀{l:List (Kk×V)} {m:List (Kk×Av×Au)},Paired (λp q=>p.1=q.1/\kn.at_ H q.1 q.2.1/\aH p.2 q.2.2) l m->m.map (·.1)=l.map (·.1):=by
    intro l m g
    induction g with
    |nil=>rfl
    |cons h _ F=>rw[eE,eE,F,h.1]
   rw[go g];exact J
theorem Ga{P:Kk×V->Kk×Av×Au->Prop}(F:∀p q,P p q->p.1=q.1):∀{l:List (Kk×V)} {m:List (Kk×Av×Au)},Paired P l m->∀k,(∀v,Y0 l k=some v->∃q,atKey m k=some q/\∃p,P p (k,q)/\p.2=v)/\(Y0 l k=none->atKey m k=none)
 |[],[],_,k=>⟨λv h=>(by cases h),λ_=>U⟩
 |p::l,q::m,.cons h t,k=>by
  have e:=F p q h
  by_cases g:p.1=k
  .have C:=e.symm.trans g;have a1:atKey (q::m) k=some q.2:=by
    unfold atKey;rw[Ir,bC C];rfl
   have D:Y0 (p::l) k=some p.2:=YB g;refine⟨λv B=>?_,λB=>?_⟩
   .grind
   .rw[D]at B;cases B
  .have C:=λz=>g (e.trans z)
   have a1:atKey (q::m) k=atKey m k:=by
    unfold atKey;rw[Ir,bO C]
   have D:Y0 _ k=Y0 l k:=Y4 g;rw[a1,D];exact Ga F t k
def Zou{d:Av}{ul:List (Kk×V)}{A:Aq}{E:Ab}(I:aE b C c H s)(n:zm kn H d ul)(h:∀t s',aE b C c H s'->Q (.int (ul.length:Int) t) s'):
  wpAny (model b.prog b.w) A (call (.builtin "len") [.ref d]) Q E s:=by
 obtain⟨xs,⟨o,es,ep,e1,ex,e2,g,_,_⟩,B,_,D⟩:=n.dict I;have q:es.size=ul.length:=by rw[<-nH,g,aI];exact(oK B).symm
 refine SI D e1 ex e2 (by rw[q];exact a8 n.2.1) ?_;rw[q];exact h _ _ (I.tok _)
theorem kF{X:Cx}{d:Av}{k:Kk}{v:V}{u:Au}{ul:List (Kk×V)}{xs:List (Kk×Av×Au)}{h':Heap}{tk:Nat}(I:aE X C c H s)(n:zm kn H d ul)(hk:kn.at_ H k a)(rv:aH v u)(hz:ul.length+1<sizeLine)
  (G:Paired (λ(p:Kk×V) (q:Kk×Av×Au)=>p.1=q.1/\kn.at_ H q.1 q.2.1/\aH p.2 q.2.2) ul xs) (B:AG (H d)) (T:(d == sysModules)=false) (hv:Y0 ul k=none) (dd':Heap.DictOfH (kn.knd X.prog X.w) h' d (xs++[(k,a,u)])) (sb:Heap.SameBut d s.heap h'):
  ∃H',zm kn H' d (ul++[(k,v)])/\(∀b o,H b=some o->b≠d->H' b=some o)/\(∃o,H'=aC H d o)/\aE X C c H' {s with heap:=h',toks:=tk}:=by
 revert dd';refine ε3 λo es ep=>θ5 λe1 ex e2 F _ _=>?_;have Q:F6 kn d _ h':=⟨T,o,es,ep,e1,ex,e2,by rw[F,Ot]⟩;have Y:∀b ys,H b=am ys->aC H d (.ext (F6 kn d (xs++[(k,a,u)]))) b=some _:=λb ys e=>by
  rw[Zk λz=>by rw[<-z,e]at B;exact B];exact e
 refine⟨_,⟨?_,?_,.inr ⟨_,Za,?_⟩⟩,λb o e hb=>by rw[Zk hb];exact e,⟨_,U⟩,xC I B sb ⟨o,e1⟩ (by
    refine ω (id Q) (θ1 λT=>ε3 λo es ep=>θ1 λe r=>?_);refine⟨Q,⟨o,e⟩,λh1 h2 y k=>?_⟩;revert y;refine θ1 λJ=>ε3 λo' g D=>θ1 λe' r'=>?_;exact⟨J,o',g,D,k _ e',r'⟩)⟩
 .rw[dC,DC];refine⟨n.1,iO.mpr ⟨fQ,iW⟩,λy O z hz q=>?_⟩;rw[eE,List.map_nil,b9]at hz;rw[q,hz]at O;obtain⟨x,hx,ex⟩:=bG.mp O;have:=ky n.1 x hx;rw[ex,hv]at this;cases this
 .rw[aZ];exact hz
 .have go:∀{l:List _} {m:List _},Paired (λp q=>p.1=q.1/\kn.at_ H q.1 q.2.1/\aH p.2 q.2.2) l m->Paired (λp q=>p.1=q.1/\kn.at_ (aC H d (.ext (F6 kn d (xs++[(k,a,u)])))) q.1 q.2.1/\aH p.2 q.2.2) (l++[(k,v)]) (m++[(k,a,u)]):=by
   intro l m G
   induction G with
   |nil=>exact .cons ⟨U,kn.keep _ _ _ _ Y hk,rv⟩ .nil
   |cons h _ Z=>exact .cons ⟨h.1,kn.keep _ _ _ _ Y h.2.1,h.2.2⟩ Z
  exact go G
def yL{X:Cx}{d:Av}{k:Kk}{v:V}{u:Au}{ul:List (Kk×V)}{A:Aq}{E:Ab}(I:aE X C c H s)(n:zm kn H d ul)(Z:kn.at_ H k a)(hu:A.units+2<cLine)(rv:aH v u)(hz:ul.length+1<sizeLine)
  (h1:∀x,Y0 ul k=some x->∀u' s',aH x u'->aE X C c H s'->Q u' s')
  (h2:Y0 ul k=none->∀H' s',zm kn H' d (ul++[(k,v)])->(∀b o,H b=some o->b≠d->H' b=some o)->(∃o,H'=aC H d o)->aE X C c H' s'->Q u s'):
  A2 X.prog X.w A (call (.builtin "dict.setdefault") [.ref d,.ref a,u]) Q E s:=by
 refine ω (n.dict I) (ε1 λxs=>θ3 λdd O mu Y=>?_);have T:=Ga (λp q h=>h.1) O k;refine call_meetsIn Ld dd.typeIs F.entry_dict_setdefault (F.args_dict_setdefault_3 _ _ _) (xI _ d a Y u) ⟨kn.room _ _ _ hu,k,xs,kn.ok _ _ _ _ _ _ I.aK Z,dd,?_,?_,?_⟩
 .rw[<-oK O];exact a8 n.2.1
 .intro p G;cases g:Y0 ul k with
  |none=>rw[T.2 g]at G;cases G
  |some x=>
   obtain⟨q,B,p',J,e⟩:=T.1 x g;rw[G]at B;cases B;exact h1 x g p.2 _ (e ▸ J.2.2) (I.tok _)
 .intro D h' dd' sb;have g:Y0 ul k=none:=by
   cases g:Y0 ul k with
   |none=>rfl
   |some x=>
    obtain⟨q,B,_⟩:=T.1 x g;rw[D]at B;cases B
  obtain⟨H',n',k',o',I'⟩:=kF I n Z rv hz O mu Y g dd' sb;exact h2 g H' _ n' k' o' I'
end
def vB:V->Option Int
 |.int i=>some i
 |.bl b=>some (BD b)
 |_=>none
theorem QR{P:Ao}{w:As}:∀{vs:A1} {g:Ag} {ks:Ak},aJ vs g->vs.map vB=ks.map some->ItemsAre (XF P w) ks g
 |[],_,[],r,_=>by cases r;exact .nil
 |v::vs,_,k::ks,.cons h t,e=>by
  injection e with e1 e2;refine .cons ?_ (QR t e2);cases v with
  |int i=>
   obtain⟨t,rfl⟩:=h;cases e1;exact sY _
  |bl b=>
   cases(h);cases e1;exact sY _
  |_=>cases e1
def Hm(H:Hp)(ks:Ak)(a:Av):Prop:=∃vs,H a=am vs/\vs.map vB=ks.map some
def Hm.is(ok:cK P w H h)(b:Hm H D a):IsTupleKey (XF P w) h D a:=by
 obtain⟨vs,e,q⟩:=b;obtain⟨_,B,r,o,h1,h2,⟨n,g⟩,_⟩:=(ok a _ e);exact⟨o,_,n,h1,h2,g,by simpa using QR r q⟩
def MC:KN (Ak)where
 knd:=λP w=>tupleKind (XF P w)
 CK:=λks=>reduceHash (Builtin.Tuple.tupleHashOf (ks.map hashInt))
 at_:=Hm
 hash_eq:=λP w k=>U
 ok:=λP w H h k a ok b=>b.is ok
 room:=λP w A B=>by show A.units+1<cLine;lia
 iM:=λP w A B=>by show A.units<cLine;lia
 keep:=λH H' k a q ⟨vs,e,g⟩=>⟨vs,q _ _ e,g⟩
def Mu(H:Hp)(k:Int×Ak)(a:Av):Prop:=∃t,H a=am [.int k.1,.ref t]/\Hm H k.2 t
def pX:KN (Int×Ak)where
 knd:=Zkr
 CK:=λk=>reduceHash (Builtin.Tuple.tupleHashOf [hashInt k.1,reduceHash (Builtin.Tuple.tupleHashOf (k.2.map hashInt))])
 at_:=Mu
 hash_eq:=λP w k=>U
 ok:=λP w H h k a ok ⟨t,e,b⟩=>by
  obtain⟨_,I,r,o,h1,h2,⟨n,B⟩,_⟩:=(show XA P w H h a (.tup [.int k.1,.ref t])from ok a _ e);cases r with
  |cons D g=>
  cases g with
  |cons g G=>
  cases G;obtain⟨tk,rfl⟩:=D;cases(show _=Value.ref t from g);exact⟨o,n,t,tk,h1,h2,B,b.is ok⟩
 room:=λP w A F=>by show A.units+1+1<cLine;lia
 iM:=λP w A F=>by show A.units+1<cLine;lia
 keep:=λH H' k a q ⟨t,e,vs,e2,C⟩=>⟨t,q _ _ e,vs,q _ _ e2,C⟩
section
def Oz:A1->Hp->VK->Prop:=λxs H Q=>∃(Kk:Type)(_:DecidableEq Kk)(kn:KN Kk)(d:Av)(ul:List (Kk×V)),xs=[V.ref d]/\zm kn H d ul/\Q (.int ul.length) H
def V1:Wd X (.builtin "len") Oz:=by
 rintro zn s σ H xs C Q I r ⟨Kk,_,kn,d,ul,rfl,n,q⟩;obtain⟨u,rfl,B⟩:=bZ r;cases B;exact Zou I n λt s' g=>⟨.int _,H,g,⟨t,U⟩,q⟩
def QL:V->List V->Hp->VK->Prop:=λx vs H Q=>∃(Kk:Type)(_:DecidableEq Kk)(kn:KN Kk)(d a:Av)(k:Kk)(v:V)(ul:List (Kk×V)),x=.ref d/\vs=[.ref a,v]/\zm kn H d ul/\kn.at_ H k a/\ul.length+1<sizeLine /\
 (∀y,Y0 ul k=some y->Q y H)/\(Y0 ul k=none->∀H',zm kn H' d (ul++[(k,v)])->(∀b o,H b=some o->b≠d->H' b=some o)->(∃o,H'=aC H d o)->Q v H')
def Zov (Z:X.A.units+2<cLine):Ej X "dict.setdefault" QL:=by
 rintro zn s σ H x vs v us Q I D Y ⟨Kk,_,kn,d,a,k,y,ul,rfl,rfl,n,C,hz,h1,h2⟩;cases D;cases Y with
 |cons G g=>
 cases g with
 |cons g F=>
 cases F;cases(G);exact yL I n C Z g hz (λz hz u' s' O q=>⟨z,H,q,O,h1 z hz⟩) λB H' s' J o' T q=>⟨y,H',q,g,h2 B H' J o' T⟩
def OO(x:V)(H:Hp):Prop:=∃(Kk:Type)(_:DecidableEq Kk)(kn:KN Kk)(d:Av)(ul:List (Kk×V)),x=.ref d/\zm kn H d ul
def CB     {x:V}  (I:aE X C c H s) (r:aH x v) (ty:OO x H):s.TypeIs v "dict" /\ ∀a,v=.ref a->∃ob,s.heap.get? a=some ob/\ob.dict=none:=by
 obtain⟨Kk,_,kn,d,ul,rfl,n⟩:=ty;cases r;obtain⟨xs,⟨o,es,ep,e,ex,_⟩,_,_,_⟩:=n.dict I;refine⟨⟨o,e,ex.1⟩,λa g=>?_⟩;cases g;exact⟨o,e,ex.2.1⟩
def EK(to:TE)(t:TA):TE:=λσ H Q=>to σ H λx H1=>OO x H1/\t σ H1 λxs H2=>QL x xs H2 Q
variable {o e:Aw}{es:Am}{to:TE}{t:TA}{name:Str}{apos pi:Pos}
def Zow (hu:X.A.units+2<cLine) (ho:QE X o to) (ha:QA X (e::es) t) (q:attributeBase o "setdefault" X.env (eval o X.env)=eval o X.env:=by rfl) (g:(apos.endLine == pi.line)=true:=by rfl) (J:(e::es).all Yx=true:=by rfl) (hl:(e::es).length<30:=by decide):
  QE X (.Call (.Attribute o "setdefault" apos) (e::es) [] pi) (EK to t):=by
 refine⟨λzn s σ H Q I h=>?_⟩;have C:=J;rw[mS,lI]at C;have B:((backTo pi (starEach (e::es) X.env)).all (λx=>!x.1)&&(backToKw pi (keywordEach [] X.env)).all (λx=>x.1.isSome)&&decide ((e::es).length+([]:List Keyword).length+(if([]:List Keyword).isEmpty then 0 else 1)<30))=true:=by
  rw[dA J];exact bC hl
 refine wpAny_Call_method_late q B g U (aP (ho.out zn s σ H _ I h) λv Y ⟨x,H1,D,O,ty,q1⟩=>?_);obtain⟨h1,h2⟩:=CB D O ty;refine⟨"dict",_,F.plainAttrs_dict,Ld,F.type_dict_setdefault,h1,h2,?_⟩;have G:=ha.out pi zn Y σ H1 _ D q1;have hs:starEach _ X.env=(false,eval e X.env)::starEach es X.env:=ZC C.1;rw[hs]at G ⊢;refine FG Vd (Io (aP G λus Z ⟨vs,H2,I2,T,q2⟩=>Zov hu zn Z σ H2 x vs v us Q I2 O T q2))
end
def DM(K:Af):A1->Hp->VK->Prop:=λxs H Q=>∃(p:Av)(ns:Ak),xs=[.ref p]/\aF K H p (ns.map V.int)/\ns≠[]/\∀m∈ns,(∀n∈ns,n<=m)->Q (.int m) H
def gI (hc:X.calm=true):Wd X (.builtin "max") (DM X.K):=by
 refine λzn s σ H xs us Q I r=>ε2 λp ns=>θ3 λzq0 hq O q=>?_;subst zq0;obtain⟨u,rfl,Z⟩:=bZ r;cases Z;obtain⟨its,r',pl,hz⟩:=I.list hq;have hi:=eW r';obtain⟨xs,G⟩:=hi.allInts.items;have e1:ns=xs.toList.map (·.1):=by
  rw[<-nums_intItems,<-G];exact(hi.numsOf).symm
 have hsz:0<xs.size:=by
  grind
 refine max_intList (I.ok.hd hc) (G ▸ pl.isList) hsz λv h' tk C T=>?_;have F:=argBest_gt (numAt xs) (xs.size-1);generalize argBest _ _=b at C F;have at_:∀j (g:j<xs.size),numAt xs j=xs[j].1/\(intItems xs)[j]?=some (.int xs[j].1 xs[j].2):=λj g=>⟨by simp[numAt,g],by simp[intItems,g]⟩;obtain⟨n1,Y⟩:=at_ b Vd;rw[Y]at C;cases C;refine⟨.int xs[b].1,H,I.kept T,⟨_,U⟩,q _ ?_ λn D=>?_⟩
 .grind
 .rw[e1]at D;obtain⟨y,J,rfl⟩:=bG.mp D;obtain⟨j,g⟩:=oH J;have B:j<xs.size:=by
   grind
  have:=F.2 j Vd;rw[(at_ j B).1,n1]at this;have ej:xs[j]=y:=by
   simp_all
  rw[ej]at this;exact this
def E8:A1->Hp->VK->Prop:=λxs H Q=>∃j:Int,xs=[.int j]/\∀p,H p=none->Q (.ref p) (aC H p (.nI 0 j))
def j6:Wd X (.type "range") E8:=by
 rintro zn s σ H xs B Q I r ⟨j,rfl,q⟩;obtain⟨u,rfl,g⟩:=bZ r;obtain⟨t,rfl⟩:=g;refine call_range_1 ⟨.ref _,_,I.laid (λb u e=>aW _ e) (aM _) ?_,U,q _ I.fresh⟩;exact⟨_,_,_,bY _ U⟩
def RB:A1->Hp->VK->Prop:=λxs H Q=>∃(p:Av)(n:Nat),xs=[.ref p]/\H p=some (.nI 0 (n:Int))/\n<=1000000/\∀l,H l=none->Q (.ref l) (aC H l (.lst ((List.range n).map λi:Nat=>V.int i)))
theorem Zau (T:X.calm=true):Wd X (.type "list") RB:=by
 refine λzn s σ H xs B Q I r=>ε2 λp n=>θ3 λzq0 e hn q=>?_;subst zq0;obtain⟨u,rfl,Y⟩:=bZ r;cases Y;refine ω ((I.aK p _ e)) (ε3 λt u v O=>?_);have hsz:Builtin.Range.rangeSize 0 n 1=n:=by
  unfold Builtin.Range.rangeSize;split
  .simp_all
  .simp_all
 have g:∀z,0<=z->z<=1000000->Builtin.Range.rangeFitsLong z=true:=λz h1 h2=>by
  unfold Builtin.Range.rangeFitsLong;simp;lia
 have D:Builtin.Range.small 0 n 1=true:=by
  unfold Builtin.Range.small;rw[hsz,g 0 Vb Vb,g 1 Vb Vb,show(n:Int)+(1-1)=n by lia,g n Vc Vc];simp
 refine call_list_range (I.ok.hd T) O D hsz Vc λh' tk acc Z J C it=>⟨.ref _,_,I.laid J (aM _) ?_,U,q _ I.fresh⟩;refine⟨by rw[aI,dS,CY];lia,_,Z,?_,by simpa using C⟩;have go:∀(m:Nat)(B:Ag)(k:Nat),B.length=m->(∀j v,B[j]?=some v->∃t,v=Value.int ((k+j:Nat)) t)->aJ ((List.range' k m).map λi:Nat=>V.int i) B:=by
  intro m
  induction m with
  |zero=>
   intro B k C _;rw[sW C];exact .nil
  |succ m F=>
   intro B k C hh;cases B with
   |nil=>cases C
   |cons u B=>
    refine .cons ?_ (F B _ Vd λj v G=>?_)
    .obtain⟨t,e⟩:=hh 0 u rfl;exact⟨t,e⟩
    .obtain⟨t,e⟩:=hh (j+1) v Vd;exact⟨t,Vd⟩
 rw[List.range_eq_range'];refine go n _ 0 (it.1) λj v G=>?_;obtain⟨t,e⟩:=it.2 j v Vd;exact⟨t,Vd⟩
def gJ{A:PySem.Around}{k:Nat}(g:JP k A):A.units+2<PySem.cLine:=EB Vc g.units
def U8(B:Ao)(w:As)(K:Af)(mg:Ae)(wn:Heap)(k:Nat)(sp:Sp)(P:Av)(rc:Pos)(tz:Str)(ta tb:TE)(n:Nat)(is:Aj)(te:TE):TE:=λσ H Q=>ta σ H λz q=>tb σ q λx H1=>Yd H1 P rc tz /\
 ∀(cs:List Av)(f:Av)(H2:Hp),(∀c∈cs,H1 c=none)->(∀c∈cs,∃o,H2 c=some (Jn o))->H1 f=none->(∀g,ZK H2 g->Yd (aQ cs g) P rc tz)->(∀b o,H1 b=some o->b≠P->H2 b=some o)->
  XN B w K mg wn k f H2 (OY n te cs (is.map λi=>(σ[i]?).getD none))->sp [z,x,.ref f] H2 (λv g=>Q v (aQ cs g)) E0
section
variable {X:Cx}{sn:Arguments}{body a:Aw}{ut:Scope}{rc p pos:Pos}{c P g:Av}{tz x:Str}{k kl:Nat}{gd:An}{pg ps ys:Ai}{is:Aj}{sp:Sp}{ta te:TE}{b:Aw}{tb:TE}
def gK(F:uS X.prog X.w X.K X.mg X.base j3 k g gd pg sp)(hr:JP k X.A)(hg:Gl X x)(hm:X.mg x=some (.ref g))(hk:PySem.W.keepIn X.K (.ref g)=true)(hb:cZ X.K gd pg [])(hfn:X.fn=λ_=>true)
  (ha:QE X a ta) (hb2:QE X b tb) (hcode:X.env.code=.ref c) (C:PySem.W.CodeHd X.base c P) (B:kC X.mg X.base) (hdef:defaultsOf sn X.env=([],[])) (hq:X.env.qual ++ "<lambda>" = tz)
  {S0:Scope} {N0:Ai} (hX:X.env.scope=S0) (hXN:X.N=N0) (LL:Ii S0 ut N0 ps ys is)
  (Z:∀(cl:List (Str×Av))(pm cv G:Au)(us:Ag),us.length=ps.length->bindArgs (PySem.W.kla_fn "<lambda>" tz sn body ut cl pm cv G) ⟨us,[]⟩=pure (ps.zip us))
  (Y:∀(f O:Av)(cl:List (Str×Av))(A:Aq)(xz:List Env)(s:Ar)(H1:Hp),JP kl (A.deeper (PySem.W.envX tz ut s.heap.objs.size f (.ref O) cl))->QE (Lh X.prog X.w X.K X.mg X.base (ps++ys) tz ut f (.ref O) cl A xz s H1) body te)
  (hdb:(x == ("__debug__" : Str))=false:=by decide) (he:starEach [a,b,.Lambda sn body ut rc] X.env=(false,eval a X.env)::starEach [b,.Lambda sn body ut rc] X.env:=by rfl) (he2:starEach [b,.Lambda sn body ut rc] X.env=(false,eval b X.env)::starEach [.Lambda sn body ut rc] X.env:=by rfl)
  (hs2:starEach [.Lambda sn body ut rc] X.env=(false,eval (.Lambda sn body ut rc) X.env)::starEach [] X.env:=by rfl) (hpl:(backTo pos (starEach [b,.Lambda sn body ut rc] X.env)).any (·.1)=false:=by rfl):
  QE X (.Call (.Name x p) [a,b,.Lambda sn body ut rc] [] pos) (U8 X.prog X.w X.K X.mg X.base (kl+1) sp P rc tz ta tb ps.length is te):=by
 have S:=LL.sc;have D:∀y∈ut.names,y.2=.free->X.env.scope.names.lookup y.1=some .cell:=λy hy h=>by rw[hX];exact LL.free y hy h
 have hlen:=LL.len;refine⟨?_⟩;intro zn s σ H Q I hw;refine pR (vX I hg hm (L5 I.ok.mod.Ea hk ?_ he hpl) hdb);rw[he];refine oW (aP (ha.out zn s σ H _ I hw) λu s0 ⟨x00,H0,I0,r0,hw0⟩=>?_);rw[he2];refine oW (aP (hb2.out zn s0 σ H0 _ I0 hw0) λu1 s1 ⟨x0,H1,I1,r1,hT,q1⟩=>?_);rw[hs2];refine oW (aP (Tz hcode C B hdef hq D zn s1 σ H1 (λv H2=>∃(f O:Av)(oc:Obj)(G:Au),v=.ref f/\H1 f=none/\H2 f=some (Jn (gG X tz sn body ut O G))/\H2 O=some (Jn oc)/\v8 oc tz/\Yd H2 P rc tz/\∀b o,H1 b=some o->b≠P->H2 b=some o) I1 ⟨hT,λf O oc G H2 a1 a2 a3 a4 a5 a6=>⟨f,O,oc,G,U,a1,a2,a3,a4,a5,a6⟩⟩) λu2 s2 ⟨y,H2,T,r2,f,O,oc,G,hy,f1,f2,f3,f4,f5,f6⟩=>?_);subst hy;cases r2;refine Bs ⟨T.fE,?_⟩;have hcl:∀y d,(vp _ _ []).lookup y=some d->X.env.cells.lookup y=some d:=
  qA (λy hy h=>T.ok.has y.1 (.inl (D y hy h))) λ_ _ z=>by cases z
 have J:=zU T;have hcs:=kD T;refine j5 F hr hb hfn T (show aJ [x00,x0,V.ref f] _ from .cons r0 (.cons r1 (.cons U .nil))) (q1 _ f _ (Jc I1) (λd m=>let⟨o,_,e,_⟩:=hcs d m;⟨o,e⟩) f1 (λH4 s4=>Ti T f5 s4) (λb o e hbP=>J _ _ (f6 b o e hbP)) ?_);exact gF S (J _ _ f2) (J _ _ f3) f4 (λy d h=>XD.mpr ⟨y,hcl y d h⟩) (λd m=>let⟨o,v,e,hd,_⟩:=hcs d m;⟨o,v,e,hd⟩) (λy z d h1 h2=>T.ok.inj y z d (hcl y d h1) (hcl z d h2)) (λy h=>G7 h) Vd
  (gH (N0:=N0) T D S.free (λq hq=>by rw[hXN];exact LL.E6 q hq) hlen) (λus hl=>Z _ _ _ _ us hl) λA xz s H1 hr=>(Y f O _ A xz s H1 hr).out
end
def EZ(K:Af)(i:Nat):TI:=λσ H R=>∃a,σ[i]?=some (ac a)/\(((∃xs,aF K H a xs)/\R (tJ K a) H)\/((∃xs,aD K H a xs)/\R (Be K a) H))
theorem Zoz{tg l:Aw}(g:QE b l (yG i)):QI b tg l (EZ b.K i):=⟨λzn s σ H R I h=>by
 obtain⟨a,e,h|h⟩:=h
 .exact(Xs g).out zn s σ H R I ⟨_,e,a,U,h.1,h.2⟩
 .exact(Xf g).out zn s σ H R I ⟨_,e,a,U,h.1,h.2⟩⟩
section
variable {κ:Type}[DecidableEq κ]
def Y1(l:List κ)(k:κ):List κ:=if k∈l then l else l++[k]
def ZW(ks:List κ):List κ:=ks.foldl Y1 []
def v9(ks:List κ)(k:κ):ZW (ks++[k])=Y1 (ZW ks) k:=by
 unfold ZW;rw[nN];rfl
def Jd(h:l.Nodup)(k:κ):(Y1 l k).Nodup:=by
 unfold Y1;split
 .exact h
 .grind
theorem Wn(ks:List κ):(ZW ks).Nodup:=by
 have:∀(ks l:List κ),l.Nodup->(ks.foldl Y1 l).Nodup:=by
  intro ks
  induction ks with
  |nil=>exactλl h=>h
  |cons k r g=>exactλl h=>g _ (Jd h k)
 exact this ks [] iW
def Wg{k x:κ}:x∈Y1 l k↔x∈l\/x=k:=by
 unfold Y1;split
 .simp_all
 .rw[dH,b9]
theorem Y5(ks:List κ)(x:κ):x∈ZW ks↔x∈ks:=by
 have:∀(ks l:List κ),x∈ks.foldl Y1 l↔x∈l\/x∈ks:=by
  intro ks
  induction ks with
  |nil=>intro l;simp
  |cons k r g=>
   intro l;rw[sZ,g,Wg,bR,or_assoc]
 rw[show ZW ks=ks.foldl Y1 []from U,this];simp
def zV(l:List κ)(k:κ):(Y1 l k).length<=l.length+1:=by
 unfold Y1;split
 .simp_all
 .simp_all
theorem Q1(ks:List κ):(ZW ks).length<=ks.length:=by
 have:∀(ks l:List κ),(ks.foldl Y1 l).length<=l.length+ks.length:=by
  intro ks
  induction ks with
  |nil=>exactλl=>aM _
  |cons k r g=>
   intro l;have h1:=g (Y1 l k);have h2:=zV l k;rw[sZ,lL];lia
 have h:=this ks [];rw[Bg,CD]at h;exact h
def kH(l:List κ)(k:κ):∃r,Y1 l k=l++r:=by
 unfold Y1;split
 .exact⟨[],(d9 _).symm⟩
 .exact⟨[k],U⟩
theorem Wx(ks:List κ):∀l:List κ,∃r,ks.foldl Y1 l=l++r:=by
 induction ks with
 |nil=>exactλl=>⟨[],(d9 _).symm⟩
 |cons k r g=>
  intro l;obtain⟨a,q⟩:=kH l k;obtain⟨b,B⟩:=g (Y1 l k);exact⟨a++b,Vd⟩
def vA(ks:List κ)(i:Nat):∃r,ZW ks=ZW (ks.take i)++r:=by
 have e:ZW ks=(ks.drop i).foldl Y1 (ZW (ks.take i)):=by
  unfold ZW;rw[<-nN,oN]
 rw[e];exact Wx _ _
def kI{l r:List κ}{k:κ}(h:k∈l):(l++r).idxOf k=l.idxOf k:=Vd
theorem lV{α β:Type}[DecidableEq α][DecidableEq β](f:α->β)(g:∀a b,f a=f b->a=b)(s:α):∀l:List α,(l.map f).idxOf (f s)=l.idxOf s
 |[]=>rfl
 |x::r=>by
  rw[eE,List.idxOf_cons,lV f g s r]
  by_cases h:x=s
  .simp_all
  .grind
def Wt(l:List κ):List (κ×V):=l.zipIdx.map λp=>(p.1,V.int (p.2:Int))
def xJ(l:List κ):(Wt l).map (·.1)=l:=by
 unfold Wt;rw[cR];exact List.zipIdx_map_fst 0 l
def Gb(l:List κ):(Wt l).length=l.length:=by
 unfold Wt;rw[aI,List.length_zipIdx]
def xK(l:List κ)(k:κ):Wt (l++[k])=Wt l++[(k,V.int (l.length:Int))]:=by
 unfold Wt;rw[List.zipIdx_append];simp
def Gd:∀(l:List κ)(k:κ),k∈l->l.Nodup->Y0 (Wt l) k=some (V.int (l.idxOf k:Int)):=λl k g q=>by
 have B:(k,V.int (l.idxOf k))∈Wt l:=by
  refine bG.mpr ⟨(k,l.idxOf k),?_,U⟩;rw[List.mem_zipIdx_iff_getElem?];simp[oS g]
 have:=ky (by rw[xJ];exact q) _ B;exact this
def xM(l:List κ)(k:κ)(q:k∉l):Y0 (Wt l) k=none:=by
 unfold Y0;rw[Option.map_eq_none_iff,List.find?_eq_none];intro x g z;have:x.1∈(Wt l).map _:=mY g;rw[xJ,dJ z]at this;exact q this
end
section
variable {κ β:Type}[DecidableEq κ][DecidableEq β]
def WZ(ks:List κ):Aj:=ks.map λk=>(ZW ks).idxOf k
def zW(ks:List κ):(WZ ks).length=ks.length:=aI ..
def zX(ks:List κ)(i:Nat):(WZ ks)[i]?=(ks[i]?).map λk=>(ZW ks).idxOf k:=aY ..
def MY{l:List κ}{a b:κ}(g:a∈l)(h:l.idxOf a=l.idxOf b)(q:b∈l):a=b:=by
 rw[<-List.getElem_idxOf (oS g)];simp[h]
def kK{j:Nat}{a b:κ}(q:ks[i]?=some a)(g:ks[j]?=some b):(WZ ks)[i]?=(WZ ks)[j]?↔a=b:=by
 rw[zX,zX,q,g];constructor
 .exact λh=>MY ((Y5 ks a).mpr (bP q)) (Option.some.inj h) ((Y5 ks b).mpr (bP g))
 .intro h;rw[h]
def kL(f:κ->β)(l:List κ)(k:κ)(h:∀a∈l,f a=f k->a=k):Y1 (l.map f) (f k)=(Y1 l k).map f:=by
 unfold Y1
 by_cases g:k∈l
 .grind
 .grind
theorem kR(f:κ->β)(ks:List κ)(h:∀a∈ks,∀b∈ks,f a=f b->a=b):ZW (ks.map f)=(ZW ks).map f:=by
 have go:∀(ks l:List κ),(∀a,a∈l\/a∈ks->∀b,b∈l\/b∈ks->f a=f b->a=b)->(ks.map f).foldl Y1 (l.map f)=(ks.foldl Y1 l).map f:=by
  intro ks
  induction ks with
  |nil=>exactλl _=>U
  |cons k r B=>
   intro l hh;rw[eE,sZ,kL f l k λa g e=>hh a (.inl g) k (.inr bN) e];refine B _ λa g b q=>hh a ?_ b ?_
   .rcases g with g|g
    .rcases Wg.mp g with z|z
     .exact .inl z
     .exact .inr (z ▸ bN)
    .exact .inr (cA _ g)
   .rcases q with g|g
    .rcases Wg.mp g with z|z
     .exact .inl z
     .exact .inr (z ▸ bN)
    .exact .inr (cA _ g)
 exact go ks [] λa g b q=>h a (g.resolve_left fQ) b (q.resolve_left fQ)
theorem MF(f:κ->β)(s:κ):∀l:List κ,(∀a∈l,f a=f s->a=s)->(l.map f).idxOf (f s)=l.idxOf s
 |[],_=>rfl
 |x::r,h=>by
  rw[eE,List.idxOf_cons,MF f s r λa g=>h a (cA _ g)]
  by_cases e:x=s
  .grind
  .grind
def kT(f:κ->β)(ks:List κ)(h:∀a∈ks,∀b∈ks,f a=f b->a=b):WZ (ks.map f)=WZ ks:=by
 unfold WZ;rw[cR,kR f ks h];refine mK λk q=>(MF f k _ λa g e=>h a ((Y5 ks a).mp g) k q e)
def NA(ks:List κ):∀a∈ks,∀b∈ks,(ZW ks).idxOf a=(ZW ks).idxOf b->a=b:=λa q b g e=>MY ((Y5 ks a).mpr q) e ((Y5 ks b).mpr g)
def j7(ks:List κ):WZ (WZ ks)=WZ ks:=kT _ ks (NA ks)
def Zhe(ks:List κ):(ZW (WZ ks)).length=(ZW ks).length:=by
 unfold WZ;rw[kR _ ks (NA ks),aI]
theorem Wi:∀{q g:List κ},q.Nodup->(∀x∈q,x∈g)->q.length<=g.length
 |[],_,_,_=>cD _
 |a::r,g,h1,C=>by
  rw[iO]at h1;have B:=C a bN;have:=Wi h1.2 λx D=>(Ky (show x≠a fromλz=>h1.1 (z ▸ D))).mpr (C x (cA _ D));rw[LN B]at this;have F:=EL B;rw[lL];lia
theorem Qq:∀{D q:List κ},D.Nodup->(∀x∈D,x∈q)->q.length<=D.length->q.Nodup
 |[],q,_,_,F=>by
  simp_all
 |a::r,q,h1,I,F=>by
  rw[iO]at h1;have G:=I a bN;have g:=λx B=>(Ky (show x≠a fromλz=>h1.1 (z ▸ B))).mpr (I x (cA _ B));have O:=LN G;rw[lL]at F;have J:=Qq h1.2 g (by simp_all);have C:a∉q.erase a:=λz=>by
   have:=Wi h1.2 λx B=>(Ky (show x≠a fromλz=>h1.1 (z ▸ B))).mpr (g x B);rw[LN z]at this;have Q:=EL z;grind
  exact(List.perm_cons_erase G).nodup_iff.mpr (iO.mpr ⟨C,J⟩)
def gL(f:κ->β)(ks:List κ)(h:(ZW ks).length<=(ZW (ks.map f)).length):∀a∈ks,∀b∈ks,f a=f b->a=b:=by
 have B:=Qq (Wn (ks.map f)) (λx D=>by
  obtain⟨k,F,e⟩:=bG.mp ((Y5 _ x).mp D);exact bG.mpr ⟨k,(Y5 ks k).mpr F,e⟩) Vd
 intro a g b q e;have C:=oS ((Y5 ks a).mpr g);have I:=oS ((Y5 ks b).mpr q);have J:((ZW ks).map f)[(ZW ks).idxOf a]?=some (f a):=by
  simp_all
 have G:((ZW ks).map f)[(ZW ks).idxOf b]?=some (f b):=by
  simp_all
 have:=(List.getElem?_inj (j:=(ZW ks).idxOf b) (by rw[aI];exact C) B).mp Vd;exact MY ((Y5 ks a).mpr g) this ((Y5 ks b).mpr q)
def Zo0{ks:List κ}{m:Nat}(h:m∈WZ ks):m<(ZW ks).length:=by
 obtain⟨k,g,rfl⟩:=bG.mp h;exact oS ((Y5 ks k).mpr g)
def Zkt{ks:List κ}{m:Nat}(h:m∈WZ ks)(q:∀n∈WZ ks,n<=m):m+1=(ZW ks).length:=by
 have h1:=Zo0 h;have g:(ZW ks).length-1<(ZW ks).length:=Vc
 have hi:=List.Nodup.idxOf_getElem (Wn ks) _ g;have:=q _ (bG.mpr ⟨_,(Y5 ks _).mp (f7 g),U⟩);lia
end
def Zed{xs ys:A1}{is:Aj}{σ:St}(g:Nat->List V->Hp->Prop)(Y:g 0 [] H)(I:∀i zs H,g i zs H->zs.length<=sizeLine)(Z:∀i zs H,g i zs H->bV K b1 H a xs/\bV K b2 H f ys)
  (T:∀i x y p zs H (R:A1->Hp->Prop),(∀zs H,g (i+1) zs H->R zs H)->xs[i]?=some x->ys[i]?=some y->g i zs H->H p=none->M (Di is σ (some x) (some y)) (aC H p (.tup [x,y])) λb H2=>if b=true then A (Di is σ (some x) (some y)) H2 λy H3=>R (zs++[y]) H3 else R zs H2)
  (O:∀zs H,g (xs.zip ys).length zs H->∀p,H p=none->E (.ref p) (aC H p (.lst zs))):
  Nc K is M A σ E (Ew K b1 b2 a f) H:=by
 refine⟨λi m zs H=>m=(xs.zip ys).length-i/\i<=(xs.zip ys).length/\g i zs H,⟨(xs.zip ys).length,Ve,cD _,Y⟩,?_⟩;rintro i m zs H ⟨rfl,hi,p⟩;obtain⟨B,C⟩:=Z i zs H p;have hz:(xs.zip ys).length=min _ _:=mI
 by_cases q:i<(xs.zip ys).length
 .have F:i<xs.length:=Vc
  have D:i<ys.length:=Vc
  refine .inr ⟨⟨xs,ys,xs[i],ys[i],B,C,aR F,aR D⟩,I i zs H p,λx H' y=>?_⟩;revert y;refine ε1 λc=>θ2 λQ zq0 e=>?_;subst zq0;rw[e xs ys _ _ B C (aR F) (aR D)];exact⟨c,_,_,U,aD.of Za,T i _ _ c zs H (λzs H=>∃G,G<(xs.zip ys).length-i/\(λi m zs H=>m=(xs.zip ys).length-i/\i<=(xs.zip ys).length/\g i zs H) _ G zs H) (λzs H J=>⟨_,Vc,U,q,J⟩) (aR F) (aR D) p Q⟩
 .have e:i=(xs.zip ys).length:=Vc
  subst e;exact .inl ⟨⟨xs,ys,B,C,Vc⟩,I _ zs H p,O zs H p⟩
def Zku[DecidableEq g]{kn:KN g}{ul:List (g×V)}{xs:List (g×Av×Au)}(C:Paired (λ(p:g×V) (q:g×Av×Au)=>p.1=q.1/\kn.at_ H q.1 q.2.1/\aH p.2 q.2.2) ul xs)(k:g):(atKey xs k).isSome=(Y0 ul k).isSome:=by
 have B:=Ga (λp q h=>h.1) C k;cases hv:Y0 ul k with
 |none=>rw[B.2 hv];rfl
 |some x=>
  obtain⟨q,D,_⟩:=B.1 x hv;rw[D];rfl
def DF:R2:=λx y H Q=>∃(Kk:Type)(_:DecidableEq Kk)(kn:KN Kk)(d a:Av)(k:Kk)(ul:List (Kk×V)),x=.ref a/\y=.ref d/\zm kn H d ul/\kn.at_ H k a/\Q (.bl (!(Y0 ul k).isSome)) H
def VR(F:X.A.units+2<cLine):b8 X (compareOp .NotIn) DF:=by
 rintro zn s σ H x y v u Q I D G ⟨Kk,_,kn,d,a,k,ul,rfl,rfl,n,C,q⟩;cases D;cases G;refine ω (n.dict I) (ε1 λxs=>θ3 λdd g J B=>?_);refine wpAny_notIn_heap (kn.room _ _ _ F) (kn.ok _ _ _ _ _ _ I.aK C) B dd ?_;rw[Zku g];exact⟨.bl _,H,I.tok _,U,q⟩
def DQ(td ty:TE):TE:=λσ H Q=>td σ H λx H1=>ty σ H1 λy H2=>∃(Kk:Type)(_:DecidableEq Kk)(kn:KN Kk)(d a:Av)(k:Kk)(ul:List (Kk×V))(v:V),x=.ref d/\y=.ref a/\zm kn H2 d ul/\kn.at_ H2 k a/\Y0 ul k=some v/\Q v H2
theorem Zo1{i:Aw}{ty:TE}(hu:X.A.units+2<cLine)(ho:QE X o J)(hi:QE X i ty)(hs:FT i):QE X (.Subscript o i q) (DQ J ty):=⟨by
 intro zn s σ H Q I h;refine Qw PySem.F.slot_dict_getitem.lookup hs (aP (ho.out zn s σ H _ I h) λu G ⟨x,H1,D,T,q1⟩=>aP (hi.out zn G σ H1 _ D q1) λY s2 ⟨y,H2,B,ry,Kk,_,kn,d,a,k,ul,v,ex,Z,n,O,hv,q2⟩=>?_);subst ex;subst Z;obtain rfl:u=Value.ref d:=T;obtain rfl:Y=Value.ref a:=ry;refine ω (n.dict B) (ε1 λxs=>θ3 λdd pr mu hm=>?_);obtain⟨g,hq,p',C,e⟩:=(Ga (λp g h=>h.1) pr k).1 v hv;refine⟨dd.typeIs,wpAny_getItem_heap (kn.room _ _ _ hu) (kn.ok _ _ _ _ _ _ B.aK O) dd hq ⟨v,H2,B.tok _,e ▸ C.2.2,q2⟩⟩⟩
def Ee(td ty tv:TE):TS:=λD σ H=>tv σ H λv H1=>td σ H1 λx H2=>ty σ H2 λy g=>∃(Kk:Type)(_:DecidableEq Kk)(kn:KN Kk)(d a:Av)(k:Kk)(ul:List (Kk×V)),x=.ref d/\y=.ref a/\zm kn g d ul/\kn.at_ g k a/\Y0 ul k=none/\ul.length+1<sizeLine /\
 ∀H',zm kn H' d (ul++[(k,v)])->(∀b o,g b=some o->b≠d->H' b=some o)->(∃o,H'=aC g d o)->D.nx σ H'
theorem Ul{i:Aw}{ty tv:TE}{pos':Pos}(hu:X.A.units+2<cLine)(ho:QE X o J)(hi:QE X i ty)(g:QE X e tv)(hs:swapsWith e (some (.Subscript o i pos')) q.line X.env=pure false):QS X (.Assign [.Subscript o i pos'] e q) (Ee J ty tv):=⟨by
 intro zn s σ H D I h;refine wpAny_Assign_Subscript (aP (g.out zn s σ H _ I h) λr Q ⟨v,H1,O,rv,q1⟩=>aP (ho.out zn Q σ H1 _ O q1) λu Y ⟨x,H2,I2,rx,q2⟩=>aP (hi.out zn Y σ H2 _ I2 q2) λiv s3 ⟨y,H3,B,ry,Kk,_,kn,d,a,k,ul,ex,ey,n,F,g,hz,q3⟩=>?_) hs;subst ex;subst ey;obtain rfl:u=Value.ref d:=rx;obtain rfl:iv=Value.ref a:=ry;refine ω (n.dict B) (ε1 λxs=>θ3 λdd C mu T=>?_);refine wpAny_setItem_heap (kn.room _ _ _ hu) (kn.ok _ _ _ _ _ _ B.aK F) dd (λh' dd' sb=>?_) (by rw[<-oK C];lia);rw[storedH_new ((Ga (λp G h=>h.1) C k).2 g)]at dd';obtain⟨H',n',k',o',Z⟩:=kF B n F rv hz C mu T g dd' sb;exact⟨σ,H',Z,q3 H' n' k' o'⟩⟩
theorem Y6:∀(sw:List (Str×NameKind))(n:Nat)(acc:List (Str×Av)),cellsFrom n sw acc=cellsFrom n sw []++acc
 |[],_,_=>rfl
 |(x,k)::r,n,acc=>by
  unfold cellsFrom;split
  .rw[Y6 r _ _,Y6 r _ [(x,n)],lW];rfl
  .exact Y6 r n acc
theorem xN:∀(sw:List (Str×NameKind)) (n:Nat) {x:Str} {c:Av},(x,c)∈cellsFrom n sw []->(x,NameKind.cell)∈sw
 |[],_,_,_,h=>nomatch h
 |(y,k)::r,n,x,c,h=>by
  unfold cellsFrom at h;split at h
  .rename_i g;rw[Y6]at h;rcases dH.mp h with h|h
   .exact cA _ (xN r _ h)
   .grind
  .exact cA _ (xN r n h)
theorem GB:∀{l r:List (Str×g)},(l++r).lookup x=match l.lookup x with|some c=>some c|none=>r.lookup x
 |[],r=>rfl
 |(y,c)::l,r=>by
  grind
section
variable {M:Model}{A:Aq}{E:Ab}{s:Ar}
def Sz{ut:Scope}{globals:Av}{g:List (Str×Av)}{binds:List (Str×Au)}{tz:Str}{func:Option Av}{code:Au}{builtins:Av}{Q:Env->Shared->Prop}
  (hk:ut.kind=.function) (Z:∀x∈binds,ut.names.lookup x.1=some .local)
  (Y:∀h' tk,h'.Ns s.heap.objs.size (λx=>binds.reverse.lookup x)->(∀b o,s.heap.get? b=some o->h'.get? b=some o)->(∀n c,(n,c)∈cellsFrom (s.heap.objs.size+1) ut.names []->h'.IsCell c none/\s.heap.objs.size<c)->
   ((cellsFrom (s.heap.objs.size+1) ut.names []).Pairwise λx y=>x.2≠y.2)->Q (newEnv ut s.heap.objs.size globals (cellsFrom (s.heap.objs.size+1) ut.names g) tz func code none builtins) {s with heap:=h',toks:=tk}):
  wpAny M A (newFunctionEnv ut globals g binds tz func code none builtins) Q E s:=by
 simp only[newFunctionEnv];refine ab (wpAny_alloc (ab (wpAny_layCells _ (λname kind cells=>Vd) _ _ _ _ ?_)));have ok:=cellsFrom_ok ut.names (s.heap.push {cls:=.type "frame",data:=.dict #[]}) (s.heap.objs.size+1) [] ⟨λ_ _ I=>(nomatch I),List.Pairwise.nil⟩ Ve;rw[iL]at ok;rw[iL ..];refine ab (wpAny_forIn_list _
  (λop _ s'=>∃q h',binds=q++op/\s'={s with heap:=h',toks:=s.toks+q.length}/\h'.Ns _ (λx=>q.reverse.lookup x) /\
   Heap.SameBut s.heap.objs.size _ h') _ ?_ ?_ binds _
  ⟨[],_,U,U,(Heap.Ns.new s.heap _).keeps (pushCells_keeps _ _),Heap.SameBut.refl ..⟩)
 .refine λzq0 op _ s'=>ε2 λq h'=>θ3 λG zq1 C B=>?_;obtain ⟨name,v⟩:=zq0;subst zq1;have J:Env.kindOf {scope:=ut,locals:=s.heap.objs.size,globals,cells:=cellsFrom (s.heap.objs.size+1) ut.names g,qual:=tz,func,code,frame:=some s.heap.objs.size,builtins} name=some .local:=Z (name,v) Vd;simp only[storeName_local J Vd];refine ab (wpAny_nsSet C λO F D=>aG ⟨q++[(name,v)],O,by simp[G],?_,?_,B.trans D⟩)
  .simp[Nat.add_assoc]
  .rw[lookup_reverse_snoc];exact F
 .rintro _ s' ⟨q,h',G,rfl,C,B⟩;rw[d9]at G;subst G;refine aG (Y h' _ C (λb o e=>(B.extBut b o (cQ (bE e)) (pushCells_keeps _ _ b o (aW _ e)))) (λn c I=>?_) ok.apart)
  .obtain⟨q1,T⟩:=ok.empty n c I;exact⟨q1.sameBut B (rP T),T⟩
end
structure Im(ut:Scope)(ps ls ys:Ai):Prop where
 kind:ut.kind=.function
 co:ut.isCoroutine=false
 gen:ut.isGenerator=false
 par:∀p∈ps,ut.names.lookup p=some .local
 free:∀y∈ys,ut.names.lookup y=some .free
 nd:(ps++(ls++ys)).Nodup
 Ey:(ut.names.map (·.1)).Nodup
def FJ(P:Ao)(w:As)(K:Af)(mg:Ae)(wn:Heap)(N:Ai)(tz:Str)(ut:Scope)(f:Av)(g:Au)(cl:List (Str×Av))(A:Aq)(xz:List Env)(s:Ar)(H:Hp):Cx where
 prog:=P
 w:=w
 K:=K
 mg:=mg
 base:=wn
 A:=A.deeper (PySem.W.envX tz ut s.heap.objs.size f g (cellsFrom (s.heap.objs.size+1) ut.names cl))
 N:=N
 s₀:=s
 H₀:=H
 env:=PySem.W.envX tz ut s.heap.objs.size f g (cellsFrom (s.heap.objs.size+1) ut.names cl)
 outer:=xz
 stack:=PySem.W.envX tz ut s.heap.objs.size f g (cellsFrom (s.heap.objs.size+1) ut.names cl)::xz
 ex:=[]
 calm:=true
 fn:=λx=>ut.names.lookup x == some .cell
 pn:=[]
 xe:=λ_ _=>False
def NP(n m:Nat)(ts:TS)(cs:List Av)(g:List (Option V)):Sp:=λvs H Q _=>vs.length=n/\ts {nx:=λ_ H'=>(∀c∈cs,H' c=none)->Q .aX (Ww cs H H'),rt:=λv H'=>(∀c∈cs,H' c=none)->Q v (Ww cs H H')} (vs.map some++(List.replicate m none++g)) (aQ cs H)
section
variable {P:Ao}{w:As}{K:Af}{mg:Ae}{wn:Heap}
theorem kW{k:Nat}{name tz:Str}{sn:Arguments}{body:List Ax}{ut:Scope}{cl:List (Str×Av)}{doc pm ctv:Au}{oc:Obj}{ps ls ys:Ai}{cv:List (Option V)}{cs:List Av}
  (S:Im ut ps ls ys) (hf:H f=some (Jn (PySem.W.fnMade name tz sn body ut cl doc pm I ctv))) (hc:H I=some (Jn oc)) (hoc:v8 oc tz)
  (hcl:∀x c,cl.lookup x=some c->c∈cs) (hcs:∀c∈cs,∃o v,H c=some (Jn o)/\o.data=.cell v)
  (inj:∀x y c,cl.lookup x=some c->cl.lookup y=some c->x=y) (has:∀x,ut.names.lookup x=some .free->∃c,cl.lookup x=some c)
  (hcv:cv.length=ys.length) (hval:∀(i:Nat)(y:Str)(v:V),ys[i]?=some y->cv[i]?=some (some v)->∃c o u,cl.lookup y=some c/\H c=some (Jn o)/\o.data=.cell (some u)/\aH v u)
  (hb:∀us:Ag,us.length=ps.length->bindArgs (PySem.W.fnX name tz sn body ut cl .none .none doc pm none (.ref I) ctv) ⟨us,[]⟩=pure (ps.zip us))
  (hbody:∀(A:Aq)(xz:List Env)(s:Ar)(H1:Hp),JP k (A.deeper (PySem.W.envX tz ut s.heap.objs.size f (.ref I) (cellsFrom (s.heap.objs.size+1) ut.names cl)))->p5 (FJ P w K mg wn (ps++(ls++ys)) tz ut f (.ref I) cl A xz s H1) body B):
  XN P w K mg wn (k+1) f H (NP ps.length ls.length B cs cv):=by
 refine⟨⟨_,_,hf,U⟩,?_⟩;rintro A xz s H1 us vs Q E fz hr D r ⟨hl,ht⟩;have O:∀c∈cs,∃o v,H1 c=some (Jn o)/\o.data=.cell v/\s.heap.get? c=some o:=λc m=>by
  obtain⟨o,v,e,d⟩:=hcs c m;exact⟨o,v,fz _ _ _ e,d,(D.aK c _ (fz _ _ _ e)).1⟩
 obtain⟨vs0,t0,hd0,hv0⟩:=hoc;have lim:s.heap.NoLimit:=D.mod.nolimit.keeps λb o e=>(D.bs b o e).1;have lus:us.length=ps.length:=by rw[<-r.length];exact hl
 refine codeAny_call_function hr.depth (D.aK f _ (fz _ _ _ hf)).1 rfl S.co S.gen U ⟨I,oc,vs0,t0,U,(D.aK I _ (fz _ _ _ hc)).1,hd0,hv0⟩ ?_;rw[hb us lus];refine aG (Sz S.kind (λx hx=>S.par _ (En hx).1) λh₁ tk hns Y F hap=>⟨lim.keeps Y,codeAny_func ?_⟩);have look:∀x c,(cellsFrom (s.heap.objs.size+1) ut.names cl).lookup x=some c->((x,c)∈cellsFrom (s.heap.objs.size+1) ut.names []/\(cellsFrom (s.heap.objs.size+1) ut.names []).lookup x=some c)\/cl.lookup x=some c:=λx c e=>by
  rw[Y6,GB]at e;cases q:(cellsFrom (s.heap.objs.size+1) ut.names []).lookup x with
  |none=>rw[q]at e;exact .inr e
  |some d=>rw[q]at e;cases e;exact .inl ⟨oB q,U⟩
 have C:∀x,ut.names.lookup x=some .free->(cellsFrom (s.heap.objs.size+1) ut.names cl).lookup x=cl.lookup x:=λx hx=>by
  rw[Y6,GB];cases q:(cellsFrom (s.heap.objs.size+1) ut.names []).lookup x with
  |none=>rfl
  |some d=>
   have m1:=xN ut.names _ (oB q);have m2:=oB hx;have:∀{l:List (Str×NameKind)},(l.map (·.1)).Nodup->(x,NameKind.cell)∈l->(x,NameKind.free)∈l->False:=λ{l} nd a b=>by
    induction l with
    |nil=>cases a
    |cons p l ih=>
     rw[eE,iO]at nd;rcases bR.mp a with a|a<;>rcases bR.mp b with b|b
     .rw[<-a]at b;cases b
     .exact nd.1 (by rw[<-a];exact mY (f:=(·.1)) b)
     .exact nd.1 (by rw[<-b];exact mY (f:=(·.1)) a)
     .exact ih nd.2 a b
   exact(this S.Ey m1 m2).elim
 have oldC:∀x c,cl.lookup x=some c->c<s.heap.objs.size:=λx c e=>by
  obtain⟨o,v,_,_,g⟩:=O c (hcl x c e);exact bE g
 have zq22:aE (FJ P w K mg wn (ps++(ls++ys)) tz ut f (.ref I) cl A xz s (aQ cs H1)) [] (vs.map some++(List.replicate ls.length none++cv)) (aQ cs H1) {s with heap:=h₁,toks:=tk}:=by
  have noA:∀b:Av,b∉([]:List Av):=λb z=>nomatch z;refine⟨⟨D.mod,S.kind,U,U,aM _,λx y c h1 h2=>?_,λy T=>?_,λy c T h=>?_,λ_=>hr.hd,Mh D.frames,.inr ⟨U,U⟩,λb z=>absurd z (noA b),λb o e=>⟨(D.bs b o e).1,?_⟩,D.mG,λb _ _=>noA b,λb z=>absurd z (noA b),D.cT,λb hb=>?_⟩,
   rfl,D.bare,Un.kept Y,⟨_,hns,λi y v h1 h2 h3=>?_⟩,λy c h=>?_,?_,λy c h=>?_,λp hp=>absurd (show p∈([]:Ac)from hp) Ve,(IY D.aK λc m=>let⟨o,_,e,_⟩:=O c m;⟨o,e⟩).kept Y,?_⟩
  .rcases look x c h1 with⟨m1,_⟩|l1<;>rcases look y c h2 with⟨m2,_⟩|l2
   .exact name_of_addr hap m1 m2
   .exact absurd (oldC y c l2) (E9.mpr (a8 (F x c m1).2))
   .exact absurd (oldC x c l1) (E9.mpr (a8 (F y c m2).2))
   .exact inj x y c l1 l2
  .have T:ut.names.lookup y=some .cell\/ut.names.lookup y=some .free:=T;rcases T with T|T
   .obtain⟨c,e⟩:=zQ T;exact⟨c,by show(cellsFrom (s.heap.objs.size+1) ut.names cl).lookup y=_;rw[Y6,GB,e]⟩
   .obtain⟨c,e⟩:=has y T;exact⟨c,by show(cellsFrom (s.heap.objs.size+1) ut.names cl).lookup y=_;rw[C y T,e]⟩
  .have T:=eq_of_beq (T);obtain⟨d,e⟩:=zQ T;have h':(cellsFrom (s.heap.objs.size+1) ut.names cl).lookup y=some c:=h;rw[Y6,GB,e]at h';cases h';exact a8 (F y _ (oB e)).2
  .by_cases m:b∈cs
   .exact Xw m
   .exact(ZX m).trans (D.bs b o e).2
  .by_cases m:b∈cs
   .exact Xw m
   .exact(ZX m).trans (D.oP b hb)
  .by_cases hi:i<vs.length
   .rw[eH (by simpa using hi),aY]at h2;have ha:vs[i]?=some v:=by
     cases e:vs[i]? with
     |none=>rw[e]at h2;cases h2
     |some a=>rw[e]at h2;cases h2;rfl
    obtain⟨u,hu,rv⟩:=r.get ha;have G:(ps++(ls++ys))[i]?=some y:=h1;rw[eH Vc]at G;exact⟨u,rv,.inl ⟨S.par y (bP G),v7 (DC.mp S.nd).1 G hu lus.symm⟩⟩
   .rw[eL (by simpa using hi),aI]at h2;have G:(ps++(ls++ys))[i]?=some y:=h1;rw[eL Vc,<-hl]at G
    by_cases hj:i-vs.length<ls.length
    .rw[eH Vd,List.getElem?_replicate]at h2;split at h2<;>cases h2
    .rw[eL Vd,eZ]at h2;rw[eL Vd]at G;refine ω (hval _ y v G h2) (ε3 λc o u=>θ3 λe1 e2 e3 rv=>?_);have hfy:=S.free y (bP G);exact⟨u,rv,.inr ⟨.inr hfy,c,(C y hfy).trans e1,o,Y _ _ (D.aK c _ (fz _ _ _ e2)).1,e3⟩⟩
  .rcases look y c h with⟨m1,_⟩|l1
   .exact⟨none,(F y c m1).1⟩
   .obtain⟨o,v,_,d,g⟩:=O c (hcl y c l1);exact⟨v,o,Y _ _ g,d⟩
  .show aQ cs H1 s.heap.objs.size=none
   by_cases m:s.heap.objs.size∈cs
   .exact Xw m
   .rw[ZX m];exact D.aK.fresh (aM _)
  .rcases look y c h with⟨m1,_⟩|l1
   .by_cases m:c∈cs
    .exact Xw m
    .rw[ZX m];exact D.aK.fresh (a8 (F y c m1).2)
   .exact Xw (hcl y c l1)
  .show(vs.map some++(List.replicate ls.length none++cv)).length=(ps++(ls++ys)).length;rw[aZ,aZ,aZ,aZ,aI,eZ,hl,hcv]
 refine iJ (hbody A xz s (aQ cs H1) (hr.deeper _) [] _ _ _ _ zq22 ht) (λfl s' hs=>?_) λ_ _ z=>z.elim;have fin:∀{Z:St} {H':Hp} {v:V} {u:Au},aE (FJ P w K mg wn (ps++(ls++ys)) tz ut f (.ref I) cl A xz s (aQ cs H1)) [] Z H' s'->aH v u->((∀c∈cs,H' c=none)->Q v (Ww cs H1 H'))->CE xz P w H1 s Q u s':=λ{Z H' v u} J rv q=>NM D O J.os J.bare J.base J.aK rv q;cases fl with
 |ret u=>
  revert hs;refine ε3 λv Z H'=>θ2 λJ rv q=>?_;exact fin J rv q
 |next=>
  obtain⟨Z,H',J,q⟩:=hs;exact fin (v:=V.aX) (u:=Value.none) J U q
 |brk=>
  obtain⟨_,_,_,q⟩:=hs;exact False.elim q
 |cont=>
  obtain⟨_,_,_,q⟩:=hs;exact False.elim q
end
def Ka(P:Av)(rc:Pos)(tz:Str)(g:Av->Value->Value->Obj)(i:Nat):TS:=λD σ H=>Yd H P rc tz /\
 ∀(f C:Av)(oc:Obj)(q B:Au)(H2:Hp),H f=none->H2 f=some (Jn (g C q B))->H2 C=some (Jn oc)->v8 oc tz->Yd H2 P rc tz->(∀b o,H b=some o->b≠P->H2 b=some o)->D.nx (σ.set i (ac f)) H2
section
variable {X:Cx}{sn:Arguments}{body:List Ax}{ut:Scope}{rc:Pos}{c P:Av}{name tz:Str}
abbrev gM (X:Cx) (name tz:Str) (sn:Arguments) (body:List Ax) (ut:Scope):Av->Value->Value->Obj:=λB g q=>PySem.W.fnMade name tz sn body ut (vp X.env.cells ut.names []) q ((X.mg "__name__").getD .none) B g
theorem A5(hN:X.N.Nodup)(hi:X.N[i]?=some name)(hx:pV X.env.scope name)(G:X.env.code=.ref c)(C:PySem.W.CodeHd X.base c P)(B:kC X.mg X.base)(hd0:sn.defaults=[])(hk0:sn.kw_defaults=[])(han:annTrees sn none X.env=[])(hq:qualnameIn X.env name name=tz)
  (hX:X.env.scope=S0) (hfr0:∀y∈ut.names,y.2=.free->S0.names.lookup y.1=some .cell) (hf:X.fn name=true\/X.env.scope.names.lookup name=some .local:=by first|exact .inl U|exact .inr U|assumption):
  QS X (.FunctionDef name sn body [] none [] ut none name rc) (Ka P rc tz (gM X name tz sn body ut) i):=by
 have Z:∀y∈ut.names,y.2=.free->X.env.scope.names.lookup y.1=some .cell:=λy hy h=>Vd
 refine⟨?_⟩;rintro zn s σ H D I ⟨O,hq2⟩;refine PySem.W.nestDef_K hd0 hk0 han ?_;rw[hq];have hcl:=G6 λy hy h=>I.ok.has y.1 (.inl (Z y hy h));have hg:=I.mod.glob.keeps I.bk;obtain⟨pz,hPs⟩:=O.ex;have Y:X.base.get? P=none:=by
  cases e:X.base.get? P with
  |none=>rfl
  |some o=>rw[(I.bs P o e).2]at hPs;cases hPs
 have hgP:mainGlobals≠P:=λe=>by
  obtain⟨o,es,ep,g,_⟩:=I.mod.glob;rw[e,Y]at g;cases g
 have hb:s.heap.BuiltinsAt X.mg P:=by
  refine ω B.ex (ε2 λbm ob=>θ5 λb1 b2 b3 b4 b5 b6=>?_);refine⟨bm,ob,b1,b2,λe=>?_,(λe=>Vd),I.bk _ _ b3,b4,b5,b6⟩;obtain⟨o,es,ep,g,hd,_⟩:=I.mod.glob;rw[<-e,b3]at g;cases g;rw[b6]at hd;cases hd
 rcases O with O|⟨J,oc,O,hc',Q⟩
 .have hP:=I.aK P _ O;refine PySem.W.makeFunction_K hcl I.ok.glob hg G (C.keeps I.bk) hP trivial U hgP hb λJ q F h' tk hx' T hlt hrec htb=>?_;revert hrec;refine ε4 λc₂ oc vs t=>θ3 λe2 Q hd hv=>?_;cases e2;have cn:=I.aK.fresh T;have cP:J≠P:=λe=>Vd
  have hsz:=bS T (a8 hlt);have I2:=NO (fo:=gM X name tz sn body ut J q F) (tk:=tk) I O hx' T hlt Q htb;have fn:=I.aK.fresh hsz;have fc:=cQ hlt;refine Jo I2 hN hi hx (v:=.ref _) U (λs' I3=>⟨_,_,I3,hq2 _ J oc q F _ fn Za ?_ ⟨vs,t,hd,hv⟩ (.inr ⟨J,oc,?_,?_,⟨vs,t,hd,hv⟩⟩) λb o e hbP=>?_⟩) hf
  .rw[Zk fc];exact Za
  .rw[Zk (Zo O fn),Zk cP.symm];exact Za
  .rw[Zk fc];exact Za
  .rw[Zk (Zo e fn),Zk (Zo e cn),Zk hbP];exact e
 .have hP:=I.aK P _ O;have hfd:codeAmong rc (#[rawInt rc.line,rawInt rc.col,.ref J]).toList=some (.ref J):=by
   show(if((rc.line:Int) == rc.line&&(rc.col:Int) == rc.col)=true then some _ else _)=_;rw[sY,sY];rfl
  refine PySem.W.makeFunction_hit hcl I.ok.glob hg G (C.keeps I.bk) hP trivial hfd hb λq F h' tk hk hsz=>?_;have I2:=I.laid (t':=tk) (o:=Jn (gM X name tz sn body ut J q F)) (λb u e=>aW _ (hk b u e)) hsz (xG (bY _ U));have fn:=I.aK.fresh hsz;have sm:∀b o,H b=some o->aC H _ (Jn (gM X name tz sn body ut J q F)) b=some o:=λb o e=>by rw[Zk (Zo e fn)];exact e
  exact Jo I2 hN hi hx (v:=.ref _) U (λs' I3=>⟨_,_,I3,hq2 _ J oc q F _ fn Za (sm _ _ hc') Q (.inr ⟨J,oc,sm _ _ O,sm _ _ hc',Q⟩) λb o e _=>sm b o e⟩) hf
end
def Br(D:Ao)(w:As)(K:Af)(mg:Ae)(wn:Heap)(k:Nat)(sp:Sp)(tz:Str)(B:Av->Value->Value->Obj)(ta:TA)(i n m:Nat)(is:Aj)(ts:TS):TE:=λσ H Q=>ta σ H λvs H1=>
 ∃(f C:Av)(oc:Obj)(q g:Au),σ[i]?=some (ac f)/\H1 f=some (Jn (B C q g))/\H1 C=some (Jn oc)/\v8 oc tz /\
 ∀(cs:List Av)(H2:Hp),(∀c∈cs,H1 c=none)->(∀c∈cs,∃o,H2 c=some (Jn o))->(∀b o,H1 b=some o->H2 b=some o)->
  XN D w K mg wn k f H2 (NP n m ts cs (is.map λi=>(σ[i]?).getD none))->sp vs H2 (λv F=>Q v (aQ cs F)) E0
structure Ov(S0 ut:Scope)(N0 ps ls ys:Ai)(is:Aj):Prop where
 sc:Im ut ps ls ys
 free:∀y∈ut.names,y.2=.free->S0.names.lookup y.1=some .cell
 E6:∀q∈ys.zip is,N0[q.2]?=some q.1
 len:ys.length=is.length
section
variable {X:Cx}{sn:Arguments}{body:List Ax}{ut:Scope}{p pos:Pos}{g:Av}{name tz x:Str}{k kl:Nat}{gd:An}{pg ps ls ys:Ai}{is:Aj}{sp:Sp}{ts:TS}{e:Aw}{es:Am}{ta:TA}
def Ss(F:uS X.prog X.w X.K X.mg X.base j3 k g gd pg sp)(hr:JP k X.A)(hg:Gl X x)(hm:X.mg x=some (.ref g))(hk:PySem.W.keepIn X.K (.ref g)=true)(hb:cZ X.K gd pg [])(hfn:X.fn=λ_=>true)
  (ha:QA X (e::es) ta) {S0:Scope} {N0:Ai} (hX:X.env.scope=S0) (hXN:X.N=N0) (LL:Ov S0 ut N0 ps ls ys is)
  (J:∀(cl:List (Str×Av))(doc pm cv Y:Au)(T:Ag),T.length=ps.length->bindArgs (PySem.W.fnX name tz sn body ut cl .none .none doc pm none cv Y) ⟨T,[]⟩=pure (ps.zip T))
  (G:∀(f c':Av)(cl:List (Str×Av))(A:Aq)(xz:List Env)(s:Ar)(H1:Hp),JP kl (A.deeper (PySem.W.envX tz ut s.heap.objs.size f (.ref c') (cellsFrom (s.heap.objs.size+1) ut.names cl)))->mC (FJ X.prog X.w X.K X.mg X.base (ps++(ls++ys)) tz ut f (.ref c') cl A xz s H1) body ts)
  (hdb:(x == ("__debug__" : Str))=false:=by decide) (hp:(e::es).all Yx=true:=by rfl):
  QE X (.Call (.Name x p) (e::es) [] pos) (Br X.prog X.w X.K X.mg X.base (kl+1) sp tz (gM X name tz sn body ut) ta i ps.length ls.length is ts):=by
 rw[mS,lI]at hp;have S:=LL.sc;have B:∀y∈ut.names,y.2=.free->X.env.scope.names.lookup y.1=some .cell:=λy hy h=>by rw[hX];exact LL.free y hy h
 refine⟨?_⟩;intro zn s σ H Q I hw;refine pR (vX I hg hm (L5 I.ok.mod.Ea hk (aP (ha.out pos zn s σ H _ I hw) λT s1 ⟨vs,H1,D,r,f,c',oc,Y,doc,hσ,hf,hc',hoc,q⟩=>⟨D.fE,?_⟩) (ZC hp.1) (Wk hp.2)) hdb);have O:∀y d,(vp _ _ []).lookup y=some d->X.env.cells.lookup y=some d:=
  qA (λy hy h=>D.ok.has y.1 (.inl (B y hy h))) λ_ _ z=>by cases z
 have C:=zU D;have Z:=kD D;refine j5 F hr hb hfn D r (q _ _ (Jc D) (λd m=>let⟨o,_,e,_⟩:=Z d m;⟨o,e⟩) C ?_);exact kW S (C _ _ hf) (C _ _ hc') hoc (λy d h=>XD.mpr ⟨y,O y d h⟩) (λd m=>let⟨o,v,e,hd,_⟩:=Z d m;⟨o,v,e,hd⟩) (λy z d h1 h2=>D.ok.inj y z d (O y d h1) (O z d h2)) (λy h=>G7 h) (by rw[aI,LL.len])
  (gH (N0:=N0) D B S.free (λq hq=>by rw[hXN];exact LL.E6 q hq) LL.len) (λT hl=>J _ _ _ _ _ T hl) λA xz s H1 hr=>(G f c' _ A xz s H1 hr).out
end
def QE.or{t u:TE}(h:QE X e t)(g:QE X e u):QE X e (λσ H Q=>t σ H Q\/u σ H Q):=⟨λzn s σ H Q I z=>z.elim (h.out zn s σ H Q I) (g.out zn s σ H Q I)⟩
def QS.or{e:Ax}{t u:TS}(h:QS X e t)(g:QS X e u):QS X e (λD σ H=>t D σ H\/u D σ H):=⟨λzn s σ H D I z=>z.elim (h.out zn s σ H D I) (g.out zn s σ H D I)⟩
def SG(tk tv:TE):TE:=λσ H Q=>∀d,H d=none->tk σ (aC H d (.dK [])) λx H1=>tv σ H1 λv H2=>∃(Kk:Type)(_:DecidableEq Kk)(kn:KN Kk)(a:Av)(k:Kk),x=.ref a/\H2 d=some (.dK [])/\kn.at_ H2 k a /\
 ∀H',zm kn H' d [(k,v)]->(∀b o,H2 b=some o->b≠d->H' b=some o)->(∃o,H'=aC H2 d o)->Q (.ref d) H'
def Tn{k v:Aw}{tk:TE}(hu:X.A.units+2<cLine)(G:QE X k tk)(hv:QE X v J):QE X (.Dict [some k] [v] p) (SG tk J):=by
 refine⟨λzn s σ H Q I q=>(wpAny_Dict_any U U nofun Ve (aP (Rg G hv zn _ σ _ _ (I.laid (λ_ _ q=>aW _ q) (aM _) (kr s.heap I.big)) (q _ (I.aK.fresh (aM _)))) λws s2 ⟨x,y,u,r,H2,Z,g,O,ry,Kk,_,kn,a,kk,ex,e,B,q2⟩=>?_))⟩;subst Z ex;cases(O);have n:zm kn H2 _ []:=⟨iW,(show 0<sizeLine by decide),.inl ⟨U,e⟩⟩;refine ω (n.dict g) (ε1 λxs=>θ3 λdd pr F C=>?_);cases pr;unfold storeAll;rw[LI];refine ab (ab (wpAny_dictSet_heap (kn.iM _ _ _ hu) (kn.ok _ _ _ _ _ _ g.aK B) dd λh' dd' hs=>aG ?_));show wpAny _ _ _ _ _ _;obtain⟨H',Y,T,o',D⟩:=kF g n B ry (show 0+1<sizeLine by decide) .nil F C U dd' hs;exact aG ⟨.ref _,H',D,U,q2 H' Y T o'⟩
def PI.or{t u:TI}(h:PI X tg l t)(g:PI X tg l u):PI X tg l (λσ H R=>t σ H R\/u σ H R):=λzn s σ H R I z=>z.elim (h zn s σ H R I) (g zn s σ H R I)
def QI.or{t u:TI}(h:QI X tg l t)(g:QI X tg l u):QI X tg l (λσ H R=>t σ H R\/u σ H R):=⟨PI.or h.out g.out⟩
section
variable {ww:Ao}{w:As}{A:Aq}{R:Result->Shared->Prop}{I:Av}{fp wr:List Av}{n:Nat}{P:Nat->Value->Prop}{St:Nat->Heap->Prop}{d:Au}
theorem Zo6(W:Walks ww w A.in1 I fp wr n P St)(bt:Nat->Nat->Bool)(hcmp:CmpOf ww w A.in1 .Gt P bt)(S:Av)(hSf:S∉fp):
  ∀(k j:Nat)(s:Ar)(J:Au)(c:Nat),n-(j+1)=k->j+1<=n->St (j+1) s.heap->P (argBest bt j) J->
  s.heap.get? S=some {cls:=.type "list",dict:=none,data:=.seq #[J,J] c,slots:=#[]}->
  (∀v h' tk,P (argBest bt (n-1)) v->(∀b o,b∉wr->b≠S->s.heap.get? b=some o->h'.get? b=some o)->R (.ok (.ret v)) {s with heap:=h',toks:=tk})->
  codeAny (model ww w) A (.builtin "max.loop" ⟨[.ref I,.none,.ref S],[("default",d)]⟩) R s:=by
 have hSw:S∉wr:=λh=>hSf (W.sub _ h);have hname:(toString "max" ++ toString ".loop" : String) = "max.loop" :=Vb
 intro k
 induction k with
 |zero=>
  intro j s J c hk hj T G hS hR;have hin:j+1=n:=Vd
  refine mD Kn ?_;refine ab (i0 hS U ?_);refine ab (DH (W.done s _ _ (hin ▸ T) λh' tk B=>?_));have D:=B S _ hSw hS;refine ab ?_;refine rH D U (ab (pW (aG ?_)));refine hR J _ tk (by rw[<-hin];exact G) λb o g q e=>(nK _ _ (eV q)).trans (B b o g e)
 |succ k ih=>
  intro j s J c hk hj T G hS hR;have Q:j+1<n:=Vc
  refine mD Kn ?_;refine ab (i0 hS U ?_);refine ab (DH (W.item (j+1) s _ _ Q T λv h' tk hP O B=>?_));have D:=B S _ hSw hS;show wpAny _ A.in1 (tryCatch _ _ >>= _) _ _ _;refine ab (DH (iZ (ab (hcmp (j+1) (argBest bt j) v J _ _ _ hP G ?_))));refine ab (iZ (oV ?_));refine ab (pW (aG ?_));cases hb:bt (j+1) (argBest bt j)with
  |true=>
   refine ab ?_;refine rH D U (ab (pW ?_));refine aG ⟨nV G0 _,ih (j+1) _ v _ Vd Q (W.frame _ _ _ O λb hbf o e=>?_) (by simp only[argBest,hb,if_true];exact hP) (gV _ D U)
    λv' Z C Y F=>?_⟩
   .exact(nK _ _ (λh:S=b=>hSf (by rw[h];exact hbf))).trans e
   .exact hR v' Z C Y λb o g q e=>F b o g q ((nK _ _ (eV q)).trans (B b o g e))
  |false=>
   refine ab (pW ?_);refine aG ⟨nV G0 _,ih (j+1) _ J c Vc Q O (by simp only[argBest,hb,FD,if_false];exact G) D λv' Z C Y F=>?_⟩;exact hR v' Z C Y λb o g q e=>F b o g q (B b o g e)
def Vj(W:Walks ww w A.in1 I fp wr n P St)(bt:Nat->Nat->Bool)(F:CmpOf ww w A.in1 .Gt P bt)(S:Av)(B:S∉fp){c:Nat}(T:St 0 s.heap)
  (hS:s.heap.get? S=some {cls:=.type "list",dict:=none,data:=.seq #[] c,slots:=#[]})
  (h0:n=0->∀h' tk,(∀b o,b∉wr->b≠S->s.heap.get? b=some o->h'.get? b=some o)->R (.ok (.ret d)) {s with heap:=h',toks:=tk})
  (hR:0<n->∀v h' tk,P (argBest bt (n-1)) v->(∀b o,b∉wr->b≠S->s.heap.get? b=some o->h'.get? b=some o)->R (.ok (.ret v)) {s with heap:=h',toks:=tk}):
  codeAny (model ww w) A (.builtin "max.loop" ⟨[.ref I,.none,.ref S],[("default",d)]⟩) R s:=by
 have Y:(toString "max" ++ toString ".loop") = "max.loop" :=Vb
 refine mD Kn (ab (i0 hS U ?_))
 by_cases Q:0<n
 .refine ab (DH (W.item 0 s _ _ Q T λv h' tk hP G q=>?_));have J:=q S _ (λh=>B (W.sub _ h)) hS;show wpAny _ A.in1 (updateSeq S _ >>= _) _ _ _;refine ab (rH J U ?_);refine aG ⟨nV G0 _,Zo6 W bt F S B _ 0 _ v _ U Q (W.frame _ _ _ G λb hbf o e=>((nK _ _ (λh:S=b=>B (by rw[h];exact hbf))).trans e)) hP (gV _ J U) λv' h'' D Z O=>(hR Q v' h'' D Z λb o g C e=>O b o g C ((nK _ _ (eV C)).trans (q b o g e)))⟩
 .have hn0:n=0:=Vc
  refine ab (DH (W.done s _ _ Vd λh' tk q=>(ab (iT (aG ?_)))));exact h0 hn0 h' tk λb o g _ e=>q b o g e
end
section
variable {ww:Ao}{w:As}{A:Aq}{E:Ab}{s:Ar}{l:Av}{xs:Array (Int×Tok)}{d:Au}
def RK(hh:A.handled=none)(J:s.heap.IsList l (intItems xs))(O:xs.size=0->∀h' tk,(∀b o,s.heap.get? b=some o->h'.get? b=some o)->Q d {s with heap:=h',toks:=tk})
  (h:0<xs.size->∀v h' tk,(intItems xs)[argBest (λi j=>decide (numAt xs i>numAt xs j)) (xs.size-1)]?=some v->(∀b o,s.heap.get? b=some o->h'.get? b=some o)->Q v {s with heap:=h',toks:=tk}):
  A2 ww w A (call (.builtin "max") [.ref l] [(Str.ofString "default",d)]) Q E s:=by
 have C:(toString "max" ++ toString ".loop") = "max.loop" :=Vb
 refine PyProof.Rows.kmk_tree PySem.F.kind_max PySem.F.plain_max PySem.F.entry_max Vf ?_;refine ab (fH (U) (ab (aG (ab (iter_intList J λs₂ e st g D=>?_)))));subst e;refine ab (fA ?_);have W:=Walks.list (prog:=ww) (w:=w) (A:=A.in1) hh _ l D (intItems xs);have hsz:(intItems xs).size=xs.size:=by simp[intItems]
 refine aG ⟨nV G0 _,Vj W _ (CmpOf.ints_gt _ (λ_ _=>intItems_at)) _ (λI=>fU _ (g _ I)) (W.frame _ _ _ st λb _ o e=>aW _ e) (bY _ U) (λG h' tk q=>(O Vc h' tk (old_kept λb o B e=>q b o B (cQ (bE e)) (aW _ e)))) λG v h' tk T q=>(h (by simp_all) v h' tk Vd (old_kept λb o B e=>q b o B (cQ (bE e)) (aW _ e)))⟩
end
def Eg(K:Af)(ta td:TE):TE:=λσ H Q=>ta σ H λx H1=>td σ H1 λy H2=>∃(p:Av)(ns:Ak),x=.ref p/\aF K H2 p (ns.map V.int)/\(ns=[]->Q y H2)/\∀m∈ns,(∀n∈ns,n<=m)->Q (.int m) H2
def Zo7 {a:Aw}  {kp:Pos} (hc:X.calm=true) (hg:Gl X "max") (hm:X.mg "max" = none) (ha:QE X a A) (hd:QE X e J) (hp:Yx a=true:=by rfl):
  QE X (.Call (.Name "max" p) [a] [⟨some "default",e,kp⟩] q) (Eg X.K A J):=by
 refine⟨λzn s σ H Q I hw=>(pR (GN I hg hm Mq ?_ Vb))⟩;have O:=ZC (op:=[]) (env:=X.env) hp;refine callWith_kw ?_ (by rw[O];rfl) (by rw[O];rfl);rw[O];refine oW (aP (ha.out zn s σ H _ I hw) λu s1 ⟨x,H1,I1,r1,q1⟩=>(Bs (kws_cons (aP (hd.out zn s1 σ H1 _ I1 q1) λu2 s2 ⟨y,H2,C,r2,p,ns,ex,hq,hz,g⟩=>kws_nil ?_))));subst ex;cases r1;obtain⟨its,r',pl,hz'⟩:=C.list hq;have hi:=eW r';obtain⟨xs,Z⟩:=hi.allInts.items;have e1:ns=xs.toList.map (·.1):=by
  rw[<-nums_intItems,<-Z];exact(hi.numsOf).symm
 refine RK (C.ok.hd hc) (Z ▸ pl.isList) (λh0 h' tk D=>⟨y,H2,C.kept D,r2,hz ?_⟩) λhsz v h' tk G D=>?_
 .grind
 have Y:=argBest_gt (numAt xs) (xs.size-1);generalize argBest _ _=b at G Y;have at_:∀j (B:j<xs.size),numAt xs j=xs[j].1/\(intItems xs)[j]?=some (.int xs[j].1 xs[j].2):=λj B=>⟨by simp[numAt,B],by simp[intItems,B]⟩;obtain⟨n1,n2⟩:=at_ b Vc;rw[n2]at G;cases G;refine⟨.int xs[b].1,H2,C.kept D,⟨_,U⟩,g _ ?_ λn T=>?_⟩
 .grind
 .rw[e1]at T;obtain⟨y,hy,rfl⟩:=bG.mp T;obtain⟨j,B⟩:=oH hy;have F:j<xs.size:=by
   grind
  have:=Y.2 j Vc;rw[(at_ j F).1,n1]at this;have ej:xs[j]=y:=by
   grind
  rw[ej]at this;exact this
def Og:V->List V->Hp->VK->Prop:=λx xs H Q=>∃i:Int,x=.int i/\xs=[]/\Q (.int ((Builtin.Int.intBits i:Nat):Int)) H
def Tc:Er X "int.bit_length" Og:=by
 rintro zn s σ H x xs v B Q I g r ⟨i,rfl,rfl,q⟩;obtain⟨t,rfl⟩:=g;cases r;exact call_int_bit_length ⟨.int _,H,I.tok _,⟨_,U⟩,q⟩
section
variable {X:Cx}{pos:Pos}
def t7{j:Nat}{y:Str}{a b:Aw}{ta:TA}{pt:Pos}{B k2 g:_}(I:X.calm=true)(G:X.N.Nodup)(hi:X.N[i]?=some x)(F:X.N[j]?=some y)(C:i≠j)
  (Q:X.env.scope.names.lookup x=some .local) (D:X.env.scope.names.lookup y=some .local) (J:QA X [a,b] ta)
  (hw:swappedStores [.Tuple [.Name x p,.Name y q] B pt] (.Tuple [a,b] k2 g) X.env=pure (some [x,y]))
  (O:swapsWithSole [.Tuple [.Name x p,.Name y q] B pt] (.Tuple [a,b] k2 g) pos.line X.env=pure false:=by rfl):
  QS X (.Assign [.Tuple [.Name x p,.Name y q] B pt] (.Tuple [a,b] k2 g) pos) (EG i j ta):=⟨Cg I G hi F C Q D J.out hw O⟩
end
section
variable {ww:Ao}{w:As}{A:Aq}{E:Ab}{s:Ar}
def kX{Q:Ag->Shared->Prop}{r:Av}{a b c:Int}{t u v:Tok}(hh:A.handled=none)(G:IsRange s.heap r a b c t u v)(g:Builtin.Range.small a b c=true)
  (J:Builtin.Range.rangeSize a b c=n) (C:n<=2^24)
  (I:∀h' tk acc,(∀b o',s.heap.get? b=some o'->h'.get? b=some o')->ItemsOf (λi v=>∃t,v=.int (a+i*c) t) acc n->Q acc.toList {s with heap:=h',toks:=tk}):
  A2 ww w A (collect (.ref r)) Q E s:=by
 refine ab (wpAny_runValue (mD F.entry_proto_collect ?_));refine ab (fA ?_);refine aG ⟨nV ML _,mD F.entry_list_iadd ?_⟩;have T:(s.heap.push {cls:=.type "list",data:=.seq ([]:Ag).toArray}).get? s.heap.objs.size=some {cls:=.type "list",data:=.seq #[] 0}:=bY _ rfl;have fin:∀(h':Heap)(tk:Nat)(acc:Ah)(q:Nat),(∀b o,s.heap.get? b=some o->h'.get? b=some o)->h'.get? s.heap.objs.size=some {cls:=.type "list",dict:=none,data:=.seq acc q,slots:=#[]}->ItemsOf (λi v=>∃t,v=.int (a+i*c) t) acc n->
   A2 ww w A (match Value.ref s.heap.objs.size with
   |Value.ref a=>do
    match (<-load a).data with
     |Data.seq xs _=>pure xs.toList
     |_=>unsupported "internal:collect"
   |_=>unsupported "internal:collect") Q E {s with heap:=h',toks:=tk}:=by
  intro h' tk acc q D B it;refine ab (wpAny_load B ?_);exact aG (I h' tk acc D it)
 refine iJ (wpAny_extend_range (A:=A) (R:=λr s'=>r=.ok (.ret (.ref s.heap.objs.size))/\∃h' tk acc q,s'={s with heap:=h',toks:=tk}/\(∀b o,s.heap.get? b=some o->h'.get? b=some o)/\h'.get? s.heap.objs.size=some {cls:=.type "list",dict:=none,data:=.seq acc q,slots:=#[]}/\ItemsOf (λi v=>∃t,v=.int (a+i*c) t) acc n)
  hh (aW _ G) g J C _ _ 0 T λh' tk acc q D B it=>⟨U,h',tk,acc,q,U,λb o e=>D b o (cQ (bE e)) (aW _ e),B,it⟩) (λY s' h=>?_) (λe s' h=>?_)
 .cases Y with
  |done f=>
   revert h;refine θ1 λe=>ε4 λh' tk acc q=>θ3 λzq0 g1 g2 Z=>?_;subst zq0;cases e;exact fin h' tk acc q g1 g2 Z
  |again q=>exact⟨h.1,sX h.2 λr O G=>Vd⟩
 .exact absurd h.1 Ve
end
open AutoSeq1 (wpAny_loadPart')
def xO(r:Av)(a b c:Int)(t u v:Tok)(n:Nat)(q:Builtin.Range.small a b c=true)(O:Builtin.Range.rangeSize a b c=n)(B:n<=2^24):
  Meets (Builtin.«tuple.__new__» ⟨[.type "tuple",.ref r],[]⟩)
   (λA R s=>A.handled=none/\IsRange s.heap r a b c t u v/\∀(h':Heap) tk acc,(∀b o',s.heap.get? b=some o'->h'.get? b=some o')->ItemsOf (λi v=>∃t,v=.int (a+i*c) t) acc n->R (.ok (.ret (.ref h'.objs.size))) {s with heap:=h'.push {cls:=.type "tuple",data:=.seq acc},toks:=tk}):=
 .of_wp λww w A R s h=>by
  obtain⟨I,g,d,tk,os⟩:=s;obtain⟨hh,G,h⟩:=h;have J:=sub_tuple_self;have C:=init_tuple_lookup;have Q:=madeHere_tuple;have F:A.in1.handled=none:=hh;have Y:Shared.TypeIs ⟨I,g,d,tk,os⟩ (.ref r) "range" :=⟨_,G,U⟩;have D:I.get? r=some {cls:=.type "range",data:=.fields #[.int a t,.int b u,.int c v]}:=G
  wp_walk using wpAny_loadPart' D,B0 Y,kX F G q O B
  intro h' tk acc T it;show wpAny _ _ (Builtin.Tuple.tupleExact acc.toList.toArray >>= λv=>ret v) _ _ _;unfold Builtin.Tuple.tupleExact;refine ab (fA ?_ (by show acc.toList.toArray.size<=sizeLine;simp only[Array.toArray_toList];rw[it.1,CY];lia));refine aG ⟨_,U,?_⟩;have e:acc.toList.toArray=acc:=Ve
  rw[e];exact h h' tk acc T it
section
variable {ww:Ao}{w:As}{A:Aq}{E:Ab}{s:Ar}
theorem z8{r:Av}{a b c:Int}{t u v:Tok}(hh:A.handled=none)(G:IsRange s.heap r a b c t u v)(g:Builtin.Range.small a b c=true)
  (C:Builtin.Range.rangeSize a b c=n) (q:n<=2^24)
  (h:∀(h':Heap) tk acc,(∀b o',s.heap.get? b=some o'->h'.get? b=some o')->ItemsOf (λi v=>∃t,v=.int (a+i*c) t) acc n->Q (.ref h'.objs.size) {s with heap:=h'.push {cls:=.type "tuple",data:=.seq acc},toks:=tk}):
  A2 ww w A (call (.type "tuple") [.ref r]) Q E s:=
 FA F.called_tuple Vb (F.typeCall_tuple_1 _) (F.newCall_tuple_1 _) (λB=>KW B _) F.entry_tuple_new
  (xO r a b c t u v n g C q) ⟨hh,G,λh' tk acc D it=>⟨⟨_,bY _ U,U⟩,h h' tk acc D it⟩⟩
end
def VF(g:n<=1000000):Builtin.Range.rangeSize 0 (n:Int) 1=(n:Int)/\Builtin.Range.small 0 (n:Int) 1=true:=by
 have hsz:Builtin.Range.rangeSize 0 n 1=n:=by
  rw[rangeSize_one];split<;>simp_all
 exact⟨hsz,small_one Vb Vb Vc Vc⟩
theorem RU:∀(m:Nat)(g:Ag)(k:Nat),g.length=m->(∀j v,g[j]?=some v->∃t,v=Value.int ((k+j:Nat):Int) t)->aJ ((List.range' k m).map λi:Nat=>V.int i) g:=λm=>by
 induction m with
 |zero=>
  intro g k q _;rw[sW q];exact .nil
 |succ m B=>
  intro g k q hh;cases g with
  |nil=>cases q
  |cons u g=>
   refine .cons ?_ (B g _ Vd λj v C=>?_)
   .obtain⟨t,e⟩:=hh 0 u rfl;exact⟨t,e⟩
   .obtain⟨t,e⟩:=hh (j+1) v Vd;exact⟨t,Vd⟩
def BU:bootBuiltins "any" = some (.builtin "any"):=Va
def tZ:A1->Hp->VK->Prop:=λxs H Q=>∃(p:Av)(n:Nat),xs=[.ref p]/\H p=some (.nI 0 (n:Int))/\n<=1000000/\∀l,H l=none->Q (.ref l) (aC H l (.tup ((List.range n).map λi:Nat=>V.int i)))
def gN (O:X.calm=true):Wd X (.type "tuple") tZ:=by
 refine λzn s σ H xs T Q I r=>ε2 λp n=>θ3 λzq0 e D q=>?_;subst zq0;obtain⟨u,rfl,F⟩:=bZ r;cases F;refine ω ((I.aK p _ e)) (ε3 λt u v J=>?_);obtain⟨hsz,B⟩:=VF D;refine z8 (I.ok.hd O) J B hsz Vc λh' tk acc G it=>?_;have C:aE X zn σ H {s with heap:=h',toks:=tk}:=I.kept G;have g:=it.1;refine⟨.ref _,_,C.laid (λb o e=>aW _ e) (aM _) (show XA X.prog X.w _ _ _ (.tup _)from⟨by rw[aI,dS,CY];lia,_,?_,by simpa using uW.new h' acc⟩),U,q _ (C.aK.fresh (aM _))⟩;rw[List.range_eq_range'];refine RU n _ 0 g λj v Y=>?_;obtain⟨t,e⟩:=it.2 j v Vd;exact⟨t,Vd⟩
def DW(K:Af):A1->Hp->VK->Prop:=λxs H Q=>∃(p:Av)(bs:List Bool),xs=[.ref p]/\aF K H p (bs.map V.bl)/\Q (.bl (bs.any id)) H
def VJ (hc:X.calm=true):Wd X (.builtin "any") (DW X.K):=by
 rintro zn s σ H xs us Q I r ⟨p,bs,rfl,hq,q⟩;obtain⟨u,rfl,Z⟩:=bZ r;cases Z;obtain⟨G,O,pl,hz⟩:=I.list hq;have F:=pl.isList;have g:=O.length;rw[aI]at g;refine call_any_walk (Dz F ?_);refine⟨_,_,_,_,_,_,λi=>(bs[i]?).getD false,U,Walks.list (A:=X.A.in1) (I.ok.hd hc) _ p (cQ (by obtain⟨_,e,_⟩:=F;exact bE e)) _,
  ⟨⟨_,bY _ U,U,U⟩,F.push _⟩,λi v s' Q' E' hP J=>?_,λh' tk Y=>?_⟩
 .have hi:=by simpa using hP
  have C:i<bs.length:=Vd
  obtain⟨w',e1,e2⟩:=O.get (by rw[aY,aR C];rfl);rw[hi]at e1;cases e1;cases e2;simp[aR C]at J;exact oV J
 .have e:((List.range G.toArray.size).any λi=>(bs[i]?).getD false)=bs.any id:=by
   rw[nA,<-g,pA,AM,AM];constructor
   .rintro⟨i,hi,z⟩;have B:=fV.mp hi;refine⟨_,f7 B,?_⟩;simpa[aR B]using z
   .rintro⟨b,C,z⟩;obtain⟨i,hi,rfl⟩:=Ig C;exact⟨i,fV.mpr hi,Vd⟩
  rw[e];refine⟨.bl _,H,I.kept (λb o D=>Y b o (λT=>?_) (aW _ D)),U,q⟩;rw[b9.mp T]at D;exact absurd (bE D) (fU _)
def D3:V->List V->Hp->VK->Prop:=λx vs H Q=>∃(d:Av)(k:aV)(v:V)(ul:Az),x=.ref d/\vs=[kV k,v]/\H d=some (.dK ul)/\ul.length<sizeLine /\
 (∀y,Y0 ul k=some y->Q y H)/\(Y0 ul k=none->Q v (aC H d (.dK (bB ul k v))))
def VS:Ej X "dict.setdefault" D3:=by
 refine λzn s σ H x vs v us Q I Y rv=>ε4 λd k y ul=>θ5 λzq0 zq1 e hz h1 h2=>?_;subst zq0;subst zq1;cases Y;cases rv with
 |cons r1 D=>
 cases D with
 |cons D Z=>
 cases Z;obtain⟨z,J,vs,g,dd⟩:=Hc I.aK e;refine call_meetsIn Ld dd.typeIs F.entry_dict_setdefault (F.args_dict_setdefault_3 _ _ _) (kt_meets_setdefault (Yi X.prog X.w) d (kq r1) J _) ⟨vs,dd,by rw[<-g.length];exact z,λv' G=>?_,λG h' dd' hs=>?_⟩
 .cases hy:Y0 ul k with
  |none=>
   have:=wQ.none_of (by rw[<-hy];exact g.val k);rw[G]at this;cases this
  |some B=>
   obtain⟨T,hw,C⟩:=wQ.some_of (v:=B) (by rw[<-hy];exact g.val k);rw[G]at hw;cases hw;exact⟨B,H,I.tok _,C,h1 B hy⟩
 .have O:Y0 ul k=none:=by
   cases hy:Y0 ul k with
   |none=>rfl
   |some B=>
    obtain⟨T,hw,C⟩:=wQ.some_of (v:=B) (by rw[<-hy];exact g.val k);rw[G]at hw;cases hw
  have he:∃q,h'.get? d=some q:=let⟨q,_,_,hq,_⟩:=dd';⟨q,hq⟩;have hl:(bB ul k y).length<=sizeLine:=by have:=XB ul k y;lia
  exact⟨y,_,xC I (by rw[e];exact True.intro) hs he (MX hl J (g.put k D) dd'),D,h2 O⟩
def LF(n:Nat):It:=⟨λi _=>i<n,λi H v H'=>H'=H/\v=.int ((n:Int)-1-i),λi _=>n<=i⟩
def Sy(it:Av)(n:Nat):eA P w K tg (LF n) [it] it (λi h=>IsRangeIter h it ((n:Int)-1+(i:Nat)*(-1)) ((n:Int)-(i:Nat)) (-1))where
 mem:=Ve
 obj:=λi h st b g=>by
  simp_all
 keep:=λi h h' st k=>k it Ve _ st
 item:=by
  intro X T hw J F i zn s σ H E I B st Q;subst T hw J;refine ω (B it Ve) (θ5 λG Y Z C D O=>?_);have W:=Walks.range (prog:=X.prog) (w:=X.w) (I.ok.hd F) it ((n:Int)-1) (-1) n;refine W.item i s _ _ Q st λv h' tk hv q kk=>?_;obtain⟨t,rfl⟩:=hv;have I1:aE X zn σ H {s with heap:=h',toks:=tk}:=I.turned (λb o g e=>kk b o (by simpa using g) e) G Y C D O;refine⟨_,U,ke (s:={s with heap:=h',toks:=tk}) (n:= "range_iterator") q U U Vb ⟨.int ((n:Int)-1-i),H,I1,⟨t,?_⟩,⟨U,U⟩,q,λb g=>(B b g).1⟩⟩;rw[show(n:Int)-1+(i:Int)*(-1)=(n:Int)-1-i by lia]
 done:=by
  intro X T hw J F i zn s σ H E I B st Q;subst T hw J;obtain⟨G,Y,Z,C,D,O⟩:=B it Ve;exact wpAny_pyNext_range_end (I.ok.hd F) st (by have:n<=i:=Q;lia) λh' eb=>⟨U,I.turned (t':=s.toks) (λb o g e=>eb b o g e) G Y C D O⟩
 self:=λ_ _ _ _ _ st h=>wpAny_pyIter_rangeiter st h
def gO(n:Nat):Builtin.Range.rangeSize ((n:Int)-1) (-1) (-1)=(n:Int):=by
 unfold Builtin.Range.rangeSize;split
 .grind
 .lia
def small_down(h:n<=1000000):Builtin.Range.small ((n:Int)-1) (-1) (-1)=true:=by
 have g:∀z,-10<=z->z<=1000010->Builtin.Range.rangeFitsLong z=true:=λz h1 h2=>by
  unfold Builtin.Range.rangeFitsLong;simp;lia
 unfold Builtin.Range.small;rw[gO];simp[g (n-1) Vc Vc,g n _ Vc,g (-1) _ _]
def DS(ta:TA):TI:=λσ H R=>ta σ H λvs H1=>∃n:Nat,vs=[.int ((n:Int)-1),.int (-1),.int (-1)]/\n<=1000000/\R (LF n) H1
def Zpa {tg a b c:Aw} (hg:Gl X "range") (Z:X.mg "range" = none) (ha:QA X [a,b,c] t) (hp:Yx a=true:=by rfl) (O:Yx b=true:=by rfl) (Q:Yx c=true:=by rfl):QI X tg (.Call (.Name "range" p) [a,b,c] [] q) (DS t):=by
 refine⟨λzn s σ H R I h=>?_⟩;refine Call_ (GN I hg Z boot_range (AU (aP (ha.out q zn s σ H _ I h) λus g ⟨vs,H1,T,r1,q1⟩=>?_) (ZC hp) (by rw[ZC O,ZC Q];rfl)));obtain⟨n,e,Y,B⟩:=q1;subst e;cases r1 with
 |cons r C=>
 cases C with
 |cons r' C=>
 cases C with
 |cons G C=>
 cases C;obtain⟨t,rfl⟩:=r;obtain⟨t',rfl⟩:=r';obtain⟨F,rfl⟩:=G;refine call_range_3 Vb ?_ (Or.inl (PyProof.noPylong_small Vb));refine wpAny_pyIter_range (IsRange.new ..) (small_down Y) ?_;have D:aE X zn σ H1 {g with heap:=g.heap.push {cls:=.type "range",data:=.fields #[.int ((n:Int)-1) t,.int (-1) t',.int (-1) F]},toks:=g.toks}:=T.kept λb o e=>aW _ e;generalize g.heap.push _=J at D ⊢;refine⟨J.objs.size,[J.objs.size],_,_,H1,U,D.kept (t':=g.toks) λb o e=>aW _ e,Sy _ n,?_,λb hb=>?_,B⟩
 .rw[gO,show(n:Int)-1+((0:Nat):Int)*(-1)=(n:Int)-1 by lia];exact bY _ U
 .have e:b=J.objs.size:=by simpa using hb
  subst e;exact D.dZ (aM _) (D.aK.fresh (aM _))
theorem Zkx{g:TG}(q:Nat->St->Hp->Prop)(D:q 0 c H)
  (G:∀i c H,i<n->q i c H->g (.int ((n:Int)-1-i)) c H λC H2=>B {Z with nx:=q (i+1),ct:=q (i+1),bk:=Z.nx} C H2) (F:∀c H,q n c H->Z.nx c H):
  pB (LF n) g B Z c H:=
 ze n q D (λi c H hi p=>⟨hi,λx H' ⟨e,y⟩=>Vd⟩) λc H p=>⟨aM _,F c H p⟩
def Bd(te:TE):TI:=λσ H R=>te σ H λx H1=>∃a ul,x=.ref a/\Rd H1 a (.dK ul)/\∀o,(∀u,H1 a=some (.b7 u (.dK ul))->u=o)->R (K8 a o ul) (aC H1 a (.b7 o (.dK ul)))
def OP{X:Cx}{tg:Aw}(he:QE X e A):QI X tg e (Bd A):=by
 refine⟨λzn s σ H R I h=>?_⟩;refine aP (he.out zn s σ H _ I h) λv F ⟨y,H1,C,r1,q1⟩=>?_;obtain⟨a,ul,rfl,e,q⟩:=q1;cases r1;obtain⟨z,nm,vs,O,dd⟩:=BI C.aK e;refine ω (id dd) (ε3 λo es ep=>θ5 λB G g Y Z T=>?_);have Q:=C.freeze e B;have D:=bE B;have J:F.heap.DictAt _ a vs ep:=⟨o,es,B,G,g,Y,Z,T⟩;refine wpAny_pyIter_dict nm J ?_;have st:(F.heap.push {cls:=.type "dict_keyiterator",data:=.fields #[.ref a,.int 0 0,.int vs.length 0,.int ep 0]}).IsKeyIter F.heap.objs.size a 0 ul.length ep:=by
  rw[O.length];exact⟨_,bY _ U,U,U⟩
 refine⟨_,_,_,_,_,U,Q.kept λb o e=>aW _ e,RW a _ o ul ep ⟨es,g⟩ (cQ D),st,λb hb=>?_,q o λu hu=>?_⟩
 .have e:=by simpa using hb
  subst e;exact Q.dZ (aM _) (Q.aK.fresh (aM _))
 .have z:=C.aK a _ hu;obtain⟨z1,_⟩:=z;exact Option.some.inj (z1.symm.trans B)
end L2
namespace L2
def qK:b8 X (compareOp .IsNot) (λx y H Q=>∃a b,x=.bl a/\y=.bl b/\Q (.bl (!(a == b))) H):=by
 rintro zn s σ H x y v u Q I g B ⟨a,b,rfl,rfl,q⟩;cases g;cases B;exact aG ⟨.bl (!(a == b)),H,I,by cases a<;>cases b<;>rfl,q⟩
end L2
namespace Lw
open PySem L2
def top(i:Nat):Ax:=PySem.Challenge.pw_everywidth_k23_whole_same_by_papers.main.body.getD i (.Pass ⟨0,0,0,0⟩)
abbrev vC:Ax:=top 1
abbrev j8:Ax:=top 2
abbrev PV:Ax:=top 7
abbrev Ge:Ax:=top 12
abbrev Xx:Ax:=top 13
abbrev jA:Ax:=top 15
abbrev GP:Ax:=top 18
abbrev qL:Ax:=top 25
abbrev Gf:Ax:=top 26
abbrev qM:Ax:=top 27
abbrev Gg:Ax:=top 28
abbrev Gh:Ax:=top 30
abbrev jB:Ax:=top 36
abbrev vD:Ax:=top 40
abbrev qN:Ax:=top 42
abbrev JD:Ax:=top 47
abbrev jC:Ax:=top 48
abbrev zo:Ax:=top 54
abbrev xP:Ax:=top 55
abbrev X7:Ax:=top 56
abbrev xQ:Ax:=top 62
abbrev Gi:Ax:=top 63
abbrev jD:Ax:=top 64
abbrev jE:Ax:=top 66
abbrev qO:Ax:=top 67
abbrev qP:Ax:=top 68
abbrev vE:Ax:=top 70
abbrev vF:Ax:=top 71
abbrev Jt:Ax:=top 72
abbrev GQ:Ax:=top 74
abbrev zp:Ax:=top 75
abbrev qQ:Ax:=top 77
abbrev WV:Ax:=top 79
abbrev jF:Ax:=top 80
abbrev xR:Ax:=top 8
abbrev Xk:Ax:=top 14
abbrev vG:Ax:=top 29
abbrev gP:Ax:=top 31
abbrev WW:Ax:=top 37
abbrev jG:Ax:=top 39
abbrev qR:Ax:=top 41
abbrev Gj:Ax:=top 58
abbrev Wo:Ax:=top 61
abbrev Ju:Ax:=top 69
abbrev gQ:Ax:=top 73
abbrev GR:Ax:=top 78
abbrev Je:Ax:=top 11
abbrev Jv:Ax:=top 33
abbrev xS:Ax:=top 50
abbrev Jw:Ax:=top 57
abbrev Wy:Ax:=top 76
abbrev Wh:Ax:=top 10
abbrev gR:Ax:=top 38
abbrev qo:Ax:=top 81
abbrev Wq:Ax:=top 17
abbrev Yw:Ax:=top 46
abbrev Xl:Ax:=top 53
abbrev jH:Ax:=top 60
abbrev zq:Ax:=top 44
abbrev Gk:Ax:=top 45
abbrev vH:Ax:=top 52
abbrev HW:Ax:=top 82
def Zz:Pos:=⟨198,4,202,77⟩
def Zv:Str:=(("machine_telling" : Str) ++ ".<locals>.") ++ "step_of"
abbrev Xy:Ax:=(XY Yw).getD 3 (.Pass ⟨0,0,0,0⟩)
def ZD:Pos:=⟨218,42,218,113⟩
def ZE:Str:=(("machines_compared" : Str) ++ ".<locals>.") ++ "<lambda>"
def Jf:Pos:=⟨252,50,252,102⟩
def Jg:Str:=(("least" : Str) ++ ".<locals>.") ++ "<lambda>"
def Zd{p:Av}{o:HO}(h:H p=none):ZK H (aC H p o):=λb u e=>by rw[Zk (Zo e h)];exact e
def qS(w:Nat):(0:Int)<2^w:=by
 have h2:(2^w)=((2^w):Int):=by rfl
 have:=KO w;rw[h2];lia
def pow_succ'(w:Nat):(2:Int)^(w+1)=2^w*2:=FO 2 w
def Bc(w:Nat)(r:Int):Ak:=(List.range w).map λi=>r/2^i%2
def Kw{t u:TS}{r:VK}{b c:A0}{σ:L2.St}(J:A0)(h1:∀N:A0,(∀σ H,J σ H->N σ H)->t {Z with nx:=N} σ H)(h2:∀σ H,J σ H->u Z σ H):({nx:=Xj t u Z,rt:=r,bk:=b,ct:=c}:Ends).nx σ H:=h1 _ h2
def Zi{v:V}{Q:A0}(h:Q (c.set i (some v)) H):JO i v c H Q:=h
def Qx{P:g->Prop}{l:List g}{y:g}(h:∀x∈l,P x)(q:P y):∀x∈l++[y],P x:=Vd
theorem Yp{p:Av}{o:HO}(s:ZK H d)(g:H p=none):ZK H (aC d p o):=λb u e=>by
 rw[Zk (Zo e g)];exact s b u e
def ZQ{ns:Ak}(j:Nat)(hz:z=(j:Int))(g:j<ns.length):fN (ns.map V.int) z=ad (ns.getD j 0):=by
 subst hz;refine Yu ?_;rw[aY,cF,aR g];rfl
def R0{ns:Ak}{m:Int}(h:∀x∈ns,0<=x/\x<m)(j:Nat)(g:j<ns.length):0<=ns.getD j 0/\ns.getD j 0<m:=by
 rw[cF,aR g];exact h _ (f7 g)
def Lu{z:Str}{i:Int}(n:Nat)(q:z.cps.toList.length=n)(B:0<=i)(h1:i<(n:Int)):∃c,c∈z.cps.toList/\fN z.cps.toList i=some c:=by
 obtain⟨j,rfl⟩:∃j:Nat,i=j:=⟨i.toNat,Vc⟩;have g:j<z.cps.toList.length:=(by simp_all)
 exact⟨_,f7 g,Yu (aR g)⟩
def zY{ys:Ai}{i:Int}(q:0<=i)(h1:i<(ys.length:Int)):∃y,y∈ys/\fN (ys.map V.str) i=some (.str y):=by
 obtain⟨j,rfl⟩:∃j:Nat,i=j:=⟨i.toNat,Vc⟩;have g:j<ys.length:=Vc
 refine⟨ys[j],f7 g,Yu ?_⟩;rw[aY,aR g];rfl
theorem KZ{P:Str->Prop}:∀{vs:A1},(∀v∈vs,∃y,v=.str y/\P y)->∃ys:Ai,vs=ys.map V.str/\∀y∈ys,P y
 |[],_=>⟨[],U,λ_ h=>nomatch h⟩
 |v::r,h=>by
  obtain⟨y,rfl,q⟩:=h v bN;obtain⟨ys,rfl,g⟩:=KZ λv B=>h v (cA _ B);refine⟨y::ys,U,λz hz=>?_⟩;rcases bR.mp hz with rfl|hz
  .exact q
  .exact g z hz
def oI(xs:List g)(lo hi:Option Int):List g:=(xs.drop (HT.bW xs.length 0 lo)).take (HT.bW xs.length xs.length hi-HT.bW xs.length 0 lo)
def GC(f:g->V)(xs:List g)(lo hi:Option Int):zR (xs.map f) lo hi=(oI xs lo hi).map f:=by
 unfold zR oI;rw[aI,pQ,sQ]
def jI(xs:List g)(k:Nat):(oI xs none (some (k:Int)))=xs.take k:=by
 unfold oI;rw[HT.iK,HT.eD,List.drop_zero,Nat.sub_zero,<-List.take_take,dI]
def gS(xs:List g)(k:Nat):(oI xs (some (k:Int)) none)=xs.drop k:=by
 unfold oI;rw[HT.iK,HT.eD,i8 Ve]
 by_cases h:k<=xs.length
 .rw[Bi h]
 .rw[Nat.min_eq_right Vc,t6,List.drop_eq_nil_of_le Vc]
def jJ(xs:List g)(j k:Nat)(h:j<=xs.length):(oI xs (some (j:Int)) (some (k:Int)))=(xs.drop j).take (k-j):=by
 unfold oI;rw[HT.eD,HT.eD,Bi h]
 by_cases q:k<=xs.length
 .rw[Bi q]
 .rw[Nat.min_eq_right Vc,i8 (by rw[iD];simp_all),i8 (by rw[iD];grind)]
def gT{lo:Int}{is:Aj}(P:Nat->V->Prop)(hz:n<=sizeLine)
  (g:∀i,i<n->∀R:VK,(∀v,P i v->R v H)->A (xx is c (ad (lo+i))) H R)
  (D:∀vs:A1,vs.length=n->(∀i v,vs[i]?=some v->P i v)->∀l,H l=none->E (.ref l) (aC H l (.lst vs))):JT is oU A c E (AW lo n) H:=by
 refine xA (λi zs H'=>i<=n/\zs.length=i/\(∀j v,zs[j]?=some v->P j v)/\H'=H) ⟨cD _,U,λj v h=>by simp at h,U⟩ ?_ ?_ ?_
 .lia
 .refine λi zs H' R hR hi=>θ3 λ_ B F zq0=>?_;subst zq0;refine g i hi _ λv q=>hR _ _ ⟨hi,Vd,λj u G=>?_,U⟩
  by_cases C:j<zs.length
  .grind
  .grind(gen:=2)
 .simp_all
def Bp{vs:A1}{P:V->Prop}(h:∀(i:Nat)(v:V),vs[i]?=some v->P v):∀v∈vs,P v:=λv g=>by
 obtain⟨i,hi,rfl⟩:=Ig g;exact h i _ (aR hi)
def fI(g:Int->V):V->V
 |.int x=>g x
 |v=>v
def Cv(g:Int->V)(ns:Ak):(ns.map V.int).map (fI g)=ns.map g:=by
 rw[cR];rfl
def Y7(a b:Str):(a++b).cps.toList=a.cps.toList++b.cps.toList:=by
 rw[PySem.Str.cps_append,Array.toList_append]
def bU(a:Str):a.length=a.cps.toList.length:=by
 unfold Str.length;rw[nH]
def Zkz{j:Nat}(h:j<=x.length):(Txt.slice x none (some (j:Int))).cps.toList=x.cps.toList.take j:=by
 have e:=beq_iff_eq.mp (PyProof.Rows.slice_closes_to (x:=x) (j:=j) ⟨Vc,by rw[<-bU];lia⟩);rw[e];simp
def VY(h:i<=x.length):(Txt.slice x (some (i:Int)) none).cps.toList=x.cps.toList.drop i:=by
 rw[PyProof.Rows.slice_from_eq Vc Vc U];simp;rw[i8 (by rw[iD,<-bU];lia)]
theorem TZ(g:Str)(B:g.cps=#[]):∀ys:Ai,(Txt.join g ys).cps.toList=(ys.map (·.cps.toList)).flatten:=λys=>by
 show(Builtin.Str.glued g ys).cps.toList=_;rw[StrLaws.glued_eq_join]
 induction ys with
 |nil=>rfl
 |cons x r q=>
  cases r with
  |nil=>
   show x.cps.toList=_;simp
  |cons y r=>
   show(x++g++Str.join g _).cps.toList=_;rw[Y7,Y7,q,B];simp
theorem Ue{ys:Ai}{P:Nat->Prop}(h:∀y∈ys,∃c,y=⟨#[c]⟩/\P c):(ys.map (·.cps.toList)).flatten.length=ys.length/\(∀c∈(ys.map (·.cps.toList)).flatten,P c)/\(ys.map (·.length)).sum=ys.length:=by
 induction ys with
 |nil=>exact⟨U,λc h=>absurd h (fQ),U⟩
 |cons y r q=>
  obtain⟨c,rfl,B⟩:=h _ bN;obtain⟨h1,h2,g⟩:=q λz hz=>h z (cA _ hz);refine⟨?_,?_,?_⟩
  .simp_all
  .grind
  .rw[eE,List.sum_cons,g];show 1+r.length=r.length+1;lia
def Hn:Str:= "abcdefghijklmnopqrstuvwxyz"
def C0(c:Nat):Prop:=c∈Hn.cps.toList
instance (c:Nat):Decidable (C0 c):=inferInstanceAs (Decidable (c∈_))
def YT:Ai:=["not","neg","twice","low","and","or","odd","add","sub","pick","same","under","beneath","sign","nought","both","either","so","never","yes"]
def pM(y:Str):Prop:=(1<=y.length/\y.length<=8)/\∀c∈y.cps.toList,C0 c
instance (y:Str):Decidable (pM y):=inferInstanceAs (Decidable (_/\_))
structure Em(y:Str):Prop where
 l:pM y
 k:y∉YT
theorem Yg(y:Str):∀ys:Ai,cG (.str y) (ys.map V.str)=decide (y∈ys)
 |[]=>rfl
 |z::r=>by
  have e:cG (.str y) ((z::r).map V.str)=((z == y)||cG _ _):=rfl;rw[e,Yg y r]
  by_cases h:z=y
  .grind
  .grind
def LW{c:TT}{σ:L2.St}(q:A0)(μ:L2.St->Hp->Nat)(F:q σ H)
  (D:∀σ H,q σ H->c σ H λb H1=>if b=true then∃N:A0,(∀g H',N g H'->∃C,C<μ σ H/\C=μ g H'/\q g H')/\B {Z with nx:=N,ct:=N,bk:=Z.nx} σ H1 else Z.nx σ H1):Rb c B Z σ H:=by
 refine⟨λm σ H=>m=μ σ H/\q σ H,⟨_,U,F⟩,?_⟩;rintro m σ H ⟨rfl,p⟩;exact D σ H p
def gU(ys:Ai)(v:V):Prop:=(∃y∈ys,v=.str y)\/∃z:Int,v=.int z/\0<=z/\z<1000
def Eo:List (Str×Nat):=[("not",1),("neg",1),("twice",1),("low",1),("and",2),("or",2),("odd",2),("add",2),("sub",2),("pick",3)]
def GD:Ai:=Eo.map (·.1)
def YD(y:Str):Nat:=((Eo.find? λp=>decide (p.1=y)).map (·.2)).getD 0
def T1:List (Str×Int):=[("not",1),("neg",1),("twice",1),("low",1),("and",2),("or",2),("odd",2),("add",2),("sub",2),("pick",3)]
def T2:List (Str×Int):=[("same",2),("under",2),("beneath",2),("sign",1),("nought",1)]
def T3:List (Str×Int):=[("both",2),("either",2),("so",2),("never",1),("yes",0)]
def Yt:Ai:=["same","under","beneath","sign","nought","both","either","so","never","yes"]
theorem OV(l:List (Str×Int))(y:Str):(Y0 (bK l) (.inr y)).isSome=decide (y∈l.map (·.1)):=by
 induction l with
 |nil=>rfl
 |cons p r g=>
  by_cases h:p.1=y
  .have e:Y0 (bK (p::r)) _=some _:=YB (p:=((Sum.inr p.1),V.int p.2)) (by rw[h]);rw[e,bC Vd];rfl
  .have e:Y0 (bK (p::r)) _=Y0 (bK r) _:=Y4 (λz=>h (Sum.inr.inj z))
   by_cases m:y∈r.map (·.1)
   .grind
   .grind
def qx:List (Str×Int)->aV->Int
 |[],_=>0
 |p::r,k=>if(Sum.inr p.1:aV)=k then p.2 else qx r k
theorem AX(l:List (Str×Int))(k:aV):(Y0 (bK l) k).getD (.int 0)=.int (qx l k):=by
 induction l with
 |nil=>rfl
 |cons p r g=>
  unfold qx
  by_cases h:(Sum.inr p.1)=k
  .have e:Y0 (bK (p::r)) k=some _:=YB h;rw[e,aN h];rfl
  .have e:Y0 (bK (p::r)) k=Y0 (bK r) k:=Y4 h;rw[e,g,aL h]
theorem jK{y:Str}(h:y∉l.map (·.1)):qx l (.inr y)=0:=by
 induction l with
 |nil=>rfl
 |cons p r g=>
  unfold qx;rw[aL (λz=>h Vd),g (λz=>h (cA _ z))]
def GF(k:aV):Int:=qx T1 k+qx T2 k+qx T3 k
def IP:∀y,y∈YT↔y∈GD\/y∈Yt:=λy=>by
 have e:YT=GD++Yt:=Va
 rw[e,dH]
def dF:V->aV
 |.int i=>.inl i
 |.str y=>.inr y
 |_=>.inl 0
def Tv(x:Str)(c:Nat):(!(Builtin.Str.occurrences x ⟨#[c]⟩ 0 x.length 1).isEmpty)=decide (c∈x.cps.toList):=by
 have h:=PyProof.Rows.in_closes (x:=x) (c:=c) U rfl;rw[beq_iff_eq]at h;rw[h]
 by_cases m:c∈x.cps.toList
 .rw[bC m,bC ((PyProof.Rows.countIn_signs c _).mpr m)]
 .rw[bO m,bO (λz=>m ((PyProof.Rows.countIn_signs c _).mp z))]
def vI(y sg:Str):Prop:=y.cps.toList≠[]/\∀c∈y.cps.toList,c∈sg.cps.toList
instance (y sg:Str):Decidable (vI y sg):=inferInstanceAs (Decidable (_/\_))
def AL(l:Aj)(p:Nat->Bool):(l.map p).all id=decide (∀c∈l,p c=true):=by
 rw[pA,i7,lN];constructor
 .exact λh c g=>h _ (mY g)
 .grind
def jL {y:Str}:y.cps.toList=[]↔y=("" : Str):=by
 constructor
 .intro h;obtain⟨a⟩:=y;have:a=#[]:=by
   grind
  subst this;decide +kernel
 .rintro rfl;decide +kernel
def rZ:V->Bool
 |.str y=>decide (y∉YT/\pM y)
 |_=>false
def DY:V->Str
 |.str y=>y
 |_=> ""
def gW(w:V):Prop:=(∃y,w=.str y/\y.length<=1000)\/∃z,w=.int z
theorem Zhn(ys:Ai):(JY ys).length<=ys.length:=by
 have h:∀(ys S:Ai),(ys.foldl ins S).length<=S.length+ys.length:=by
  intro ys
  induction ys with
  |nil=>intro S;exact aM _
  |cons y r g=>
   intro S;have h1:=g (ins S y);have h2:(ins S y).length<=S.length+1:=by
    unfold ins;split
    .simp_all
    .simp_all
   rw[sZ,lL];lia
 have:=h ys [];rw[Bg,CD]at this;exact this
def TN(g:A1):((g.filter rZ).map DY).map V.str=g.filter rZ:=by
 rw[cR];refine(mK λw hw=>?_).trans (List.map_id _);cases w with
 |str y=>rfl
 |_=>cases(iU.mp hw).2
theorem kY{y:Str}:∀{g:A1},cG (.str y) g=true↔V.str y∈g
 |[]=>⟨(λh=>nomatch h),(λh=>nomatch h)⟩
 |w::r=>by
  have e:cG _ (w::r)=(dR w _||cG (.str y) r):=rfl;have h1:dR w (.str y)=true↔V.str y=w:=by
   cases w with
   |str z=>
    show(z == y)=true↔_;rw[beq_iff_eq];exact⟨λh=>by rw[h],λh=>Vd⟩
   |_=>exact⟨(λh=>nomatch h),(λh=>nomatch h)⟩
  rw[e,Bool.or_eq_true,h1,kY,bR]
def xT:∀y∈Yt,y∈YT:=Va
def uU(w:V):Nat:=(qx T1 (dF w)+qx T2 (dF w)).toNat
def pJ(w:V):Nat:=(qx T3 (dF w)).toNat
theorem IH(h:∀p∈l,0<=p.2/\p.2<=3)(k:aV):0<=qx l k/\qx l k<=3:=by
 induction l with
 |nil=>exact⟨Int.le_refl _,(by decide:(0:Int)<=3)⟩
 |cons p r g=>
  unfold qx;split
  .exact h p bN
  .simp_all
def Fn(k:aV):0<=qx T1 k/\qx T1 k<=3:=IH Va k
def Ds(k:aV):0<=qx T2 k/\qx T2 k<=3:=IH Va k
def DT(k:aV):0<=qx T3 k/\qx T3 k<=3:=IH Va k
def aO(w:V):Nat:=(GF (dF w)).toNat
def jM(k:aV):0<=GF k/\GF k<=9:=by
 have h1:=Fn k;have h2:=Ds k;have g:=DT k;unfold GF;lia
def UG(h:i<u.length):(u.drop i).reverse=(u.drop (i+1)).reverse++[u[i]]:=Ve
def Sf(l:A1)(y:V):(l++[y])[(l++[y]).length-1]?=some y:=Vd
def BE{x:V}(h:u.reverse[i]?=some x):i<u.length/\u[u.length-1-i]?=some x:=Vd
def El (y:Str) (a:Int):Int:=if y = "not" then Builtin.bitNot a else if y = "neg" then -a else if y = "twice" then a+a else Builtin.bitAnd a (-a)
def Fg (y:Str) (a b:Int):Int:=if y = "and" then Builtin.bitAnd a b else if y = "or" then Builtin.bitOr a b else if y = "odd" then Builtin.bitXor a b else if y = "add" then a+b else a-b
def B7(ρ:Str->Int):V->List Int->Int
 |.int z,_=>z
 |.str y,[]=>ρ y
 |.str y,[a]=>El y a
 |.str y,[a,b]=>Fg y a b
 |.str _,a::b::c::_=>Builtin.bitOr (Builtin.bitAnd a b) (Builtin.bitAnd (Builtin.bitNot a) c)
 |_,_=>0
def mM(m a:Int):Int:=if a*2>=m then a-m else a
def IA(m:Int)(y:Str)(xs:Ak):Bool:=
 if y = "nought" then decide (xs.getD 0 0=0)else if y = "sign" then decide (mM m (xs.getD 0 0)<0)else if y = "same" then decide (xs.getD 0 0=xs.getD 1 0)
 else if y = "under" then decide (xs.getD 0 0<xs.getD 1 0)else decide (mM m (xs.getD 0 0)<mM m (xs.getD 1 0))
def Hd:aV->Bool
 |.inr y=>decide (y∈Yt)
 |.inl _=>false
def Rx(m n:Nat):(m &&& n)/2=m/2 &&& n/2/\(m &&& n)%2=m%2*(n%2):=by
 refine⟨Nat.and_div_two_pow (n:=1),?_⟩;rw[Nat.and_mod_two_pow (n:=1)];rcases C4 m with e|e<;>rcases C4 n with f|f<;>rw[e,f]<;>rfl
def DG(m n:Nat):(m ||| n)/2=m/2 ||| n/2/\(m ||| n)%2=m%2+n%2-m%2*(n%2):=by
 refine⟨Nat.or_div_two_pow (n:=1),?_⟩;rw[Nat.or_mod_two_pow (n:=1)];rcases C4 m with e|e<;>rcases C4 n with f|f<;>rw[e,f]<;>rfl
def Ek(m n:Nat):Builtin.bitAnd m n=((m &&& n:Nat):Int):=by
 rfl
def FP(n:Nat):¬(0:Int)<=-(n:Int)-1:=Vc
def Hv(n:Nat):(Builtin.bitNot (-(n:Int)-1)).toNat=n:=by
 unfold Builtin.bitNot;lia
def Px(m n:Nat):Builtin.bitAnd m (-(n:Int)-1)=(m:Int)-((m &&& n:Nat):Int):=by
 unfold Builtin.bitAnd;rw[bO (FP n)];rw[Hv];rfl
def Kd(m n:Nat):Builtin.bitAnd (-(m:Int)-1) n=(n:Int)-((n &&& m:Nat):Int):=by
 unfold Builtin.bitAnd;rw[bO (FP m)];rw[Hv];rfl
def Pa(m n:Nat):Builtin.bitAnd (-(m:Int)-1) (-(n:Int)-1)=-((m ||| n:Nat):Int)-1:=by
 unfold Builtin.bitAnd;rw[bO (FP n),bO (FP m)];rw[Hv,Hv];rfl
def kZ(a:Int):(∃m:Nat,a=m)\/∃m:Nat,a=-(m:Int)-1:=by
 by_cases h:0<=a
 .exact .inl ⟨a.toNat,Vc⟩
 .exact .inr ⟨(-a-1).toNat,Vc⟩
def Dr(a:Int):a%2=0\/a%2=1:=Vc
def Ep(m A:Int)(h:A%2=0\/m%2=1):(m-A)/2=m/2-A/2/\(m-A)%2=m%2-A%2:=Vc
def cM(m:Nat):(m:Int)/2=((m/2:Nat):Int)/\(m:Int)%2=((m%2:Nat):Int):=⟨U,U⟩
def pF(x:Int):(-x-1)/2=-(x/2)-1/\(-x-1)%2=1-x%2:=Vc
def Od(m n:Nat):(((m &&& n:Nat):Int))/2=((m/2 &&& n/2:Nat):Int)/\(((m &&& n:Nat):Int))%2=(m:Int)%2*((n:Int)%2):=by
 rw[(cM _).1,(cM _).2,(Rx m n).1,(Rx m n).2];exact⟨U,U⟩
def rX(m n:Nat):((m:Int)-((m &&& n:Nat):Int))/2=((m/2:Nat):Int)-((m/2 &&& n/2:Nat):Int)/\((m:Int)-((m &&& n:Nat):Int))%2=(m:Int)%2*(1-(n:Int)%2):=by
 have l:=Od m n;have h:((m &&& n):Int)%2=0\/(m:Int)%2=1:=by
  grind
 have z:=Ep _ _ h;rw[z.1,z.2,l.1,l.2];refine⟨U,?_⟩;rcases Dr m with e|e<;>rcases Dr _ with f|f<;>rw[e,f]<;>rfl
def Eh(a b:Int):Builtin.bitAnd a b/2=Builtin.bitAnd (a/2) (b/2)/\Builtin.bitAnd a b%2=a%2*(b%2):=by
 rcases kZ a with⟨m,rfl⟩|⟨m,rfl⟩<;>rcases kZ b with⟨n,rfl⟩|⟨n,rfl⟩
 .exact Od m n
 .rw[(cM m).1,(pF _).1,(pF _).2,(cM n).1,Px,Px];exact rX m n
 .rw[(cM n).1,(pF _).1,(pF _).2,(cM m).1,Kd,Kd,Ho];exact rX n m
 .rw[(pF _).1,(pF _).2,(pF _).1,(pF _).2,(cM m).1,(cM n).1,Pa,Pa,(pF _).1,(pF _).2,(cM _).1,(cM _).2,(DG m n).1,(DG m n).2];refine⟨U,?_⟩;rw[(cM m).2,(cM n).2];rcases C4 m with e|e<;>rcases C4 n with f|f<;>rw[e,f]<;>rfl
def r6(a:Int):Builtin.bitNot a/2=Builtin.bitNot (a/2)/\Builtin.bitNot a%2=1-a%2:=by
 unfold Builtin.bitNot;lia
def Ks(a b:Int):Builtin.bitOr a b/2=Builtin.bitOr (a/2) (b/2)/\Builtin.bitOr a b%2=1-(1-a%2)*(1-b%2):=by
 unfold Builtin.bitOr;have h:=Eh (Builtin.bitNot a) (Builtin.bitNot b);rw[(r6 a).1,(r6 b).1,(r6 a).2,(r6 b).2]at h;rw[(r6 _).1,(r6 _).2,h.1,h.2];exact⟨U,U⟩
def DE(a b:Int):Builtin.bitXor a b/2=Builtin.bitXor (a/2) (b/2)/\Builtin.bitXor a b%2=(a%2+b%2)%2:=by
 unfold Builtin.bitXor;have h:=Eh a b;have g:=Ks a b;have q:Builtin.bitAnd a b%2=0\/Builtin.bitOr a b%2=1:=by
  rw[h.2,g.2];rcases Dr a with e|e<;>rcases Dr b with f|f<;>rw[e,f]<;>decide
 have z:=Ep _ _ q;rw[z.1,z.2,h.1,h.2,g.1,g.2];refine⟨U,?_⟩;rcases Dr a with e|e<;>rcases Dr b with f|f<;>rw[e,f]<;>rfl
def gX(w:Nat)(n:Int):Bc (w+1) n=n%2::Bc w (n/2):=by
 unfold Bc;rw[List.range_succ_eq_map,eE,cR,rF,mV];congr 1;refine mK λi _=>?_;show n/2^(i+1)%2=n/2/2^i%2;rw[FO,Ho,Kf Vb]
theorem VB(w:Nat)(n:Int):Bc w (n%2^w)=Bc w n:=by
 induction w generalizing n with
 |zero=>rfl
 |succ w q=>
  rw[gX,gX,<-q (n/2)];have e1:n%2^(w+1)%2=n%2:=by
   rw[Int.emod_emod_of_dvd];exact⟨2^w,Vd⟩
  have e2:n%2^(w+1)/2=n/2%2^w:=by
   have g:(0:Int)<2^w:=Bj Vb;have h2:=F9 (n/2) (2^w);have B:=fF (n/2) (DB g);have C:=fY (n/2) g;have e:n%2^(w+1)=n%2+2*(n/2%2^w):=by
    have:n=n%2+2*(n/2%2^w)+2^(w+1)*(n/2/2^w):=Vd
    conv=>lhs;rw[this]
    rw[Ml];refine rT Vc ?_;lia
   rw[e];lia
  rw[e1,e2]
def fZ(w:Nat)(n:Int)(i:Nat)(h:i<w):(Bc w n).getD i 0=n/2^i%2:=by
 unfold Bc;rw[cF,aY,CV h];rfl
theorem Oa{j:Nat}(h:i<=j):(2:Int)^i<=2^j:=by
 obtain⟨d,rfl⟩:∃d,j=i+d:=⟨j-i,(by simp_all)⟩;clear h
 induction d with
 |zero=>exact Int.le_refl _
 |succ d g=>
  lia
def bt(x:Int)(k:Nat):Int:=x/2^k%2
def Xz(x:Int)(k:Nat):bt x (k+1)=bt (x/2) k:=by
 unfold bt;rw[FO,Ho,Kf Vb]
def YU(x:Int)(k:Nat):bt x k=0\/bt x k=1:=by
 unfold bt;lia
theorem Xg(k:Nat):∀a b:Int,bt (Builtin.bitAnd a b) k=bt a k*bt b k:=by
 induction k with
 |zero=>
  intro a b;unfold bt;rw[rF,mV,mV,mV,(Eh a b).2]
 |succ k g=>
  intro a b;rw[Xz,Xz,Xz,(Eh a b).1,g]
theorem qp(k:Nat):∀a b:Int,bt (Builtin.bitOr a b) k=1-(1-bt a k)*(1-bt b k):=by
 induction k with
 |zero=>
  intro a b;unfold bt;rw[rF,mV,mV,mV,(Ks a b).2]
 |succ k g=>
  intro a b;rw[Xz,Xz,Xz,(Ks a b).1,g]
theorem Wz(k:Nat):∀a b:Int,bt (Builtin.bitXor a b) k=(bt a k+bt b k)%2:=by
 induction k with
 |zero=>
  intro a b;unfold bt;rw[rF,mV,mV,mV,(DE a b).2]
 |succ k g=>
  intro a b;rw[Xz,Xz,Xz,(DE a b).1,g]
theorem XS(k:Nat):∀a:Int,bt (Builtin.bitNot a) k=1-bt a k:=by
 induction k with
 |zero=>
  intro a;unfold bt;rw[rF,mV,mV,(r6 a).2]
 |succ k g=>
  intro a;rw[Xz,Xz,(r6 a).1,g]
def jN(k:Nat):bt 0 k=0:=by
 unfold bt;rw[Int.zero_ediv];rfl
theorem Ri(k:Nat):bt (-1) k=1:=by
 induction k with
 |zero=>rfl
 |succ k g=>rw[Xz];exact g
def X0(x:Int)(w k:Nat)(h:k<w):bt (x%2^w) k=bt x k:=by
 have h1:=fZ w (x%2^w) k h;rw[VB w x,fZ w x k h]at h1;exact h1.symm
def lo(x:Int)(k:Nat):Int:=x%2^k
def yM(x:Int)(k:Nat):0<=lo x k/\lo x k<2^k:=⟨fF _ (DB (Bj Vb)),fY _ (Bj Vb)⟩
def jO(x:Int)(k:Nat):lo x (k+1)=lo x k+2^k*bt x k:=by
 unfold lo bt;have g:(0:Int)<2^k:=Bj Vb;have e1:=F9 x (2^k);have B:=fF x (DB g);have b1:=fY x g;have e3:x=(x%2^k+2^k*(x/2^k%2))+2^(k+1)*(x/2^k/2):=by
  grind
 conv=>lhs;rw[e3]
 rw[Ml];have q:x/2^k%2=0\/x/2^k%2=1:=Vc
 refine rT ?_ ?_
 .rcases q with h|h<;>rw[h]<;>lia
 .grind
def K5(x:Int)(k:Nat):x=lo x k+2^k*(x/2^k):=(F9 x _).symm
def Bu{x y:Int}{k:Nat}{c:Int}(g:c=0\/c=1)(e:lo z k+2^k*c=lo x k+lo y k)(hz:z=x+y):bt z k=(bt x k+bt y k+c)%2:=by
 have e1:=K5 x k;have e2:=K5 y k;have e3:=K5 z k;have h:2^k*(z/2^k)=2^k*(x/2^k+y/2^k+c):=Vd
 unfold bt;rw[Int.eq_of_mul_eq_mul_left (DB (Bj Vb)) h];lia
def lJ(x y:Int)(k:Nat):Int:=(lo x k+lo y k)/2^k
def IJ(x y:Int)(k:Nat):lo (x+y) k+2^k*lJ x y k=lo x k+lo y k:=by
 have e:lo (x+y) k=(lo x k+lo y k)%2^k:=by
  unfold lo;rw[<-Int.emod_add_emod,<-Int.add_emod_emod]
 rw[e];exact F9 _ _
def Lo(x y:Int)(k:Nat):lJ x y k=0\/lJ x y k=1:=by
 have g:(0:Int)<2^k:=Bj Vb;have a:=yM x k;have b:=yM y k;have q:0<=lJ x y k:=Int.ediv_nonneg Vc (Int.le_of_lt g);have B:lJ x y k<2:=Int.ediv_lt_of_lt_mul g Vc;lia
def PH(x y:Int)(k:Nat):bt (x+y) k=(bt x k+bt y k+lJ x y k)%2:=Bu (Lo x y k) (IJ x y k) U
def Qa(x y:Int):lJ x y 0=0:=by
 unfold lJ lo;rw[rF,Dh,Dh];rfl
def Q4(x y:Int)(k:Nat):lJ x y (k+1)=(bt x k+bt y k+lJ x y k)/2:=by
 have g:(0:Int)<2^k:=Bj Vb;have e1:=jO x k;have e2:=jO y k;have e3:=IJ x y k;have b:=yM (x+y) k;have e:lo x (k+1)+lo y (k+1)=lo (x+y) k+2^k*(bt x k+bt y k+lJ x y k):=by
  lia
 unfold lJ;rw[e,FO,<-Kf (Int.le_of_lt g),K6 _ _ (DB g),IT b.1 b.2,Fx];rfl
def fP(x y:Int)(k:Nat):Int:=if lo x k<lo y k then 1 else 0
def He(x y:Int)(k:Nat):fP x y k=lJ (x-y) y k:=by
 have e:=IJ (x-y) y k;have b:=yM (x-y) k;unfold fP;rcases Lo _ y k with h|h<;>rw[h]at e ⊢
 .rw[aL Vc]
 .rw[aN Vc]
def gY(x y:Int)(k:Nat):fP x y k=0\/fP x y k=1:=by
 unfold fP;split
 .exact .inr U
 .exact .inl U
def LY(x y:Int)(k:Nat):bt (x-y) k=(bt x k+bt y k+fP x y k)%2:=by
 have h:=PH (x-y) y k;rw[Int.sub_add_cancel,<-He]at h;have a:=YU (x-y) k;rw[h];lia
def QZ(x y:Int):fP x y 0=0:=by
 rw[He,Qa]
def Pm(x y:Int)(k:Nat):fP x y (k+1)=1-(1-(1-bt x k)*bt y k)*(1-fP x y k*(1-(bt x k+bt y k)%2)):=by
 rw[He,Q4,<-He,LY];rcases YU x k with a|a<;>rcases YU y k with b|b<;>rcases gY x y k with c|c<;>rw[a,b,c]<;>rfl
def lS(x:Int)(k:Nat):Int:=fP 0 x k
def MK(x:Int)(k:Nat):lS x k=0\/lS x k=1:=gY 0 x k
def V3(x:Int):lS x 0=0:=QZ 0 x
def SY(x:Int)(k:Nat):lS x (k+1)=1-(1-bt x k)*(1-lS x k):=by
 unfold lS;rw[Pm,jN];rcases YU x k with a|a<;>rcases gY 0 x k with c|c<;>rw[a,c]<;>rfl
def QJ(x:Int)(k:Nat):bt (-x) k=(bt x k+lS x k)%2:=by
 have h:=LY 0 x k;rw[Int.zero_sub,jN,Fx]at h;exact h
def By(x:Int)(k:Nat):bt (Builtin.bitAnd x (-x)) k=bt x k*(1-lS x k):=by
 rw[Xg,QJ];rcases YU x k with a|a<;>rcases MK x k with c|c<;>rw[a,c]<;>rfl
def tw(x:Int):Nat->Int
 |0=>0
 |k+1=>bt x k
theorem DJ(x:Int):∀k,tw x k=0\/tw x k=1
 |0=>.inl U
 |k+1=>YU x k
theorem Vh(x:Int):∀k,bt (x+x) k=tw x k
 |0=>by
  unfold bt;rw[rF,mV];show(x+x)%2=0;lia
 |k+1=>by
  rw[Xz,show(x+x)/2=x by lia];rfl
def p7(y:Str)(is:Ak)(k:Nat):Int:=
 if y = "twice" then tw (is.getD 0 0) k else if y = "neg" \/ y = "low" then lS (is.getD 0 0) k else if y = "add" then lJ (is.getD 0 0) (is.getD 1 0) k else fP (is.getD 0 0) (is.getD 1 0) k
def qy:Ai:=["neg","twice","low","add","sub"]
def Fv(y:Str)(bs:Ak):Int:=
 if y = "not" then 1-bs.getD 0 0 else if y = "and" then bs.getD 0 0*bs.getD 1 0 else if y = "or" then 1-(1-bs.getD 0 0)*(1-bs.getD 1 0)else if y = "odd" then(bs.getD 0 0+bs.getD 1 0)%2
 else 1-(1-bs.getD 0 0*bs.getD 1 0)*(1-(1-bs.getD 0 0)*bs.getD 2 0)
def Ei(y:Str)(bs:Ak)(h:Int):Int:=
 if y = "twice" then h else if y = "neg" then(bs.getD 0 0+h)%2 else if y = "low" then bs.getD 0 0*(1-h)else(bs.getD 0 0+bs.getD 1 0+h)%2
def Gm(is:Ak)(k i:Nat):(is.map λx=>bt x k).getD i 0=bt (is.getD i 0) k:=by
 rw[cF,cF,aY];cases is[i]? with
 |none=>exact(jN k).symm
 |some x=>rfl
def vJ:∀y∈GD,y∉qy->(y = "not" /\ YD y=1)\/(y = "and" /\ YD y=2)\/(y = "or" /\ YD y=2)\/(y = "odd" /\ YD y=2)\/(y = "pick" /\ YD y=3):=Va
def B8(ρ:Str->Int){y:Str}(q:y∈qy){is:Ak}(g:is.length=YD y)(k:Nat):Ei y (is.map λx=>bt x k) (p7 y is k)=bt (B7 ρ (.str y) is) k:=by
 unfold qy at q;simp at q;rcases q with rfl|rfl|rfl|rfl|rfl
 .match is,g with
  |[a],_=>exact(QJ a k).symm
 .match is,g with
  |[a],_=>exact(Vh a k).symm
 .match is,g with
  |[a],_=>exact(By a k).symm
 .match is,g with
  |[a,b],_=>exact(PH a b k).symm
 .match is,g with
  |[a,b],_=>exact(LY a b k).symm
def VP(ρ:Str->Int){y:Str}(q:y∈GD)(B:y∉qy){is:Ak}(g:is.length=YD y)(k:Nat):Fv y (is.map λx=>bt x k)=bt (B7 ρ (.str y) is) k:=by
 rcases vJ y q B with⟨rfl,e⟩|⟨rfl,e⟩|⟨rfl,e⟩|⟨rfl,e⟩|⟨rfl,e⟩<;>skip
 .match is,g with
  |[a],_=>exact(XS k a).symm
 .match is,g with
  |[a,b],_=>exact(Xg k a b).symm
 .match is,g with
  |[a,b],_=>exact(qp k a b).symm
 .match is,g with
  |[a,b],_=>exact(Wz k a b).symm
 .match is,g with
  |[a,b,c],_=>
   show 1-(1-bt a k*bt b k)*(1-(1-bt a k)*bt c k)=bt (Builtin.bitOr _ _) k;rw[qp,Xg,Xg,XS]
def WX:A1->Nat
 |[]=>0
 |w::r=>WX r-aO w+1
def Yh:A1->Prop
 |[]=>True
 |w::r=>aO w<=WX r/\Yh r
def lC:V->Bool
 |.str y=>decide (y∈qy)
 |_=>false
def Gn(ys:Ai)(B:Nat)(w:V):Prop:=(∃y,w=.str y/\y∈GD/\y∉ys/\aO w=YD y)\/(∃y,w=.str y/\y∈ys/\y∉qy/\aO w=0)\/∃z:Int,w=.int z/\0<=z/\z<2^B/\aO w=0
def Nk(g:0<=z)(h:z<2^i)(q:i<=k):bt z k=0:=by
 have B:=Oa q;unfold bt;rw[IT g Vc];rfl
def D5(a b h:Int):Int:=Builtin.bitOr (Builtin.bitAnd (Builtin.bitNot a) b) (Builtin.bitAnd h (Builtin.bitNot (Builtin.bitXor a b)))
def allR:Ai:=["neg","twice","low","add","sub","same","under","beneath","nought"]
def CF:Ai:=["add","sub","same","under","beneath"]
def iF(y:Str)(is:Ak)(h:Int):Int:=
 if y = "twice" then is.getD 0 0 else if y = "neg" \/ y = "low" \/ y = "nought" then Builtin.bitOr (is.getD 0 0) h else if y = "same" then Builtin.bitOr (Builtin.bitXor (is.getD 0 0) (is.getD 1 0)) h
 else if y = "add" then Builtin.bitOr (Builtin.bitAnd (is.getD 0 0) (is.getD 1 0)) (Builtin.bitAnd h (Builtin.bitOr (is.getD 0 0) (is.getD 1 0)))else D5 (is.getD 0 0) (is.getD 1 0) h
def BB(y:Str)(is:Ak)(h n:Int):Int:=
 if y = "add" \/ y = "sub" then Builtin.bitXor (Builtin.bitXor (is.getD 0 0) (is.getD 1 0)) h else if y = "neg" then Builtin.bitXor (is.getD 0 0) h else if y = "twice" then h else if y = "low" then Builtin.bitAnd (is.getD 0 0) (Builtin.bitNot h)
 else if y = "same" \/ y = "nought" then Builtin.bitNot n else if y = "under" then n else D5 (is.getD 1 0) (is.getD 0 0) h
def Cb(y:Str)(is:Ak):Int:=
 if y = "yes" then -1 else if y = "sign" then is.getD 0 0 else if y = "not" \/ y = "never" then Builtin.bitNot (is.getD 0 0)else if y = "and" \/ y = "both" then Builtin.bitAnd (is.getD 0 0) (is.getD 1 0)else if y = "or" \/ y = "either" then Builtin.bitOr (is.getD 0 0) (is.getD 1 0)
 else if y = "odd" then Builtin.bitXor (is.getD 0 0) (is.getD 1 0)else if y = "so" then Builtin.bitOr (Builtin.bitNot (is.getD 0 0)) (is.getD 1 0)else Builtin.bitOr (Builtin.bitAnd (is.getD 0 0) (is.getD 1 0)) (Builtin.bitAnd (Builtin.bitNot (is.getD 0 0)) (is.getD 2 0))
def Ez (y:Str):Nat:=if y = "yes" then 0 else if y = "sign" \/ y = "not" \/ y = "never" then 1 else if y = "pick" then 3 else 2
def PM:∀y∈allR,¬y = "twice" ->¬(y = "neg" \/ y = "low" \/ y = "nought")->y∈CF:=Va
def D6:Ai:=["not","and","or","odd","pick","both","either","so","never","yes","sign"]
def Zeh:∀y∈D6,¬y = "yes" ->¬y = "sign" ->¬(y = "not" \/ y = "never")->¬(y = "and" \/ y = "both")->¬(y = "or" \/ y = "either")->¬y = "odd" ->¬y = "so" ->3<=Ez y:=Va
def jP{m:Nat}{is:Ak}(h:is.length=m)(h2:n<=m):n<=is.length:=Vd
def and_zero(x:Int):Builtin.bitAnd x 0=0:=by
 rcases kZ x with⟨m,rfl⟩|⟨m,rfl⟩
 .rw[show 0=((0:Nat):Int)from U,Ek,Nat.and_zero]
 .rw[show 0=((0:Nat):Int)from U,Kd,Nat.zero_and];rfl
def iS(x:Int):Builtin.bitAnd x 1=x%2:=by
 obtain⟨h1,h2⟩:=Eh x 1;rw[show(1:Int)/2=0 from U,and_zero]at h1;lia
def W6(ys:Ai)(re:Str->Int)(pl:Nat)(kp:Ak):A1->List Int×Ak
 |[]=>([],[])
 |w::r=>
  let p:=W6 ys re pl kp r
  match w with
  |.str y=>
   if y∈allR then(BB y (p.1.take (aO w)) (-(kp.getD p.2.length 0)) (iF y (p.1.take (aO w)) (-(kp.getD p.2.length 0)))::p.1.drop (aO w),p.2++[iF y (p.1.take (aO w)) (-(kp.getD p.2.length 0))])
   else if y∈ys then(re y::p.1.drop (aO w),p.2)
   else(Cb y (p.1.take (aO w))::p.1.drop (aO w),p.2)
  |.int z=>(-(bt z pl)::p.1.drop (aO w),p.2)
  |_=>p
def MM(ul:Az)(ys:Ai)(re:Str->Int):Prop:=(∀y∈ys,Y0 ul (.inr y)=ad (re y))/\∀y,y∉ys->Y0 ul (.inr y)=none
def yN(ys:Ai)(w:V):Prop:=(∃y,w=.str y/\y∈allR/\y∉ys/\1<=aO w/\(y∈CF->2<=aO w))\/(∃y,w=.str y/\y∈D6/\y∉allR/\y∉ys/\aO w=Ez y)\/(∃y,w=.str y/\y∈ys/\y∉allR/\aO w=0)\/∃z:Int,w=.int z/\0<=z/\aO w=0
theorem wa:∀g:A1,(∀w∈g,yN ys w)->(W6 ys re pl kp g).1.length=WX g
 |[],_=>rfl
 |w::r,hw=>by
  have B:=wa (re:=re) (pl:=pl) (kp:=kp) r λw h=>hw w (cA _ h);have go:∀x,(x::(W6 ys re pl kp r).1.drop (aO w)).length=WX r-aO w+1:=λx=>Vd
  rcases hw w bN with⟨y,rfl,h1,_⟩|⟨y,rfl,h1,h2,q,_⟩|⟨y,rfl,h1,h2,_⟩|⟨z,rfl,_⟩
  .show(if y∈allR then _ else _:Ak×Ak).1.length=_;rw[aN h1];exact go _
  .show(if y∈allR then _ else if y∈ys then _ else _:Ak×Ak).1.length=_;rw[aL h2,aL q];exact go _
  .show(if y∈allR then _ else if y∈ys then _ else _:Ak×Ak).1.length=_;rw[aL h2,aN h1];exact go _
  .exact go _
def gZ(ys:Ai)(re:Str->Int)(pl:Nat)(kp:Ak)(w:V)(r:A1):(W6 ys re pl kp r).2.length<=(W6 ys re pl kp (w::r)).2.length:=by
 cases w with
 |str y=>
  show _<=(if y∈allR then _ else if y∈ys then _ else _:Ak×Ak).2.length;split
  .simp_all
  .split<;>exact aM _
 |_=>exact aM _
theorem ua(ys:Ai)(re:Str->Int)(pl:Nat)(kp:Ak):∀(g:A1)(j:Nat),(W6 ys re pl kp (g.drop j)).2.length<=(W6 ys re pl kp g).2.length
 |[],j=>Ve
 |w::r,0=>aM _
 |w::r,j+1=>bS (ua ys re pl kp r j) (gZ ys re pl kp w r)
theorem jQ:∀(g:A1)(j:Nat),Yh g->Yh (g.drop j)
 |[],j,_=>Vd
 |w::r,0,h=>h
 |w::r,j+1,h=>jQ r j h.2
theorem Qv:∀g:A1,WX g<=g.length
 |[]=>aM _
 |w::r=>by
  have:=Qv r;show WX r-aO w+1<=r.length+1;lia
def wb(z:Int)(ys:Ai):cG (.int z) (ys.map V.str)=false:=by
 cases q:cG _ _ with
 |false=>rfl
 |true=>
  obtain⟨x,g,e⟩:=AM.mp q;obtain⟨y,_,rfl⟩:=bG.mp g;cases e
theorem Ow(ys:Ai)(re:Str->Int)(pl:Nat)(kp:Ak):∀g:A1,(W6 ys re pl kp g).2.length<=g.length
 |[]=>aM _
 |w::r=>by
  have q:=Ow ys re pl kp r;cases w with
  |str y=>
   show(if y∈allR then _ else if y∈ys then _ else _:Ak×Ak).2.length<=r.length+1;split
   .simp_all
   .split<;>exact Nat.le_succ_of_le q
  |_=>exact Nat.le_succ_of_le q
def Lj{x:Int}(h:x=0\/x=1)(l:Nat):bt (-x) l=x:=by
 rcases h with rfl|rfl
 .exact jN l
 .exact Ri l
def KR:∀y∈GD,(y∈allR↔y∈qy):=Va
def lK(g:Ak):Int:=g.foldl (λa b=>a*2+b) 0
def we(g:Ak)(b:Int):lK (g++[b])=lK g*2+b:=by
 unfold lK;rw[nN];rfl
def Tx{b:Int}(h:D[i]?=some b):lK (D.take (i+1))=lK (D.take i)*2+b:=by
 rw[MZ,h];exact we _ b
def sm(b:Nat->Int):Nat->Int
 |0=>0
 |n+1=>sm b n+b n*2^n
theorem qT{b c:Nat->Int}:∀{n:Nat},(∀i,i<n->b i=c i)->sm b n=sm c n
 |0,_=>rfl
 |n+1,h=>by
  show sm b n+b n*2^n=sm c n+c n*2^n;rw[qT λi hi=>h i (DL hi),h n (tI n)]
theorem wg{b:Nat->Int}(g:∀i,b i=0\/b i=1):∀n,0<=sm b n/\sm b n<2^n
 |0=>⟨Int.le_refl _,(show 0<2^0 by decide)⟩
 |n+1=>by
  have q:=wg g n;have e:sm b (n+1)=sm b n+b n*2^n:=rfl;rw[e];rcases g n with z|z<;>rw[z]<;>constructor<;>omega
theorem IW{b:Nat->Int}(q:∀i,b i=0\/b i=1)(p:Nat):∀n,p<n->sm b n/2^p%2=b p
 |0,h=>absurd h (nP _)
 |n+1,h=>by
  have e:sm b (n+1)=sm b n+b n*2^n:=rfl;have D:=qS p;rw[e]
  by_cases g:p<n
  .obtain⟨k,rfl⟩:∃k,n=p+(k+1):=⟨n-p-1,Vd⟩;have e2:b (p+(k+1))*2^(p+(k+1))=2^p*(2^k*b (p+(k+1))*2):=Vd
   rw[e2,K6 _ _ Vc];have C:=IW q p _ g;simp_all
  .have e3:p=n:=Vc
   subst e3;obtain⟨B,h1⟩:=wg q p;rw[Ho,K6 _ _ Vc,IT B h1];rcases q p with z|z<;>rw[z]<;>rfl
def Zk6(r:Int)(w:Nat):r/2^w%2*2^w+r%2^w=r%2^(w+1):=by
 rw[pow_succ'];have B:=qS w;generalize (2:Int)^w=p at *;have D:0<=r%p:=fF _ Vc;have h1:r%p<p:=fY _ B;have e1:=(Int.mul_ediv_add_emod r p).symm;generalize r/p=q at *;generalize r%p=t at *;have e2:q=2*(q/2)+q%2:=Vc
 have h2:0<=q%2:=Vc
 have C:q%2<=1:=Vc
 generalize q/2=u at *;generalize q%2=b at *;subst e2;have g:b=0\/b=1:=Vc
 have e3:r=b*p+t+p*2*u:=by
  lia
 rw[e3,Ml];rcases g with rfl|rfl
 .rw[rT (by simp_all) Vc]
 .rw[rT Vc Vc]
theorem Oi(r:Int):∀w,sm (λk=>r/2^k%2) w=r%2^w
 |0=>by
  rw[rF,Dh];rfl
 |w+1=>by
  show sm _ w+r/2^w%2*2^w=_;rw[Oi r w];have:=Zk6 r w;lia
def VZ{x:Int}(h:0<=x):Builtin.bitAnd x 1=x%2:=by
 rw[PyProof.Rows.bitAnd_pp h Vb];show((x.toNat &&& 1:Nat))=x%2;rw[Nat.and_one_is_mod];lia
def AY{r:Int}(h:0<=r)(k:Nat):0<=r/2^k:=Int.ediv_nonneg h (Int.le_of_lt (qS k))
open Classical in
def keysOf(ys:Ai):List aV:=ys.foldl (λks y=>if(Sum.inr y:aV)∈ks then ks else ks++[Sum.inr y]) []
open Classical in
theorem jR(ys:Ai)(y:Str):keysOf (ys++[y])=if(Sum.inr y:aV)∈keysOf ys then keysOf ys else keysOf ys++[Sum.inr y]:=by
 unfold keysOf;rw[nN];rfl
theorem snoc_ind{P:List g->Prop}(q:P [])(C:∀l a,P l->P (l++[a])):∀l,P l:=λl=>by
 rw[<-List.reverse_reverse l]
 induction l.reverse with
 |nil=>exact q
 |cons a r B=>
  rw[rY];exact C _ _ B
def RF{ul:Az}{k:aV}:(ul.any λg=>decide (g.1=k))=true↔k∈ul.map (·.1):=Vd
def Ur{ul:Az}{ys:Ai}(h:ul.map (·.1)=keysOf ys)(y:Str)(v:V):(bB ul (.inr y) v).map (·.1)=keysOf (ys++[y]):=by
 rw[jR,<-h];unfold bB
 by_cases g:(Sum.inr y)∈ul.map (·.1)
 .rw[aN (RF.mpr g),aN g,cR];apply mK;intro p _;show(if p.1=Sum.inr y then(p.1,v)else p).1=p.1;split<;>rfl
 .grind
structure i4(ul:Az)(ys:Ai)(f:Str->Int):Prop where
 keys:ul.map (·.1)=keysOf ys
 val:∀y∈ys,Y0 ul (.inr y)=ad (f y)
 all:∀p∈ul,∃y∈ys,p=(.inr y,.int (f y))
def Zpn{ul:Az}{k:aV}{v:V}{P:aV×V->Prop}(h:∀p∈ul,p.1≠k->P p)(q:P (k,v)):∀p∈bB ul k v,P p:=λp g=>by
 unfold bB at g;split at g
 .grind
 .grind
def i4.put{f:Str->Int}(T:i4 ul ys f)(y:Str)(z:Int):i4 (bB ul (.inr y) (.int z)) (ys++[y]) (λx=>if x=y then z else f x):=by
 refine⟨Ur T.keys y _,λx q=>?_,Zpn (λp B g=>?_) ⟨y,dW _ (b9.mpr U),Ve⟩⟩
 .rw[G9]
  by_cases e:x=y
  .rw[aN (by rw[e]),aN e]
  .have e2:¬(Sum.inr x:aV)=Sum.inr y:=λz=>e (Sum.inr.inj z)
   rw[aL e2,aL e];rcases dH.mp q with h|h
   .exact T.val x h
   .exact absurd (b9.mp h) e
 .obtain⟨x,q,rfl⟩:=T.all p B;have e:¬x=y:=λz=>g (by rw[z]);exact⟨x,iQ _ q,Vd⟩
theorem i4.same{f g:Str->Int}(T:i4 ul ys f)(h:∀y∈ys,f y=g y):i4 ul ys g:=
 ⟨T.keys,λy q=>by rw[<-h y q];exact T.val y q,λp B=>let⟨y,q,e⟩:=T.all p B;⟨y,q,Vd⟩⟩
def i4.nil{f:Str->Int}:i4 [] [] f:=⟨U,(λ_ h=>nomatch h),(λ_ h=>nomatch h)⟩
def Zei:∀(ys:Ai),(keysOf ys).length<=ys.length:=by
 refine snoc_ind (aM _) λys y g=>?_
 .rw[jR,aZ];split
  .lia
  .simp_all
def i4.mP{a:Az}{ys:Ai}{f:Str->Int}(T:i4 a ys f):a.length<=ys.length:=by
 have h1:(a.map (·.1)).length=(keysOf ys).length:=by rw[T.keys]
 rw[aI]at h1;have:=Zei ys;lia
def Te{ys:Ai}{x:V}(h:(ys.map V.str)[i]?=some x):∃y:Str,x=V.str y/\ys[i]?=some y:=Vd
structure PL(H:Hp)(p:Av)(S L:Nat)(f:Nat->Nat->V):Prop where
 ex:∃as:A1,H p=am as/\∀s,s<S->∃(a:Av)(xs:A1),as[s]?=ac a/\H a=am xs/\∀l,l<L->xs[l]?=some (f s l)
structure Qi(H:Hp)(m:Av)(S L:Nat)(nv:V)(b:Nat)(nx:Nat->Nat->Nat)(ot:Nat->Nat->V):Prop where
 ex:∃ps po,H m=am [nv,.int b,.ref ps,.ref po]/\PL H ps S L (λs l=>.int (nx s l:Int))/\PL H po S L ot
 b:b<S
 nx:∀s l,s<S->l<L->nx s l<S
abbrev Xh(l:Nat):V:=.int l
def wk(nx:Nat->Nat->Nat)(ot:Nat->Nat->V):Nat->List Nat->List V
 |_,[]=>[]
 |s,l::r=>ot s l::wk nx ot (nx s l) r
def oZ(nx:Nat->Nat->Nat):Nat->List Nat->Nat
 |s,[]=>s
 |s,l::r=>oZ nx (nx s l) r
theorem Iv:∀(xs ys:Aj)(s:Nat),wk nx ot s (xs++ys)=wk nx ot s xs++wk nx ot (oZ nx s xs) ys
 |[],_,_=>rfl
 |l::r,ys,s=>by
  show ot s l::wk nx ot _ (r++ys)=ot s l::(wk nx ot _ r++wk nx ot (oZ nx _ r) ys);rw[Iv r ys]
theorem Qb:∀(xs ys:Aj)(s:Nat),oZ nx s (xs++ys)=oZ nx (oZ nx s xs) ys
 |[],_,_=>rfl
 |l::r,ys,s=>Qb r ys _
theorem Oc{S L:Nat}(g:∀s l,s<S->l<L->nx s l<S):∀(xs:Aj)(s:Nat),s<S->(∀l∈xs,l<L)->oZ nx s xs<S
 |[],_,h,_=>h
 |l::r,s,h,q=>Oc g r _ (g s l h (q l bN)) λx B=>q x (cA _ B)
theorem Rn:∀(xs:Aj)(s:Nat),(wk nx ot s xs).length=xs.length
 |[],_=>rfl
 |l::r,s=>by
  show(wk nx ot _ r).length+1=r.length+1;rw[Rn r]
def jS{ls:Aj}{x:V}(h:(ls.map Xh)[i]?=some x):∃l:Nat,x=V.int l/\ls[i]?=some l:=Vd
def YE(g:Bool)(v:V):Prop:=(g=true/\∃x,v=.bl x)\/(g=false/\∃x,v=.int x)
def qU(H:Hp)(p:Av)(g:Ay):Prop:=∃as:A1,H p=am as/\as.length=g.length/\∀(i:Nat)(r:A1),g[i]?=some r->∃a,as[i]?=some (V.ref a)/\H a=am r
def qU.same{p:Av}(R:qU H p O)(e:ZK H H'):qU H' p O:=by
 obtain⟨as,h1,h2,g⟩:=R;refine⟨as,e _ _ h1,h2,λi r hi=>?_⟩;obtain⟨a,q,B⟩:=g i r hi;exact⟨a,q,e _ _ B⟩
def JE(r:Aj):A1:=r.map Xh
structure M4(H:Hp)(m:Av)(nm:Ai)(b:Nat)(nx:Ad)(ot:Ay):Prop where
 ex:∃pn ps po,H m=am [.ref pn,.int b,.ref ps,.ref po]/\H pn=am (nm.map V.str)/\qU H ps (nx.map JE)/\qU H po ot
def M4.same{m:Av}{nm:Ai}{b:Nat}{nx:Ad}{ot:Ay}(M:M4 H m nm b nx ot)(e:ZK H H'):M4 H' m nm b nx ot:=by
 refine ω M.ex (ε3 λpn ps g=>θ3 λh1 h2 q B=>?_);exact⟨⟨pn,ps,g,e _ _ h1,e _ _ h2,q.same e,B.same e⟩⟩
structure Wf(nm:Ai)(b:Nat)(nx:Ad)(ot:Ay)(tr:Bool):Prop where
 n3:nm.length<=3
 b:b<nx.length
 le:nx.length<=1000000
 ol:ot.length=nx.length
 nr:∀r∈nx,r.length=2^nm.length
 nl:∀r∈nx,∀s∈r,s<nx.length
 or:∀r∈ot,r.length=2^nm.length
 ok:∀r∈ot,∀v∈r,YE tr v
 bit:∀r∈ot,∀v∈r,vB v=some 0\/vB v=some 1
def Cu{A B:Hp->Prop}(h:A H):oU c H λb H2=>if b=true then A H2 else B H2:=by
 show if true=true then A H else B H;exact Xe h
def Ca{β:Type}{xs:List g}{ys:List β}{x:g}{y:β}(q:xs[i]?=some x)(B:ys[i]?=some y):(xs.zip ys)[i]?=some (x,y):=Vd
def p8(h:n<=3):2^n<=8:=pY Vb h
def cS(H:Hp)(ps:List (Int×Int))(zs:A1):Prop:=zs.length=ps.length/\∀(i:Nat)(p:Int×Int),ps[i]?=some p->∃a,zs[i]?=some (V.ref a)/\H a=am [.int p.1,.int p.2]
def cS.same{ps:List (Int×Int)}(h:cS H ps u)(e:ZK H H'):cS H' ps u:=by
 refine⟨h.1,λi p B=>?_⟩;obtain⟨a,q,g⟩:=h.2 i p B;exact⟨a,q,e _ _ g⟩
def cS.at(h:cS H ps u){x:V}(g:u[i]?=some x):∃p a,ps[i]?=some p/\x=V.ref a/\H a=am [.int p.1,.int p.2]:=by
 obtain⟨l,_⟩:=bM.mp g;have l':i<ps.length:=by rw[<-h.1];exact l
 obtain⟨a,q,B⟩:=h.2 i ps[i] (aR l');exact⟨ps[i],a,aR l',Option.some.inj (g.symm.trans q),B⟩
def cS.app{ps q:List (Int×Int)}(h:cS H ps u)(h':cS H q m):cS H (ps++q) (u++m):=by
 refine⟨by rw[aZ,aZ,h.1,h'.1],λi p g=>?_⟩
 by_cases e:i<ps.length
 .rw[eH e]at g;rw[eH (by rw[h.1];exact e)];exact h.2 i p g
 .rw[eL Vc]at g;rw[eL (by rw[h.1];lia),h.1];exact h'.2 _ p g
def cS.one{x y:Int}(h:H a=am [.int x,.int y]):cS H [(x,y)] [.ref a]:=by
 refine⟨U,λi p g=>?_⟩;cases i with
 |zero=>cases g;exact⟨a,U,h⟩
 |succ j=>cases g
def cS.nil:cS H [] []:=⟨U,λi p g=>by cases g⟩
def vK(B g:Aj):List (Int×Int):=(B.zip g).map λq=>((q.1:Int),(q.2:Int))
def RA{g:Aj}{x:V}(C:(JE S)[i]?=some x)(B:(JE g)[i]?=some y):∃p q:Nat,x=V.int p/\y=V.int q/\S[i]?=some p/\g[i]?=some q/\(vK S g)[i]?=some ((p:Int),(q:Int)):=by
 obtain⟨p,rfl,h1⟩:=jS C;obtain⟨q,rfl,h2⟩:=jS B;refine⟨p,q,U,U,h1,h2,?_⟩;unfold vK;rw[aY,(C3.mpr ⟨h1,h2⟩:(S.zip g)[i]?=some (p,q))];rfl
def Nf(r:Aj):(JE r).length=r.length:=aI _
def zZ(q g:Aj):(vK q g).length=((JE q).zip (JE g)).length:=by
 unfold vK JE;rw[aI,mI,mI,aI,aI]
theorem Za7{B:Aj}(h:Wm H ((JE S).zip (JE B)) u):cS H (vK S B) u:=by
 have key:∀{ps:List _} {u:A1},Wm H ps u->∀(i:Nat)(p:V×V),ps[i]?=some p->∃a,u[i]?=some (V.ref a)/\H a=am [p.1,p.2]:=by
  intro ps u t
  induction t with
  |nil=>intro i p g;simp at g
  | @cons a b as bs e t C=>
   intro i p g;cases i with
   |zero=>
    simp at g ⊢;subst g;exact e
   |succ j=>
    exact C j p g
 refine⟨by rw[zZ,Wm.len h],λi p g=>?_⟩;unfold vK at g;rw[aY]at g;obtain⟨q,D,rfl⟩:=eG.mp g;refine key h i (Xh q.1,Xh q.2) ?_;obtain⟨F,G⟩:=C3.mp D;unfold JE;exact C3.mpr ⟨Vd,Vd⟩
def Hq{q:List (List g)}(h:i<q.length):q[i]?=some (q.getD i []):=Vd
def YN{p:Av}(R:qU H p O)(h:i<O.length):∃as a,H p=some (HO.tup as)/\fN as (i:Int)=some (V.ref a)/\H a=am (O.getD i []):=by
 revert R;refine ε1 λas=>θ2 λh1 h2 g=>?_;obtain⟨a,q,B⟩:=g i _ (Hq h);exact⟨as,a,h1,Yu q,B⟩
def XT(nx:Ad)(i:Nat):(nx.map JE).getD i []=JE (nx.getD i []):=by
 rw[cF,cF,aY];cases nx[i]?<;>rfl
def aA{q:List (List g)}(h:i<q.length):q.getD i []∈q:=Vd
def Ft(nx1 nx2:Ad)(ot1 ot2:Ay)(ps:List (Int×Int))(p:Int×Int):Prop:=
 ∃i j:Nat,p=((i:Int),(j:Int))/\i<nx1.length/\j<nx2.length/\ot1.getD i []=ot2.getD j []/\∀q∈vK (nx1.getD i []) (nx2.getD j []),q∈ps
def CU(q g:Ai)(b1 b2:Nat)(nx1 nx2:Ad)(ot1 ot2:Ay)(ps:List (Int×Int)):Prop:=q=g/\((b1:Int),(b2:Int))∈ps/\∀p∈ps,Ft nx1 nx2 ot1 ot2 ps p
def pk(p:Int×Int):List aV:=[.inl p.1,.inl p.2]
def MJ{p q:Int×Int}(h:pk p=pk q):p=q:=by
 obtain⟨a,b⟩:=p;obtain⟨c,d⟩:=q;simp only[pk,List.cons.injEq,Sum.inl.injEq,and_true]at h;rw[h.1,h.2]
def dk(ps:List (Int×Int)):List (List aV×V):=ps.foldl (λacc p=>bB acc (pk p) (.bl true)) []
def xU(ps:List (Int×Int))(p:Int×Int):dk (ps++[p])=bB (dk ps) (pk p) (.bl true):=by
 unfold dk;rw[nN];rfl
theorem Lr{P:List g->Prop}(C:P [])(B:∀l x,P l->P (l++[x])):∀l,P l:=λl=>by
 have key:∀r:List g,P r.reverse:=by
  intro r
  induction r with
  |nil=>exact C
  |cons x r q=>rw[rY];exact B _ _ q
 have z:=key l.reverse;rw[List.reverse_reverse]at z;exact z
def vL(p:Int×Int):∀ps:List (Int×Int),(Y0 (dk ps) (pk p)).isSome=decide (p∈ps):=by
 refine Lr ?_ ?_
 .rfl
 .intro l x g;rw[xU,G9]
  by_cases e:p=x
  .simp_all
  .rw[aL (λz=>e (MJ z)),g];have:p∈l++[x]↔p∈l:=by simp[e]
   simp only[this]
def F7:∀ps:List (Int×Int),(dk ps).length<=ps.length:=by
 refine Lr (aM _) ?_;intro l x g;rw[xU,aZ];have:=XB (dk l) (pk x) (.bl true);simp only[lL,Bg];lia
def OS:∀(ps:List (Int×Int)),∀e∈dk ps,∃p∈ps,e.1=pk p:=by
 refine Lr (λe h=>nomatch h) ?_;intro l x q e g;rw[xU]at g;unfold bB at g;split at g
 .grind
 .grind
def BF{p:Int×Int}(h:p∈ps):∃e∈dk ps,e.1=pk p:=by
 have z:=vL p ps;rw[bC h]at z;unfold Y0 at z;rw[Hi]at z;obtain⟨e,g⟩:=Ie.mp z;exact⟨e,List.mem_of_find?_eq_some g,by simpa using List.find?_some g⟩
def Rd.same{u:HO}(h:Rd H a u)(e:ZK H H'):Rd H' a u:=by
 rcases h with h|⟨o,h⟩
 .exact .inl (e _ _ h)
 .exact .inr ⟨o,e _ _ h⟩
def jT{d c:Av}{ps:List (Int×Int)}{x y:Int}(h:Rd H d (.dT (dk ps)))(g:H c=am [.int x,.int y]):Dm H d (.ref c) (Y0 (dk ps) (pk (x,y))):=.inr ⟨dk ps,pk (x,y),c,h,U,g,U⟩
theorem wj:∀(xs ys:Ai),gz (xs.map V.str) (ys.map V.str)=decide (xs=ys)
 |[],[]=>rfl
 |[],_::_=>rfl
 |_::_,[]=>rfl
 |x::xs,y::ys=>by
  show(dR (.str x) (.str y)&&gz (xs.map V.str) (ys.map V.str))=_;rw[wj xs ys,show dR (.str x) (.str y)=(x == y)from U]
  by_cases e:x=y
  .subst e;simp
  .simp[e]
def qV(xs:Ai):(xs.map V.str).all WO=true:=by
 rw[Fq];exact i7.mpr λ_ _=>U
theorem ub{C:Bool}:∀{xs ys:A1},(∀v∈xs,YE C v)->(∀v∈ys,YE C v)->gz xs ys=decide (xs=ys)
 |[],[],_,_=>rfl
 |[],_::_,_,_=>rfl
 |_::_,[],_,_=>rfl
 |x::xs,y::ys,B,q=>by
  show(dR x y&&gz xs ys)=_;rw[ub (λv h=>B v (cA _ h)) (λv h=>q v (cA _ h))];have e1:dR x y=decide (x=y):=by
   rcases B x bN with⟨e,a,rfl⟩|⟨e,a,rfl⟩<;>rcases q y bN with⟨g,b,rfl⟩|⟨g,b,rfl⟩
   .rw[pA];simp[dR]
   .rw[e]at g;cases g
   .rw[e]at g;cases g
   .rw[pA];simp[dR]
  rw[e1];simp
def uc{xs:A1}(h:∀v∈xs,YE j v):xs.all WO=true:=by
 refine i7.mpr λv g=>?_;rcases h v g with⟨_,a,rfl⟩|⟨_,a,rfl⟩<;>rfl
def X3{xs:List g}{x:g}(h:xs[i]?=some x){P:g->Prop}:(∀e∈xs.take (i+1),P e)↔(∀e∈xs.take i,P e)/\P x:=by
 rw[aB h];constructor
 .simp_all
 .grind
def DU(K:Af):Sp:=λvs H Q _=>∃(B C c:Av)(q g:Ai)(b1 b2:Nat)(nx1 nx2:Ad)(ot1 ot2:Ay)(F:Bool)(ps:List (Int×Int))(D:A1),vs=[.ref B,.ref C,.ref c]/\M4 H B q b1 nx1 ot1/\M4 H C g b2 nx2 ot2/\Wf q b1 nx1 ot1 F/\Wf g b2 nx2 ot2 F/\H c=am D/\cS H ps D/\ps.length<=1000000 /\
 ∀r H',(r=true↔CU q g b1 b2 nx1 nx2 ot1 ot2 ps)->ZK H H'->Q (.bl r) H'
def cS.put{o:HO}(h:cS H ps u)(B:∀xs,H f≠am xs):cS (aC H f o) ps u:=by
 refine⟨h.1,λi p C=>?_⟩;obtain⟨a,q,g⟩:=h.2 i p C;refine⟨a,q,?_⟩;rw[Zk (λe=>B _ (by rw[<-e];exact g))];exact g
def InR(g q:Nat)(ps:List (Int×Int)):Prop:=∀p∈ps,∃i j:Nat,p=((i:Int),(j:Int))/\i<g/\j<q
theorem Oo:∀(n:Nat)(l:Aj),l.Nodup->(∀x∈l,x<n)->l.length<=n
 |0,[],_,_=>aM _
 |0,x::_,_,h=>absurd (h x bN) (nP _)
 |n+1,l,g,h=>by
  have z:=Oo n (l.erase n) (g.erase n) λx q=>by
   grind
  by_cases e:n∈l
  .simp_all
  .grind
def Tu(F:ps.Nodup)(h:InR n L ps):ps.length<=n*L:=by
 have z:=Oo (n*L) (ps.map λp=>p.1.toNat*L+p.2.toNat) ?_ ?_
 .rw[aI]at z;exact z
 .unfold List.Nodup at F ⊢;rw[MB];refine List.Pairwise.imp_of_mem (λ{a b} Q I q e=>q ?_) F;obtain⟨i,j,rfl,hi,D⟩:=h a Q;obtain⟨B,C,rfl,O,g⟩:=h b I;simp only[dr]at e;have e1:i=B:=by
   have G:(i*L+j)/L=i:=by rw[Nat.mul_comm,Nat.mul_add_div Vc,Nat.div_eq_of_lt D,Nat.add_zero]
   have Y:(B*L+C)/L=B:=by rw[Nat.mul_comm,Nat.mul_add_div Vc,Nat.div_eq_of_lt g,Nat.add_zero]
   rw[<-G,e,Y]
  subst e1;have e2:j=C:=(by simp_all)
  rw[e2]
 .intro x T;obtain⟨p,J,rfl⟩:=bG.mp T;obtain⟨i,j,rfl,hi,D⟩:=h p J;have:(i+1)*L<=n*L:=EI _ hi;rw[Nat.succ_mul]at this;lia
def Zek{x:g}(q:l.Nodup)(h:¬x∈l):(l++[x]).Nodup:=Vd
def ja{f:Nat->g}(h:i<n):((List.range n).map f)[i]?=some (f i):=Vd
def ud(xs:A1)(k:Nat):zR xs none (some (k:Int))=xs.take k:=jI xs k
def SO(xs:A1)(k:Nat):zR xs (some (k:Int)) none=xs.drop k:=gS xs k
def YO(H:Hp)(zs:A1)(g:Ay):Prop:=zs.length=g.length/\∀(i:Nat)(r:A1),g[i]?=some r->∃a,zs[i]?=some (V.ref a)/\H a=am r
def YO.same(z:YO H u O)(e:ZK H H'):YO H' u O:=by
 refine⟨z.1,λi r q=>?_⟩;obtain⟨a,g,B⟩:=z.2 i r q;exact⟨a,g,e _ _ B⟩
def YO.snoc{r:A1}(z:YO H u O)(h:H a=am r):YO H (u++[.ref a]) (O++[r]):=by
 refine⟨by rw[aZ,aZ,z.1];rfl,λi q g=>?_⟩
 by_cases e:i<O.length
 .rw[eH e]at g;rw[eH (by rw[z.1];exact e)];exact z.2 i q g
 .rw[eL Vc]at g;have B:i-O.length=0:=by
   grind
  rw[B]at g;cases g;refine⟨a,?_,h⟩;rw[eL (by rw[z.1];lia),z.1,B];rfl
def YO.nil:YO H [] []:=⟨U,λi r g=>by cases g⟩
def YO.at{H:Hp}{zs:A1}{g:Ay}(z:YO H zs g){i:Nat}{v:V}(h:zs[i]?=some v):∃a r,v=V.ref a/\g[i]?=some r/\H a=am r:=by
 have l:=(bM.mp h).1;rw[z.1]at l;obtain⟨a,q,B⟩:=z.2 i _ (aR l);exact⟨a,_,Option.some.inj (h.symm.trans q),aR l,B⟩
def nk(l:Ak):Az:=Wt (l.map (Sum.inl:Int->aV))
def L7{l:Ak}{s:Int}:(Sum.inl s:aV)∈l.map Sum.inl↔s∈l:=Vd
def IX{s:Int}(h:s∈l)(g:l.Nodup):Y0 (nk l) (.inl s)=ad (l.idxOf s:Int):=by
 have:=Gd _ _ (L7.mpr h) Vd;rw[lV Sum.inl (λ_ _=>Sum.inl.inj) s l]at this;exact this
def VX{s:Int}(h:s∉l):Y0 (nk l) (.inl s)=none:=xM _ _ λz=>h (L7.mp z)
def AJ(l:Ak):(nk l).length=l.length:=by
 unfold nk;rw[Gb,aI]
def tX{s:Int}(h:s∉l):bB (nk l) (.inl s) (.int (l.length:Int))=nk (l++[s]):=by
 unfold nk;rw[dC];show _=Wt (l.map Sum.inl++[Sum.inl s]);rw[xK,aI];unfold bB;rw[aL λz=>?_];rw[AM]at z;obtain⟨p,g,e⟩:=z;have:p.1∈(Wt _).map _:=mY g;rw[xJ,dJ e]at this;exact h (L7.mp this)
def jb(nx:Ad)(cs:Aj):List (Int×Ak):=List.zipWith (λ(c:Nat) (row:Aj)=>((c:Int),row.map λs=>(cs.getD s 0:Int))) cs nx
def jc(h:S.length=nx.length):(jb nx S).length=S.length:=by
 unfold jb;rw[List.length_zipWith,h,Hu]
theorem OF(h:S.length=nx.length):(jb nx S).map (·.1)=S.map λc:Nat=>(c:Int):=by
 unfold jb;rw[List.map_zipWith];have:∀(S:Aj)(nx:Ad),S.length=nx.length->List.zipWith (λ(c:Nat) _=>(c:Int)) S nx=S.map λc:Nat=>(c:Int):=by
  intro S
  induction S with
  |nil=>intro nx _;rfl
  |cons c r g=>
   intro nx h;cases nx with
   |nil=>cases h
   |cons x y=>rw[List.zipWith_cons_cons,eE,g y Vd]
 exact this S nx h
def Zel(h:S.length=nx.length)(g:WZ S=S)(q:(ZW (jb nx S)).length<=(ZW S).length):WZ (jb nx S)=S:=by
 have e1:ZW ((jb nx S).map (·.1))=(ZW S).map λc:Nat=>(c:Int):=by
  rw[OF h];exact kR _ _ λa _ b _ e=>Int.ofNat.inj e
 have hi:=gL (·.1) (jb nx S) Vd;rw[<-kT _ _ hi,OF h,kT (λc:Nat=>(c:Int)) S λa _ b _ e=>Int.ofNat.inj e,g]
theorem ue{p:Av}(R:qU H p O):∃bs:List Av,H p=am (bs.map V.ref)/\bs.length=O.length/\∀(i:Nat)(r:A1)(b:Av),O[i]?=some r->bs[i]?=some b->H b=am r:=by
 revert R;refine ε1 λas=>θ2 λh1 h2 B=>?_;have go:∀(as:A1)(O:List _),as.length=O.length->(∀(i:Nat)(r:A1),O[i]?=some r->∃a,as[i]?=some (V.ref a)/\H a=am r)->∃bs:List Av,as=bs.map V.ref/\∀(i:Nat)(r:A1)(b:Av),O[i]?=some r->bs[i]?=some b->H b=am r:=by
  intro as
  induction as with
  |nil=>
   exactλO q _=>⟨[],U,λi r b _ g=>by cases g⟩
  |cons v r C=>
   intro O q hh;cases O with
   |nil=>cases q
   |cons x y=>
    obtain⟨a,I,J⟩:=hh 0 x rfl;obtain⟨bs,e,g⟩:=C y Vd λi r hi=>by
     obtain⟨a,G,F⟩:=hh (i+1) r Vd;exact⟨a,Vd,F⟩
    refine⟨a::bs,?_,λi r b Q D=>?_⟩
    .grind
    .grind(gen:=1)
 obtain⟨bs,e,g⟩:=go as O h2 B;subst e;exact⟨bs,h1,Vd,g⟩
def uf[DecidableEq g](ks:List g):(ks.map λk=>((ZW ks).idxOf k:Int)).map V.int=(WZ ks).map Xh:=by
 unfold WZ;rw[cR,cR];rfl
def qW{nx:Ad}{c:Nat}{row:Aj}(q:S[i]?=some c)(g:nx[i]?=some row):(jb nx S)[i]?=some ((c:Int),row.map λs=>(S.getD s 0:Int)):=by
 unfold jb;rw[List.getElem?_zipWith,q,g]
def Zps{g:List (Ak)}{nx:Ad}(G:S.length=nx.length)(I:g.length=nx.length)(h:∀(i j:Nat)(a b:Ak),g[i]?=some a->g[j]?=some b->S[i]?=S[j]?->a=b):∀(i j:Nat)(a b:Ak),g[i]?=some a->g[j]?=some b->(WZ (jb nx S))[i]?=(WZ (jb nx S))[j]?->a=b:=λi j a b C F e=>by
 have hi:i<nx.length:=Vd
 have D:j<nx.length:=Vd
 have B:=aR (l:=S) (i:=i) (by simp_all);have q:=aR (l:=S) (i:=j) Vc;have:=(kK (qW B (aR hi)) (qW q (aR D))).mp e;refine h i j a b C F ?_;rw[B,q];exact congrArg some (Int.ofNat.inj (congrArg Prod.fst this))
def l7(nx:Ad)(l:Aj)(i:Nat):Aj:=(nx.getD (l.getD i 0) []).foldl Y1 l
def jU(nx:Ad)(b:Nat):Nat->List Nat
 |0=>[b]
 |i+1=>l7 nx (jU nx b i) i
structure vM(nx:Ad)(b:Nat)(l:Aj):Prop where
 e:l=jU nx b l.length
 go:∀i,i<l.length->i<(jU nx b i).length
theorem xV(r:Aj):∀l:Aj,l.Nodup->(r.foldl Y1 l).Nodup:=by
 induction r with
 |nil=>exactλl h=>h
 |cons k r g=>exactλl h=>g _ (Jd h k)
theorem Jx(r:Aj){x:Nat}:∀l:Aj,x∈r.foldl Y1 l↔x∈l\/x∈r:=by
 induction r with
 |nil=>intro l;simp
 |cons k r g=>
  intro l;rw[sZ,g,Wg,bR,or_assoc]
theorem jV(nx:Ad)(b:Nat):∀i,(jU nx b i).Nodup
 |0=>iO.mpr ⟨fQ,iW⟩
 |i+1=>xV _ _ (jV nx b i)
theorem MS{b:Nat}(g:b<nx.length)(q:∀row∈nx,∀s∈row,s<nx.length):∀i,∀s∈jU nx b i,s<nx.length
 |0,s,h=>by rw[b9.mp h];exact g
 |i+1,s,h=>by
  rcases(Jx _ _).mp h with z|z
  .exact MS g q i s z
  .grind
theorem Md(nx:Ad)(b j:Nat):∀d,∃r,jU nx b (j+d)=jU nx b j++r
 |0=>⟨[],(d9 _).symm⟩
 |d+1=>by
  obtain⟨r,e⟩:=Md nx b j d;obtain⟨g,e2⟩:=Wx _ (jU nx b _);refine⟨r++g,?_⟩;show l7 nx (jU nx b (j+d)) _=_;unfold l7;rw[e2,e,lW]
def BV{b j:Nat}(q:j<i)(g:j<(jU nx b j).length):(jU nx b i)[j]?=some ((jU nx b j).getD j 0):=by
 obtain⟨r,e⟩:=Md nx b j _;rw[show j+(i-j)=i by lia]at e;rw[e,eH g,cF,aR g];rfl
def fM{β:Type}(l:List g)(i:Nat)(B:l.length=i)(f:g->β)(q:Nat->β)(h:∀j a,l[j]?=some a->q j=f a):(List.range i).map q=l.map f:=by
 refine AD λj=>?_
 by_cases C:j<i
 .simp_all
 .simp_all
theorem xW(h:∀b xs,H b=am xs->H' b=am xs)(z:YO H u O):YO H' u O:=⟨z.1,λi r g=>by
 obtain⟨a,h1,h2⟩:=z.2 i r g;exact⟨a,h1,h _ _ h2⟩⟩
inductive SK(κ:Type)[DecidableEq κ]where
 |int (f:κ->Int) (inj:∀a b,f a=f b->a=b)
 |key (kn:KN κ)
def Yz(h:n<=10000000):n<sizeLine:=EB h Vb
section
variable {κ:Type}[DecidableEq κ]
def SK.at_:SK κ->Hp->κ->V->Prop
 |.int f _,_,k,v=>v=.int (f k)
 |.key kn,H,k,v=>∃a,v=.ref a/\kn.at_ H k a
def SK.lE:SK κ->Hp->Addr->List κ->Prop
 |.int f _,H,d,l=>H d=some (.dK (nk (l.map f)))
 |.key kn,H,d,l=>zm kn H d (Wt l)
def SK.keep{sk:SK κ}{H H':Hp}{k:κ}{v:V}(h:sk.at_ H k v)(e:∀b xs,H b=am xs->H' b=am xs):sk.at_ H' k v:=by
 cases sk with
 |int f _=>exact h
 |key kn=>
  obtain⟨a,rfl,g⟩:=h;exact⟨a,U,kn.keep _ _ _ _ e g⟩
def MN{d:Av}{ul:List (κ×V)}(n:zm kn H d ul):∃o,H d=some o/\(∀xs,o≠.tup xs)/\∀xs,o≠.lst xs:=by
 rcases n.2.2 with⟨_,e⟩|⟨ys,e,_⟩
 .simp_all
 .simp_all
def SK.ne{sk:SK κ}{d:Av}{l:List κ}(h:sk.lE H d l):∃o,H d=some o/\(∀xs,o≠.tup xs)/\∀xs,o≠.lst xs:=by
 cases sk with
 |int f _=>exact⟨_,h,(λ_ z=>nomatch z),λ_ z=>nomatch z⟩
 |key kn=>exact MN h
def SK.cI{sk:SK κ}{H':Hp}{d:Av}{l:List κ}(h:sk.lE H d l)(g:∀o,H d=some o->H' d=some o)(e:∀b xs,H b=am xs->H' b=am xs):sk.lE H' d l:=by
 cases sk with
 |int f _=>exact g _ h
 |key kn=>exact(by
    obtain⟨D,C,B⟩:=h;refine⟨D,C,?_⟩;rcases B with⟨e1,e2⟩|⟨ys,e1,e2⟩
    .exact .inl ⟨e1,g _ e2⟩
    .exact .inr ⟨ys,g _ e1,Paired.n9 e2 λp q h=>⟨h.1,kn.keep _ _ _ _ e h.2.1,h.2.2⟩⟩)
def SK.off{sk:SK κ}{d:Av}{l:List κ}{xs:A1}{o:HO}(h:sk.lE H d l)(e:H f=ap xs):sk.lE (aC H f o) d l:=by
 obtain⟨u,B,_,C⟩:=SK.ne h;have g:d≠f:=λz=>by
  grind
 exact SK.cI h (λo e=>by rw[Zk g];exact e) λb ys q=>by rw[Zk (Xp q e nofun)];exact q
def eQ(sk:SK κ)(H:Hp)(l:List κ)(vs:A1):Prop:=vs.length=l.length/\∀(i:Nat)(k:κ),l[i]?=some k->∃v,vs[i]?=some v/\sk.at_ H k v
theorem eQ.keep{H H':Hp}{l:List κ}{vs:A1}(h:eQ sk H l vs)(e:∀b xs,H b=am xs->H' b=am xs):eQ sk H' l vs:=⟨h.1,λi k g=>by
 obtain⟨v,h1,h2⟩:=h.2 i k g;exact⟨v,h1,SK.keep h2 e⟩⟩
def eQ.snoc{k:κ}{v:V}(h:eQ sk H l vs)(C:sk.at_ H k v):eQ sk H (l++[k]) (vs++[v]):=by
 refine⟨by rw[aZ,aZ,h.1];rfl,λi q g=>?_⟩
 by_cases e:i<l.length
 .rw[eH e]at g;rw[eH (by rw[h.1];exact e)];exact h.2 i q g
 .rw[eL Vc]at g;have B:i-l.length=0:=by
   grind
  rw[B]at g;cases g;refine⟨v,?_,C⟩;rw[eL (by rw[h.1];lia),h.1,B];rfl
def eQ.one{k:κ}{v:V}(g:sk.at_ H k v):eQ sk H [k] [v]:=eQ.snoc (l:=[]) (vs:=[]) ⟨U,λi q B=>by cases B⟩ g
def rC(nx:κ->List κ)(l:List κ)(i:Nat):List κ:=match l[i]? with
 |some s=>(nx s).foldl Y1 l
 |none=>l
def ba(nx:κ->List κ)(b:κ):Nat->List κ
 |0=>[b]
 |i+1=>rC nx (ba nx b i) i
structure bJ(nx:κ->List κ)(b:κ)(l:List κ):Prop where
 e:l=ba nx b l.length
 go:∀i,i<l.length->i<(ba nx b i).length
theorem jW(r:List κ):∀l:List κ,l.Nodup->(r.foldl Y1 l).Nodup:=by
 induction r with
 |nil=>exactλl h=>h
 |cons k r g=>exactλl h=>g _ (Jd h k)
theorem jX(r:List κ){x:κ}:∀l:List κ,x∈r.foldl Y1 l↔x∈l\/x∈r:=by
 induction r with
 |nil=>intro l;simp
 |cons k r g=>
  intro l;rw[sZ,g,Wg,bR,or_assoc]
theorem Sw(r:List κ):∀l:List κ,(r.foldl Y1 l).length<=l.length+r.length:=by
 induction r with
 |nil=>exactλl=>aM _
 |cons k r g=>
  intro l;have h1:=g (Y1 l k);have h2:=zV l k;rw[sZ,lL];lia
variable {nx:κ->List κ}{b:κ}
theorem qX:∀i,(ba nx b i).Nodup
 |0=>iO.mpr ⟨fQ,iW⟩
 |i+1=>by
  show(rC nx _ i).Nodup;unfold rC;split
  .exact jW _ _ (qX i)
  .exact qX i
set_option tactic.hygienic true in
theorem AI{Ua:List κ}(B:b∈Ua)(g:∀s∈Ua,∀x∈nx s,x∈Ua):∀i,∀s∈ba nx b i,s∈Ua
 |0,s,h=>by rw[b9.mp h];exact B
 |i+1,s,h=>by
  have h:s∈rC nx _ i:=h;unfold rC at h;split at h
  .rename_i q C;rcases(jX _ _).mp h with z|z
   .exact AI B g i s z
   .exact g q (AI B g i q (bP C)) s z
  .exact AI B g i s h
def ug{Ua:List κ}(q:b∈Ua)(g:∀s∈Ua,∀x∈nx s,x∈Ua)(i:Nat):(ba nx b i).length<=Ua.length:=Wi (qX i) (AI q g i)
def jY{s:κ}(h:(ba nx b i)[i]?=some s):ba nx b (i+1)=(nx s).foldl Y1 (ba nx b i):=by
 show rC nx _ i=_;unfold rC;rw[h]
theorem vN(j:Nat):∀d,∃r,ba nx b (j+d)=ba nx b j++r
 |0=>⟨[],(d9 _).symm⟩
 |d+1=>by
  obtain⟨r,e⟩:=vN j d;show∃r,rC nx (ba nx b (j+d)) _=_;unfold rC;split
  .obtain⟨g,e2⟩:=Wx (nx _) _;exact⟨r++g,by rw[e2,e,lW]⟩
  .exact⟨r,e⟩
def Ng{j:Nat}{s:κ}(q:j<=i)(g:(ba nx b j)[j]?=some s):(ba nx b i)[j]?=some s:=by
 obtain⟨r,e⟩:=vN (b:=b) j _;rw[show j+(i-j)=i by lia]at e;rw[e,eH (bM.mp g).1];exact g
def tO(nx:κ->List κ)(b:κ)(j:Nat):Aj:=match (ba nx b j)[j]? with
 |some s=>(nx s).map λx=>(ba nx b (j+1)).idxOf x
 |none=>[]
def yO(nx:κ->List κ)(b:κ)(i:Nat):Ay:=(List.range i).map λj=>JE (tO nx b j)
def Fz(nx:κ->List κ)(ot:κ->List V)(b:κ)(j:Nat):A1:=match (ba nx b j)[j]? with
 |some s=>ot s
 |none=>[]
def wm(nx:κ->List κ)(ot:κ->List V)(b:κ)(i:Nat):Ay:=(List.range i).map (Fz nx ot b)
def Zen{s:κ}(h:(ba nx b i)[i]?=some s):yO nx b (i+1)=yO nx b i++[((nx s).map λx=>Xh ((ba nx b (i+1)).idxOf x))]:=by
 unfold yO;rw[Bt,dC];show _++[JE _]=_;unfold tO JE;rw[h];rw[cR];rfl
def UO{s:κ}(h:(ba nx b i)[i]?=some s):wm nx ot b (i+1)=wm nx ot b i++[ot s]:=by
 unfold wm;rw[Bt,dC];show _++[Fz nx ot b i]=_;unfold Fz;rw[h]
def bF(nx:κ->List κ)(l:List κ):Ad:=l.map λs=>(nx s).map λx=>l.idxOf x
def Xm(nx:κ->List κ)(l:List κ):(bF nx l).length=l.length:=aI _
def KQ{j:Nat}{a:κ}(C:(ba nx b i).length=i)(B:∀j,j<i->j<(ba nx b j).length)(q:(ba nx b i)[j]?=some a):j<i/\(ba nx b j)[j]?=some a:=by
 have g:j<i:=Vd
 refine⟨g,?_⟩;have e:=aR (B j g);rw[Ng (a8 g) e]at q;rw[e];exact q
def UP(g:(ba nx b i).length=i)(q:∀j,j<i->j<(ba nx b j).length):yO nx b i=(bF nx (ba nx b i)).map JE:=by
 unfold yO bF;rw[cR];refine fM _ i g _ _ λj a B=>?_;obtain⟨D,e⟩:=KQ g q B;unfold tO;rw[e];congr 1;refine mK λx C=>?_;obtain⟨r,e2⟩:=vN (b:=b) _ _;rw[show j+1+(i-(j+1))=i by grind]at e2;rw[e2,kI];rw[jY e];exact(jX _ _).mpr (.inr C)
def Zic(g:(ba nx b i).length=i)(q:∀j,j<i->j<(ba nx b j).length):wm nx ot b i=(ba nx b i).map ot:=by
 refine fM _ i g _ _ λj a B=>?_;obtain⟨C,e⟩:=KQ g q B;unfold Fz;rw[e]
end
def Me(H1 H2:Hp)(r:Av)(g:A1):Prop:=H2 r=am g\/(H2 r=ap g/\H1 r=none)
def Zk8{xs:A1}{is:Aj}(B:∀R:VK,R (.ref a) H->A c H R)(q:H a=am xs\/H a=ap xs)(g:Nat->List V->Hp->Prop)(G:g 0 [] H)(C:∀i zs H,g i zs H->zs.length<=sizeLine)(I:∀i zs H',g i zs H'->∀o,H a=some o->H' a=some o)
  (F:∀i x zs H (R:A1->Hp->Prop),(∀zs H,g (i+1) zs H->R zs H)->xs[i]?=some x->g i zs H->M (xx is c (some x)) H λb H2=>if b=true then J (xx is c (some x)) H2 λy O=>R (zs++[y]) O else R zs H2)
  (D:∀zs H,g xs.length zs H->∀p,H p=none->E (.ref p) (aC H p (.lst zs))):Fy K A c H (JT is M J c E)\/E4 K A c H (JT is M J c E):=by
 rcases q with q|q
 .exact .inr (B _ ⟨a,U,⟨_,aD.of q⟩,Wv g G C (λi zs H' h=>aD.of (I i zs H' h _ q)) F D⟩)
 .exact .inl (B _ ⟨a,U,⟨_,aF.of q⟩,XR g G C (λi zs H' h=>aF.of (I i zs H' h _ q)) F D⟩)
def xX:A1->List Int
 |[]=>[]
 |.int z::r=>((Builtin.Int.intBits z:Nat):Int)::xX r
 |_::r=>xX r
theorem uh:∀g:A1,(xX g).length<=g.length
 |[]=>aM _
 |w::r=>by
  have:=uh r;cases w<;>simp[xX]<;>lia
theorem jZ:∀(a b:A1),xX (a++b)=xX a++xX b
 |[],_=>rfl
 |w::r,b=>by
  have:=jZ r b;cases w<;>simp[xX,this]
theorem ya:∀{g:A1},V.int z∈g->((Builtin.Int.intBits z:Nat):Int)∈xX g
 |w::r,h=>by
  rcases bR.mp h with rfl|h
  .exact bN
  .have:=ya h;cases w<;>skip<;>first|exact this|exact cA _ this
theorem Nj{m:Int}:∀{g:A1},m∈xX g->∃z:Int,V.int z∈g/\m=((Builtin.Int.intBits z:Nat):Int)
 |w::r,h=>by
  have go:m∈xX r->∃z:Int,V.int z∈w::r/\m=((Builtin.Int.intBits z)):=λh=>let⟨z,h1,h2⟩:=Nj h;⟨z,cA _ h1,h2⟩;cases w with
  |int z=>
   rcases bR.mp h with rfl|h
   .exact⟨z,bN,U⟩
   .exact go h
  |_=>exact go h
theorem bits_le(h:0<=z)(hz:z<2^i):Builtin.Int.intBits z<=i:=by
 unfold Builtin.Int.intBits;split
 .exact cD _
 .rename_i e;obtain⟨n,rfl⟩:=Int.eq_ofNat_of_zero_le h;have g:n≠0:=λq=>e (by rw[q];rfl);exact(Nat.log2_lt g).mpr Vd
theorem P5:∀(bs:Ak)(l:Nat),(∀b∈bs,b=0\/b=1)->bt (lK bs.reverse) l=bs.getD l 0
 |[],l,_=>jN l
 |b::r,l,h=>by
  rw[rY,we];have g:=h b bN;cases l with
  |zero=>
   unfold bt;show _=b;lia
  |succ l=>
   rw[Xz,show(lK _*2+b)/2=lK r.reverse by lia,P5 r l λb g=>h b (cA _ g)];rfl
def YF(L:Nat)(ys:Ai)(y:Str):Int:=lK ((List.range L).map λl:Nat=>bt (l:Int) (ys.idxOf y)).reverse
def W9[DecidableEq g]{l:List g}{x:g}(q:l.Nodup)(h:l[i]?=some x):l.idxOf x=i:=Vd
def Zk9{y:Str}(g:ys.Nodup)(h:ys[i]?=some y)(q:l<L):bt (YF L ys y) l=bt (l:Int) i:=by
 unfold YF;rw[W9 g h,P5 _ _ λb B=>by
  obtain⟨c,_,rfl⟩:=bG.mp B;exact YU _ _]
 rw[cF,aY,CV q];rfl
def cL:A1->Nat
 |[]=>0
 |.int z::r=>max (Builtin.Int.intBits z) (cL r)
 |_::r=>cL r
theorem Ik:∀{g:A1},V.int z∈g->Builtin.Int.intBits z<=cL g
 |w::r,h=>by
  rcases bR.mp h with rfl|h
  .exact Nat.le_max_left _ _
  .have:=Ik h;cases w<;>simp[cL]<;>lia
theorem MH:∀g:A1,cL g=0\/∃z:Int,V.int z∈g/\cL g=Builtin.Int.intBits z
 |[]=>.inl U
 |w::r=>by
  have go:(cL _=cL r)->cL _=0\/∃z:Int,V.int z∈w::r/\cL (w::r)=Builtin.Int.intBits z:=λe=>by
   rw[e];rcases MH r with h|⟨z,h1,h2⟩
   .exact .inl h
   .grind
  cases w with
  |int z=>
   by_cases h:cL r<=Builtin.Int.intBits z
   .exact .inr ⟨z,bN,Nat.max_eq_left h⟩
   .exact go (Nat.max_eq_right Vc)
  |_=>exact go U
def OC(h1:∀z:Int,V.int z∈u->Builtin.Int.intBits z<=L)(h2:L=0\/∃z:Int,V.int z∈u/\L=Builtin.Int.intBits z):L=cL u:=by
 refine Nat.le_antisymm ?_ ?_
 .rcases h2 with h|⟨z,hz,h⟩
  .lia
  .rw[h];exact Ik hz
 .rcases MH u with h|⟨z,hz,h⟩
  .lia
  .rw[h];exact h1 z hz
def YA(g:A1):Nat:=(g.filter λw=>cG w (allR.map V.str)).length
def CI(nm:Ai)(re:Str->Int)(g:A1)(s:Int×Ak):Ak×Ak:=W6 nm re s.1.toNat s.2 g
def eB(nm:Ai)(re:Str->Int)(g:A1)(L:Nat)(s:Int×Ak):List (Int×Ak):=(List.range (2^nm.length)).map λl=>(min (s.1+1) (L:Int),(CI nm re g s).2.map λc=>bt c l)
def dM(nm:Ai)(re:Str->Int)(g:A1)(o0 o1:V)(s:Int×Ak):A1:=(List.range (2^nm.length)).map λl=>if bt ((CI nm re g s).1.getD 0 0) l=1 then o1 else o0
def o7(g:Av)(H H':Hp):Prop:=∀b o,H b=some o->b≠g->H' b=some o
def LM(H:Hp)(k:Int×Ak)(a:Av):Prop:=∃t,H a=am [.int k.1,.ref t]/\H t=am (k.2.map V.int)
def LM.bits(h:LM H k a):Mu H k a:=by
 obtain⟨t,h1,h2⟩:=h;refine⟨t,h1,_,h2,?_⟩;rw[cR];rfl
def ON:KN (Int×Ak)where
 knd:=pX.knd
 CK:=pX.CK
 at_:=LM
 hash_eq:=pX.hash_eq
 ok:=λP w H h k a ok b=>pX.ok P w H h k a ok b.bits
 room:=pX.room
 iM:=pX.iM
 keep:=λH H' k a g ⟨t,e,e2⟩=>⟨t,g _ _ e,g _ _ e2⟩
def z9:Nat->List (Ak)
 |0=>[[]]
 |n+1=>(z9 n).map (List.cons 0)++(z9 n).map (List.cons 1)
theorem uk:∀n,(z9 n).length=2^n
 |0=>rfl
 |n+1=>by
  show((z9 n).map _++(z9 n).map _).length=_;rw[aZ,aI,aI,uk n];lia
theorem X4:∀{n:Nat} {ks:Ak},ks∈z9 n↔ks.length=n/\∀x∈ks,x=0\/x=1
 |0,ks=>by
  constructor
  .intro h;rw[b9.mp h];exact⟨U,λx g=>by cases g⟩
  .rintro⟨h,_⟩;rw[sW h];exact b9.mpr U
 |n+1,ks=>by
  show ks∈(z9 n).map _++(z9 n).map _↔_;rw[dH,bG,bG];constructor
  .rintro(⟨r,q,rfl⟩|⟨r,q,rfl⟩)
   .obtain⟨h1,h2⟩:=X4.mp q;refine⟨Vd,λx g=>?_⟩;rcases bR.mp g with rfl|g
    .exact .inl U
    .exact h2 x g
   .obtain⟨h1,h2⟩:=X4.mp q;refine⟨Vd,λx g=>?_⟩;rcases bR.mp g with rfl|g
    .exact .inr U
    .exact h2 x g
  .rintro⟨h1,h2⟩;cases ks with
   |nil=>cases h1
   |cons x r=>
    have q:=X4.mpr ⟨by simpa using h1,λy B=>h2 y (cA _ B)⟩;rcases h2 x bN with rfl|rfl
    .exact .inl ⟨r,q,U⟩
    .exact .inr ⟨r,q,U⟩
def l9(g:Nat):Nat->List (Int×Ak)
 |0=>[]
 |n+1=>l9 g n++(z9 g).map λks=>((n:Int),ks)
theorem yb(g:Nat):∀n,(l9 g n).length=n*2^g
 |0=>by rw[Nat.zero_mul];rfl
 |n+1=>by
  show(l9 g n++(z9 g).map _).length=_;rw[aZ,aI,yb g n,uk,Nat.succ_mul]
theorem Gp{g:Nat}{s:Int×Ak}:∀{n:Nat},s∈l9 g n↔∃p:Nat,p<n/\s.1=(p:Int)/\s.2∈z9 g
 |0=>⟨(λh=>nomatch h),λ⟨p,h,_⟩=>absurd h (nP _)⟩
 |n+1=>by
  show s∈l9 g n++(z9 g).map _↔_;rw[dH,Gp];constructor
  .grind
  .grind
def Jh(w:V)(r:A1):YA (w::r)=YA r+if cG w (allR.map V.str)=true then 1 else 0:=by
 unfold YA;rw[nU];split<;>rfl
theorem wo:∀q:A1,(∀w∈q,yN ys w)->(W6 ys re pl kp q).2.length=YA q
 |[],_=>rfl
 |w::r,hw=>by
  have g:=wo (re:=re) (pl:=pl) (kp:=kp) r λw h=>hw w (cA _ h);rw[Jh];rcases hw w bN with⟨y,rfl,h1,_⟩|⟨y,rfl,h1,h2,B,_⟩|⟨y,rfl,h1,h2,_⟩|⟨z,rfl,_⟩
  .show(if y∈allR then _ else _:Ak×Ak).2.length=_;rw[aN h1,Yg,bC h1,aZ,g];rfl
  .show(if y∈allR then _ else if y∈ys then _ else _:Ak×Ak).2.length=_;rw[aL h2,aL B,Yg,bO h2];exact g
  .show(if y∈allR then _ else if y∈ys then _ else _:Ak×Ak).2.length=_;rw[aL h2,aN h1,Yg,bO h2];exact g
  .exact g
def jd(hw:∀w∈u,yN N w)(g:i=YA u){s:Int×Ak}(B:s∈l9 i (L+1)):∀x∈eB N re u L s,x∈l9 i (L+1):=λx C=>by
 obtain⟨l,_,rfl⟩:=bG.mp C;obtain⟨p,h1,h2,D⟩:=Gp.mp B;refine Gp.mpr ⟨min (p+1) L,Vc,?_,X4.mpr ⟨?_,λb q=>?_⟩⟩
 .lia
 .rw[aI,g];exact wo u hw
 .obtain⟨c,_,rfl⟩:=bG.mp q;exact YU c l
def Zep(s:ZK (aQ cs H) H')(q:∀c∈cs,H' c=none):ZK H (Ww cs H H')/\(∀t o,H' t=some o->Ww cs H H' t=some o)/\∀t o,H' t=some o->aQ cs H t=none->H t=none:=by
 have m:∀t o,H' t=some o->t∉cs:=λt o e m=>Vd
 refine⟨λb o e=>?_,λt o e=>by rw[Yv (m t o e)];exact e,λt o e h=>by rw[ZX (m t o e)]at h;exact h⟩
 by_cases g:b∈cs
 .rw[Jb g];exact e
 .rw[Yv g];exact s _ _ (by rw[ZX g];exact e)
def vO{p:Av}(R:qU H p O)(e:∀b xs,H b=am xs->H' b=am xs):qU H' p O:=by
 obtain⟨as,h1,h2,g⟩:=R;refine⟨as,e _ _ h1,h2,λi r hi=>?_⟩;obtain⟨a,q,B⟩:=g i r hi;exact⟨a,q,e _ _ B⟩
def FX(g:∀z:Int,V.int z∈u->0<=z/\z<2^i):cL u<=i:=by
 rcases MH u with h|⟨z,hz,h⟩
 .lia
 .rw[h];exact bits_le (g z hz).1 (g z hz).2
theorem Cz(h:V.int z∈u)(g:0<=z):z<2^cL u:=Int.lt_of_lt_of_le (by
       unfold Builtin.Int.intBits;split
       . grind
       . obtain⟨n,rfl⟩:=Int.eq_ofNat_of_zero_le g;have:=Nat.lt_log2_self (n:=n)
         exact_mod_cast this) (Oa (Ik h))
def Cf(g:A1):Prop:=∀r,WX (g++r)=WX r+1/\(Yh r->Yh (g++r))
theorem vP:∀(ps:Ay),(∀p∈ps,Cf p)->∀r,WX (ps.flatten++r)=WX r+ps.length/\(Yh r->Yh (ps.flatten++r))
 |[],_,r=>⟨U,λh=>h⟩
 |p::ps,h,r=>by
  obtain⟨h1,h2⟩:=vP ps (λq g=>h q (cA _ g)) r;obtain⟨C,B⟩:=h p bN _;rw[DV,lW,lL];exact⟨Vc,λz=>B (h2 z)⟩
theorem vQ{w:V}{ps:Ay}(g:aO w=ps.length)(h:∀p∈ps,Cf p):Cf (w::ps.flatten):=λr=>by
 obtain⟨h1,h2⟩:=vP ps h r;constructor
 .show WX (ps.flatten++r)-aO w+1=_;simp_all
 .intro z;exact⟨by show aO w<=WX (ps.flatten++r);simp_all,h2 z⟩
def Zeq{w:V}(h:aO w=0):Cf [w]:=vQ (ps:=[]) h λp g=>by cases g
def Cf.one(h:Cf u):Yh u/\WX u=1:=by
 have:=h [];rw[d9]at this;exact⟨this.2 trivial,this.1⟩
def OL{y:Str}(h:y∉YT):aO (.str y)=0:=by
 have k:∀p∈T1++T2++T3,p.1∈YT:=Va
 show(qx T1 (.inr y)+qx T2 (.inr y)+qx T3 (.inr y)).toNat=0;have n:∀l:List _,(∀p∈l,p∈T1++T2++T3)->y∉l.map (·.1):=λl q z=>by
  grind
 rw[jK (n T1 λp g=>by simp[g]),jK (n T2 λp g=>by simp[g]),jK (n T3 λp g=>by simp[g])];rfl
theorem MI(z:Int):aO (.int z)=0:=by
 have k:∀l,qx l (.inl z)=0:=λl=>by
  induction l with
  |nil=>rfl
  |cons p r g=>
   exact g
 show(qx T1 _+qx T2 _+qx T3 _).toNat=0;rfl
def M8:∀y∈GD,aO (.str y)=YD y/\y∈YT:=Va
def UB:∀y∈qy,y∈YT:=Va
def wq:∀y∈allR,y∈YT:=Va
def yc{w:V}(g:∀y∈ys,y∉YT)(h:gU ys w):Gn ys 10 w/\aO w=0/\cG w (allR.map V.str)=false:=by
 rcases h with⟨y,h1,rfl⟩|⟨z,rfl,q,h1⟩
 .refine⟨.inr (.inl ⟨y,U,h1,λz=>g y h1 (UB y z),OL (g y h1)⟩),OL (g y h1),?_⟩;rw[Yg];exact bO λz=>g y h1 (wq y z)
 .exact⟨.inr (.inr ⟨z,U,q,Vc,MI z⟩),MI z,wb z _⟩
def je{y:Str}(g:∀y∈ys,y∉YT)(h:y∈GD):Gn ys 10 (.str y)/\aO (.str y)=YD y/\cG (.str y) (allR.map V.str)=decide (y∈qy):=by
 obtain⟨h1,h2⟩:=M8 y h;refine⟨.inl ⟨y,U,h,λz=>g y z h2,h1⟩,h1,?_⟩;rw[Yg,pA,lN,lN];exact KR y h
def GG(a b:A1):YA (a++b)=YA a+YA b:=by
 unfold YA;rw[tH,aZ]
def O3:∀y∈GD,y∉allR->y∈D6/\aO (.str y)=Ez y:=Va
def SR:∀y∈allR,y∈GD->1<=aO (.str y)/\(y∈CF->2<=aO (.str y)):=Va
def Pu{w:V}(B:∀y∈ys,y∉YT)(h:Gn ys i w):yN ys w:=by
 rcases h with⟨y,rfl,h1,h2,q⟩|⟨y,rfl,h1,h2,q⟩|⟨z,rfl,C,_,q⟩
 .by_cases g:y∈allR
  .exact .inl ⟨y,U,g,h2,SR y g h1⟩
  .exact .inr (.inl ⟨y,U,(O3 y h1 g).1,g,h2,(O3 y h1 g).2⟩)
 .exact .inr (.inr (.inl ⟨y,U,h1,λz=>B y h1 (wq y z),q⟩))
 .exact .inr (.inr (.inr ⟨z,U,C,q⟩))
def Bm(ys:Ai)(g:Ay):Prop:=∀ps∈g,Cf ps/\∀w∈ps,Gn ys 10 w
def Bm.word{y:Str}(B:∀y∈ys,y∉YT)(g:Bm ys O)(h:y∈GD)(F:YD y=n)(G:n<=O.length):Bm ys (O.take (O.length-n)++[.str y::(O.drop (O.length-n)).flatten]):=by
 obtain⟨C,I,D⟩:=je B h;intro ps q;rcases dH.mp q with q|q
 .exact g ps (rW q)
 .rw[b9.mp q];refine⟨vQ Vd λp q=>(g p (CG q)).1,λw hw=>?_⟩;rcases bR.mp hw with rfl|hw
  .exact C
  .obtain⟨p,q,hw⟩:=List.mem_flatten.mp hw;exact(g p (CG q)).2 w hw
def um(g:Ay)(w:V)(n:Nat):(g.take n++[w::(g.drop n).flatten]).flatten.length=g.flatten.length+1/\YA (g.take n++[w::(g.drop n).flatten]).flatten=YA g.flatten+if cG w (allR.map V.str)=true then 1 else 0:=by
 have e:g.flatten=(g.take n).flatten++(g.drop n).flatten:=by rw[<-p6,oN]
 rw[p6,DV,FE,d9,e];constructor
 .grind
 .rw[GG,GG,Jh];lia
theorem YO.take{q:Ay}(z:YO H zs q)(n:Nat):YO H (zs.take n) (q.take n):=by
 refine⟨by rw[cE,cE,z.1],λi r g=>?_⟩;rw[EV]at g ⊢;split at g
 .rename_i lt;rw[aN lt];exact z.2 i r g
 .cases g
def YO.drop{g:Ay}(z:YO H zs g)(n:Nat):YO H (zs.drop n) (g.drop n):=by
 refine⟨by rw[iD,iD,z.1],λi r q=>?_⟩;rw[List.getElem?_drop]at q ⊢;exact z.2 _ r q
def Qm{j:Nat}{v:g}(h:xs[j]?=some v)(q:j+n=xs.length)(h1:1<=n):fN xs (-(n:Int))=some v:=by
 unfold fN rL;rw[aL Vc,aN Vc];rw[show(-(n:Int)+xs.length).toNat=j by lia];exact h
def uo(g:n<=xs.length)(h1:1<=n):zR xs none (some (-(n:Int)))=xs.take (xs.length-n):=by
 unfold zR;simp[HT.bW];rw[aN Vc,show(-(n:Int)+xs.length).toNat=xs.length-n by lia];simp
def qY(ls:Aj)(ys:Ai)(y:Str):Int:=sm (λk=>bt ((ls.getD k 0:Nat):Int) (ys.idxOf y)) ls.length
def Zpv{ys:Ai}{k l:Nat}{y:Str}(q:ys.Nodup)(h:ys[i]?=some y)(g:ls[k]?=some l):bt (qY ls ys y) k=bt (l:Int) i:=by
 unfold qY;rw[W9 q h];have:=IW (b:=λk=>bt ((ls.getD k 0)) i) (λ_=>YU _ _) k _ (bM.mp g).1;rw[cF,g]at this;exact this
structure bD(nx:Ad)(ot:Ay)(n:Nat):Prop where
 pos:0<nx.length
 ol:ot.length=nx.length
 nr:∀r∈nx,r.length=2^n
 nl:∀r∈nx,∀s∈r,s<nx.length
 or:∀r∈ot,r.length=2^n
def cJ(nx:Ad):Nat->List Nat->Nat
 |s,[]=>s
 |s,c::r=>cJ nx ((nx.getD s []).getD c 0) r
def u0(nx:Ad)(ot:Ay):Nat->List Nat->List V
 |_,[]=>[]
 |s,c::r=>(ot.getD s []).getD c .aX::u0 nx ot ((nx.getD s []).getD c 0) r
theorem X5(nx:Ad):∀(s:Nat)(ls:Aj)(c:Nat),cJ nx s (ls++[c])=(nx.getD (cJ nx s ls) []).getD c 0
 |_,[],_=>rfl
 |s,d::r,c=>X5 nx _ r c
theorem Pl(nx:Ad)(ot:Ay):∀(s:Nat)(ls:Aj)(c:Nat),u0 nx ot s (ls++[c])=u0 nx ot s ls++[(ot.getD (cJ nx s ls) []).getD c .aX]
 |_,[],_=>rfl
 |s,d::r,c=>congrArg _ (Pl nx ot _ r c)
theorem wt(nx:Ad)(ot:Ay):∀(s:Nat)(ls:Aj),(u0 nx ot s ls).length=ls.length
 |_,[]=>rfl
 |s,d::r=>congrArg _ (wt nx ot _ r)
def aU{l:List g}{d:g}(h:i<l.length):l[i]?=some (l.getD i d):=Vd
section
variable {κ:Type}[DecidableEq κ]{nx:κ->List κ}{b:κ}{l:List κ}
def yd{x:κ}(h:x∈l):l[l.idxOf x]?=some x:=Vd
def bJ.len(B:bJ nx b l):(ba nx b l.length).length=l.length:=by rw[<-B.e]
def bJ.here(B:bJ nx b l){j:Nat}{s:κ}(h:l[j]?=some s):j<l.length/\(ba nx b j)[j]?=some s:=KQ B.len B.go (by rw[<-B.e];exact h)
def bJ.sub(B:bJ nx b l){j:Nat}(g:j<=l.length){x:κ}(h:x∈ba nx b j):x∈l:=by
 obtain⟨r,e⟩:=vN (b:=b) j _;rw[show j+(l.length-j)=l.length by simp_all,<-B.e]at e;rw[e];exact iQ _ h
def bJ.begin(B:bJ nx b l):l[0]?=some b/\b∈l:=by
 have g:=B.sub (cD _) (b9.mpr U);have e:=Ng (nx:=nx) (i:=l.length) (cD _) (s:=b) rfl;rw[<-B.e]at e;exact⟨e,g⟩
def bJ.next(B:bJ nx b l){s x:κ}(h:s∈l)(g:x∈nx s):x∈l:=by
 obtain⟨j,q⟩:=sO.mp h;obtain⟨h1,h2⟩:=B.here q;refine B.sub h1 ?_;rw[jY h2];exact(jX _ _).mpr (.inr g)
def bJ.nodup(B:bJ nx b l):l.Nodup:=by
 rw[B.e];exact qX _
def dY(l:List κ)(x:κ):Nat:=l.idxOf x
def bJ.zero(B:bJ nx b l):dY l b=0:=W9 B.nodup B.begin.1
def bJ.uniq(B:bJ nx b l)(g:bJ nx b l'):l=l':=by
 have h1:¬l.length<l'.length:=λh=>by
  have:=g.go _ h;rw[<-B.e]at this;lia
 have h2:¬l'.length<l.length:=λh=>by
  have:=B.go _ h;rw[<-g.e]at this;lia
 rw[B.e,g.e,show l.length=l'.length by lia]
def KI(h:∀s∈l,∀x∈nx s,x∈l){s:κ}(g:s∈l):(bF nx l).getD (dY l s) []=(nx s).map λx=>dY l x:=by
 unfold bF dY;rw[cF,aY,yd g];rfl
def Zpw{ot:κ->List V}{s:κ}(g:s∈l):(l.map ot).getD (dY l s) []=ot s:=by
 unfold dY;rw[cF,aY,yd g];rfl
end
abbrev bI(nm:Ai)(g:A1):Int×Ak->List (Int×Ak):=eB nm (YF (2^nm.length) nm) g (cL g)
abbrev lZ(nm:Ai)(g:A1):Int×Ak->List V:=dM nm (YF (2^nm.length) nm) g (.int 0) (.int 1)
def Zpx(nm:Ai)(re:Str->Int)(g:A1)(L:Nat)(s:Int×Ak):(eB nm re g L s).length=2^nm.length:=by
 unfold eB;rw[aI,dS]
def Vw(nm:Ai)(re:Str->Int)(g:A1)(o0 o1:V)(s:Int×Ak):(dM nm re g o0 o1 s).length=2^nm.length:=by
 unfold dM;rw[aI,dS]
section
variable {κ:Type}[DecidableEq κ]{nx:κ->List κ}{b:κ}{l:List κ}
def RC(B:bJ nx b l)(C:∀s,(nx s).length=n):(∀r∈bF nx l,r.length=n)/\∀r∈bF nx l,∀s∈r,s<(bF nx l).length:=by
 constructor
 .intro r g;obtain⟨s,_,rfl⟩:=bG.mp g;rw[aI,C]
 .intro r g x F;obtain⟨s,D,rfl⟩:=bG.mp g;obtain⟨y,q,rfl⟩:=bG.mp F;rw[Xm];exact oS (B.next D q)
theorem Pr(B:bJ nx b l):∀i,i<=l.length->jU (bF nx l) 0 i=(ba nx b i).map (dY l)
 |0,_=>by
  show[0]=[dY l b];rw[B.zero]
 |i+1,h=>by
  have C:=Pr B i Vc;obtain⟨s,q⟩:∃s,(ba nx b i)[i]?=some s:=⟨_,aR (B.go i Vc)⟩;have D:s∈l:=B.sub Vc (bP q);show l7 (bF nx l) _ i=_;rw[C];unfold l7;have e1:((ba nx b i).map (dY l)).getD i 0=dY l s:=Vd
  rw[e1,KI (λs q x g=>B.next q g) D,jY q];have inj:∀x∈l,∀y∈l,dY l x=dY l y->x=y:=λx g y J e=>by
   have h1:=yd g;have h2:=yd J;have e:l.idxOf x=l.idxOf y:=e;rw[e,h2]at h1;exact(Option.some.inj h1).symm
  have go:∀(r a:List κ),(∀x∈r,x∈l)->(∀x∈a,x∈l)->(r.map (dY l)).foldl Y1 (a.map (dY l))=(r.foldl Y1 a).map (dY l):=by
   intro r
   induction r with
   |nil=>exactλa _ _=>U
   |cons k r C=>
    intro a I G;have F:=I k bN;rw[eE,sZ,kL (dY l) a k λx g e=>inj x (G x g) k F e];exact C _ (λx g=>I x (cA _ g)) λx g=>by
     rcases Wg.mp g with z|z
     .exact G x z
     .rw[z];exact F
  exact go _ _ (λx g=>B.next D g) λx g=>B.sub Vc g
end
def QU{xs:A1}(h:aF K H a xs)(hz:H f=some (.d4 Y))(o:o7 f H H'):aF K H' a xs:=by
 rcases h with h|h
 .rcases h with h|⟨u,h⟩
  .exact .inl (.inl (o _ _ h (Xp h hz nofun)))
  .exact .inl (.inr ⟨u,o _ _ h (Xp h hz nofun)⟩)
 .exact .inr h
def Zlb{xs:A1}(h:aF K H a xs)(s:ZK H H'):aF K H' a xs:=by
 rcases h with h|h
 .rcases h with h|⟨u,h⟩
  .exact .inl (.inl (s _ _ h))
  .exact .inl (.inr ⟨u,s _ _ h⟩)
 .exact .inr h
def o7.tup{g:Av}{H H':Hp}(o:o7 g H H'){q:Ah}(hz:H g=some (.d4 q)){b:Av}{xs:A1}(e:H b=am xs):H' b=am xs:=o _ _ e (Xp e hz nofun)
def mJ(x y:Int)(k:Nat):Int:=if lo x k=lo y k then 0 else 1
def OG(x y:Int)(k:Nat):mJ x y k=0\/mJ x y k=1:=by
 unfold mJ;split
 .exact .inl U
 .exact .inr U
def Vo(x y:Int):mJ x y 0=0:=by
 unfold mJ lo;rw[rF,Dh,Dh];rfl
def Ug(x y:Int)(k:Nat):mJ x y (k+1)=1-(1-(bt x k+bt y k)%2)*(1-mJ x y k):=by
 have e1:=jO x k;have e2:=jO y k;have b1:=yM x k;have b2:=yM y k;unfold mJ;rcases YU x k with a|a<;>rcases YU y k with b|b<;>rw[a]at e1 ⊢ <;> rw[b]at e2 ⊢ <;> by_cases h:lo x k=lo y k
 all_goals first
  |rw[aN h,aN Vc];rfl
  |rw[aL h,aL Vc];rfl
  |rw[aN h,aL Vc];rfl
def CQ(x:Int)(k:Nat):Int:=lo x k-2^k*bt x k
def pG(x y:Int)(k:Nat):Int:=if CQ x k<CQ y k then 1 else 0
def tM(x y:Int)(k:Nat):pG x y k=0\/pG x y k=1:=by
 unfold pG;split
 .exact .inr U
 .exact .inl U
def A4(x y:Int)(k:Nat):pG x y k=1-(1-(1-bt y k)*bt x k)*(1-fP x y k*(1-(bt y k+bt x k)%2)):=by
 have b1:=yM x k;have b2:=yM y k;unfold pG CQ fP;rcases YU x k with a|a<;>rcases YU y k with b|b<;>rw[a,b]<;>by_cases h:lo x k<lo y k
 all_goals first
  |rw[aN h,aN Vc];rfl
  |rw[aL h,aL Vc];rfl
  |rw[aN h,aL Vc];rfl
  |rw[aL h,aN Vc];rfl
def mR(y:Str)(is:Ak)(k:Nat):Int:=
 if y = "twice" then tw (is.getD 0 0) k else if y = "neg" \/ y = "low" \/ y = "nought" then lS (is.getD 0 0) k else if y = "same" then mJ (is.getD 0 0) (is.getD 1 0) k else if y = "add" then lJ (is.getD 0 0) (is.getD 1 0) k else fP (is.getD 0 0) (is.getD 1 0) k
def Sh(y:Str)(is:Ak)(k:Nat):mR y is k=0\/mR y is k=1:=by
 unfold mR
 repeat' split
 .exact DJ _ _
 .exact MK _ _
 .exact OG _ _ _
 .exact Lo _ _ _
 .exact gY _ _ _
def Zih(y:Str)(is:Ak):mR y is 0=0:=by
 unfold mR
 repeat' split
 .rfl
 .exact V3 _
 .exact Vo _ _
 .exact Qa _ _
 .exact QZ _ _
def pE(y:Str)(bs:Ak)(h:Int):Int:=
 if y = "twice" then bs.getD 0 0 else if y = "neg" \/ y = "low" \/ y = "nought" then 1-(1-bs.getD 0 0)*(1-h)else if y = "same" then 1-(1-(bs.getD 0 0+bs.getD 1 0)%2)*(1-h)else if y = "add" then(bs.getD 0 0+bs.getD 1 0+h)/2 else 1-(1-(1-bs.getD 0 0)*bs.getD 1 0)*(1-h*(1-(bs.getD 0 0+bs.getD 1 0)%2))
def ur(y:Str)(is:Ak)(k:Nat):mR y is (k+1)=pE y (is.map λx=>bt x k) (mR y is k):=by
 unfold mR pE;rw[Gm,Gm]
 repeat' split
 .rfl
 .exact SY _ _
 .exact Ug _ _ _
 .exact Q4 _ _ _
 .exact Pm _ _ _
def Eb(y:Str)(bs:Ak)(h:Int):Int:=
 if y = "add" \/ y = "sub" then(bs.getD 0 0+bs.getD 1 0+h)%2 else if y = "neg" then(bs.getD 0 0+h)%2 else if y = "twice" then h else if y = "low" then bs.getD 0 0*(1-h)
 else if y = "same" \/ y = "nought" then 1-pE y bs h else if y = "under" then pE y bs h else 1-(1-(1-bs.getD 1 0)*bs.getD 0 0)*(1-h*(1-(bs.getD 1 0+bs.getD 0 0)%2))
def uv(y:Str)(bs:Ak):Int:=
 if y = "yes" then 1 else if y = "sign" then bs.getD 0 0 else if y = "not" \/ y = "never" then 1-bs.getD 0 0 else if y = "and" \/ y = "both" then bs.getD 0 0*bs.getD 1 0 else if y = "or" \/ y = "either" then 1-(1-bs.getD 0 0)*(1-bs.getD 1 0)
 else if y = "odd" then(bs.getD 0 0+bs.getD 1 0)%2 else if y = "so" then 1-(1-(1-bs.getD 0 0))*(1-bs.getD 1 0)else 1-(1-bs.getD 0 0*bs.getD 1 0)*(1-(1-bs.getD 0 0)*bs.getD 2 0)
def NI(a b h:Int)(l:Nat):bt (D5 a b h) l=1-(1-(1-bt a l)*bt b l)*(1-bt h l*(1-(bt a l+bt b l)%2)):=by
 unfold D5;rw[qp,Xg,Xg,XS,XS,Wz]
def Nd(y:Str)(is:Ak)(h:Int)(l:Nat):bt (iF y is h) l=pE y (is.map λx=>bt x l) (bt h l):=by
 unfold pE iF;rw[Gm,Gm]
 repeat' split
 .rfl
 .exact qp l _ _
 .rw[qp,Wz]
 .rw[qp,Xg,Xg,qp];rcases YU _ l with a|a<;>rcases YU _ l with b|b<;>rcases YU h l with c|c<;>rw[a,b,c]<;>rfl
 .exact NI _ _ _ _
def BQ(y:Str)(is:Ak)(h:Int)(l:Nat):bt (BB y is h (iF y is h)) l=Eb y (is.map λx=>bt x l) (bt h l):=by
 unfold Eb BB;rw[<-Nd,Gm,Gm]
 repeat' split
 .rw[Wz,Wz];simp_all
 .exact Wz l _ _
 .rfl
 .rw[Xg,XS]
 .exact XS l _
 .rfl
 .exact NI _ _ _ _
def Ou(y:Str)(is:Ak)(l:Nat):bt (Cb y is) l=uv y (is.map λx=>bt x l):=by
 unfold uv Cb;rw[Gm,Gm,Gm]
 repeat' split
 .exact Ri l
 .rfl
 .exact XS l _
 .exact Xg l _ _
 .exact qp l _ _
 .exact Wz l _ _
 .rw[qp,XS]
 .rw[qp,Xg,Xg,XS]
def rM(y:Str)(is:Ak)(k:Nat):Int:=
 if y = "same" then 1-mJ (is.getD 0 0) (is.getD 1 0) (k+1)else if y = "nought" then 1-lS (is.getD 0 0) (k+1)else if y = "under" then fP (is.getD 0 0) (is.getD 1 0) (k+1)else if y = "beneath" then pG (is.getD 0 0) (is.getD 1 0) k
 else uv y (is.map λx=>bt x k)
def tW(y:Str)(is:Ak)(k:Nat):uv y (is.map λx=>bt x k)=0\/uv y (is.map λx=>bt x k)=1:=by
 rw[<-Ou];exact YU _ _
def Ht(y:Str)(is:Ak)(k:Nat):rM y is k=0\/rM y is k=1:=by
 unfold rM
 repeat' split
 .have:=OG (is.getD 0 0) (is.getD 1 0) (k+1);lia
 .have:=MK (is.getD 0 0) (k+1);lia
 .exact gY _ _ _
 .exact tM _ _ _
 .exact tW _ _ _
def nF(W:Nat)(ρ:Str->Int)(w:V)(is:Ak):Int:=
 match w with
 |.str y=>if y∈Yt then sm (rM y is) W else B7 ρ w is%2^W
 |_=>B7 ρ w is%2^W
def YQ(W:Nat)(ρ:Str->Int):A1->List Int
 |[]=>[]
 |w::r=>nF W ρ w ((YQ W ρ r).take (aO w))::(YQ W ρ r).drop (aO w)
theorem qZ(W:Nat)(ρ:Str->Int):∀g:A1,(YQ W ρ g).length=WX g
 |[]=>rfl
 |w::r=>by
  show((YQ W ρ r).drop _).length+1=_;rw[iD,qZ W ρ r];rfl
def mE:V->Bool
 |.str y=>decide (y∈allR)
 |_=>false
def ye(W:Nat)(ρ:Str->Int):A1->Nat->List Int
 |[],_=>[]
 |w::r,k=>ye W ρ r k++if mE w=true then[mR (DY w) ((YQ W ρ r).take (aO w)) k]else[]
def oA(ys:Ai)(ν:Str->Int)(pl:Nat)(kp:Ak):A1->List Int×Ak
 |[]=>([],[])
 |w::r=>
  let p:=oA ys ν pl kp r
  match w with
  |.str y=>
   if y∈allR then(Eb y (p.1.take (aO w)) (kp.getD p.2.length 0)::p.1.drop (aO w),p.2++[pE y (p.1.take (aO w)) (kp.getD p.2.length 0)])
   else if y∈ys then(ν y::p.1.drop (aO w),p.2)
   else(uv y (p.1.take (aO w))::p.1.drop (aO w),p.2)
  |.int z=>(bt z pl::p.1.drop (aO w),p.2)
  |_=>p
noncomputable def uw(C:∀i:Nat,kp.getD i 0=0\/kp.getD i 0=1)(l:Nat):∀B:A1,
  (W6 ys re pl kp B).1.map (λx=>bt x l)=(oA ys (λy=>bt (re y) l) pl kp B).1/\(W6 ys re pl kp B).2.map (λx=>bt x l)=(oA ys (λy=>bt (re y) l) pl kp B).2
 |[]=>⟨U,U⟩
 |w::r=>by
  obtain⟨e1,e2⟩:=uw (ys:=ys) (re:=re) (pl:=pl) C l r;have D:(W6 ys re pl kp r).2.length=(oA ys (λy=>bt (re y) l) pl kp r).2.length:=Vd
  cases w with
  |str y=>
   show(if y∈allR then _ else if y∈ys then _ else _:Ak×Ak).1.map _=(if y∈allR then _ else if y∈ys then _ else _:Ak×Ak).1/\(if y∈allR then _ else if y∈ys then _ else _:Ak×Ak).2.map _=(if y∈allR then _ else if y∈ys then _ else _:Ak×Ak).2
   by_cases q:y∈allR
   .rw[aN q,aN q];constructor
    .show bt _ l::_=_::_;rw[BQ,Lj (C _),pQ,sQ,e1,D]
    .rw[dC,e2];show _++[bt _ l]=_;rw[Nd,Lj (C _),pQ,e1,D]
   .rw[aL q,aL q]
    by_cases g:y∈ys
    .rw[aN g,aN g];refine⟨?_,e2⟩;show bt _ l::List.map _ _=_::_;rw[sQ,e1]
    .rw[aL g,aL g];refine⟨?_,e2⟩;show bt _ l::List.map _ _=_::_;rw[Ou,pQ,sQ,e1]
  |int z=>
   refine⟨?_,e2⟩;show bt _ l::List.map _ _=bt z pl::_;rw[sQ,e1,Lj (YU z pl)]
  |_=>exact⟨e1,e2⟩
def wu:∀y∈GD,y∉Yt:=Va
def SX{y:Str}(g:y∈qy)(is:Ak)(k:Nat):mR y is k=p7 y is k:=by
 unfold qy at g;simp at g;rcases g with rfl|rfl|rfl|rfl|rfl<;>rfl
def SV{y:Str}(g:y∈qy)(bs:Ak)(h:Int):Eb y bs h=Ei y bs h:=by
 unfold qy at g;simp at g;rcases g with rfl|rfl|rfl|rfl|rfl<;>rfl
def Sr{y:Str}(g:y∈GD)(q:y∉qy)(bs:Ak):uv y bs=Fv y bs:=by
 rcases vJ y g q with⟨rfl,_⟩|⟨rfl,_⟩|⟨rfl,_⟩|⟨rfl,_⟩|⟨rfl,_⟩<;>rfl
def Zik:∀y∈Yt,y∈allR->y = "same" \/ y = "under" \/ y = "beneath" \/ y = "nought" :=Va
def Zet:∀y∈Yt,y∉allR->¬y = "same" /\ ¬y = "under" /\ ¬y = "beneath" /\ ¬y = "nought" :=Va
def IC{f:Nat->Int}(g:∀i,f i=0\/f i=1){k W:Nat}(h:k<W):bt (sm f W) k=f k:=IW g k W h
def Zlg(ρ:Str->Int){y:Str}{W k:Nat}(D:k<W)(B:y∈allR){is:Ak}(h:y∈Yt\/(y∈GD/\is.length=YD y)):Eb y (is.map λx=>bt x k) (mR y is k)=bt (nF W ρ (.str y) is) k:=by
 rcases h with C|⟨g,F⟩
 .show _=bt (if y∈Yt then _ else _) k;rw[aN C,IC (Ht y is) D];have g:=ur y is k;rcases Zik y C B with rfl|rfl|rfl|rfl
  .show 1-pE "same" _ _=1-mJ _ _ _;rw[<-g];rfl
  .show pE "under" _ _=fP _ _ _;rw[<-g];rfl
  .show 1-(1-(1-List.getD _ 1 0)*List.getD _ 0 0)*(1-fP _ _ k*(1-(List.getD _ 1 0+List.getD _ 0 0)%2))=pG _ _ k;rw[Gm,Gm,A4]
  .show 1-pE _ _ _=1-lS _ _;rw[<-g];rfl
 .have q:=(KR y g).mp B;show _=bt (if y∈Yt then _ else _) k;rw[aL (wu y g),SV q,SX q,B8 ρ q F,X0 _ _ _ D]
def RX(ρ:Str->Int){y:Str}{W k:Nat}(C:k<W)(q:y∉allR){is:Ak}(h:y∈Yt\/(y∈GD/\is.length=YD y)):uv y (is.map λx=>bt x k)=bt (nF W ρ (.str y) is) k:=by
 rcases h with B|⟨g,G⟩
 .show _=bt (if y∈Yt then _ else _) k;refine ω (Zet y B q) (θ3 λh1 h2 F I=>?_);rw[aN B,IC (Ht y is) C];unfold rM;rw[aL h1,aL I,aL h2,aL F]
 .have D:=λz=>q ((KR y g).mpr z)
  show _=bt (if y∈Yt then _ else _) k;rw[aL (wu y g),Sr g D,VP ρ g D G,X0 _ _ _ C]
def C6(ys:Ai)(B:Nat)(w:V):Prop:=Gn ys B w\/∃y,w=.str y/\y∈Yt/\y∉ys
theorem Tq(W:Nat)(ρ:Str->Int)(g:A1)(k:Nat):(ye W ρ g k).length=(g.filter mE).length:=by
 induction g with
 |nil=>rfl
 |cons w r q=>
  show(ye W ρ r k++_).length=_;rw[aZ,q,nU];split<;>rfl
theorem Nl{B W k pl:Nat}{ρ:Str->Int}(O:k<W)(T:pl=k\/(B<=pl/\B<=k))(D:∀y∈ys,y∉YT)(kp:Ak):∀G:A1,(∀w∈G,C6 ys B w)->Yh G->(∃r,kp=ye W ρ G k++r)->oA ys (λy=>bt (ρ y) k) pl kp G=((YQ W ρ G).map (λx=>bt x k),ye W ρ G (k+1))
 |[],_,_,_=>rfl
 |w::r,hw,he,hkp=>by
  obtain⟨r0,I⟩:=hkp;have Z:=Nl O T D kp r (λw h=>hw w (cA _ h)) he.2 ⟨_,by rw[I];show(_++_)++_=_;rw[lW]⟩;have htk:((YQ W ρ r).take (aO w)).length=aO w:=by rw[cE,qZ W ρ r];exact Bi he.1
  have ml:=Tq W ρ r;have word:∀y,w=.str y->y∉ys->(y∈Yt\/(y∈GD/\aO w=YD y))->oA ys (λy=>bt (ρ y) k) pl kp (w::r)=((YQ W ρ (w::r)).map (λx=>bt x k),ye W ρ (w::r) (k+1)):=by
   rintro y rfl q C;have J:y∈Yt\/(y∈GD/\((YQ W ρ r).take (aO (.str y))).length=YD y):=Vd
   by_cases F:y∈allR
   .have g:mE (.str y)=true:=bC F;have hg:kp.getD (ye W ρ r (k+1)).length 0=mR y ((YQ W ρ r).take (aO (.str y))) k:=by
     have e:ye W ρ (.str y::r) k=ye W ρ r k++[mR y ((YQ W ρ r).take (aO (.str y))) k]:=by
      show _++(if mE _=true then _ else _)=_;rw[aN g];rfl
     rw[I,e,ml,<-ml k,lW,cF,eL (aM _),nB];rfl
    show(if y∈allR then _ else _)=_;rw[aN F,Z];rw[hg,<-pQ,Zlg ρ O F J,<-ur];refine C5 ?_ ?_
    .show _::_=bt _ k::((YQ W ρ r).drop _).map _;rw[sQ]
    .show _=_++(if mE _=true then _ else _);rw[aN g];rfl
   .have g:¬mE (.str y)=true:=λz=>F (dJ z)
    show(if y∈allR then _ else if y∈ys then _ else _)=_;rw[aL F,aL q,Z];rw[<-pQ,RX ρ O F J];refine C5 ?_ ?_
    .show _::_=bt _ k::((YQ W ρ r).drop _).map _;rw[sQ]
    .show _=_++(if mE _=true then _ else _);rw[aL g,d9]
  rcases hw w bN with(⟨y,rfl,C,q,Y⟩|⟨y,rfl,C,hnr,Y⟩|⟨z,rfl,z0,z1,Y⟩)|⟨y,rfl,C,q⟩
  .exact word y U q (.inr ⟨C,Y⟩)
  .have Q:=λz=>D y C (wq y z)
   have g:¬mE (.str y)=true:=λz=>Q (dJ z);show(if y∈allR then _ else if y∈ys then _ else _)=_;rw[aL Q,aN C,Z];refine C5 ?_ ?_
   .show _::_=bt (if y∈Yt then _ else _) k::((YQ W ρ r).drop _).map _;rw[aL λz=>D y C (xT y z),X0 _ _ _ O,Y];rfl
   .show _=_++(if mE _=true then _ else _);rw[aL g,d9]
  .show(bt z pl::(oA ys _ pl kp r).1.drop _,(oA ys _ pl kp r).2)=_;rw[Z];have ez:bt z pl=bt z k:=by
    rcases T with h|⟨h1,h2⟩
    .rw[h]
    .rw[Nk z0 z1 h1,Nk z0 z1 h2]
   refine C5 ?_ ?_
   .show bt z pl::_=bt (B7 ρ _ _%2^W) k::((YQ W ρ r).drop _).map _;rw[X0 _ _ _ O,ez];rfl
   .show _=_++(if mE _=true then _ else _);rw[aL nofun,d9]
  .exact word y U q (.inl C)
theorem vR{ν g:Str->Int}{pl:Nat}{kp:Ak}(h:∀y∈ys,ν y=g y):∀q:A1,oA ys ν pl kp q=oA ys g pl kp q
 |[]=>rfl
 |w::r=>by
  unfold oA;rw[vR h r];cases w with
  |str y=>
   by_cases B:y∈allR
   .simp[aN B]
   .grind
  |_=>rfl
theorem Ry:∀{g:A1},∀x∈ye W ρ g k,x=0\/x=1
 |w::r,x,h=>by
  rcases dH.mp h with h|h
  .exact Ry x h
  .split at h
   .rw[b9.mp h];exact Sh _ _ _
   .cases h
def Up(W:Nat)(ρ:Str->Int)(g:A1)(k i:Nat):(ye W ρ g k).getD i 0=0\/(ye W ρ g k).getD i 0=1:=by
 rw[cF];cases e:(ye W ρ g k)[i]? with
 |none=>exact .inl U
 |some x=>exact Ry x (bP e)
theorem ux(W:Nat)(ρ:Str->Int):∀g:A1,ye W ρ g 0=List.replicate (g.filter mE).length 0
 |[]=>rfl
 |w::r=>by
  show ye W ρ r 0++_=_;rw[ux W ρ r,nU];split
  .rw[Zih,lL,K4]
  .rw[d9]
theorem uy{B:Nat}:∀{g:A1},(∀w∈g,C6 ys B w)->YA g=(g.filter mE).length
 |[],_=>rfl
 |w::r,h=>by
  rw[Jh,uy (λv q=>h v (cA _ q)),nU];have e:cG w (allR.map V.str)=mE w:=by
   rcases h w bN with(⟨y,rfl,_⟩|⟨y,rfl,_⟩|⟨z,rfl,_⟩)|⟨y,rfl,_⟩
   .exact Yg _ _
   .exact Yg _ _
   .exact wb z _
   .exact Yg _ _
  rw[e];split<;>rfl
def yf{W k c:Nat}(g:N.Nodup)(J:∀y∈N,y∉YT)(hw:∀w∈u,C6 N 10 w)(I:Yh u)(O:k<W)(Q:ls[k]?=some c)(B:c<2^N.length):
  (CI N (YF (2^N.length) N) u (min (k:Int) (cL u:Int),ye W (qY ls N) u k)).1.map (λx=>bt x c)=(YQ W (qY ls N) u).map (λx=>bt x k)/\(CI N (YF (2^N.length) N) u (min (k:Int) (cL u:Int),ye W (qY ls N) u k)).2.map (λx=>bt x c)=ye W (qY ls N) u (k+1):=by
 have C:∀w∈u,C6 N _ w:=λw h=>by
  rcases hw w h with(z|z|⟨z,rfl,D,_,G⟩)|z
  .exact .inl (.inl z)
  .exact .inl (.inr (.inl z))
  .exact .inl (.inr (.inr ⟨z,U,D,Cz h D,G⟩))
  .exact .inr z
 obtain⟨e1,e2⟩:=uw (Up W _ u k) c u;have q:∀y∈N,bt _ c=bt _ k:=λy F=>by
  obtain⟨i,hi⟩:=sO.mp F;rw[Zk9 g hi B,Zpv g hi Q]
 rw[vR q u,Nl (pl:=(min (k:Int) (cL u)).toNat) O Vd J _ u C I ⟨[],(d9 _).symm⟩]at e1 e2;exact⟨e1,e2⟩
theorem Zin{ls:Aj}{W:Nat}{o:Int}{o0 o1:V}{l:List (Int×Ak)}(G:N.Nodup)(O:∀y∈N,y∉YT)(hw:∀w∈u,C6 N 10 w)(Z:Yh u)(hW:W<=ls.length)(T:∀x∈ls,x<2^N.length)(ho:YQ W (qY (ls.take W) N) u=[o])
  (B:bJ (eB N (YF (2^N.length) N) u (cL u)) (0,List.replicate (YA u) 0) l):
  ∀k,k<W->(u0 (bF (eB N (YF (2^N.length) N) u (cL u)) l) (l.map (dM N (YF (2^N.length) N) u o0 o1)) 0 ls)[k]?=some (if bt o k=1 then o1 else o0):=by
 generalize hρ:qY _ N=ρ at *;have e0:(0,List.replicate (YA u) 0)=(min ((0:Nat):Int) (cL u:Int),ye W ρ u 0):=by
  rw[ux,uy hw,show min _ (cL u:Int)=0 by lia]
 have at_:∀k,k<W->∃c,ls[k]?=some c/\(ls.take W)[k]?=some c/\c<2^N.length:=λk O=>by
  have h1:ls[k]?=some ls[k]:=aR _;exact⟨_,h1,Vd,T _ (bP h1)⟩
 have step:∀k,k<=W->cJ (bF (eB N (YF (2^N.length) N) u (cL u)) l) 0 (ls.take k)=dY l (min k (cL u:Int),ye W ρ u k)/\(min (k:Int) (cL u:Int),ye W ρ u k)∈l:=by
  intro k
  induction k with
  |zero=>
   intro _;rw[<-e0];exact⟨B.zero.symm,B.begin.2⟩
  |succ k J=>
   intro hk1;obtain⟨i1,i2⟩:=J Vc;obtain⟨c,Q,D,C⟩:=at_ k Vc;obtain⟨_,e2⟩:=yf G O hw Z (show k<W by lia) D C;rw[hρ]at e2;have Y:(eB N (YF (2^N.length) N) u (cL u) (min k (cL u:Int),ye W ρ u k))[c]?=some (min ((k+1:Nat):Int) (cL u:Int),ye W ρ u (k+1)):=by
    unfold eB;rw[ja C,e2];congr 2;grind
   refine⟨?_,B.next i2 (bP Y)⟩;rw[aB Q,X5,i1,KI (λs hs x hx=>B.next hs hx) i2,cF,aY,Y];rfl
 intro k I;obtain⟨i1,i2⟩:=step k Vc;obtain⟨c,Q,D,C⟩:=at_ k I;obtain⟨e1,_⟩:=yf G O hw Z I D C;rw[hρ]at e1;have F:k<ls.length:=Vc
 have ek:ls=ls.take k++c::ls.drop (k+1):=by
  rw[show c::ls.drop (k+1)=ls.drop k by rw[rE F];congr 1;exact(bM.mp Q).2.symm,oN]
 have go:∀(nx:List _)(ot:Ay)(s:Nat)(a:Aj)(c:Nat)(r:Aj),(u0 nx ot s (a++c::r))[a.length]?=some ((ot.getD (cJ nx s a) []).getD c .aX):=λnx ot s a c r=>by
  induction a generalizing s with
  |nil=>rfl
  |cons d a J=>exact J _
 have g:=go (bF (eB N (YF (2^N.length) N) u (cL u)) l) (l.map (dM N (YF (2^N.length) N) u o0 o1)) 0 (ls.take k) c (ls.drop (k+1));rw[<-ek,cE,Bi Vc,i1,Zpw i2]at g;rw[g];congr 1;unfold dM;rw[cF,ja C];rw[ho]at e1;generalize (CI N _ u _).1=q at e1 ⊢;have hq:=by
  have:=congrArg List.length e1;rw[aI]at this;exact this
 match q,hq,e1 with
 |[x],_,e1=>
  have e1:bt x c=bt o k:=Vd
  show(if bt x c=1 then o1 else o0)=_;rw[e1]
inductive lA(ys:Ai):A1->List Bool->Prop
 |nil:lA ys [] []
 |sum {w:V} {r:A1} {ks:List Bool}:Gn ys 10 w->lA ys r (List.replicate (aO w) false++ks)->lA ys (w::r) (false::ks)
 |Mm {y:Str} {r:A1} {ks:List Bool}:y∈Yt->y∉ys->lA ys r (List.replicate (uU (.str y)) false++(List.replicate (pJ (.str y)) true++ks))->lA ys (.str y::r) (true::ks)
def uz:∀y∈Yt,aO (.str y)=uU (.str y)+pJ (.str y):=Va
theorem lA.facts(h:lA ys u ks):(∀w∈u,C6 ys 10 w)/\Yh u/\WX u=ks.length:=by
 induction h with
 |nil=>exact⟨(λ_ h=>nomatch h),trivial,U⟩
 | @sum w r ks hw _ B=>
  obtain⟨h1,h2,q⟩:=B;rw[aZ,eZ]at q;refine⟨λv g=>?_,⟨(by simp_all),h2⟩,?_⟩
  .rcases bR.mp g with rfl|g
   .exact .inl hw
   .exact h1 v g
  .show WX r-aO w+1=ks.length+1;simp_all
 | @Mm y r ks C D _ B=>
  obtain⟨h1,h2,q⟩:=B;rw[aZ,aZ,eZ,eZ]at q;have e:=uz y C;refine⟨λv g=>?_,⟨(by simp_all),h2⟩,?_⟩
  .rcases bR.mp g with rfl|g
   .exact .inr ⟨y,U,C,D⟩
   .exact h1 v g
  .show WX r-aO _+1=ks.length+1;lia
def CM{x:Int}{W:Nat}(g:0<=x)(h1:x<2^W):lo x W=x:=rT g h1
def IG{x:Int}{k:Nat}(g:0<=x)(h1:x<2^(k+1)):CQ x k=mM (2^(k+1)) x:=by
 have e:=jO x k;rw[CM g h1]at e;have b:=yM x k;unfold CQ mM;rcases YU x k with a|a<;>skip
 .lia
 .lia
def V0:∀y∈Yt,0<uU (.str y)->pJ (.str y)=0/\((y = "same" /\ uU (.str y)=2)\/(y = "under" /\ uU (.str y)=2)\/(y = "beneath" /\ uU (.str y)=2)\/(y = "sign" /\ uU (.str y)=1)\/(y = "nought" /\ uU (.str y)=1)):=Va
def PQ(F:1<=W){y:Str}(C:y∈Yt)(D:0<uU (.str y)){xs:Ak}(B:xs.length=uU (.str y))(g:∀x∈xs,0<=x/\x<2^W):IA (2^W) y xs=decide (rM y xs (W-1)=1):=by
 obtain⟨k,rfl⟩:∃k,W=k+1:=⟨W-1,(by simp_all)⟩;obtain⟨_,h⟩:=V0 y C D;rcases h with⟨rfl,e⟩|⟨rfl,e⟩|⟨rfl,e⟩|⟨rfl,e⟩|⟨rfl,e⟩<;>skip
 .match xs,B with
  |[a,b],_=>
   have q:=g a bN;have g:=g b (cA _ bN);show decide (a=b)=decide (1-mJ a b (k+1)=1);refine rJ.mpr ?_;unfold mJ;rw[CM q.1 q.2,CM g.1 g.2];split<;>simp_all
 .match xs,B with
  |[a,b],_=>
   have q:=g a bN;have g:=g b (cA _ bN);show decide (a<b)=decide (fP a b (k+1)=1);refine rJ.mpr ?_;unfold fP;rw[CM q.1 q.2,CM g.1 g.2];split<;>simp_all
 .match xs,B with
  |[a,b],_=>
   have q:=g a bN;have g:=g b (cA _ bN);show decide (mM _ a<mM _ b)=decide (pG a b k=1);refine rJ.mpr ?_;unfold pG;rw[IG q.1 q.2,IG g.1 g.2];split<;>simp_all
 .match xs,B with
  |[a],_=>
   have q:=g a bN;show decide (mM _ a<0)=decide (bt a k=1);refine rJ.mpr ?_;rw[<-IG q.1 q.2];have b:=yM a k;unfold CQ;rcases YU a k with h|h<;>rw[h]<;>lia
 .match xs,B with
  |[a],_=>
   have q:=g a bN;show decide (a=0)=decide (1-lS a (k+1)=1);refine rJ.mpr ?_;unfold lS fP;rw[CM q.1 q.2,show lo 0 _=0 from Int.zero_emod _];split<;>lia
def fT(ys:Ai)(b:Bool)(g:A1):Prop:=∀(r:A1)(ks:List Bool),lA ys r ks->lA ys (g++r) (b::ks)
theorem PK:∀{q:A1},(∀w∈q,Gn ys 10 w)->Yh q->∀(r:A1)(ks:List Bool),lA ys r ks->lA ys (q++r) (List.replicate (WX q) false++ks)
 |[],_,_,r,ks,h=>h
 |w::g,hw,B,r,ks,h=>by
  have C:=PK (λv D=>hw v (cA _ D)) B.2 r ks h;show lA ys (w::(g++r)) (List.replicate (WX g-aO w+1) false++ks);refine .sum (hw w bN) ?_;show lA ys (g++r) (List.replicate (aO w) false++(List.replicate (WX g-aO w) false++ks));rw[<-lW,List.replicate_append_replicate,show aO w+(WX g-aO w)=WX g by have:=B.1;simp_all];exact C
theorem fT.sum{g:A1}(hw:∀w∈g,Gn ys 10 w)(B:Yh g)(q:WX g=1):fT ys false g:=λr ks h=>by
 have:=PK hw B r ks h;rw[q]at this;exact this
theorem fT.MR{y:Str}(g:y∈Yt)(q:y∉ys)(h1:uU (.str y)=1)(h2:pJ (.str y)=0)(h:fT ys false u):fT ys true (.str y::u):=λr ks B=>by
 refine .Mm g q ?_;rw[h1,h2];exact h r ks B
theorem fT.Ih{y:Str}{vs:A1}(q:y∈Yt)(B:y∉ys)(h1:uU (.str y)=2)(h2:pJ (.str y)=0)(h:fT ys false u)(g:fT ys false vs):fT ys true (.str y::(u++vs)):=λr ks C=>by
 refine .Mm q B ?_;rw[h1,h2];show lA ys ((u++vs)++r) _;rw[lW];exact h _ _ (g r ks C)
def fT.ty{b:Bool}(h:fT ys b u):lA ys u [b]:=by
 have:=h [] [] .nil;rw[d9]at this;exact this
def wx(w:V)(r:A1):YA (w::r)<=YA r+1:=by
 rw[Jh];split<;>lia
def Bw:∀y∈Yt,(y∈allR/\1<=aO (.str y)/\(y∈CF->2<=aO (.str y)))\/(y∈D6/\y∉allR/\aO (.str y)=Ez y):=Va
theorem XO(W:Nat)(ρ:Str->Int):∀{u:A1},Yh u->∀r,YQ W ρ (u++r)=YQ W ρ u++YQ W ρ r
 |[],_,r=>rfl
 |w::u,h,r=>by
  have q:=XO W ρ h.2 r;have g:aO w<=(YQ W ρ u).length:=by rw[qZ];exact h.1
  show nF W ρ w ((YQ W ρ (u++r)).take (aO w))::(YQ W ρ (u++r)).drop (aO w)=(nF W ρ w ((YQ W ρ u).take (aO w))::(YQ W ρ u).drop (aO w))++YQ W ρ r;rw[q,List.take_append_of_le_length g,List.drop_append_of_le_length g,FN]
def Ci(W:Nat)(ρ:Str->Int)(w:V)(is:Ak):0<=nF W ρ w is/\nF W ρ w is<2^W:=by
 have q:=qS W;have g:∀z:Int,0<=z%2^W/\z%2^W<2^W:=λz=>⟨fF _ Vc,fY _ q⟩;unfold nF
 split
 .split
  .exact wg (Ht _ _) W
  .exact g _
 .exact g _
theorem yg{o:Int}:∀{g:A1},YQ W ρ g=[o]->0<=o/\o<2^W
 |[],h=>nomatch h
 |w::r,h=>by
  have e:nF W ρ w ((YQ W ρ r).take (aO w))=o:=(List.cons.inj h).1;rw[<-e];exact Ci _ _ _ _
structure cH(nm:Ai)(b:Bool)(ws:A1):Prop where
 n3:nm.length<=3
 nd:nm.Nodup
 kp:∀y∈nm,y∉YT
 ln:ws.length<=100
 sg:fT nm b ws
 rm:YA ws<=15
theorem cH.wc{b:Bool}(S:cH N b u):∀w∈u,yN N w:=λw h=>by
 rcases S.sg.ty.facts.1 w h with h|⟨y,rfl,B,q⟩
 .exact Pu S.kp h
 .rcases Bw y B with⟨h1,h2,g⟩|⟨h1,h2,g⟩
  .exact .inl ⟨y,U,h1,q,h2,g⟩
  .exact .inr (.inl ⟨y,U,h1,h2,q,g⟩)
theorem cH.iz{b:Bool}(S:cH N b u):∀z:Int,V.int z∈u->0<=z/\z<2^10:=λz h=>by
 rcases S.sg.ty.facts.1 _ h with(⟨y,e,_⟩|⟨y,e,_⟩|⟨q,e,g,h1,_⟩)|⟨y,e,_⟩
 .cases e
 .cases e
 .cases e;exact⟨g,h1⟩
 .cases e
def cH.big{b:Bool}(S:cH N b u):(10+1)*2^YA u<=1000000:=by
 have:2^YA u<=2^15:=pY Vb S.rm;lia
def cH.len{b:Bool}{l:List (Int×Ak)}(S:cH N b u)(B:bJ (bI N u) (0,List.replicate (YA u) 0) l):l.length<=1000000:=by
 have h:=ug (nx:=bI N u) (b:=((0:Int),List.replicate (YA u) (0:Int))) (Ua:=l9 (YA u) (cL u+1)) (Gp.mpr ⟨0,Vc,U,X4.mpr ⟨eZ,λx C=>.inl (C7 C)⟩⟩) (λs q=>jd S.wc U q) l.length;rw[<-B.e,yb]at h;have h2:cL u<=10:=FX S.iz;have g:=S.big;exact bS h (bS (EI _ Vc) g)
def cH.runs{b:Bool}{l:List (Int×Ak)}(S:cH N b u)(B:bJ (bI N u) (0,List.replicate (YA u) 0) l)(o0 o1:V):bD (bF (bI N u) l) (l.map (dM N (YF (2^N.length) N) u o0 o1)) N.length:=by
 obtain⟨g,C⟩:=RC B (n:=2^N.length) (Zpx _ _ _ _);have hpos:0<l.length:=EL B.begin.2;refine⟨by rw[Xm];exact hpos,by rw[Xm,aI],g,C,λr q=>?_⟩;obtain⟨s,_,rfl⟩:=bG.mp q;exact Vw _ _ _ _ _ _
structure DR(nm:Ai)(ws:A1)(ls:Aj)(o0 o1:V)(row:A1):Prop where
 len:row.length=ls.length
 bit:∀W,1<=W->W<=ls.length->∃o,YQ W (qY (ls.take W) nm) ws=[o]/\∀k,k<W->row[k]?=some (if bt o k=1 then o1 else o0)
def cH.row{b:Bool}{l:List (Int×Ak)}{ls:Aj}(S:cH N b u)(B:bJ (bI N u) (0,List.replicate (YA u) 0) l)(g:∀x∈ls,x<2^N.length)(o0 o1:V):DR N u ls o0 o1 (u0 (bF (bI N u) l) (l.map (dM N (YF (2^N.length) N) u o0 o1)) 0 ls):=by
 refine⟨wt _ _ _ _,λW h1 h2=>?_⟩;have f:=S.sg.ty.facts;obtain⟨o,C⟩:∃o,YQ W (qY (ls.take W) N) u=[o]:=by
  have h:=qZ W (qY (ls.take W) N) u;rw[f.2.2]at h;generalize YQ W (qY (ls.take W) N) u=q at h
  match q,h with
  |[o],_=>exact⟨o,U⟩
 exact⟨o,C,Zin S.nd S.kp f.1 f.2.1 h2 g C B⟩
def zA(o:Int)(W:Nat):sm (λk=>bt o k) W=o%2^W:=Oi o W
def xY{b:Bool}(S:fT N b u)(W:Nat)(ρ:Str->Int):YQ W ρ u=[(YQ W ρ u).getD 0 0]:=by
 have h:=qZ W ρ u;rw[S.ty.facts.2.2]at h;generalize YQ W ρ u=q at h
 match q,h with
 |[o],_=>rfl
def Dp(g:List (Ak))(cs:Aj):Prop:=∀(i j:Nat)(a b:Ak),g[i]?=some a->g[j]?=some b->cs[i]?=cs[j]?->a=b
def mX(nx:Ad)(g:List (Ak)):Nat->List Nat
 |0=>WZ g
 |i+1=>WZ (jb nx (mX nx g i))
theorem Zli{g:List (Ak)}{j:Nat}(h:WZ (jb nx (mX nx g i))=mX nx g i)(B:i<=j):mX nx g j=mX nx g i:=by
 obtain⟨d,rfl⟩:∃d,j=i+d:=⟨j-i,Vc⟩
 induction d with
 |zero=>rfl
 |succ d q=>
  show WZ (jb nx (mX nx g (i+d)))=_;rw[q Vc,h]
def yh:Ak->Nat->List Nat->List Nat
 |[],_,acc=>acc
 |c::r,i,acc=>yh r (i+1) (if c=(acc.length:Int)then acc++[i]else acc)
structure lM(R:Ad):Prop where
 ord:∀(r p t:Nat)(row:Aj),R[r]?=some row->row[p]?=some t->∀t',t'<t->t'=0\/(∃r' row',r'<r/\R[r']?=some row'/\t'∈row')\/t'∈row.take p
 reach:∀t,0<t->t<R.length->∃r row,r<t/\R[r]?=some row/\t∈row
 lt:∀row∈R,∀s∈row,s<R.length
theorem yi{b x:Nat}:∀i,x∈jU nx b i↔x=b\/∃j,j<i/\x∈nx.getD ((jU nx b j).getD j 0) []
 |0=>by
  constructor
  .exact λh=>.inl (b9.mp h)
  .rintro(h|⟨j,g,_⟩)
   .exact b9.mpr h
   .exact absurd g (nP _)
 |i+1=>by
  show x∈l7 nx _ i↔_;unfold l7;rw[Jx,yi i];constructor
  .grind
  .grind
def cU(nx:Ad)(l:Aj):Ad:=l.map λs=>(nx.getD s []).map λx=>l.idxOf x
def fv(ot:Ay)(l:Aj):Ay:=l.map λs=>ot.getD s []
def qr(nx:Ad)(l:Aj):(cU nx l).length=l.length:=aI ..
def vM.nodup{b:Nat}{l:Aj}(B:vM nx b l):l.Nodup:=by
 rw[B.e];exact jV nx b _
def vM.at{b:Nat}{l:Aj}(B:vM nx b l){j:Nat}(g:j<l.length):l[j]?=some ((jU nx b j).getD j 0):=by
 have:=BV g (B.go j g);rw[<-B.e]at this;exact this
def vM.next{b:Nat}{l:Aj}(B:vM nx b l){s x:Nat}(hi:l[i]?=some s)(q:x∈nx.getD s []):x∈l:=by
 have g:=(bM.mp hi).1;rw[B.at g]at hi;rw[B.e,yi];refine .inr ⟨i,g,?_⟩;rw[Option.some.inj hi];exact q
def vM.zero{b:Nat}{l:Aj}(B:vM nx b l):l[0]?=some b:=by
 have:b∈l:=by rw[B.e,yi];exact .inl U
 exact B.at (EL this)
def vM.pre{b:Nat}{l:Aj}(B:vM nx b l){j:Nat}(g:j<=l.length):∃r,l=jU nx b j++r:=by
 obtain⟨r,e⟩:=Md nx b j _;rw[show j+(l.length-j)=l.length by simp_all,<-B.e]at e;exact⟨r,e⟩
def wy{b:Nat}{l:Aj}(B:vM nx b l):lM (cU nx l):=by
 have Q:=B.nodup;have g:∀{r:Nat} {row:Aj},(cU nx l)[r]?=some row->∃s,l[r]?=some s/\row=(nx.getD s []).map _:=λ{r row} h=>by
  unfold cU at h;rw[aY]at h;obtain⟨s,D,e⟩:=eG.mp h;exact⟨s,D,e.symm⟩
 have Y:∀{j:Nat} {x:Nat},j<l.length->x∈nx.getD _ []->∃row,(cU nx l)[j]?=some row/\l.idxOf x∈row:=λ{j x} Z G=>by
  refine⟨_,?_,mY (f:=λx=>l.idxOf x) G⟩;unfold cU;rw[aY,B.at Z];rfl
 refine⟨λr p t row hr hp t' ht=>?_,λt h1 h2=>?_,λrow J s D=>?_⟩
 .obtain⟨s,D,rfl⟩:=g hr;have O:=(bM.mp D).1;rw[aY]at hp;obtain⟨x,G,rfl⟩:=eG.mp hp;have es:=by
   have:=B.at O;rw[D]at this;exact(Option.some.inj this).symm
  obtain⟨q,eq⟩:=B.pre O;have eb:jU nx b (r+1)=((nx.getD s []).drop (p+1)).foldl Y1 (Y1 (((nx.getD s []).take p).foldl Y1 (jU nx b r)) x):=by
   show l7 nx _ r=_;unfold l7;rw[es];have:=oN (p+1) (nx.getD s [])
   conv=>lhs;rw[<-this]
   rw[nN,aB G,nN];rfl
  obtain⟨q2,e2⟩:=Wx ((nx.getD s []).drop _) _;rw[e2]at eb;rw[eb,lW]at eq;generalize hL:((nx.getD s []).take p).foldl Y1 _=L at *;obtain⟨q3,e3⟩:=kH L x;have C:t'<L.length:=by
   have hxm:x∈Y1 L x:=Wg.mpr (.inr U);have hlt:=oS hxm;have h3:=zV L x;have h4:l.idxOf x=(Y1 L x).idxOf x:=Vd
   lia
  have hy:l[t']?=some L[t']:=by
   rw[eq,e3,lW,eH C,aR C]
  have F:=f7 C;have I:=W9 Q hy;generalize L[t']=y at *;rw[<-hL]at F;rcases(Jx _ _).mp F with h|h
  .rcases(yi r).mp h with h|⟨j,Z,h⟩
   .refine .inl ?_;rw[<-I,h];exact W9 Q B.zero
   .grind(gen:=1)
  .refine .inr (.inr ?_);rw[<-pQ,<-I];exact mY h
 .rw[qr]at h2;have hg:=B.go t h2;have hm:(jU nx b t).getD t 0∈jU nx b t:=by
   rw[cF,aR hg];exact f7 hg
  have hi:=W9 Q (B.at h2);rcases(yi t).mp hm with h|⟨j,Z,h⟩
  .rw[h,W9 Q B.zero]at hi;simp_all
  .grind
 .obtain⟨r,hr⟩:=sO.mp J;obtain⟨s',T,rfl⟩:=g hr;obtain⟨x,G,rfl⟩:=bG.mp D;rw[qr];exact oS (B.next T G)
structure Mi(cs fs:Aj):Prop where
 at_:∀c f:Nat,fs[c]?=some f->cs[f]?=some c/\∀j d:Nat,j<f->cs[j]?=some d->d<c
 lt:∀j d:Nat,cs[j]?=some d->d<fs.length
theorem Rj[DecidableEq g](ks:List g)(i d:Nat)(h:(WZ ks)[i]?=some d)(c:Nat)(hc:c<d):∃j,j<i/\(WZ ks)[j]?=some c:=by
 rw[zX]at h;obtain⟨k,O,rfl⟩:=eG.mp h;obtain⟨r,T⟩:=vA ks _;have e1:ZW (ks.take (i+1))=Y1 (ZW (ks.take i)) k:=by rw[aB O,v9]
 rw[e1]at T;obtain⟨q,Z⟩:=kH (ZW (ks.take i)) k;have C:k∈Y1 (ZW (ks.take i)) k:=Wg.mpr (.inr U);have I:=oS C;have Y:=zV (ZW (ks.take i)) k;have h4:(ZW ks).idxOf k=(Y1 (ZW (ks.take i)) k).idxOf k:=Vd
 have G:(ZW ks)[c]?=some (ZW (ks.take i))[c]:=by
  grind
 have J:(ZW (ks.take i))[c]∈ZW _:=f7 _;generalize (ZW (ks.take i))[c]=y at *;obtain⟨j,B⟩:=sO.mp ((Y5 _ y).mp J);rw[EV]at B;split at B
 .rename_i D;refine⟨j,D,?_⟩;rw[zX,B];obtain⟨F,Q⟩:=bM.mp G;show some ((ZW ks).idxOf y)=_;rw[<-Q,List.Nodup.idxOf_getElem (Wn ks) c F]
 .cases B
theorem Zp4(F:WZ S=S):∀(g pre acc:Aj),S=pre++g->(∀c f:Nat,acc[c]?=some f->pre[f]?=some c/\∀j d:Nat,j<f->pre[j]?=some d->d<c)->(∀j d:Nat,pre[j]?=some d->d<acc.length)->Mi S (yh (g.map λc:Nat=>(c:Int)) pre.length acc):=λg=>by
 induction g with
 |nil=>
  intro pre acc e h1 h2;rw[d9]at e;subst e;exact⟨h1,h2⟩
 |cons x r G=>
  intro pre acc e h1 h2;have Y:S[pre.length]?=some x:=by
   rw[e,eL (aM _),nB];rfl
  have Z:x<=acc.length:=by
   rcases nT acc.length x with h|h
   .obtain⟨j,I,O⟩:=Rj S pre.length x (by rw[F];exact Y) acc.length h;rw[F,e,eH I]at O;have:=h2 j _ O;lia
   .exact h
  have J:S=(pre++[x])++r:=Vd
  have T:∀{j d:Nat},pre[j]?=some d->(pre++[x])[j]?=some d:=λ{j d} h=>by
   rw[eH (bM.mp h).1];exact h
  have B:∀{α:Type} {l:List α} {y z:α} {j:Nat},(l++[y])[j]?=some z->l[j]?=some z\/(j=l.length/\z=y):=λ{α l y z j} h=>by
   grind
  have Q:(pre++[x]).length=pre.length+1:=aZ;show Mi S (yh _ (pre.length+1) _);rw[<-Q]
  by_cases C:x=acc.length
  .rw[aN (by rw[C])];refine G _ _ J (λc f D=>?_) λj d q=>?_
   .rcases B D with D|⟨rfl,rfl⟩
    .grind
    .refine⟨by rw[eL (aM _),nB,C];rfl,λj d I q=>?_⟩;rcases B q with q|⟨rfl,rfl⟩
     .exact h2 j d q
     .lia
   .grind(ematch:=1)
  .rw[aL Vc];refine G _ _ J (λc f D=>?_) λj d q=>?_
   .grind
   .grind
def XG(cs:Aj):Aj:=yh (cs.map λc:Nat=>(c:Int)) 0 []
def jf(g:WZ S=S):Mi S (XG S):=Zp4 g S [] [] U (λc f h=>by cases h) λj d h=>by cases h
theorem uA:∀(cs:Ak)(i:Nat)(acc:Aj),(yh cs i acc).length<=acc.length+cs.length
 |[],_,acc=>aM _
 |c::r,i,acc=>by
  have:=uA r (i+1) (if c=acc.length then acc++[i]else acc);show(yh r _ _).length<=_;have h2:(if c=acc.length then acc++[i]else acc).length<=acc.length+1:=by
   grind
  rw[lL];lia
def yj(cs:Aj):(XG cs).length<=cs.length:=by
 have:=uA (cs.map λc:Nat=>c) 0 [];unfold XG;simpa using this
def fB(R:Ad)(cs:Aj):Ad:=(XG cs).map λs=>(R.getD s []).map λx=>cs.getD x 0
def nJ(O:Ay)(cs:Aj):Ay:=(XG cs).map λs=>O.getD s []
structure oY(R:Ad)(cs:Aj):Prop where
 len:cs.length=R.length
 st:WZ (jb R cs)=cs
def oY.nn(S:oY R cs):WZ cs=cs:=by
 have:=j7 (jb R cs);rw[S.st]at this;exact this
def oY.row(S:oY R cs){j c:Nat}(hi:cs[i]?=some c)(g:cs[j]?=some c):(R.getD i []).map (λx=>cs.getD x 0)=(R.getD j []).map λx=>cs.getD x 0:=by
 have:=congrArg Prod.snd ((kK (qW hi (aR (by rw[<-S.len];exact(bM.mp hi).1))) (qW g (aR (by rw[<-S.len];exact(bM.mp g).1)))).mp (by rw[S.st,hi,g]));have h2:=congrArg (List.map Int.toNat) this;simp at h2;rw[cF,cF,aR _,aR _];exact h2
def Kx{l:Aj}{x:Nat}(h:l[i]?=some x):l.getD i 0=x:=Vd
def dQ{l:Aj}(h:i<l.length):l[i]?=some (l.getD i 0):=Vd
def Zlj(C:lM R)(S:oY R cs):lM (fB R cs):=by
 have F:=jf S.nn;have ll:(fB R cs).length=(XG cs).length:=aI ..;have g:∀{c:Nat} {row:Aj},(fB R cs)[c]?=some row->∃f,(XG cs)[c]?=some f/\row=(R.getD f []).map λx=>cs.getD x 0:=λ{c row} h=>by
  unfold fB at h;rw[aY]at h;obtain⟨s,hs,e⟩:=eG.mp h;exact⟨s,hs,e.symm⟩
 have cls:∀{j:Nat},j<R.length->∃c f,cs[j]?=some c/\(XG cs)[c]?=some f/\(fB R cs)[c]?=some _:=λ{j} hj=>by
  obtain⟨c,D⟩:∃c,cs[j]?=some c:=⟨_,aR (by rw[S.len];exact hj)⟩;obtain⟨f,B⟩:∃f,(XG cs)[c]?=some f:=⟨_,aR (F.lt j c D)⟩;refine⟨c,f,D,B,?_⟩;unfold fB;rw[aY,B];exact congrArg some (S.row (F.at_ c f B).1 D)
 have O:∀{f x:Nat},x∈R.getD f []->x<R.length:=λ{f x} h=>by
  rw[cF]at h;cases q:R[f]? with
  |none=>rw[q]at h;cases h
  |some row=>rw[q]at h;exact C.lt row (bP q) x h
 have T:=λ{x} h=>by
  exact F.lt x _ (dQ (by rw[S.len];exact h))
 have z0:0<R.length->cs.getD 0 0=0:=λh=>by
  obtain⟨c,f,D,B,_⟩:=cls h;obtain⟨Z,J⟩:∃Z,(XG cs)[0]?=some Z:=⟨_,aR (by have:=F.lt 0 c D;lia)⟩;have h0:=F.at_ 0 Z J
  by_cases e:Z=0
  .rw[e]at h0;exact Kx h0.1
  .have:=h0.2 0 c Vc D;lia
 refine⟨λc p t row hr hp t' ht=>?_,λt h1 h2=>?_,λrow Y s hs=>?_⟩
 .obtain⟨f,B,rfl⟩:=g hr;obtain⟨g1,g2⟩:=F.at_ c f B;have G:f<R.length:=by rw[<-S.len];exact(bM.mp g1).1
  rw[aY]at hp;obtain⟨x,hx,rfl⟩:=eG.mp hp;have Q:=O (bP hx);have htl:=T Q;obtain⟨I,hf'⟩:∃I,(XG cs)[t']?=some I:=⟨_,aR Vc⟩;obtain⟨k1,k2⟩:=F.at_ t' I hf';have hcx:=dQ (by rw[S.len];exact Q);have hfx:I<x:=by
   rcases Nat.lt_trichotomy I x with h|h|h
   .exact h
   .lia
   .have:=k2 x _ h hcx;lia
  rcases C.ord f p x _ (Hq G) hx I hfx with h|⟨r',row',h3,h4,h5⟩|h
  .grind
  .grind
  .refine .inr (.inr ?_);rw[<-pQ];exact bG.mpr ⟨I,h,Kx k1⟩
 .rw[ll]at h2;obtain⟨f,B⟩:∃f,(XG cs)[t]?=some f:=⟨_,aR h2⟩;obtain⟨g1,g2⟩:=F.at_ t f B;have G:f<R.length:=by rw[<-S.len];exact(bM.mp g1).1
  have J:0<f:=by
   grind(ematch:=1)
  obtain⟨r,row,h3,h4,h5⟩:=C.reach f J G;obtain⟨c',f2,q1,q2,q3⟩:=cls (j:=r) Vc;refine⟨c',_,g2 r c' h3 q1,q3,?_⟩;rw[cF,h4];exact bG.mpr ⟨f,h5,Kx g1⟩
 .obtain⟨c,D⟩:=sO.mp Y;obtain⟨f,B,rfl⟩:=g D;obtain⟨x,hx,rfl⟩:=bG.mp hs;rw[ll];exact T (O hx)
def qU.a7{p:Av}(R:qU H p O)(e:∀b xs,H b=am xs->H' b=am xs):qU H' p O:=by
 obtain⟨as,h1,h2,g⟩:=R;refine⟨as,e _ _ h1,h2,λi r hi=>?_⟩;obtain⟨a,q,B⟩:=g i r hi;exact⟨a,q,e _ _ B⟩
def M4.a7{m:Av}{nm:Ai}{b:Nat}{nx:Ad}{ot:Ay}(M:M4 H m nm b nx ot)(e:∀b xs,H b=am xs->H' b=am xs):M4 H' m nm b nx ot:=by
 refine ω M.ex (ε3 λpn ps g=>θ3 λh1 h2 q B=>?_);exact⟨⟨pn,ps,g,e _ _ h1,e _ _ h2,q.a7 e,B.a7 e⟩⟩
def Zp5{o:HO}(q:aQ cs H t=none)(B:∀c∈cs,aC (aQ cs H) t o c=none):ZK H (Ww cs H (aC (aQ cs H) t o))/\Ww cs H (aC (aQ cs H) t o) t=some o:=by
 have m:t∉cs:=λm=>by
  have:=B t m;rw[Za]at this;cases this
 refine⟨λb u e=>?_,by rw[Yv m];exact Za⟩
 by_cases g:b∈cs
 .rw[Jb g];exact e
 .rw[ZX m]at q;rw[Yv g,Zk (Zo e q),ZX g];exact e
def nE(ot:Ay):List (Ak):=ot.map λr=>r.map λv=>(vB v).getD 0
def Zp6(h:∀r∈ot,∀v∈r,∃x,vB v=some x):ot.map (λr=>r.map vB)=(nE ot).map (λk=>k.map some):=by
 unfold nE;rw[cR];refine mK λr q=>?_;show _=(r.map _).map some;rw[cR];refine mK λv g=>?_;obtain⟨x,e⟩:=h r q v g;show vB v=some ((vB v).getD 0);rw[e]
 rfl
def vM.lt{b:Nat}{l:Aj}(B:vM nx b l)(q:b<nx.length)(g:∀row∈nx,∀s∈row,s<nx.length){s:Nat}(h:s∈l):s<nx.length:=by
 rw[B.e]at h;exact MS q g _ s h
def vM.len{b:Nat}{l:Aj}(B:vM nx b l)(C:b<nx.length)(g:∀row∈nx,∀s∈row,s<nx.length):l.length<=nx.length:=by
 have:=(by
    have:=Wi (jV nx b _) λx q=>fV.mpr (MS C g l.length x q);rw[dS]at this;exact this)
 rw[<-B.e]at this;exact this
def P7{b:Nat}{nx:Ad}{ot:Ay}{l:Aj}(W:Wf N b nx ot j)(B:vM nx b l):Wf N 0 (cU nx l) (fv ot l) j:=by
 have D:∀s∈l,s<nx.length:=λs h=>B.lt W.b W.nl h;have C:∀r∈fv ot l,r∈ot:=λr h=>by
  obtain⟨s,q,rfl⟩:=bG.mp h;exact aA (by rw[W.ol];exact D s q)
 refine⟨W.n3,?_,?_,?_,λr g=>?_,(wy B).lt,λr g=>W.or r (C r g),λr g=>W.ok r (C r g),λr g=>W.bit r (C r g)⟩
 .rw[qr];exact(bM.mp B.zero).1
 .rw[qr];exact bS (B.len W.b W.nl) W.le
 .rw[qr];exact aI ..
 .obtain⟨s,q,rfl⟩:=bG.mp g;rw[aI];exact W.nr _ (aA (D s q))
def DZ(W:Wf N 0 R O j)(C:lM R)(S:oY R cs):Wf N 0 (fB R cs) (nJ O cs) j:=by
 have F:=jf S.nn;have G:∀f∈XG cs,f<R.length:=λf h=>by
  obtain⟨c,I⟩:=sO.mp h;rw[<-S.len];exact(bM.mp (F.at_ c f I).1).1
 have B:∀r∈nJ O cs,r∈O:=λr h=>by
  obtain⟨s,q,rfl⟩:=bG.mp h;exact aA (by rw[W.ol];exact G s q)
 have D:(fB R cs).length=(XG cs).length:=aI ..;refine⟨W.n3,?_,?_,?_,λr g=>?_,(Zlj C S).lt,λr g=>W.or r (B r g),λr g=>W.ok r (B r g),λr g=>W.bit r (B r g)⟩
 .rw[D];exact EB (cD _) (F.lt 0 _ (dQ (by rw[S.len];exact W.b)))
 .rw[D];have:=yj cs;have h2:=W.le;rw[S.len]at this;lia
 .rw[D];exact aI ..
 .obtain⟨s,q,rfl⟩:=bG.mp g;rw[aI];exact W.nr _ (aA (G s q))
theorem Tg{b:Nat}{nx:Ad}{ot:Ay}(W:Wf N b nx ot j):ot.map (λr=>r.map vB)=(nE ot).map (λk=>k.map some):=Zp6 λr q v g=>by
 rcases W.bit r q v g with h|h
 .exact⟨_,h⟩
 .exact⟨_,h⟩
def Ux(cs:Aj)(s:Nat):(cs.map λc:Nat=>(c:Int)).getD s 0=((cs.getD s 0:Nat):Int):=Vd
structure HX(nx nx':Ad)(ot ot':Ay)(b b':Nat)(A:Nat->Nat->Prop):Prop where
 b:A b b'
 lt:∀s c,A s c->s<nx.length/\c<nx'.length
 fn:∀s c c':Nat,A s c->A s c'->c=c'
 out:∀s c,A s c->ot'.getD c []=ot.getD s []
 next:∀s c p x y:Nat,A s c->(nx.getD s [])[p]?=some x->(nx'.getD c [])[p]?=some y->A x y
def BW{v q:V}(h:YE j v)(h':YE j q)(e:(vB v).getD 0=(vB q).getD 0):v=q:=by
 rcases h with⟨B,x,rfl⟩|⟨B,x,rfl⟩<;>rcases h' with⟨g,y,rfl⟩|⟨g,y,rfl⟩
 .cases x<;>cases y
  .rfl
  .cases e
  .cases e
  .rfl
 .rw[B]at g;cases g
 .rw[B]at g;cases g
 .have e:x=y:=e;rw[e]
theorem Np{B:Bool}:∀{r g:A1},(∀v∈r,YE B v)->(∀v∈g,YE B v)->r.map (λv=>(vB v).getD 0)=g.map (λv=>(vB v).getD 0)->r=g
 |[],[],_,_,_=>rfl
 |[],_::_,_,_,e=>by cases e
 |_::_,[],_,_,e=>by cases e
 |v::r,C::g,h,h',e=>by
  injection e with e1 e2;rw[BW (h v bN) (h' C bN) e1,Np (λv q=>h v (cA _ q)) (λv q=>h' v (cA _ q)) e2]
def Al(l cs:Aj)(s c:Nat):Prop:=∃i:Nat,l[i]?=some s/\cs[i]?=some c
def Fp{b:Nat}{nx:Ad}{ot:Ay}{tr:Bool}{l cs:Aj}(W:Wf N b nx ot tr)(B:vM nx b l)(S:oY (cU nx l) cs)(hc:Dp (nE (fv ot l)) cs):HX nx (fB (cU nx l) cs) ot (nJ (fv ot l) cs) b 0 (Al l cs):=by
 have F:=jf S.nn;have Y:=B.nodup;have C:cs.length=l.length:=by rw[S.len,qr]
 have q:∀{s c:Nat},Al l cs s c->∃i f,l[i]?=some s/\cs[i]?=some c/\(XG cs)[c]?=some f/\cs[f]?=some c:=λ{s c} h=>by
  obtain⟨i,h1,h2⟩:=h;obtain⟨f,Z⟩:∃f,(XG cs)[c]?=some f:=⟨_,aR (F.lt i c h2)⟩;exact⟨i,f,h1,h2,Z,(F.at_ c f Z).1⟩
 refine⟨⟨0,B.zero,?_⟩,λs c h=>?_,λs c c' h h'=>?_,λs c h=>?_,λs c p x y h hx T=>?_⟩
 .have h0:=dQ (by rw[C];exact(bM.mp B.zero).1);rw[h0];rcases Nat.eq_zero_or_pos (cs.getD 0 0)with h|h
  .rw[h]
  .obtain⟨j,hj,_⟩:=Rj cs 0 _ (by rw[S.nn];exact h0) 0 h;exact absurd hj (nP _)
 .obtain⟨i,f,h1,h2,G,_⟩:=q h;refine⟨B.lt W.b W.nl (bP h1),?_⟩;show c<((XG cs).map _).length;rw[aI];exact(bM.mp G).1
 .obtain⟨i,h1,h2⟩:=h;obtain⟨i',Q,I⟩:=h';have e2:=W9 Y Q;rw[<-W9 Y h1]at h2;rw[<-e2,h2]at I;exact Option.some.inj I
 .obtain⟨i,f,h1,h2,G,J⟩:=q h;have O:f<l.length:=by rw[<-C];exact(bM.mp J).1
  have g:∀{j s':Nat},l[j]?=some s'->(nE (fv ot l))[j]?=some _:=λ{j s'} e=>by
   unfold nE fv;rw[cR,aY,e];rfl
  obtain⟨s',D⟩:∃s',l[f]?=some s':=⟨_,aR O⟩;have e:=hc f i _ _ (g D) (g h1) (by rw[J,h2]);have kd:∀{s:Nat},s∈l->∀v∈ot.getD s [],YE tr v:=λ{s} h=>W.ok _ (aA (by rw[W.ol];exact B.lt W.b W.nl h));have e2:=Np (kd (bP D)) (kd (bP h1)) e;unfold nJ fv;rw[cF,aY,G];show(l.map _).getD f []=_;rw[cF,aY,D];exact e2
 .obtain⟨i,f,h1,h2,G,J⟩:=q h;have er:(fB (cU nx l) cs).getD c []=((cU nx l).getD f []).map λx=>cs.getD x 0:=by
   unfold fB;rw[cF,aY,G];rfl
  have ei:(cU nx l).getD i []=(nx.getD s []).map λx=>l.idxOf x:=by
   unfold cU;rw[cF,aY,h1];rfl
  rw[er,S.row J h2,ei,cR,aY,hx]at T;have hm:=B.next h1 (bP hx);refine⟨l.idxOf x,Vd,?_⟩;rw[<-T];exact dQ (by rw[C];exact oS hm)
def yk{x:V}(B:YE j x)(q:YE j y):Cp x y=true:=by
 rcases B with⟨e,a,rfl⟩|⟨e,a,rfl⟩<;>rcases q with⟨g,b,rfl⟩|⟨g,b,rfl⟩
 .rfl
 .rw[e]at g;cases g
 .rw[e]at g;cases g
 .rfl
theorem Mo{R:Ad}{g:List (Ak)}(h:g.length=R.length):∀n,(mX R g n).length=R.length
 |0=>by
  show(WZ g).length=_;rw[zW,h]
 |n+1=>by
  show(WZ (jb R (mX R g n))).length=_;rw[zW,jc (Mo h n),Mo h n]
structure n5(nx nx':Ad)(ot ot':Ay)(b b':Nat)(A:Nat->Nat->Prop):Prop where
 b:A b b'
 lt:∀s c,A s c->s<nx.length/\c<nx'.length
 out:∀s c,A s c->ot'.getD c []=ot.getD s []
 next:∀s c p x y:Nat,A s c->(nx.getD s [])[p]?=some x->(nx'.getD c [])[p]?=some y->A x y
def HX.OW{nx g:Ad}{ot:Ay}{b:Nat}{A:Nat->Nat->Prop}(R:HX nx g ot O b i A):n5 nx g ot O b i A:=⟨R.b,R.lt,R.out,R.next⟩
theorem n5.symm{nx g:Ad}{ot q:Ay}{b B:Nat}{A:Nat->Nat->Prop}(R:n5 nx g ot q b B A):n5 g nx q ot B b (λs c=>A c s):=
 ⟨R.b,λs c h=>(R.lt c s h).symm,λs c h=>(R.out c s h).symm,λs c p x y h D C=>R.next c s p y x h C D⟩
structure sG(nm:Ai)(b:Nat)(nx:Ad)(ot:Ay)(tr:Bool)(l cs:Aj):Prop where
 W:Wf nm b nx ot tr
 B:vM nx b l
 e:cs=mX (cU nx l) (nE (fv ot l)) l.length
 S:oY (cU nx l) cs
 C:Dp (nE (fv ot l)) cs
def sG.al{b:Nat}{nx:Ad}{ot:Ay}{l cs:Aj}(L:sG N b nx ot j l cs):HX nx (fB (cU nx l) cs) ot (nJ (fv ot l) cs) b 0 (Al l cs):=Fp L.W L.B L.S L.C
def sG.W2{b:Nat}{nx:Ad}{ot:Ay}{l cs:Aj}(L:sG N b nx ot j l cs):Wf N 0 (fB (cU nx l) cs) (nJ (fv ot l) cs) j:=DZ (P7 L.W L.B) (wy L.B) L.S
def Zlk(ot:Ay):(nE ot).length=ot.length:=aI ..
def Wf.row{b:Nat}{nx:Ad}{ot:Ay}(W:Wf N b nx ot j){s:Nat}(h:s<nx.length):(nx.getD s []).length=2^N.length:=W.nr _ (aA h)
theorem Zp8{b:Nat}{l:Aj}(B:bJ (λs=>nx.getD s []) b l):vM nx b l:=by
 have e:∀i,i<=l.length->jU nx b i=ba (λs=>nx.getD s []) b i:=by
  intro i
  induction i with
  |zero=>exactλ_=>U
  |succ i g=>
   intro h;obtain⟨s,q⟩:∃s,(ba _ b i)[i]?=some s:=⟨_,aR (B.go i Vc)⟩;show l7 nx _ i=_;rw[g Vc,jY q];unfold l7;have:(ba (λs=>nx.getD s []) b i).getD i 0=s:=Vd
   rw[this]
 exact⟨by rw[e _ (aM _)];exact B.e,λi hi=>by rw[e i Vc];exact B.go i hi⟩
inductive Tr where
 |p|q|r
 |num (z:Int)
 |one (y:Str) (t:Tr)
 |two (y:Str) (t u:Tr)
 |BM (y:Str) (t u v:Tr)
def Tr.flat(P Q R:A1):Tr->List V
 |.p=>P
 |.q=>Q
 |.r=>R
 |.num z=>[.int z]
 |.one y t=>.str y::t.flat P Q R
 |.two y t u=>.str y::(t.flat P Q R++u.flat P Q R)
 |.BM y t u v=>.str y::(t.flat P Q R++(u.flat P Q R++v.flat P Q R))
def Tr.ok:Tr->Bool
 |.p=>true
 |.q=>true
 |.r=>true
 |.num z=>decide (0<=z/\z<1000)
 |.one y t=>decide (y∈GD/\YD y=1)&&t.ok
 |.two y t u=>decide (y∈GD/\YD y=2)&&(t.ok&&u.ok)
 |.BM y t u v=>decide (y∈GD/\YD y=3)&&(t.ok&&(u.ok&&v.ok))
def Tr.ev(m a b c:Int):Tr->Int
 |.p=>a
 |.q=>b
 |.r=>c
 |.num z=>z%m
 |.one y t=>El y (t.ev m a b c)%m
 |.two y t u=>Fg y (t.ev m a b c) (u.ev m a b c)%m
 |.BM _ t u v=>Builtin.bitOr (Builtin.bitAnd (t.ev m a b c) (u.ev m a b c)) (Builtin.bitAnd (Builtin.bitNot (t.ev m a b c)) (v.ev m a b c))%m
def rR:List (Tr×Tr):=[
 (.two "add" .p .q,.two "add" (.two "or" .p .q) (.two "and" .p .q)),
 (.two "add" .p .q,.two "add" .q .p),
 (.two "sub" .p .q,.two "add" .p (.one "neg" .q)),
 (.two "odd" .p .q,.two "sub" (.two "or" .p .q) (.two "and" .p .q)),
 (.one "neg" .p,.one "not" (.two "sub" .p (.num 1))),
 (.one "twice" .p,.two "add" .p .p),
 (.one "low" .p,.two "and" .p (.one "neg" .p)),
 (.BM "pick" .p .q .r,.two "odd" .r (.two "and" .p (.two "odd" .q .r))),
 (.one "not" (.two "and" .p .q),.two "or" (.one "not" .p) (.one "not" .q)),
 (.two "add" .p .q,.two "add" (.two "odd" .p .q) (.one "twice" (.two "and" .p .q))),
 (.two "sub" .p .q,.one "not" (.two "add" (.one "not" .p) .q)),
 (.two "or" .p .q,.one "not" (.two "and" (.one "not" .p) (.one "not" .q))),
 (.p,.one "neg" (.one "neg" .p)),
 (.two "and" .p .q,.two "sub" (.two "add" .p .q) (.two "or" .p .q)),
 (.two "odd" .p .p,.num 0),
 (.p,.two "odd" .q (.two "odd" .p .q))]
structure bT(te:TE)(σ:L2.St)(H0:Hp)(ws:A1)(n:Nat):Prop where
 l:ws.length<=n
 g:∀(H:Hp)(Q:VK),ZK H0 H->(∀p H',ZK H H'->H' p=am ws->Q (.ref p) H')->te σ H Q
def yl{p:Av}(g:c[i]?=some (ac p))(h:d p=am u)(q:u.length<=n):bT (yG i) c d u n:=⟨q,λH Q s k=>⟨.ref p,g,k p H (ZK.refl _) (s _ _ h)⟩⟩
def uB{xs:A1}(n:Nat)(h:∀(H:Hp)(R:A1->Hp->Prop),R xs H->ta c H R)(g:xs.length<=n)(B:n<=1000):bT (D8 ta) c d xs n:=⟨g,λH Q s k=>h H _ ⟨a8 (Zw Vc),λp q=>k p _ (Zd q) Za⟩⟩
def WA{m:Nat}(a:bT A c d u n)(b:bT J c d vs m)(h:n+m<=1000:=by decide):bT (E1 OK A J) c d (u++vs) (n+m):=by
 have O:=a.l;have I:=b.l;refine⟨by rw[aZ];lia,λH Q s k=>a.g H _ s λp H1 B h1=>b.g H1 _ (s.trans B) λq H2 C h2=>⟨p,q,u,vs,U,U,C _ _ h1,h2,a8 (Zw Vc),λt G D F=>k t G (B.trans (C.trans F)) D⟩⟩
structure rG(H:Hp)(zs:A1)(ws:List (A1×A1)):Prop where
 l:zs.length=ws.length
 g:∀(i:Nat)(w:A1×A1),ws[i]?=some w->∃t a b,zs[i]?=ac t/\H t=am [.ref a,.ref b]/\H a=am w.1/\H b=am w.2
theorem rG.a7{q:List (A1×A1)}(h:rG H u q)(e:∀b xs,H b=am xs->H' b=am xs):rG H' u q:=⟨h.l,λi w hw=>by
 refine ω (h.g i w hw) (ε3 λt a b=>θ3 λh1 h2 B C=>?_);exact⟨t,a,b,h1,e _ _ h2,e _ _ B,e _ _ C⟩⟩
def rG.snoc{q:List (A1×A1)}{t b:Av}{v:A1}(h:rG H m q)(h1:H t=am [.ref a,.ref b])(h2:H a=am u)(C:H b=am v):rG H (m++[.ref t]) (q++[(u,v)]):=by
 refine⟨by rw[aZ,aZ,h.l];rfl,λi w hw=>?_⟩;have hi:=(bM.mp hw).1;rw[aZ]at hi;have hi:i<q.length+1:=hi
 by_cases B:i<q.length
 .rw[eH B]at hw;obtain⟨t',D,G,J,F⟩:=h.g i w hw;exact⟨t',D,G,Vd,F⟩
 .have I:i=q.length:=Vc
  subst I;rw[eL (aM _),nB]at hw;cases hw;exact⟨t,a,b,by rw[<-h.l,eL (aM _),nB];rfl,h1,h2,C⟩
def Iz(q:Hp)(ps:Av)(H:Hp)(g:List (A1×A1))(c:Nat):Prop:=∃zs,H ps=ap zs/\rG H zs g/\zs.length<=c/\ZK q H
theorem RV{N:A0}{rt:VK}{bk ct:A0}{σ:L2.St}{ps:Av}{Q:List (A1×A1)}{vs:A1}{m c:Nat}(C:σ[i]?=some (ac ps))(Z:d ps=none)(h:Iz d ps H Q c)(k:∀H',Iz d ps H' (Q++[(u,vs)]) (c+1)->N σ H')
  (gA:bT A σ d u n:=by repeat' first|assumption|exact uB _ (λ_ _ h=>h) (aM _) Vb|apply WA|decide) (T:bT J σ d vs m:=by repeat' first|assumption|exact uB _ (λ_ _ h=>h) (aM _) Vb|apply WA|decide) (hc:c<=100:=by decide):F3 (FW K "list" uZ (yG i) (qg (D8 (qg A (qg J nL))) nL)) {nx:=N,rt:=rt,bk:=bk,ct:=ct} σ H:=by
 revert h;refine ε1 λzs=>θ3 λh Y hl s=>?_;refine⟨_,C,.inl ⟨U,_,aF.of h⟩,gA.g H _ s λa H1 D h1=>T.g H1 _ (s.trans D) λb H2 F h2=>⟨yF,λt O=>⟨ps,zs,.ref t,U,U,?_,Zw Vc,?_⟩⟩⟩
 .exact((D.trans F).trans (Zd O)) _ _ h
 .have I:=Zd (o:=.tup [.ref a,.ref b]) O;have B:=(D.trans F).trans I;have G:=B _ _ h;have q:∀{c:Av} {xs:A1},aC H2 t (.tup [.ref a,.ref b]) c=am xs->aC (aC H2 t (.tup [.ref a,.ref b])) ps (.lst (zs++[.ref t])) c=am xs:=λe=>by
   rw[Zk (Xp e G nofun)];exact e
  exact k _ ⟨_,Za,((Y.a7 λc xs e=>B _ _ e).a7 λc xs e=>q e).snoc (q Za) (q (I _ _ (F _ _ h1))) (q (I _ _ h2)),Vd,Yp (s.trans B) Z⟩
theorem Zqa{m:Nat}(k:∀ps H',H ps=none->Iz H ps H' [(u,vs)] 1->E (.ref ps) H')(O:bT A c H u n:=by repeat' first|assumption|exact uB _ (λ_ _ h=>h) (aM _) Vb|apply WA|decide)(G:bT J c H vs m:=by repeat' first|assumption|exact uB _ (λ_ _ h=>h) (aM _) Vb|apply WA|decide):AZ (qg (D8 (qg A (qg J nL))) nL) c H E:=by
 refine O.g H _ (ZK.refl _) λa H1 D h1=>G.g H1 _ D λb H2 F h2=>⟨yF,λt I=>⟨vV,λps q=>?_⟩⟩;have C:=Zd (o:=.tup [.ref a,.ref b]) I;have B:=Zd (o:=.lst [.ref t]) q;have N:rG (aC (aC H2 t (.tup [.ref a,.ref b])) ps (.lst [.ref t])) [] []:=⟨U,λi w hw=>nomatch hw⟩;exact k ps _ (D.free (F.free (C.free q))) ⟨_,Za,N.snoc (B _ _ Za) (B _ _ (C _ _ (F _ _ h1))) (B _ _ (C _ _ h2)),aM _,D.trans (F.trans (C.trans B))⟩
def Cn{g:TG}{u:TS}(h:A c H λx H1=>g x c H1 (u Z)):Xj (sU A g) u Z c H:=h
def Ck{t u:TS}(h:t {Z with nx:=u Z} c H):Xj t u Z c H:=h
theorem Nq:∀{u:A1},Yh u->∀r,WX (u++r)=WX u+WX r/\(Yh r->Yh (u++r))
 |[],_,r=>⟨(CD _).symm,id⟩
 |w::u,h,r=>by
  obtain⟨h1,h2⟩:=Nq h.2 r;have g:=h.1;refine⟨?_,λe=>⟨?_,h2 e⟩⟩
  .show WX (u++r)-aO w+1=WX u-aO w+1+WX r;lia
  .show aO w<=WX (u++r);lia
structure Wp(nm:Ai)(P:A1)(a b:Nat):Prop where
 wd:∀w∈P,Gn nm 10 w
 en:Yh P
 st:WX P=1
 ln:P.length<=a
 rm:YA P<=b
def Tr.mz(a b:Nat):Tr->Nat×Nat
 |.p=>(a,b)
 |.q=>(3,0)
 |.r=>(1,0)
 |.num _=>(1,0)
 |.one y t=>((t.mz a b).1+1,(t.mz a b).2+if y∈qy then 1 else 0)
 |.two y t u=>((t.mz a b).1+(u.mz a b).1+1,(t.mz a b).2+(u.mz a b).2+if y∈qy then 1 else 0)
 |.BM y t u v=>((t.mz a b).1+((u.mz a b).1+(v.mz a b).1)+1,(t.mz a b).2+((u.mz a b).2+(v.mz a b).2)+if y∈qy then 1 else 0)
def Wp.app{v:A1}{a b c d m:Nat}(F:(∀w∈u,Gn N 10 w)/\Yh u/\WX u=n/\u.length<=a/\YA u<=b)(B:(∀w∈v,Gn N 10 w)/\Yh v/\WX v=m/\v.length<=c/\YA v<=d):(∀w∈u++v,Gn N 10 w)/\Yh (u++v)/\WX (u++v)=n+m/\(u++v).length<=a+c/\YA (u++v)<=b+d:=by
 revert F;refine θ4 λg D q J Q=>?_;revert B;refine θ4 λG I C T O=>?_;obtain⟨e1,e2⟩:=Nq D v;exact⟨λw h=>(dH.mp h).elim (g w) (G w),e2 I,by rw[e1,q,C],by rw[aZ];lia,by rw[GG];lia⟩
def Wp.of{P:A1}{a b:Nat}(h:Wp N P a b):(∀w∈P,Gn N 10 w)/\Yh P/\WX P=1/\P.length<=a/\YA P<=b:=⟨h.wd,h.en,h.st,h.ln,h.rm⟩
def Wp.word{a b:Nat}{y:Str}(F:∀y∈N,y∉YT)(q:y∈GD/\YD y=n)(C:(∀w∈u,Gn N 10 w)/\Yh u/\WX u=n/\u.length<=a/\YA u<=b):Wp N (.str y::u) (a+1) (b+if y∈qy then 1 else 0):=by
 revert C;refine θ4 λJ I B D Q=>?_;obtain⟨O,g,G⟩:=je F q.1;rw[q.2]at g;refine⟨λw h=>?_,⟨by rw[g,B];exact aM _,I⟩,?_,D7 D,?_⟩
 .grind
 .show WX u-aO (.str y)+1=1;rw[g,B,nB]
 .rw[Jh,G]
  by_cases h:y∈qy
  .lia
  .grind
theorem Tr.wp{P Q R:A1}{a b:Nat}(g:∀y∈nm,y∉YT)(C:Wp nm P a b)(B:Wp nm Q 3 0)(hR:Wp nm R 1 0):∀{t:Tr},t.ok=true->Wp nm (t.flat P Q R) (t.mz a b).1 (t.mz a b).2
 |.p,_=>C
 |.q,_=>B
 |.r,_=>hR
 |.num z,h=>by
  have h:=dJ h;have l:=yc g (show gU nm (.int z)from .inr ⟨z,U,h.1,h.2⟩);refine⟨λw hw=>by rw[b9.mp hw];exact l.1,⟨by exact cD _,trivial⟩,?_,aM _,?_⟩
  .show 0-aO (.int z)+1=1;lia
  .show YA [.int z]<=0;exact aM _
 |.one y t,h=>by
  obtain⟨h1,h2⟩:=lH.mp h;exact Wp.word g (dJ h1) (Tr.wp g C B hR h2).of
 |.two y t u,h=>by
  obtain⟨h1,h2⟩:=lH.mp h;obtain⟨h2,D⟩:=lH.mp h2;exact Wp.word g (dJ h1) (Wp.app (Tr.wp g C B hR h2).of (Tr.wp g C B hR D).of)
 |.BM y t u v,h=>by
  obtain⟨h1,h2⟩:=lH.mp h;obtain⟨h2,D⟩:=lH.mp h2;obtain⟨D,F⟩:=lH.mp D;exact Wp.word g (dJ h1) (Wp.app (Tr.wp g C B hR h2).of (Wp.app (Tr.wp g C B hR D).of (Tr.wp g C B hR F).of))
def Zqb:∀w∈rR,w.1.ok=true/\w.2.ok=true/\(w.1.mz 5 1).1<=20/\(w.2.mz 5 1).1<=20/\(w.1.mz 5 1).2<=4/\(w.2.mz 5 1).2<=4:=Va
def Wp.sg{a b:Nat}(h:Wp N u a b):fT N false u:=fT.sum h.wd h.en h.st
def xb{y:Str}{is:Ak}(g:y∈GD)(B:YD y=is.length)(h:YQ W ρ u=is):YQ W ρ (.str y::u)=[B7 ρ (.str y) is%2^W]:=by
 have q:aO (.str y)=YD y:=(M8 y g).1;show nF W ρ (.str y) ((YQ W ρ u).take (aO (.str y)))::(YQ W ρ u).drop (aO (.str y))=_;rw[h,q,B,dI,t6];show[if y∈Yt then _ else _]=_;rw[aL (wu y g)]
theorem Tr.run{nm:Ai}{P Q R:A1}{W:Nat}{ρ:Str->Int}{a b c:Int}(B:∀y∈nm,y∉YT){n m:Nat}(C:Wp nm P n m)(g:Wp nm Q 3 0)(hR:Wp nm R 1 0)(F:YQ W ρ P=[a])(D:YQ W ρ Q=[b])(G:YQ W ρ R=[c]):∀{t:Tr},t.ok=true->YQ W ρ (t.flat P Q R)=[t.ev (2^W) a b c]
 |.p,_=>F
 |.q,_=>D
 |.r,_=>G
 |.num z,_=>by
  show B7 ρ (.int z) _%2^W::List.drop _ []=[z%2^W];rfl
 |.one y t,h=>by
  have h:=lH.mp h;have h1:=dJ h.1;exact xb (is:=[_]) h1.1 h1.2 (Tr.run B C g hR F D G h.2)
 |.two y t u,h=>by
  have h:=lH.mp h;have h1:=dJ h.1;have h2:=lH.mp h.2;refine xb (is:=[_,_]) h1.1 h1.2 ?_;rw[XO W ρ (Tr.wp B C g hR h2.1).en,Tr.run B C g hR F D G h2.1,Tr.run B C g hR F D G h2.2];rfl
 |.BM y t u v,h=>by
  have h:=lH.mp h;have h1:=dJ h.1;have h2:=lH.mp h.2;have I:=lH.mp h2.2;refine xb (is:=[_,_,_]) h1.1 h1.2 ?_;rw[XO W ρ (Tr.wp B C g hR h2.1).en,XO W ρ (Tr.wp B C g hR I.1).en,Tr.run B C g hR F D G h2.1,Tr.run B C g hR F D G I.1,Tr.run B C g hR F D G I.2];rfl
theorem F8(f g:Nat->Int):∀n,sm (λk=>f k+g k) n=sm f n+sm g n
 |0=>rfl
 |n+1=>by
  show sm (λk=>f k+g k) n+(f n+g n)*2^n=sm f n+f n*2^n+(sm g n+g n*2^n);rw[F8 f g n,Int.add_mul];lia
def Cy(a b:Int)(W:Nat):Builtin.bitOr a b%2^W+Builtin.bitAnd a b%2^W=a%2^W+b%2^W:=by
 rw[<-zA,<-zA,<-zA,<-zA,<-F8,<-F8];refine qT λk _=>?_;rw[qp,Xg];rcases YU a k with h|h<;>rcases YU b k with g|g<;>rw[h,g]<;>rfl
def Zqc(a b:Int)(W:Nat):Builtin.bitXor a b%2^W+Builtin.bitAnd a b%2^W=Builtin.bitOr a b%2^W:=by
 rw[<-zA,<-zA,<-zA,<-F8];refine qT λk _=>?_;rw[qp,Xg,Wz];rcases YU a k with h|h<;>rcases YU b k with g|g<;>rw[h,g]<;>rfl
def xZ{x y:Int}{W:Nat}(h:∀k,k<W->bt x k=bt y k):x%2^W=y%2^W:=by
 rw[<-zA,<-zA];exact qT h
def Kb(x y m:Int):(x+y%m)%m=(x+y)%m:=by rw[FL,Dk,<-FL]
def UC(x y m:Int):(x%m+y)%m=(x+y)%m:=by rw[FL,Dk,<-FL]
def UY(x y m:Int):(x-y%m)%m=(x-y)%m:=by rw[F4,Dk,<-F4]
def MU(x y m:Int):(x%m-y)%m=(x-y)%m:=by rw[F4,Dk,<-F4]
def N4(x m:Int):(-(x%m))%m=(-x)%m:=by
 have:=UY 0 x m;rw[Int.zero_sub,Int.zero_sub]at this;exact this
def NN(x m:Int):Builtin.bitNot (x%m)%m=Builtin.bitNot x%m:=by
 show(-(x%m)-1)%m=(-x-1)%m;rw[<-MU,N4,MU]
def OA(t u:Tr):Prop:=∀(W:Nat)(a b c:Int),1<=W->0<=a/\a<2^W->0<=b/\b<2^W->0<=c/\c<2^W->t.ev (2^W) a b c=u.ev (2^W) a b c
def VI:∀w∈rR,OA w.1 w.2:=λw hw W a b c J F D O=>by
 have C:a%2^W=a:=rT F.1 F.2;have I:b%2^W=b:=rT D.1 D.2;have oa:=Cy a b W;have G:=Zqc a b W;rw[C,I]at oa;have q:∀x k,bt x k=0\/bt x k=1:=YU;simp only[rR,bR,fQ,nR]at hw;rcases hw with rfl|rfl|rfl|rfl|rfl|rfl|rfl|rfl|rfl|rfl|rfl|rfl|rfl|rfl|rfl|rfl
 .show(a+b)%2^W=(Builtin.bitOr a b%2^W+Builtin.bitAnd a b%2^W)%2^W;rw[oa]
 .show(a+b)%2^W=(b+a)%2^W;rw[Int.add_comm]
 .show(a-b)%2^W=(a+(-b)%2^W)%2^W;rw[Kb];rfl
 .show Builtin.bitXor a b%2^W=(Builtin.bitOr a b%2^W-Builtin.bitAnd a b%2^W)%2^W;rw[<-G,show∀x y:Int,x+y-y=x fromλx y=>Vc,Dk]
 .show(-a)%2^W=Builtin.bitNot ((a-1%2^W)%2^W)%2^W;rw[NN];show(-a)%2^W=(-(a-1%2^W)-1)%2^W;rw[show -(a-1%2^W)-1=(-a-1)+1%2^W by lia,Kb];congr 1;lia
 .rfl
 .show Builtin.bitAnd a (-a)%2^W=Builtin.bitAnd a ((-a)%2^W)%2^W;exact xZ λk B=>by rw[Xg,Xg,X0 _ _ _ B]
 .show Builtin.bitOr (Builtin.bitAnd a b) (Builtin.bitAnd (Builtin.bitNot a) c)%2^W=Builtin.bitXor c (Builtin.bitAnd a (Builtin.bitXor b c%2^W)%2^W)%2^W;refine xZ λk B=>?_;rw[qp,Xg,Xg,XS,Wz,X0 _ _ _ B,Xg,X0 _ _ _ B,Wz];rcases q a k with h|h<;>rcases q b k with g|g<;>rcases q c k with f|f<;>rw[h,g,f]<;>rfl
 .show Builtin.bitNot (Builtin.bitAnd a b%2^W)%2^W=Builtin.bitOr (Builtin.bitNot a%2^W) (Builtin.bitNot b%2^W)%2^W;refine xZ λk B=>?_;rw[XS,X0 _ _ _ B,Xg,qp,X0 _ _ _ B,X0 _ _ _ B,XS,XS];rcases q a k with h|h<;>rcases q b k with g|g<;>rw[h,g]<;>rfl
 .show(a+b)%2^W=(Builtin.bitXor a b%2^W+(Builtin.bitAnd a b%2^W+Builtin.bitAnd a b%2^W)%2^W)%2^W;rw[Kb,<-oa,<-G];congr 1;lia
 .show(a-b)%2^W=Builtin.bitNot ((Builtin.bitNot a%2^W+b)%2^W)%2^W;rw[UC,NN];show(a-b)%2^W=(-((-a-1)+b)-1)%2^W;congr 1;lia
 .show Builtin.bitOr a b%2^W=Builtin.bitNot (Builtin.bitAnd (Builtin.bitNot a%2^W) (Builtin.bitNot b%2^W)%2^W)%2^W;refine xZ λk B=>?_;rw[qp,XS,X0 _ _ _ B,Xg,X0 _ _ _ B,X0 _ _ _ B,XS,XS]
 .show a=(-((-a)%2^W))%2^W;rw[N4,Int.neg_neg,C]
 .show Builtin.bitAnd a b%2^W=((a+b)%2^W-Builtin.bitOr a b%2^W)%2^W;rw[MU,<-oa,show∀x y:Int,x+y-x=y fromλx y=>Vc,Dk]
 .show Builtin.bitXor a a%2^W=0%2^W;refine xZ λk B=>?_;rw[Wz];have:bt 0 k=0:=by unfold bt;rw[Int.zero_ediv];rfl
  rw[this];rcases q a k with h|h<;>rw[h]<;>rfl
 .show a=Builtin.bitXor b (Builtin.bitXor a b%2^W)%2^W;rw[<-C];refine(xZ λk B=>?_).trans rfl;rw[Wz,X0 _ _ _ B,Wz];rcases q a k with h|h<;>rcases q b k with g|g<;>simp only[X0 _ _ _ B,h,g]<;>rfl
def eP(u v:A1):Prop:=∀(W:Nat)(ρ:Str->Int),1<=W->YQ W ρ u=YQ W ρ v
def eP.symm{u v:A1}(h:eP u v):eP v u:=λW ρ g=>(h W ρ g).symm
theorem eP.cons{u v:A1}(h:eP u v)(w:V):eP (w::u) (w::v):=λW ρ g=>by
 show nF W ρ w ((YQ W ρ u).take (aO w))::(YQ W ρ u).drop (aO w)=_::_;rw[h W ρ g]
theorem eP.l{v:A1}(h:eP u v)(g:Yh u)(q:Yh v)(R:A1):eP (u++R) (v++R):=λW ρ B=>by
 rw[XO W ρ g,XO W ρ q,h W ρ B]
theorem eP.r{v:A1}(h:eP u v){R:A1}(hR:Yh R):eP (R++u) (R++v):=λW ρ g=>by
 rw[XO W ρ hR,XO W ρ hR,h W ρ g]
theorem BH{P Q R:A1}{t u:Tr}{m:Nat}(B:∀y∈N,y∉YT)(q:Wp N P n m)(g:Wp N Q 3 0)(hR:Wp N R 1 0)(C:t.ok=true)(F:u.ok=true)(e:OA t u):eP (t.flat P Q R) (u.flat P Q R):=λW ρ D=>by
 have a:=xY q.sg W ρ;have b:=xY g.sg W ρ;have c:=xY hR.sg W ρ;rw[Tr.run B q g hR a b c C,Tr.run B q g hR a b c F,e W _ _ _ D (yg a) (yg b) (yg c)]
def zB (n:Int) (g R:A1):A1:=if n%8=1 then .str "not" :: g else if n%8=2 then .str "and" :: (g++R)else if n%8=3 then .str "odd" :: (R++g)else if n%8=4 then .str "add" :: (g++R)else if n%8=5 then .str "twice" :: g else if n%8=6 then .str "or" :: (R++g)else g
def RT(n:Int){v R:A1}(h:eP u v)(g:Yh u)(q:Yh v)(hR:Yh R):eP (zB n u R) (zB n v R):=by
 unfold zB
 repeat' split
 .exact h.cons _
 .exact(h.l g q R).cons _
 .exact(h.r hR).cons _
 .exact(h.l g q R).cons _
 .exact h.cons _
 .exact(h.r hR).cons _
 .exact h
def QC{y:Str}{is:Ak}(C:1<=W)(g:y∈Yt)(q:uU (.str y)+pJ (.str y)=is.length)(h:YQ W ρ u=is):decide (bt ((YQ W ρ (.str y::u)).getD 0 0) (W-1)=1)=decide (rM y is (W-1)=1):=by
 have B:=uz y g;have e:YQ W ρ (.str y::u)=[sm (rM y is) W]:=by
  show nF W ρ (.str y) ((YQ W ρ u).take (aO (.str y)))::(YQ W ρ u).drop (aO (.str y))=_;rw[h,B,q,dI,t6];show[if y∈Yt then _ else _]=_;rw[aN g]
 rw[e];show decide (bt (sm (rM y is) W) (W-1)=1)=_;rw[IC (Ht y is) (by omega)]
theorem ym{n:Nat}(R:bD nx ot n):∀{ls:Aj} {s:Nat},s<nx.length->(∀x∈ls,x<2^n)->cJ nx s ls<nx.length
 |[],s,h,_=>h
 |c::ls,s,h,g=>by
  have C:=g c bN;have B:=R.nr _ (aA h);exact ym (ls:=ls) R (R.nl _ (aA h) _ (bP (aU Vc))) λx q=>g x (cA _ q)
def NV(q g:A1):Prop:=∀(W:Nat)(ρ:Str->Int),1<=W->bt ((YQ W ρ q).getD 0 0) (W-1)=bt ((YQ W ρ g).getD 0 0) (W-1)
def GH{b:Bool}{l:List (Int×Ak)}(S:cH N b u)(B:bJ (bI N u) (0,List.replicate (YA u) 0) l)(o0 o1:V){ls:Aj}{c:Nat}(g:∀x∈ls++[c],x<2^N.length):
  ((l.map (dM N (YF (2^N.length) N) u o0 o1)).getD (cJ (bF (bI N u) l) 0 ls) []).getD c .aX=if bt ((YQ (ls.length+1) (qY (ls++[c]) N) u).getD 0 0) ls.length=1 then o1 else o0:=by
 have R:=S.row B g o0 o1;obtain⟨o,q,C⟩:=R.bit (ls.length+1) Vc Vd;have h:=C ls.length (by simp_all);rw[Pl,eL (by rw[wt];exact aM _),wt,nB]at h;have h:=Option.some.inj h;rw[i8 Vd]at q;rw[h,q];rfl
def BN{b:Bool}{l l':List (Int×Ak)}(S:cH N b u)(F:cH N b m)(B:bJ (bI N u) (0,List.replicate (YA u) 0) l)(G:bJ (bI N m) (0,List.replicate (YA m) 0) l')(o0 o1:V)(h:NV u m):
  n5 (bF (bI N u) l) (bF (bI N m) l') (l.map (dM N (YF (2^N.length) N) u o0 o1)) (l'.map (dM N (YF (2^N.length) N) m o0 o1)) 0 0 (λs s'=>∃ls:Aj,(∀x∈ls,x<2^N.length)/\cJ (bF (bI N u) l) 0 ls=s/\cJ (bF (bI N m) l') 0 ls=s'):=by
 have R:=S.runs B o0 o1;have q:=F.runs G o0 o1;refine⟨⟨[],(λ_ h=>nomatch h),U,U⟩,?_,?_,?_⟩
 .rintro s c ⟨ls,g,rfl,rfl⟩;exact⟨ym R R.pos g,ym q q.pos g⟩
 .rintro s c ⟨ls,g,rfl,rfl⟩;have D:=ym R R.pos g;have T:=ym q q.pos g;have Q:=R.or _ (aA (show cJ (bF (bI N u) l) 0 ls<(l.map (dM N (YF (2^N.length) N) u o0 o1)).length by rw[R.ol];exact D));have Z:=q.or _ (aA (show cJ (bF (bI N m) l') 0 ls<(l'.map (dM N (YF (2^N.length) N) m o0 o1)).length by rw[q.ol];exact T));refine AD λc=>?_
  by_cases O:c<2^N.length
  .have C:∀x∈ls++[c],x<2^N.length:=λx I=>by
    grind
   have e1:=GH S B o0 o1 C;have e2:=GH F G o0 o1 C;have e3:=h (ls.length+1) (qY (ls++[c]) N) Vc;have e3:bt ((YQ (ls.length+1) (qY (ls++[c]) N) u).getD 0 0) ls.length=bt ((YQ (ls.length+1) (qY (ls++[c]) N) m).getD 0 0) ls.length:=e3;rw[aU (d:=.aX) (by simp_all),aU (d:=.aX) (show c<(List.getD (l.map (dM N (YF (2^N.length) N) u o0 o1)) _ []).length by rw[Q];exact O),e1,e2,e3]
  .simp_all
 .rintro s c p x y ⟨ls,g,rfl,rfl⟩ I J;have D:=ym R R.pos g;have Y:=R.nr _ (aA D);refine⟨ls++[p],λz hz=>?_,?_,?_⟩
  .grind
  .rw[X5,cF,I];rfl
  .rw[X5,cF,J];rfl
def UD   (S:cH N false u) (I:u.length<=90) (F:YA u<=10):cH N true (.str "sign" :: u)/\cH N true (.str "beneath" :: (u++[.int 0]))/\NV (.str "sign" :: u) (.str "beneath" :: (u++[.int 0])):=by
 have k1:("sign" : Str)∈Yt/\uU (.str "sign")=1/\pJ (.str "sign")=0:=Va
 have k2:("beneath" : Str)∈Yt/\uU (.str "beneath")=2/\pJ (.str "beneath")=0:=Va
 have G:=wx (.str "sign") u;have D:=wx (.str "beneath") (u++[.int 0]);rw[GG,show YA [V.int 0]=0 from by decide +kernel]at D;have z:fT N false [.int 0]:=fT.sum (λw hw=>by
  rw[b9.mp hw];exact .inr (.inr ⟨0,U,Vb,Vb,MI 0⟩)) ⟨cD _,trivial⟩ (by
  show 0-aO (.int 0)+1=1;lia)
 refine⟨⟨S.n3,S.nd,S.kp,by rw[lL];lia,fT.MR k1.1 (λz=>S.kp _ z (xT _ k1.1)) k1.2.1 k1.2.2 S.sg,Vc⟩,⟨S.n3,S.nd,S.kp,Vd,fT.Ih k2.1 (λz=>S.kp _ z (xT _ k2.1)) k2.2.1 k2.2.2 S.sg z,Vc⟩,λW ρ g=>?_⟩;have a:=xY S.sg W ρ;have B:=yg a;generalize (YQ W ρ u).getD 0 0=o at a B;have b:YQ W ρ (u++[.int 0])=[o,0]:=by
  rw[XO W ρ S.sg.ty.facts.2.1,a];show[o]++(0%2^W::List.drop _ [])=_;rfl
 have h1:=QC g k1.1 (by rfl) a;have h2:=QC g k2.1 (by rfl) b;rw[<-PQ g k1.1 Vb (by rfl) λx C=>by rw[b9.mp C];exact B]at h1;rw[<-PQ g k2.1 Vb (by rfl) λx C=>by
  grind]at h2
 have e:IA (2^W) "sign" [o]=IA (2^W) "beneath" [o,0]:=by
  show decide (mM (2^W) o<0)=decide (mM (2^W) o<mM (2^W) 0);rw[show mM (2^W) 0=0 by unfold mM;rw[aL Vc]]
 rw[e,<-h2]at h1;have h:=rJ.mp h1;rcases YU ((YQ W ρ (.str "sign" :: u)).getD 0 0) (W-1)with p|p<;>rcases YU ((YQ W ρ (.str "beneath" :: (u++[.int 0]))).getD 0 0) (W-1)with q|q
 .rw[p,q]
 .lia
 .grind
 .rw[p,q]
section
variable {nx:Nat->Nat->Nat}{ok:Nat->Nat->Bool}{k:Nat}
def Xa(nx:Nat->Nat->Nat)(ok:Nat->Nat->Bool):Nat->List Nat->Bool
 |_,[]=>false
 |s,l::[]=>ok s l
 |s,l::m::r=>Xa nx ok (nx s l) (m::r)
def Wr{s l:Nat}{r:Aj}(h:r≠[]):Xa nx ok s (l::r)=Xa nx ok (nx s l) r:=by
 cases r with
 |nil=>exact absurd U h
 |cons m r=>rfl
def cW:Aj->List (Aj)->Prop
 |[],[]=>True
 |l::r,L::Ls=>l∈L/\cW r Ls
 |_,_=>False
theorem cW.len:∀{r:Aj} {Ls:Ad},cW r Ls->r.length=Ls.length
 |[],[],_=>rfl
 |_::_,_::_,h=>congrArg _ h.2.len
 |[],_::_,h=>h.elim
 |_::_,[],h=>h.elim
def cW.dU{L:Aj}{Ls:Ad}(h:cW r (L::Ls)):∃l g,r=l::g/\l∈L/\cW g Ls:=by
 cases r with
 |nil=>exact h.elim
 |cons l g=>exact⟨l,g,U,h.1,h.2⟩
def zC(k l:Nat):Nat:=l/2^k%2
def wz(k l:Nat):zC k l<2:=Nat.mod_lt _ Vb
def fG(k b:Nat)(L:Aj):Aj:=L.filter λl=>decide (zC k l=b)
def Gq{b l:Nat}{L:Aj}:l∈fG k b L↔l∈L/\zC k l=b:=by
 unfold fG;rw[iU,lN]
def bA(k:Nat):Aj->Nat
 |[]=>0
 |l::r=>zC k l+2*bA k r
def n4:Aj->Nat
 |[]=>0
 |b::r=>b+2*n4 r
def gw(nx:Nat->Nat->Nat)(ok:Nat->Nat->Bool)(W:Option (Aj))(s l:Nat):Bool:=match W with
 |none=>ok s l
 |some W=>decide (nx s l∈W)
def iE(nx:Nat->Nat->Nat)(ok:Nat->Nat->Bool)(W:Option (Aj))(S L:Aj):Aj:=S.filter λs=>L.any λl=>gw nx ok W s l
def w6{L:Aj}{s:Nat}:s∈iE nx ok W S L↔s∈S/\∃l∈L,gw nx ok W s l=true:=by
 unfold iE;rw[iU,AM]
def nM(k:Nat):Aj->List (Aj)->List (Aj)
 |b::bs,L::Ls=>fG k b L::nM k bs Ls
 |_,_=>[]
def uC(nx:Nat->Nat->Nat)(ok:Nat->Nat->Bool)(k:Nat)(W:Option (Aj))(S L:Aj):Nat:=if iE nx ok W S (fG k 0 L)=[]then 1 else 0
def eY(nx:Nat->Nat->Nat)(ok:Nat->Nat->Bool)(k:Nat):Ad->List (Aj)->List Nat×Option (Aj)
 |S::g,L::Ls=>(uC nx ok k (eY nx ok k g Ls).2 S L::(eY nx ok k g Ls).1,some (iE nx ok (eY nx ok k g Ls).2 S (fG k (uC nx ok k (eY nx ok k g Ls).2 S L) L)))
 |_,_=>([],none)
def mF(nx:Nat->Nat->Nat)(S L:Aj):Aj:=(S.flatMap λs=>L.map (nx s)).foldl Y1 []
def cV(nx:Nat->Nat->Nat):Aj->List (Aj)->List (Aj)
 |_,[]=>[]
 |S,L::Ls=>S::cV nx (mF nx S L) Ls
def xc{L:Aj}{x:Nat}:x∈mF nx S L↔∃s∈S,∃l∈L,nx s l=x:=by
 unfold mF;rw[Jx];constructor
 .simp_all
 .simp_all
def OR(W:Option (Aj))(S L:Aj):uC nx ok k W S L<=1:=by
 unfold uC;split<;>decide
theorem Mw:∀{bs:Aj} {Ls:Ad} {r:Aj},bs.length=Ls.length->(cW r (nM k bs Ls)↔cW r Ls/\bA k r=n4 bs/\∀b∈bs,b<2)\/¬∀b∈bs,b<2
 |[],[],r,_=>.inl ⟨λh=>⟨h,by cases r with|nil=>exact⟨rfl,λ_ z=>nomatch z⟩|cons _ _=>exact h.elim⟩,λh=>h.1⟩
 |b::bs,L::Ls,r,h=>by
  by_cases B:∀x∈b::bs,x<2
  .refine .inl ⟨λq=>?_,λ⟨D,J,_⟩=>?_⟩
   .obtain⟨l,g,rfl,h1,h2⟩:=q.dU;obtain⟨C,F⟩:=Gq.mp h1;rcases Mw (r:=g) (show bs.length=Ls.length by simpa using h)with z|z
    .obtain⟨G,O,Q⟩:=z.mp h2;exact⟨⟨C,G⟩,by show zC k l+2*bA k g=b+2*n4 bs;rw[F,O],B⟩
    .simp_all
   .obtain⟨l,g,rfl,h1,h2⟩:=D.dU;have e:zC k l+2*bA k g=b+2*n4 bs:=J;have:=wz k l;have:=B b bN;rcases Mw (r:=g) (show bs.length=Ls.length by simpa using h)with z|z
    .exact⟨Gq.mpr ⟨h1,Vc⟩,z.mpr ⟨h2,Vc,λx I=>B x (cA _ I)⟩⟩
    .grind
  .exact .inr B
 |[],_::_,_,h=>nomatch h
 |_::_,[],_,h=>nomatch h
theorem Kp:∀(Ls:Ad)(S:Aj),(eY nx ok k (cV nx S Ls) Ls).1.length=Ls.length/\∀b∈(eY nx ok k (cV nx S Ls) Ls).1,b<2
 |[],_=>⟨U,λ_ h=>nomatch h⟩
 |L::Ls,S=>by
  obtain⟨h1,h2⟩:=Kp Ls _;refine⟨congrArg _ h1,λb g=>?_⟩;rcases bR.mp g with rfl|g
  .exact Nat.lt_succ_of_le (OR _ _ _)
  .exact h2 b g
def KL{Ls:Ad}{r:Aj}:cW r (nM k (eY nx ok k (cV nx S Ls) Ls).1 Ls)↔cW r Ls/\bA k r=n4 (eY nx ok k (cV nx S Ls) Ls).1:=by
 obtain⟨h1,h2⟩:=Kp (nx:=nx) (ok:=ok) (k:=k) Ls S;rcases Mw (k:=k) (r:=r) h1 with z|z
 .simp_all
 .exact absurd h2 z
structure K9(nx:Nat->Nat->Nat)(ok:Nat->Nat->Bool)(k:Nat)(Ls:Ad)(S:Aj)(W:Aj):Prop where
 w:(eY nx ok k (cV nx S Ls) Ls).2=some W
 a:∀s,s∈W↔s∈S/\∃r,cW r (nM k (eY nx ok k (cV nx S Ls) Ls).1 Ls)/\Xa nx ok s r=true
 b:∀s∈S,∀r,cW r Ls->Xa nx ok s r=true->n4 (eY nx ok k (cV nx S Ls) Ls).1<=bA k r
 c:(∃s∈S,∃r,cW r Ls/\Xa nx ok s r=true)->W≠[]
theorem N5:∀(Ls:Ad)(S:Aj),Ls≠[]->∃W,K9 nx ok k Ls S W
 |[],_,h=>absurd U h
 |L::Ls,S,_=>by
  have key:(∀s∈S,∀l∈L,(gw nx ok (eY nx ok k (cV nx (mF nx S L) Ls) Ls).2 s l=true↔∃g,cW g (nM k (eY nx ok k (cV nx (mF nx S L) Ls) Ls).1 Ls)/\Xa nx ok s (l::g)=true)) /\
    (∀s∈S,∀l∈L,∀g,cW g Ls->Xa nx ok s (l::g)=true->n4 (eY nx ok k (cV nx (mF nx S L) Ls) Ls).1<=bA k g) /\
    ((∃s∈S,∃l∈L,∃g,cW g Ls/\Xa nx ok s (l::g)=true)->∃s∈S,∃l∈L,gw nx ok (eY nx ok k (cV nx (mF nx S L) Ls) Ls).2 s l=true):=by
   cases Ls with
   |nil=>
    refine⟨λs C l B=>⟨λh=>⟨[],trivial,h⟩,λ⟨g,h1,h2⟩=>?_⟩,λs C l B g _ _=>cD _,λ⟨s,C,l,B,g,h1,h2⟩=>⟨s,C,l,B,?_⟩⟩
    .cases g with
     |nil=>exact h2
     |cons _ _=>exact h1.elim
    .cases g with
     |nil=>exact h2
     |cons _ _=>exact h1.elim
   |cons Y D=>
    obtain⟨W,I⟩:=N5 (Y::D) (mF nx S L) Ve;have ne:∀{g:Aj} {M:Aj} {Ms:Ad},cW g (M::Ms)->g≠[]:=λ{g M Ms} h z=>by rw[z]at h;exact h
    have Q:∀{g:Aj},cW g (nM k (eY nx ok k (cV nx (mF nx S L) (Y::D)) (Y::D)).1 (Y::D))->g≠[]:=λ{g} h=>ne (KL.mp h).1;refine⟨λs C l B=>?_,λs C l B g h1 h2=>?_,λ⟨s,C,l,B,g,h1,h2⟩=>?_⟩
    .rw[I.w];show decide (nx s l∈W)=true↔_;rw[lN,I.a];constructor
     .rintro⟨_,g,h1,h2⟩;exact⟨g,h1,by rw[Wr (Q h1)];exact h2⟩
     .rintro⟨g,h1,h2⟩;rw[Wr (Q h1)]at h2;exact⟨xc.mpr ⟨s,C,l,B,U⟩,g,h1,h2⟩
    .rw[Wr (ne h1)]at h2;exact I.b _ (xc.mpr ⟨s,C,l,B,U⟩) g h1 h2
    .rw[Wr (ne h1)]at h2;have hW:=I.c ⟨_,xc.mpr ⟨s,C,l,B,U⟩,g,h1,h2⟩;obtain⟨x,hx⟩:=List.exists_mem_of_ne_nil _ hW;obtain⟨Z,J,G,F,e⟩:=xc.mp ((I.a x).mp hx).1;refine⟨Z,J,G,F,?_⟩;rw[I.w];show decide (nx Z G∈W)=true;rw[e];exact bC hx
  obtain⟨k1,k2,k3⟩:=key;have cl:=λg=>KL (nx:=nx) (ok:=ok) (k:=k) (Ls:=Ls) (S:=mF nx S L) (r:=g);generalize hT:eY nx ok k (cV nx (mF nx S L) Ls) Ls=T at k1 k2 k3 cl;have e:eY nx ok k (cV nx S (L::Ls)) (L::Ls)=(uC nx ok k T.2 S L::T.1,some (iE nx ok T.2 S (fG k (uC nx ok k T.2 S L) L))):=by rw[<-hT];rfl
  refine⟨iE nx ok T.2 S (fG k (uC nx ok k T.2 S L) L),?_,?_,?_,?_⟩
  .rw[e]
  .intro s;rw[e,w6];constructor
   .rintro⟨C,l,B,h⟩;obtain⟨g,h1,h2⟩:=(k1 s C l (Gq.mp B).1).mp h;exact⟨C,l::g,⟨B,h1⟩,h2⟩
   .rintro⟨C,r,h1,h2⟩;obtain⟨l,g,rfl,B,O⟩:=cW.dU h1;exact⟨C,l,B,(k1 s C l (Gq.mp B).1).mpr ⟨g,O,h2⟩⟩
  .intro s C r h1 h2;obtain⟨l,g,rfl,B,O⟩:=cW.dU h1;rw[e];show uC nx ok k T.2 S L+2*n4 T.1<=zC k l+2*bA k g;have q1:=k2 s C l B g O h2;have q2:=OR (nx:=nx) (ok:=ok) (k:=k) T.2 S L;rcases nT (n4 T.1) (bA k g)with q|q
   .lia
   .have q3:bA k g=n4 T.1:=Vc
    have q4:=(k1 s C l B).mpr ⟨g,(cl g).mpr ⟨O,q3⟩,h2⟩;have q5:uC nx ok k T.2 S L<=zC k l:=by
     unfold uC;split
     .rename_i hz;have:zC k l≠0:=λz=>by
       have:s∈iE nx ok T.2 S (fG k 0 L):=w6.mpr ⟨C,l,Gq.mpr ⟨B,z⟩,q4⟩;rw[hz]at this;cases this
      lia
     .exact cD _
    simp_all
  .rintro⟨s,C,r,h1,h2⟩ hz;obtain⟨l,g,rfl,B,O⟩:=cW.dU h1;obtain⟨Z,J,G,F,h4⟩:=k3 ⟨s,C,l,B,g,O,h2⟩;have no:∀b,zC k G=b->iE nx ok T.2 S (fG k b L)≠[]:=λb hb z=>by
    have:Z∈iE nx ok T.2 S (fG k b L):=w6.mpr ⟨J,G,Gq.mpr ⟨F,hb⟩,h4⟩;rw[z]at this;cases this
   have h01:=wz k G;unfold uC at hz;split at hz
   .rename_i h0;exact no 1 (by have:zC k G≠0:=λz=>no 0 z h0;lia) hz
   .rename_i h0;exact h0 hz
end
def eN(nx:Nat->Nat->Nat)(ok:Nat->Nat->Bool)(b:Nat)(Ls:Ad):Nat->List (Aj)
 |0=>Ls
 |k+1=>nM k (eY nx ok k (cV nx [b] (eN nx ok b Ls k)) (eN nx ok b Ls k)).1 (eN nx ok b Ls k)
section
variable {nx:Nat->Nat->Nat}{ok:Nat->Nat->Bool}{b:Nat}{Ls:Ad}
def Fe(nx:Nat->Nat->Nat)(ok:Nat->Nat->Bool)(b:Nat)(Ls:Ad)(k:Nat):Nat:=n4 (eY nx ok k (cV nx [b] (eN nx ok b Ls k)) (eN nx ok b Ls k)).1
def IB{r:Aj}:cW r (eN nx ok b Ls (k+1))↔cW r (eN nx ok b Ls k)/\bA k r=Fe nx ok b Ls k:=KL
theorem xf:∀{k:Nat},cW r (eN nx ok b Ls k)->cW r Ls/\∀j,j<k->bA j r=Fe nx ok b Ls j
 |0,h=>⟨h,λj g=>absurd g (nP _)⟩
 |k+1,h=>by
  obtain⟨h1,h2⟩:=IB.mp h;obtain⟨q,B⟩:=xf h1;refine⟨q,λj g=>?_⟩
  by_cases e:j=k
  .rw[e];exact h2
  .exact B j Vc
theorem LK(g:Ls≠[])(h:∃r,cW r Ls/\Xa nx ok b r=true):∀k,eN nx ok b Ls k≠[]/\(∃r,cW r (eN nx ok b Ls k)/\Xa nx ok b r=true) /\
  ∀r,cW r Ls->Xa nx ok b r=true->cW r (eN nx ok b Ls k)\/∃j,j<k/\(∀i,i<j->bA i r=Fe nx ok b Ls i)/\Fe nx ok b Ls j<bA j r
 |0=>⟨g,h,λr h1 _=>.inl h1⟩
 |k+1=>by
  obtain⟨F,⟨r0,Y,g2⟩,Z⟩:=LK g h k;obtain⟨W,I⟩:=N5 (k:=k) _ [b] F;have T:=I.c ⟨b,b9.mpr U,r0,Y,g2⟩;obtain⟨x,hx⟩:=List.exists_mem_of_ne_nil _ T;obtain⟨Q,B,h1,h2⟩:=(I.a x).mp hx;rw[b9.mp Q]at h2;refine⟨λz=>?_,⟨B,h1,h2⟩,λr O D=>?_⟩
  .have h1:cW B (eN nx ok b Ls (k+1)):=h1;have J:=h1.len;have C:=(IB.mp h1).1.len;rw[z]at J;cases hz:eN nx ok b Ls k with
   |nil=>exact F hz
   |cons _ _=>rw[hz,J]at C;cases C
  .rcases Z r O D with q|⟨j,hj,q3,q4⟩
   .have le:=I.b b (b9.mpr U) r q D;rcases nT _ _ with G|G
    .exact .inr ⟨k,tI k,(xf q).2,G⟩
    .have le:Fe nx ok b Ls k<=bA k r:=le;exact .inl (IB.mpr ⟨q,Vc⟩)
   .grind
end
theorem Zln:∀{l m:Nat},l<2^n->m<2^n->(∀k,k<n->zC k l=zC k m)->l=m:=by
 induction n with
 |zero=>intro l m h1 h2 _;simp_all
 |succ n g=>
  intro l m h1 h2 h;have q:=h 0 (Nat.succ_pos _);unfold zC at q;have:=g (l:=l/2) (m:=m/2) Vc Vc λk B=>by
   have:=h (k+1) (by simp_all);unfold zC at this ⊢;rw[Nat.pow_succ',<-Nat.div_div_eq_div_mul,<-Nat.div_div_eq_div_mul]at this;exact this
  lia
theorem KC:∀{r t:Aj},r.length=t.length->(∀l∈r,l<2^n)->(∀l∈t,l<2^n)->(∀k,k<n->bA k r=bA k t)->r=t
 |[],[],_,_,_,_=>rfl
 |l::r,m::t,h,h1,h2,C=>by
  have B:∀k,k<n->zC k l=zC k m/\bA k r=bA k t:=λk g=>by
   have e:zC k l+2*bA k r=zC k m+2*bA k t:=C k g;have:=wz k l;have:=wz k m;lia
  rw[Zln (h1 l bN) (h2 m bN) λk g=>(B k g).1,KC Vd (λx q=>h1 x (cA _ q)) (λx q=>h2 x (cA _ q)) λk g=>(B k g).2]
 |[],_::_,h,_,_,_=>nomatch h
 |_::_,[],h,_,_,_=>nomatch h
structure jg(nx:Nat->Nat->Nat)(ok:Nat->Nat->Bool)(b n w:Nat)(r:Aj):Prop where
 len:r.length=w
 lt:∀l∈r,l<2^n
 last:Xa nx ok b r=true
 fst:∀t:Aj,t.length=w->(∀l∈t,l<2^n)->Xa nx ok b t=true->t=r\/∃j,j<n/\(∀i,i<j->bA i t=bA i r)/\bA j r<bA j t
theorem za:∀{w:Nat} {r:Aj},cW r (List.replicate w (List.range n))↔r.length=w/\∀l∈r,l<n
 |0,[]=>⟨λ_=>⟨U,λ_ h=>nomatch h⟩,λ_=>trivial⟩
 |0,_::_=>⟨λh=>h.elim,λh=>nomatch h.1⟩
 |w+1,[]=>⟨λh=>h.elim,λh=>nomatch h.1⟩
 |w+1,l::r=>by
  show l∈List.range n/\cW r _↔_;rw[za,fV];constructor
  .simp_all
  .rintro⟨h1,h2⟩;exact⟨h2 l bN,Vd,λx g=>h2 x (cA _ g)⟩
theorem uD:∀{r:Aj} {Ls:Ad},cW r Ls->cW (Ls.map λL=>L.headD 0) Ls
 |[],[],_=>trivial
 |l::r,L::Ls,h=>by
  refine⟨?_,uD h.2⟩;cases L with
  |nil=>exact nomatch h.1
  |cons x L=>exact bN
 |[],_::_,h=>h.elim
 |_::_,[],h=>h.elim
def VW{b w:Nat}(hw:0<w)(h:∃r,r.length=w/\(∀l∈r,l<2^n)/\Xa nx ok b r=true):
  jg nx ok b n w ((eN nx ok b (List.replicate w (List.range (2^n))) n).map λL=>L.headD 0):=by
 have q:List.replicate w (List.range (2^n))≠[]:=λz=>by
  have:=congrArg List.length z;rw[eZ]at this;have:w=0:=this;simp_all
 obtain⟨r,h1,h2,F⟩:=h;obtain⟨_,⟨Q,C,G⟩,O⟩:=LK (nx:=nx) (ok:=ok) (b:=b) q ⟨r,za.mpr ⟨h1,h2⟩,F⟩ n;have hh:=uD C;obtain⟨a1,a2⟩:=xf C;obtain⟨b1,b2⟩:=xf hh;have g:=za.mp a1;have B:=za.mp b1;have e:=KC (n:=n) (by rw[g.1,B.1]) g.2 B.2 λk J=>Vd
 rw[<-e];refine⟨g.1,g.2,G,λt D t2 I=>?_⟩;rcases O t (za.mpr ⟨D,t2⟩) I with z|⟨j,Y,Z,z2⟩
 .obtain⟨d1,T⟩:=xf z;exact .inl (KC (n:=n) (by rw[D,g.1]) t2 g.2 λk J=>Vd)
 .grind
structure nD(R:Ad)(kk:Nat->Nat):Prop where
 e:∀i,i<=R.length->jU R 0 i=List.range (kk i)
 go:∀i,i<R.length->i<kk i
 le:∀i,i<=R.length->kk i<=R.length
 z:kk 0=1
def nD.step(G:nD R kk)(hi:i<R.length):(R.getD i []).foldl Y1 (List.range (kk i))=List.range (kk (i+1)):=by
 have h:=G.e _ hi;have h2:l7 R _ i=List.range _:=h;rw[G.e i (a8 hi)]at h2;unfold l7 at h2;rw[show(List.range _).getD i 0=i by rw[cF,CV (G.go i hi)];rfl]at h2;exact h2
def nD.part(G:nD R kk)(hi:i<R.length)(j:Nat):∃k,((R.getD i []).take j).foldl Y1 (List.range (kk i))=List.range k/\kk i<=k/\k<=kk (i+1):=by
 have h:=G.step hi;have e:(R.getD i []).foldl Y1 (List.range (kk i))=((R.getD i []).drop j).foldl Y1 (((R.getD i []).take j).foldl Y1 (List.range (kk i))):=by rw[<-nN,oN]
 obtain⟨r,e2⟩:=Wx ((R.getD i []).drop j) _;obtain⟨B,e3⟩:=Wx ((R.getD i []).take j) (List.range (kk i));rw[e,e2]at h;have g:=congrArg List.length e3;have q:=congrArg List.length h;rw[aZ,dS]at g;rw[aZ,dS]at q;refine⟨(((R.getD i []).take j).foldl Y1 (List.range (kk i))).length,?_,Vc,Vc⟩;have:=congrArg (List.take (((R.getD i []).take j).foldl Y1 (List.range (kk i))).length) h;rw[List.take_left,List.take_range,Bi Vc]at this;exact this
def nD.more(G:nD R kk)(hi:i<R.length){j k t:Nat}(C:(R.getD i [])[j]?=some t)(B:((R.getD i []).take j).foldl Y1 (List.range (kk i))=List.range k):
  (t<k/\((R.getD i []).take (j+1)).foldl Y1 (List.range (kk i))=List.range k)\/(t=k/\((R.getD i []).take (j+1)).foldl Y1 (List.range (kk i))=List.range (k+1)):=by
 have e:((R.getD i []).take (j+1)).foldl Y1 (List.range (kk i))=Y1 (List.range k) t:=by rw[aB C,nN,B];rfl
 rcases nT t k with h|h
 .exact .inl ⟨h,by rw[e];exact aN (fV.mpr h)⟩
 .have e1:Y1 _ t=List.range k++[t]:=aL λz=>absurd (fV.mp z) Vc
  obtain⟨q,e2,_,_⟩:=G.part hi _;rw[e,e1]at e2;have g:=congrArg List.length e2;rw[aZ,dS,dS]at g;have g:k+1=q:=g;subst g;rw[Bt]at e2;have:=(List.append_inj e2 U).2;injection this with this;exact .inr ⟨this,by rw[e,e1,this,Bt]⟩
def bH(kk:Nat->Nat):Nat->List Nat
 |0=>[1]
 |i+1=>bH kk i++List.replicate (kk (i+1)-kk i) ((bH kk i).getD i 0+1)
section
variable {R:Ad}{kk:Nat->Nat}
theorem zb(G:nD R kk):∀i,i<=R.length->(bH kk i).length=kk i
 |0,_=>G.z.symm
 |i+1,h=>by
  have g:=zb G i Vc;obtain⟨k,_,h1,h2⟩:=G.part (h) 0;show(bH kk i++_).length=_;rw[aZ,eZ];lia
def Jy(h:t<(bH kk i).length):(bH kk (i+1)).getD t 0=(bH kk i).getD t 0:=by
 show(bH kk i++_).getD t 0=_;rw[cF,eH h,cF]
def w9(h:(bH kk i).length<=t)(h2:t<(bH kk (i+1)).length):(bH kk (i+1)).getD t 0=(bH kk i).getD i 0+1:=by
 have h2:t<(bH kk i++List.replicate _ _).length:=h2;rw[aZ,eZ]at h2;show(bH kk i++_).getD t 0=_;rw[cF,eL h,List.getElem?_replicate,aN Vc];rfl
theorem OJ{i:Nat}:∀(d:Nat) {t:Nat},t<(bH kk i).length->(bH kk (i+d)).getD t 0=(bH kk i).getD t 0/\t<(bH kk (i+d)).length
 |0,t,h=>⟨U,h⟩
 |d+1,t,h=>by
  obtain⟨h1,h2⟩:=OJ d h;refine⟨by rw[<-h1];exact Jy h2,?_⟩;show t<(bH kk _++_).length;rw[aZ];lia
structure Lp(R:Ad)(kk:Nat->Nat)(L i:Nat):Prop where
 mono:∀t t',t<=t'->t'<(bH kk i).length->(bH kk i).getD t 0<=(bH kk i).getD t' 0
 top:∀j,j<i->∀t,t<(bH kk i).length->(j+1=i->(bH kk i).getD t 0<=(bH kk i).getD j 0+1)
 way:∀t,t<(bH kk i).length->∃ls:Aj,ls.length+1=(bH kk i).getD t 0/\(∀x∈ls,x<L)/\cJ R 0 ls=t
 E7:∀j,j<i->∀t∈R.getD j [],t<(bH kk i).length/\(bH kk i).getD t 0<=(bH kk i).getD j 0+1
theorem P8(G:nD R kk){L:Nat}(hr:∀r∈R,r.length=L):∀i,i<=R.length->Lp R kk L i
 |0,_=>by
  have one:∀t,t<(bH kk 0).length->t=0:=λt h=>Nat.lt_one_iff.mp h;refine⟨λt t' h h'=>?_,λj D=>absurd D (nP _),λt h=>⟨[],?_,(λ_ z=>nomatch z),?_⟩,λj D=>absurd D (nP _)⟩
  .rw[one t Vc,one t' h'];exact aM _
  .rw[one t h];rfl
  .rw[one t h];rfl
 |i+1,h=>by
  have I:=P8 G hr i Vc;have hl:=zb G i Vc;have T:=zb G (i+1) h;have hi:i<R.length:=h;have C:i<(bH kk i).length:=by rw[hl];exact G.go i hi
  have all:∀t,t<(bH kk i).length->(bH kk i).getD t 0<=(bH kk i).getD i 0+1:=λt g=>by
   cases i with
   |zero=>
    have h1:t<1:=g;have:t=0:=Vc
    rw[this];exact nG _
   |succ j=>
    have h1:=I.top j (tI j) t g rfl;have h2:=I.mono j (j+1) (nG _) C;lia
  have Z:=Jy C;have Y:∀t,t<(bH kk (i+1)).length->(bH kk (i+1)).getD t 0<=(bH kk i).getD i 0+1:=λt g=>by
   rcases nT t (bH kk i).length with q|q
   .rw[Jy q];exact all t q
   .rw[w9 q g];exact aM _
  refine⟨λt t' O Q=>?_,λj D t g e=>?_,λt g=>?_,λj D t g=>?_⟩
  .rcases nT t' (bH kk i).length with q|q
   .rw[Jy q,Jy Vc];exact I.mono t t' O q
   .rw[w9 q Q];exact Y t Vc
  .have:j=i:=Vc
   rw[this,Z];exact Y t g
  .rcases nT t (bH kk i).length with q|q
   .rw[Jy q];exact I.way t q
   .rw[w9 q g];obtain⟨ls,h1,h2,J⟩:=I.way i C;have B:t∈(R.getD i []).foldl Y1 (List.range (kk i)):=by rw[G.step hi];exact fV.mpr (by simp_all)
    rcases(Jx _ _).mp B with z|z
    .exact absurd (fV.mp z) Vc
    .obtain⟨c,hc⟩:=oH z;refine⟨ls++[c],by rw[aZ,<-h1];rfl,λx hx=>?_,?_⟩
     .grind
     .rw[X5,J,cF (l:=R.getD i []),hc];rfl
  .by_cases e:j=i
   .rw[e]at g ⊢;have B:t∈(R.getD i []).foldl Y1 (List.range (kk i)):=(Jx _ _).mpr (.inr g);rw[G.step hi]at B;have F:t<(bH kk (i+1)).length:=by rw[T];exact fV.mp B
    exact⟨F,by rw[Z];exact Y t F⟩
   .obtain⟨h1,h2⟩:=I.E7 j Vc t g;have J:(bH kk (i+1)).getD j 0=(bH kk i).getD j 0:=Jy Vd;rw[Jy h1,J];refine⟨?_,h2⟩;show t<(bH kk i++_).length;rw[aZ];lia
theorem Zbk(G:nD R kk)(hr:∀r∈R,r.length=L){ok:Nat->Nat->Bool}{c:Nat}(hi:i<R.length)(hc:c<L)(ht:ok i c=true)(O:∀j,j<i->∀c,c<L->ok j c=false):
  1<=(bH kk i).getD i 0/\(∃ls:Aj,ls.length+1=(bH kk i).getD i 0/\(∀x∈ls,x<L)/\ok (cJ R 0 ls) c=true)/\∀(ls:Aj)(d:Nat),(∀x∈ls,x<L)->d<L->ok (cJ R 0 ls) d=true->(bH kk i).getD i 0<=ls.length+1:=by
 have D:=P8 G hr i (a8 hi);have hl:=zb G i (a8 hi);have B:i<(bH kk i).length:=by rw[hl];exact G.go i hi
 obtain⟨ls,h1,h2,I⟩:=D.way i B;refine⟨Vc,⟨ls,h1,h2,by rw[I];exact ht⟩,λls d hls hd T=>?_⟩;have hge:i<=cJ R 0 ls:=by
  grind
 have key:∀n,n<=ls.length->(∃m,m<=n/\i<=cJ R 0 (ls.take m)/\(bH kk i).getD i 0<=m+1)\/(cJ R 0 (ls.take n)<i/\(bH kk i).getD (cJ R 0 (ls.take n)) 0<=n+1):=by
  intro n
  induction n with
  |zero=>
   intro _;rcases Nat.eq_zero_or_pos i with q|q
   .refine .inl ⟨0,aM _,(by simp_all),?_⟩;rw[q];exact aM _
   .refine .inr ⟨q,?_⟩;have h:=OJ (kk:=kk) (i:=0) i (t:=0) Nat.one_pos;rw[CD]at h;show(bH kk i).getD 0 0<=1;rw[h.1];exact aM _
  |succ n Z=>
   intro hn;rcases Z Vc with⟨m,J,C,F⟩|⟨C,F⟩
   .exact .inl ⟨m,Vc,C,F⟩
   .have Y:ls[n]?=some (ls.getD n 0):=aU Vc;have e:cJ R 0 (ls.take (n+1))=(R.getD (cJ R 0 (ls.take n)) []).getD (ls.getD n 0) 0:=by rw[aB Y,X5]
    have g:cJ R 0 (ls.take (n+1))∈R.getD (cJ R 0 (ls.take n)) []:=by
     grind
    obtain⟨Q,g2⟩:=D.E7 _ C _ g;rcases nT (cJ R 0 (ls.take (n+1))) i with q|q
    .exact .inr ⟨q,Vc⟩
    .exact .inl ⟨n+1,aM _,q,by have:=D.mono i _ q Q;grind⟩
 rcases key ls.length (aM _)with⟨m,J,_,q⟩|⟨q,_⟩
 .lia
 .rw[dI]at q;simp_all
end
def lQ(vs:Aj):Az:=(List.range vs.length).map λt:Nat=>((Sum.inl (t:Int):aV),V.int ((vs.getD t 0:Nat):Int))
def Zqe(vs:Aj):(lQ vs).length=vs.length:=by unfold lQ;rw[aI,dS]
def Zlo(vs:Aj)(x:Nat):lQ (vs++[x])=lQ vs++[(Sum.inl (vs.length:Int),V.int x)]:=by
 unfold lQ;rw[aZ,show[x].length=1 from U,Bt,dC];refine congr (congrArg _ (mK λt g=>?_)) ?_
 .grind
 .simp_all
theorem wA(f:Nat->V)(t:Nat):∀n,Y0 ((List.range n).map λt:Nat=>((Sum.inl (t:Int):aV),f t)) (.inl (t:Int))=if t<n then some (f t)else none
 |0=>rfl
 |n+1=>by
  have q:=wA f t n;have g:=wA f n n;rw[aL (fU _)]at g;rw[Bt,dC];show Y0 (_++[((Sum.inl _),f n)]) _=_;rw[ju _ _ _ _ g]
  by_cases e:t=n
  .simp_all
  .lia
def yo(vs:Aj)(t:Nat):Y0 (lQ vs) (.inl (t:Int))=if t<vs.length then ad ((vs.getD t 0:Nat):Int)else none:=wA _ t _
def Sa(vs:Aj)(x:Nat):bB (lQ vs) (.inl (vs.length:Int)) (.int x)=lQ (vs++[x]):=by
 rw[Pp _ (by rw[yo,aL (fU _)]),Zlo]
def AQ[DecidableEq g]{nx:g->List g}{b:g}{l:List g}(B:bJ nx b l):nD (bF nx l) λi=>(ba nx b i).length:=by
 have C:=Xm nx l;refine⟨λi hi=>?_,λi hi=>B.go i (by simp_all),λi hi=>?_,U⟩
 .rw[C]at hi;rw[Pr B i hi];have pre:∃r,l=ba nx b i++r:=by
   obtain⟨r,e⟩:=vN (b:=b) i _;rw[show i+(l.length-i)=l.length by lia,<-B.e]at e;exact⟨r,e⟩
  obtain⟨r,e⟩:=pre;refine AD λj=>?_
  by_cases q:j<(ba nx b i).length
  .rw[aY,aR q,CV q];refine congrArg some (W9 B.nodup ?_);rw[e,eH q,aR q]
  .simp_all
 .obtain⟨r,e⟩:=vN (b:=b) i _;rw[show i+(l.length-i)=l.length by simp_all,<-B.e]at e;have:=congrArg List.length e;rw[aZ]at this;simp_all
def mN(R:Ad)(s c:Nat):Nat:=(R.getD s []).getD c 0
def mB(O:Ay)(v:V)(s c:Nat):Bool:=decide ((O.getD s []).getD c .aX=v)
theorem XH(R:Ad)(ok:Nat->Nat->Bool):∀(ls:Aj)(s c:Nat),Xa (mN R) ok s (ls++[c])=ok (cJ R s ls) c
 |[],_,_=>rfl
 |l::ls,s,c=>by
  rw[FN,Wr Ve];exact XH R ok ls _ c
theorem NJ{R:Ad}{kk:Nat->Nat}(G:nD R kk):∀i,i<=R.length->∀t,(bH kk i).getD t 0<=t+1
 |0,_,0=>aM _
 |0,_,t+1=>cD _
 |i+1,h,t=>by
  have g:=NJ G i Vc;rcases nT t _ with q|q
  .rw[Jy q];exact g t
  .rcases nT t _ with B|B
   .rw[w9 q B];have:=g i;have:=G.go i h;rw[zb G i Vc]at q;lia
   .simp_all
theorem QN:∀bs:List Bool,cG (.bl true) (bs.map V.bl)=decide (true∈bs)
 |[]=>rfl
 |b::bs=>by
  show(dR _ _||cG _ _)=_;rw[QN bs];cases b
  .simp[dR]
  .simp[dR]
def tQ[DecidableEq g]{l:List g}{x:g}(h:x∈l):dY l x<l.length:=oS h
def BR[DecidableEq g]{l:List g}{x:g}(h:x∈l):l[dY l x]?=some x:=yd h
def pN(nx1 nx2:Ad)(k:Ak):List (Ak):=(vK (nx1.getD (k.getD 0 0).toNat []) (nx2.getD (k.getD 1 0).toNat [])).map λp=>[p.1,p.2]
def pO(ot1 ot2:Ay)(k:Ak):A1:=(((ot1.getD (k.getD 0 0).toNat []).zip (ot2.getD (k.getD 1 0).toNat [])).map λq=>!decide (q.1=q.2)).map V.bl
def pK(i j:Nat):Ak:=[(i:Int),(j:Int)]
def pU(q g:Nat):List (Ak):=(List.range q).flatMap λi=>(List.range g).map λj=>pK i j
def GS:k∈pU n L↔∃i j,i<n/\j<L/\k=pK i j:=by
 unfold pU;constructor
 .grind
 .grind
def Nh(g q:Nat):(pU g q).length=g*q:=by
 unfold pU;rw[List.length_flatMap];have:((List.range g).map λi=>((List.range q).map λj=>pK i j).length)=List.replicate g q:=by
  refine AD λi=>?_
  by_cases h:i<g
  .simp_all
  .simp_all
 rw[this,List.sum_replicate_nat]
section
variable {nx1 nx2:Ad}{ot1 ot2:Ay}{n:Nat}
def F5(q:bD nx1 ot1 n)(R2:bD nx2 ot2 n){j:Nat}(hi:i<nx1.length)(g:j<nx2.length):(pN nx1 nx2 (pK i j)).length=2^n:=by
 have h1:=q.nr _ (aA hi);have h2:=R2.nr _ (aA g);show(List.map _ (vK (nx1.getD ((i:Int)).toNat []) (nx2.getD ((j:Int)).toNat []))).length=_;rw[dr,dr];unfold vK;rw[aI,aI,mI,h1,h2,Hu]
def Lb(B:bD nx1 ot1 n)(R2:bD nx2 ot2 n){j c:Nat}(hi:i<nx1.length)(g:j<nx2.length)(C:c<2^n):(pN nx1 nx2 (pK i j))[c]?=some (pK ((nx1.getD i []).getD c 0) ((nx2.getD j []).getD c 0)):=by
 have h1:=B.nr _ (aA hi);have h2:=R2.nr _ (aA g);show(List.map _ (vK (nx1.getD ((i:Int)).toNat []) (nx2.getD ((j:Int)).toNat [])))[c]?=_;rw[dr,dr];unfold vK;have q:((nx1.getD i []).zip _)[c]?=some ((nx1.getD i []).getD c 0,(nx2.getD j []).getD c 0):=C3.mpr ⟨aU Vc,aU Vc⟩;rw[aY,aY,q];rfl
def LV(g:bD nx1 ot1 n)(R2:bD nx2 ot2 n){k:Ak}(F:k∈pU nx1.length nx2.length):∀x∈pN nx1 nx2 k,x∈pU nx1.length nx2.length:=by
 obtain⟨i,j,hi,q,rfl⟩:=GS.mp F;intro x C;obtain⟨c,B⟩:=oH C;have D:=by
  have:=(bM.mp B).1;rw[F5 g R2 hi q]at this;exact this
 rw[Lb g R2 hi q D]at B;have h1:=g.nr _ (aA hi);have h2:=R2.nr _ (aA q);exact GS.mpr ⟨_,_,g.nl _ (aA hi) _ (bP (aU Vc)),R2.nl _ (aA q) _ (bP (aU Vc)),(Option.some.inj B).symm⟩
def D0(g:bD nx1 ot1 n)(R2:bD nx2 ot2 n){j c:Nat}(hi:i<nx1.length)(B:j<nx2.length)(C:c<2^n):(pO ot1 ot2 (pK i j))[c]?=some (V.bl (!decide ((ot1.getD i []).getD c .aX=(ot2.getD j []).getD c .aX))):=by
 have h1:=g.or _ (aA (by rw[g.ol];exact hi));have h2:=R2.or _ (aA (by rw[R2.ol];exact B));show(List.map _ (List.map _ ((ot1.getD ((i:Int)).toNat []).zip (ot2.getD ((j:Int)).toNat []))))[c]?=_;rw[dr,dr];have q:((ot1.getD i []).zip _)[c]?=some ((ot1.getD i []).getD c .aX,(ot2.getD j []).getD c .aX):=C3.mpr ⟨aU (by simp_all),aU (by simp_all)⟩;rw[aY,aY,q];rfl
def OT(g:bD nx1 ot1 n)(R2:bD nx2 ot2 n){j:Nat}(hi:i<nx1.length)(q:j<nx2.length):(pO ot1 ot2 (pK i j)).length=2^n:=by
 have h1:=g.or _ (aA (by rw[g.ol];exact hi));have h2:=R2.or _ (aA (by rw[R2.ol];exact q));show(List.map _ (List.map _ ((ot1.getD ((i:Int)).toNat []).zip (ot2.getD ((j:Int)).toNat [])))).length=_;rw[dr,dr,aI,aI,mI,h1,h2,Hu]
theorem Qr(G:bD nx1 ot1 n)(R2:bD nx2 ot2 n)(g:b1<nx1.length)(q:b2<nx2.length){l:List (Ak)}(B:bJ (pN nx1 nx2) (pK b1 b2) l):∀k∈l,k∈pU nx1.length nx2.length:=λk C=>by
 rw[B.e]at C;exact AI (GS.mpr ⟨b1,b2,g,q,U⟩) (λs D x F=>LV G R2 D x F) _ k C
theorem Mn(J:bD nx1 ot1 n)(R2:bD nx2 ot2 n)(C:b1<nx1.length)(D:b2<nx2.length){l:List (Ak)}(B:bJ (pN nx1 nx2) (pK b1 b2) l):∀{ls:Aj},(∀x∈ls,x<2^n)->pK (cJ nx1 b1 ls) (cJ nx2 b2 ls)∈l/\cJ (bF (pN nx1 nx2) l) 0 ls=dY l (pK (cJ nx1 b1 ls) (cJ nx2 b2 ls))/\cJ nx1 b1 ls<nx1.length/\cJ nx2 b2 ls<nx2.length:=by
 intro ls;generalize hn:ls.length=m
 induction m generalizing ls with
 |zero=>
  intro _;rw[sW hn];exact⟨B.begin.2,B.zero.symm,C,D⟩
 |succ m Q=>
  intro h;obtain⟨g,c,rfl⟩:∃g c,ls=g++[c]:=⟨ls.dropLast,ls.getLast (λz=>by rw[z]at hn;cases hn),(NL _).symm⟩;have I:g.length=m:=Vd
  refine ω (Q I λx G=>h x (iQ _ G)) (θ3 λO Z F q=>?_);have T:=h c (dW _ (b9.mpr U));have e:=Lb J R2 F q T;have nx:=B.next O (bP e);have h1:=J.nr _ (aA F);have h2:=R2.nr _ (aA q);rw[X5,X5,X5,Z];refine⟨nx,?_,J.nl _ (aA F) _ (bP (aU (d:=0) Vc)),R2.nl _ (aA q) _ (bP (aU (d:=0) Vc))⟩;rw[KI (λs Y x G=>B.next Y G) O,cF,aY,e]
  rfl
def Qt(C:bD nx1 ot1 n)(R2:bD nx2 ot2 n)(g:b1<nx1.length)(q:b2<nx2.length){l:List (Ak)}(B:bJ (pN nx1 nx2) (pK b1 b2) l){ls:Aj}{c:Nat}(h:∀x∈ls++[c],x<2^n):
  Xa (mN (bF (pN nx1 nx2) l)) (mB (l.map (pO ot1 ot2)) (.bl true)) 0 (ls++[c])=decide ((ot1.getD (cJ nx1 b1 ls) []).getD c .aX≠(ot2.getD (cJ nx2 b2 ls) []).getD c .aX):=by
 rw[XH];refine ω (Mn C R2 g q B λx O=>h x (iQ _ O)) (θ3 λJ I F D=>?_);have G:=h c (dW _ (b9.mpr U));unfold mB;rw[I,cF (l:=l.map _),aY,BR J];show decide ((pO ot1 ot2 _).getD c .aX=.bl true)=_;rw[cF,D0 C R2 F D G];generalize (ot1.getD _ []).getD c .aX=x;generalize (ot2.getD _ []).getD c .aX=y
 by_cases z:x=y
 .grind
 .grind
def Zlp(I:bD nx1 ot1 n)(R2:bD nx2 ot2 n)(F:b1<nx1.length)(G:b2<nx2.length){l:List (Ak)}(B:bJ (pN nx1 nx2) (pK b1 b2) l):bD (bF (pN nx1 nx2) l) (l.map (pO ot1 ot2)) n:=by
 have C:=Qr I R2 F G B;have hpos:=EL B.begin.2;refine⟨by rw[Xm];exact hpos,by rw[Xm,aI],λr q=>?_,λr q x O=>?_,λr q=>?_⟩
 .obtain⟨k,g,rfl⟩:=bG.mp q;obtain⟨i,j,hi,D,rfl⟩:=GS.mp (C k g);rw[aI,F5 I R2 hi D]
 .obtain⟨k,g,rfl⟩:=bG.mp q;obtain⟨y,J,rfl⟩:=bG.mp O;rw[Xm];exact tQ (B.next g J)
 .obtain⟨k,g,rfl⟩:=bG.mp q;obtain⟨i,j,hi,D,rfl⟩:=GS.mp (C k g);exact OT I R2 hi D
end
def dX(l:Aj):Az:=l.map λs:Nat=>((Sum.inl (s:Int):aV),V.bl true)
theorem wB(s:Nat):∀l:Aj,(Y0 (dX l) (.inl (s:Int))).isSome=decide (s∈l)
 |[]=>rfl
 |x::l=>by
  show(Y0 ((Sum.inl _,V.bl true)::dX l) _).isSome=_
  by_cases e:x=s
  .subst e;rw[YB U];exact(bC bN).symm
  .rw[Y4 (λz=>e Vd),wB s l];exact rJ.mpr ⟨λh=>cA _ h,λh=>(bR.mp h).elim Vc id⟩
def Qp(l:Aj)(s:Nat):bB (dX l) (.inl (s:Int)) (.bl true)=dX (Y1 l s):=by
 by_cases h:s∈l
 .have e:Y1 l s=l:=aN h;rw[e];unfold bB;have g:(Y0 (dX l) (.inl s)).isSome=true:=by rw[wB];exact bC h
  rw[aN (by rw[G8];exact g)];refine AD λi=>?_;unfold dX;rw[aY,aY];cases l[i]? with
  |none=>rfl
  |some x=>
   show some (if(Sum.inl _)=.inl _ then((Sum.inl _),V.bl true)else(Sum.inl _,V.bl true))=_;split<;>rfl
 .have e:Y1 l s=l++[s]:=aL h;rw[e,Pp _ (by
   have:=wB s l;rw[bO h]at this;cases q:Y0 (dX l) _ with
   |none=>rfl
   |some y=>rw[q]at this;cases this)]
  unfold dX;rw[dC];rfl
def yp(l:Aj):(dX l).length=l.length:=aI _
def vS(H:Hp)(g:V)(W:Option (Aj)):Prop:=(W=none/\g=.aX)\/∃d l,W=some l/\g=.ref d/\Rd H d (.dK (dX l))
def bQ(H H':Hp):Prop:=∀b o,H b=some o->H' b=some o\/∃ul u,o=.dK ul/\H' b=some (.b7 u (.dK ul))
def bQ.of(s:ZK H H'):bQ H H':=λb o e=>.inl (s b o e)
def bQ.at(s:bQ H H'){b:Av}{o:HO}(e:H b=some o)(h:∀ul,o≠.dK ul):H' b=some o:=by
 rcases s b o e with z|⟨ul,u,z,_⟩
 .exact z
 .exact absurd z (h ul)
def bQ.tup(s:bQ H H'){b:Av}{xs:A1}(e:H b=am xs):H' b=am xs:=s.at e λ_ z=>nomatch z
def bQ.lst(s:bQ H H'){b:Av}{xs:A1}(e:H b=ap xs):H' b=ap xs:=s.at e λ_ z=>nomatch z
theorem bQ.trans(s:bQ H d)(t:bQ d H2):bQ H H2:=λb o e=>by
 rcases s b o e with z|⟨ul,u,rfl,z⟩
 .exact t b o z
 .exact .inr ⟨ul,u,U,t.at z λ_ q=>nomatch q⟩
def bQ.rd(s:bQ H H'){d:Av}{ul:Az}(h:Rd H d (.dK ul)):Rd H' d (.dK ul):=by
 rcases h with h|⟨u,h⟩
 .rcases s d _ h with z|⟨g,u,z,e⟩
  .exact .inl z
  .cases z;exact .inr ⟨u,e⟩
 .exact .inr ⟨u,s.at h λ_ q=>nomatch q⟩
def bQ.well(s:bQ H H'){W:Option (Aj)}(h:vS H y W):vS H' y W:=by
 rcases h with h|⟨d,l,h1,h2,g⟩
 .exact .inl h
 .exact .inr ⟨d,l,h1,h2,s.rd g⟩
def bQ.free(s:bQ H H'){p:Av}(h:H' p=none):H p=none:=by
 cases e:H p with
 |none=>rfl
 |some o=>
  rcases s p o e with z|⟨_,_,_,z⟩
  .rw[h]at z;cases z
  .rw[h]at z;cases z
theorem bQ.b7{a:Av}{ul:Az}{u:Obj}(h:Rd H a (.dK ul))(B:∀o,H a=some (.b7 o (.dK ul))->o=u):bQ H (aC H a (.b7 u (.dK ul))):=λb o e=>by
 by_cases g:b=a
 .subst g;rcases h with h|⟨q,h⟩
  .rw[h]at e;cases e;exact .inr ⟨ul,u,U,Za⟩
  .rw[h]at e;cases e;rw[B q h];exact .inl Za
 .exact .inl (by rw[Zk g];exact e)
theorem bQ.put(s:bQ H H'){p:Av}(g:H p=none){o:HO}:bQ H (aC H' p o):=λb u e=>by
 rcases s b u e with z|⟨ul,w,q,z⟩
 .exact .inl (by rw[Zk (Zo e g)];exact z)
 .exact .inr ⟨ul,w,q,by rw[Zk (Zo e g)];exact z⟩
def M4.fD{m:Av}{b:Nat}{nx:Ad}{ot:Ay}(M:M4 H m N b nx ot)(s:bQ H H'):M4 H' m N b nx ot:=M.a7 λb xs e=>s.tup e
def Kz{c:Nat}(h:c<r.length):(JE r)[c]?=some (Xh (r.getD c 0)):=by
 unfold JE;rw[aY,aU h];rfl
def uE(H:Hp)(p:Av)(Ls:Ad):Prop:=∃as:A1,H p=ap as/\as.length=Ls.length/\∀(i:Nat)(L:Aj),Ls[i]?=some L->∃a,as[i]?=some (V.ref a)/\H a=am (L.map Xh)
def uE.fD{p:Av}{Ls:Ad}(h:uE H p Ls)(s:bQ H H'):uE H' p Ls:=by
 obtain⟨as,h1,h2,g⟩:=h;refine⟨as,s.lst h1,h2,λi L hi=>?_⟩;obtain⟨a,q,B⟩:=g i L hi;exact⟨a,q,s.tup B⟩
def pC(H:Hp)(p:Av)(g:Ad):Prop:=∃as:A1,H p=ap as/\as.length=g.length/\∀(i:Nat)(S:Aj),g[i]?=some S->∃a,as[i]?=some (V.ref a)/\Rd H a (.dK (dX S))
def pC.fD{p:Av}(h:pC H p R)(s:bQ H H'):pC H' p R:=by
 obtain⟨as,h1,h2,g⟩:=h;refine⟨as,s.lst h1,h2,λi L hi=>?_⟩;obtain⟨a,q,B⟩:=g i L hi;exact⟨a,q,s.rd B⟩
def Fj(g b:Nat):V->Bool
 |.int z=>decide (zC g z.toNat=b)
 |_=>false
theorem yq(g b:Nat):∀L:Aj,(L.map Xh).filter (Fj g b)=(fG g b L).map Xh
 |[]=>rfl
 |l::L=>by
  have q:=yq g b L;have e:Fj g b (Xh l)=decide (zC g l=b):=by
   show decide _=_;rw[dr]
  unfold fG at q ⊢
  by_cases h:zC g l=b
  .grind
  .grind
def Bb(l g b:Nat):decide (V.int (Builtin.bitAnd ((l:Int)/2^((g:Int)).toNat) 1)=V.int b)=Fj g b (Xh l):=by
 show _=decide _;rw[iS,dr,dr];have e:l/2^g%2=((zC g l):Int):=by
  rfl
 rw[e];exact rJ.mpr ⟨λz=>Vd,λz=>by rw[z]⟩
def Tt{L:Aj}{s:Nat}(g:S[i]?=some s):iE nx ok W (S.take (i+1)) L=iE nx ok W (S.take i) L++if L.any (gw nx ok W s)=true then[s]else[]:=by
 unfold iE;rw[aB g,tH,nU];rfl
def VM{L:Aj}{s:Nat}(q:S.Nodup)(g:S[i]?=some s):s∉iE nx ok W (S.take i) L:=λh=>by
 have h:=(w6.mp h).1;have B:=(bM.mp g).1;have:(S.take i++S.drop i).Nodup:=by rw[oN];exact q
 refine(DC.mp this).2.2 s h s ?_ rfl;rw[rE B,(bM.mp g).2];exact bN
def Ut{L:Aj}:(iE nx ok W S L).length<=S.length:=Cj _ _
theorem L8:∀(Ls:Ad)(S:Aj),(cV nx S Ls).length=Ls.length
 |[],_=>rfl
 |L::Ls,S=>congrArg (· + 1) (L8 Ls _)
theorem Ph:∀{Ls:Ad} {S g L:Aj} {i:Nat},(cV nx S Ls)[i]?=some g->Ls[i]?=some L->i+1<Ls.length->(cV nx S Ls)[i+1]?=some (mF nx g L)
 |[],_,_,_,_,h,_,_=>nomatch h
 |[_],_,_,_,i,_,_,q=>absurd q Ve
 |L0::B::Ls,S,g,L,0,h,h2,_=>by
  cases h;cases h2;rfl
 |L0::B::Ls,S,g,L,i+1,h,h2,q=>Ph (i:=i) h h2 Vd
def Zez(S L:Aj):(mF nx S L).Nodup:=xV _ _ iW
theorem IU{N M:Nat}(C:∀s l,s<N->l<M->nx s l<N):∀{Ls:Ad} {S:Aj},S.Nodup->(∀s∈S,s<N)->(∀L∈Ls,∀l∈L,l<M)->∀g∈cV nx S Ls,g.Nodup/\∀s∈g,s<N
 |[],_,_,_,_,_,h=>nomatch h
 |L::Ls,S,h1,h2,D,g,h=>by
  rcases bR.mp h with rfl|h
  .exact⟨h1,h2⟩
  .refine IU C (Zez S L) (λs G=>?_) (λL J=>D L (cA _ J)) g h;obtain⟨I,q,F,B,rfl⟩:=xc.mp G;exact C _ _ (h2 I q) (D L bN F B)
def Rp{N:Nat}(h1:S.Nodup)(h2:∀s∈S,s<N):S.length<=N:=by
 have:=Wi h1 λs g=>fV.mpr (h2 s g);rw[dS]at this;exact this
def bD.mN{n:Nat}(R:bD nx ot n){s l:Nat}(g:s<nx.length)(q:l<2^n):mN nx s l<nx.length:=by
 have B:=R.nr _ (aA g);exact R.nl _ (aA g) _ (bP (aU Vc))
theorem Zqk{N:Nat}{l:Aj}(h:∀s∈l,s<N):(l.foldl Y1 []).length<=N:=Rp (xV _ _ iW) λs g=>by
 rcases(Jx _ _).mp g with z|z
 .cases z
 .exact h s z
def Um{f:Nat->List Nat}{j s:Nat}(g:S[j]?=some s):(S.take (j+1)).flatMap f=(S.take j).flatMap f++f s:=by
 rw[aB g];congr 1;simp
def pC.more{H':Hp}{p e:Av}(h1:H p=ap m)(h2:m.length=R.length)(C:∀(i:Nat)(S:Aj),R[i]?=some S->∃a,m[i]?=some (V.ref a)/\Rd H a (.dK (dX S)))(B:H e=some (.dK (dX S))):pC (aC H p (.lst (m++[.ref e]))) p (R++[S]):=by
 have g:∀{a:Av} {ul:Az},Rd H a (.dK ul)->Rd (aC H p (.lst (m++[.ref e]))) a (.dK ul):=λ{a ul} r=>by
  have ne:a≠p:=λz=>by
   subst z;rcases r with r|⟨_,r⟩<;>rw[h1]at r<;>cases r
  rcases r with r|⟨u,r⟩
  .exact .inl (by rw[Zk ne];exact r)
  .exact .inr ⟨u,by rw[Zk ne];exact r⟩
 refine⟨_,Za,Vd,λi F hi=>?_⟩
 by_cases D:i<R.length
 .grind
 .rw[eL (by simp_all)]at hi;have q:i-R.length=0:=by
   grind
  rw[q]at hi;cases hi;exact⟨e,Vd,g (.inl B)⟩
def zr(H:Hp)(g:A1)(q:Ad):Prop:=g.length=q.length/\∀(i:Nat)(C:Aj),q[i]?=some C->∃a,g[i]?=some (V.ref a)/\H a=am (C.map Xh)
theorem zr.fD(h:zr H u R)(s:∀b xs,H b=am xs->H' b=am xs):zr H' u R:=⟨h.1,λi C hi=>by
 obtain⟨a,g,q⟩:=h.2 i C hi;exact⟨a,g,s _ _ q⟩⟩
theorem zr.cons{g:A1}{q:Ad}{C:Aj}{a:Av}(h:zr H g q)(B:H a=am (C.map Xh)):zr H (.ref a::g) (C::q):=⟨congrArg _ h.1,λi D hi=>by
 match i,hi with
 |0,hi=>cases hi;exact⟨a,U,B⟩
 |i+1,hi=>exact h.2 i D hi⟩
def iH(nx:Nat->Nat->Nat)(ok:Nat->Nat->Bool)(k:Nat)(S:Aj)(Ls:Ad)(j:Nat):Aj×Option (Aj):=eY nx ok k ((cV nx S Ls).drop j) (Ls.drop j)
def Nx:iH nx ok k S Ls Ls.length=([],none):=by
 unfold iH;rw[t6];cases(cV nx S Ls).drop _<;>rfl
def Zlr{nx:Nat->Nat->Nat}{ok:Nat->Nat->Bool}{k:Nat}{g L:Aj}{Ls:Ad}{j:Nat}(h1:(cV nx S Ls)[j]?=some g)(h2:Ls[j]?=some L):iH nx ok k S Ls j=(uC nx ok k (iH nx ok k S Ls (j+1)).2 g L::(iH nx ok k S Ls (j+1)).1,some (iE nx ok (iH nx ok k S Ls (j+1)).2 g (fG k (uC nx ok k (iH nx ok k S Ls (j+1)).2 g L) L))):=by
 unfold iH;have e1:(cV nx S Ls).drop j=g::(cV nx S Ls).drop (j+1):=by rw[rE (bM.mp h1).1,(bM.mp h1).2]
 have e2:Ls.drop j=L::Ls.drop (j+1):=by rw[rE (bM.mp h2).1,(bM.mp h2).2]
 rw[e1,e2];rfl
def RE{l:List g}{j:Nat}{x:g}(h:l[j]?=some x):l.drop j=x::l.drop (j+1):=by rw[rE (bM.mp h).1,(bM.mp h).2]
theorem QQ:∀{bs:Aj} {Ls:Ad},∀C∈nM k bs Ls,∃L∈Ls,C.length<=L.length/\∀l∈C,l∈L
 |[],_,_,h=>by cases h
 |_::_,[],_,h=>by cases h
 |b::bs,L::Ls,C,h=>by
  rcases bR.mp h with rfl|h
  .exact⟨L,bN,Cj _ _,λl q=>(Gq.mp q).1⟩
  .obtain⟨g,h1,h2⟩:=QQ C h;exact⟨g,cA _ h1,h2⟩
theorem NW:∀{bs:Aj} {Ls:Ad},bs.length=Ls.length->(nM k bs Ls).length=Ls.length
 |[],[],_=>rfl
 |_::bs,_::Ls,h=>congrArg (· + 1) (NW Vd)
 |[],_::_,h=>nomatch h
 |_::_,[],h=>nomatch h
theorem uF{b:Nat}{Ls:Ad}:∀k,(eN nx ok b Ls k).length=Ls.length/\∀C∈eN nx ok b Ls k,∃L∈Ls,C.length<=L.length/\∀l∈C,l∈L
 |0=>⟨U,λC h=>⟨C,h,aM _,λ_ z=>z⟩⟩
 |k+1=>by
  obtain⟨h1,h2⟩:=uF k;refine⟨(NW (Kp _ _).1).trans h1,λC D=>?_⟩;obtain⟨L,G,O,I⟩:=QQ C D;obtain⟨q,J,g,F⟩:=h2 L G;exact⟨q,J,bS O g,λl B=>F l (I l B)⟩
def HN(H:Hp):V->V
 |.ref a=>match H a with
  |some (.tup (x::_))=>x
  |_=>.aX
 |_=>.aX
def Nw{L:Aj}(h:H a=some (.tup (L.map Xh)))(g:L≠[]):HN H (.ref a)=Xh (L.headD 0)/\fN (L.map Xh) 0=some (Xh (L.headD 0)):=by
 cases L with
 |nil=>exact absurd U g
 |cons x L=>
  refine⟨?_,Yu U⟩;have e:HN H (.ref a)=(match H a with
   |some (.tup (x::_))=>x
   |_=>.aX):=rfl
  rw[e,h];rfl
theorem Q3:∀(ls:Aj)(s:Nat),oZ (mN nx) s ls=cJ nx s ls
 |[],_=>rfl
 |l::ls,s=>Q3 ls _
def Zql{m:Av}{b:Nat}{nx:Ad}{ot:Ay}(M:M4 H m N b nx ot)(R:bD nx ot n)(C:b<nx.length):∃D,Qi H m nx.length (2^n) D b (mN nx) λs c=>(ot.getD s []).getD c .aX:=by
 obtain⟨pn,ps,F,h1,_,⟨as,G,Y,J⟩,⟨bs,O,T,I⟩⟩:=M.ex;refine⟨_,⟨ps,F,h1,⟨as,G,λs g=>?_⟩,⟨bs,O,λs g=>?_⟩⟩,C,λs l g B=>R.mN g B⟩
 .have Q:=R.nr _ (aA g);obtain⟨a,e1,e2⟩:=J s (JE (nx.getD s [])) Vd;exact⟨a,_,e1,e2,λl B=>Kz (by simp_all)⟩
 .have q:s<ot.length:=by rw[R.ol];exact g
  have Q:=R.or _ (aA q);obtain⟨a,e1,e2⟩:=I s _ (Hq q);exact⟨a,_,e1,e2,λl B=>aU (by simp_all)⟩
theorem OZ(i:Nat):∀r:Aj,lK (((r.map λl:Nat=>(l:Int)).map λc=>c/2^i%2).reverse)=(bA i r:Int)
 |[]=>rfl
 |l::r=>by
  rw[eE,eE,rY,we,OZ i r];show(bA i r)*2+l/2^i%2=((zC i l+2*bA i r):Int);have e:l/2^i%2=((zC i l):Int):=by
   rfl
  rw[e];lia
def A9{w:Nat}{x y:g}(h:(List.replicate w x)[i]?=some y):i<w/\y=x:=Vd
def wC{r:Aj}(h:r≠[]):∃g c,r=g++[c]:=⟨_,_,(NL h).symm⟩
def tD(g:Av)(H H':Hp):Prop:=∀b o,H b=some o->b≠g->H' b=some o\/∃ul u,o=.dK ul/\H' b=some (.b7 u (.dK ul))
def tD.of(o:∀b u,H b=some u->b≠a->d b=some u)(s:bQ d H2):tD a H H2:=λb u e g=>s b u (o b u e g)
def Bk:KN (Ak):={MC with
 at_:=λH ks a=>H a=am (ks.map V.int)
 ok:=λP w H h k a ok e=>MC.ok P w H h k a ok ⟨_,e,by rw[cR];rfl⟩
 keep:=λH H' k a g e=>g _ _ e}
def VL(s:ZK (aQ cs H) H')(q:∀c∈cs,H' c=none):ZK H (Ww cs H H')/\(∀b o,H' b=some o->Ww cs H H' b=some o)/\∀b o,H' b=some o->aQ cs H b=none->H b=none:=by
 refine⟨λb u e=>?_,λb o e=>?_,λb o e h=>?_⟩
 .by_cases g:b∈cs
  .rw[Jb g];exact e
  .rw[Yv g];exact s _ _ (by rw[ZX g];exact e)
 .have g:b∉cs:=λm=>Vd
  rw[Yv g];exact e
 .have g:b∉cs:=λm=>Vd
  rw[ZX g]at h;exact h
def Yd.fD{P:Av}{tz:Str}(h:Yd H P p tz)(s:bQ H H'):Yd H' P p tz:=by
 rcases h with h|⟨q,oc,h1,h2,g⟩
 .exact .inl (s.at h λ_ z=>nomatch z)
 .exact .inr ⟨q,oc,s.at h1 (λ_ z=>nomatch z),s.at h2 (λ_ z=>nomatch z),g⟩
def Zqn{ps:List (Int×Int)}(h:cS H ps u)(e:∀b xs,H b=am xs->H' b=am xs):eQ (.key Bk) H' (ps.map λp=>[p.1,p.2]) u:=by
 refine⟨by rw[h.1,aI],λi k g=>?_⟩;rw[aY]at g;obtain⟨p,C,rfl⟩:=eG.mp g;obtain⟨a,B,q⟩:=h.2 i p C;exact⟨.ref a,B,a,U,e _ _ q⟩
def yr(u v:A1)(g:Ai):Prop:=g.Perm (JY (((u++v).filter rZ).map DY))/\PyProof.Rows.sortedS g=true
def rN(g:Ai)(u v:A1)(ls:Aj):Prop:=bt ((YQ ls.length (qY ls g) u).getD 0 0) (ls.length-1)≠bt ((YQ ls.length (qY ls g) v).getD 0 0) (ls.length-1)
structure wD(ms:Ai)(u v:A1)(w:Nat)(r:Aj):Prop where
 w1:1<=w
 len:r.length=w
 lt:∀l∈r,l<2^ms.length
 df:rN ms u v r
 fst:∀t:Aj,t.length=w->(∀l∈t,l<2^ms.length)->rN ms u v t->t=r\/∃j,j<ms.length/\(∀i,i<j->bA i t=bA i r)/\bA j r<bA j t
 least:∀ls:Aj,ls≠[]->(∀x∈ls,x<2^ms.length)->rN ms u v ls->w<=ls.length
def vT(g q:Av)(H H':Hp):Prop:=∀b o,H b=some o->b≠g->b≠q->H' b=some o\/∃ul u,o=.dK ul/\H' b=some (.b7 u (.dK ul))
def cH.lF{b:Bool}{l:List (Int×Ak)}(S:cH N b u)(B:bJ (bI N u) (0,List.replicate (YA u) 0) l):l.length<=11*2^YA u:=by
 have h:=ug (nx:=bI N u) (b:=((0:Int),List.replicate (YA u) (0:Int))) (Ua:=l9 (YA u) (cL u+1)) (Gp.mpr ⟨0,Vc,U,X4.mpr ⟨eZ,λx q=>.inl (C7 q)⟩⟩) (λs g=>jd S.wc U g) l.length;rw[<-B.e,yb]at h;have h2:cL u<=10:=FX S.iz;exact bS h (EI _ Vc)
def yt{v:A1}{C g:List (Int×Ak)}{l:List (Ak)}(F:cH N false u)(I:cH N false v)(D:bJ (bI N u) (0,List.replicate (YA u) 0) C)(J:bJ (bI N v) (0,List.replicate (YA v) 0) g)(B:bJ (pN (bF (bI N u) C) (bF (bI N v) g)) (pK 0 0) l){ls:Aj}{c:Nat}(h:∀x∈ls++[c],x<2^N.length):
  Xa (mN (bF (pN (bF (bI N u) C) (bF (bI N v) g)) l)) (mB (l.map (pO (C.map (lZ N u)) (g.map (lZ N v)))) (.bl true)) 0 (ls++[c])=true↔rN N u v (ls++[c]):=by
 have G:=F.runs D (.int 0) (.int 1);have R2:=I.runs J (.int 0) (.int 1);rw[Qt G R2 G.pos R2.pos B h,lN];have e1:=GH F D (.int 0) (.int 1) h;have e2:=GH I J (.int 0) (.int 1) h;rw[e1,e2];unfold rN;rw[aZ];show _↔bt ((YQ (ls.length+1) (qY (ls++[c]) N) u).getD 0 0) ls.length≠bt ((YQ (ls.length+1) (qY (ls++[c]) N) v).getD 0 0) ls.length;rcases YU ((YQ (ls.length+1) (qY (ls++[c]) N) u).getD 0 0) ls.length with p|p<;>rcases YU ((YQ (ls.length+1) (qY (ls++[c]) N) v).getD 0 0) ls.length with q|q<;>rw[p,q]<;>simp
def TV{v:A1}{q g:List (Int×Ak)}{l:List (Ak)}{w:Nat}{r:Aj}(O:cH N false u)(I:cH N false v)(D:bJ (bI N u) (0,List.replicate (YA u) 0) q)(J:bJ (bI N v) (0,List.replicate (YA v) 0) g)(B:bJ (pN (bF (bI N u) q) (bF (bI N v) g)) (pK 0 0) l)(hw:1<=w)
  (F:jg (mN (bF (pN (bF (bI N u) q) (bF (bI N v) g)) l)) (mB (l.map (pO (q.map (lZ N u)) (g.map (lZ N v)))) (.bl true)) 0 N.length w r)
  (Y:∀(ls:Aj)(c:Nat),(∀x∈ls++[c],x<2^N.length)->Xa (mN (bF (pN (bF (bI N u) q) (bF (bI N v) g)) l)) (mB (l.map (pO (q.map (lZ N u)) (g.map (lZ N v)))) (.bl true)) 0 (ls++[c])=true->w<=ls.length+1):wD N u v w r:=by
 have ne:∀{t:Aj},t.length=w->∃C c,t=C++[c]:=λ{t} h=>wC λz=>by rw[z]at h;have:0=w:=h;lia
 refine⟨hw,F.len,F.lt,?_,λt h1 h2 G=>?_,λls h1 h2 G=>?_⟩
 .obtain⟨C,c,e⟩:=ne F.len;have Q:=F.last;have T:=F.lt;rw[e]at Q T ⊢;exact(yt O I D J B T).mp Q
 .obtain⟨C,c,rfl⟩:=ne h1;exact F.fst _ h1 h2 ((yt O I D J B h2).mpr G)
 .obtain⟨C,c,rfl⟩:=wC h1;rw[aZ];exact Y C c h2 ((yt O I D J B h2).mpr G)
theorem uG:∀l:Ai,PyProof.Rows.sortedS l=true->l.Pairwise (λa b=>PySem.Spec.ltCps b.cps.toList a.cps.toList=false)
 |[],_=>.nil
 |x::r,h=>.cons (GA x r h) (uG r (qm h))
structure Sm(ys:Ai)(u:A1):Prop where
 wd:∀w∈u,Gn ys 10 w
 en:Yh u
 st:WX u=1
 rm:YA u<=5
 ln:u.length<=28
structure mT(ys:Ai):Prop where
 n3:ys.length<=3
 nd:ys.Nodup
 nm:∀y∈ys,Em y
 so:PyProof.Rows.sortedS ys=true
def mT.kp(N:mT ys):∀y∈ys,y∉YT:=λy h=>(N.nm y h).k
theorem mT.sub{ys g:Ai}(N:mT ys)(s:g.Sublist ys):mT g:=
 ⟨bS s.length_le N.n3,N.nd.sublist s,λy h=>N.nm y (s.subset h),PyProof.Rows.sortedS_of_pairwise _ ((uG _ N.so).sublist s)⟩
def nC(ys:Ai)(g:A1):Ai:=ys.filter λy=>cG (.str y) g
def Sm.to(S:Sm ys u)(h:∀w∈u,w∈m):Sm (nC ys m) u:=by
 refine⟨λw hw=>?_,S.en,S.st,S.rm,S.ln⟩;rcases S.wd w hw with⟨y,e,h1,h2,g⟩|⟨y,e,h1,h2,g⟩|h1
 .exact .inl ⟨y,e,h1,λz=>h2 (iU.mp z).1,g⟩
 .exact .inr (.inl ⟨y,e,iU.mpr ⟨h1,kY.mpr (e ▸ h w hw)⟩,h2,g⟩)
 .exact .inr (.inr h1)
theorem Sm.nW(S:Sm ys u)(N:mT ys):cH ys false u:=
 ⟨N.n3,N.nd,N.kp,by have:=S.ln;lia,fT.sum S.wd S.en S.st,by have:=S.rm;lia⟩
theorem Sm.si(S:Sm ys u)(N:mT ys):∀w∈u,gW w:=λw h=>by
 rcases S.wd w h with⟨y,e,h1,_⟩|⟨y,e,h1,_⟩|⟨z,e,_⟩
 .exact .inl ⟨y,e,(by decide +kernel:∀s∈GD,s.length<=1000) y h1⟩
 .exact .inl ⟨y,e,bS (N.nm y h1).l.1.2 Vb⟩
 .exact .inr ⟨z,e⟩
def yu{v:A1}{q:Ai}(N:mT ys)(F:Sm ys u)(G:Sm ys v)(h:yr u v q):q=nC ys (u++v):=by
 have D:=h.1.nodup_iff.mpr (VC _);refine vz _ _ h.2 (N.sub HV).so ((List.perm_ext_iff_of_nodup D (N.nd.filter _)).mpr λy=>?_);rw[h.1.mem_iff,show y∈JY _↔_ from(kB _ [] iW).2 y,iU];constructor
 .rintro(h|h)
  .cases h
  .obtain⟨x,g,rfl⟩:=bG.mp h;obtain⟨g,B⟩:=iU.mp g;cases x with
   |str y=>
    have C:=dJ B;refine⟨?_,kY.mpr g⟩;have hw:=(dH.mp g).elim (F.wd _) (G.wd _);rcases hw with⟨z,e,h1,_⟩|⟨z,e,h1,_⟩|⟨z,e,_⟩
    .cases e;exact absurd (M8 _ h1).2 C.1
    .cases e;exact h1
    .cases e
   |_=>cases B
 .rintro⟨h1,h2⟩;have nm:=N.nm y h1;exact .inr (bG.mpr ⟨.str y,iU.mpr ⟨kY.mp h2,bC ⟨nm.k,nm.l⟩⟩,U⟩)
def bJ.all[DecidableEq g]{nx:g->List g}{b:g}{l:List g}{P:g->Prop}(B:bJ nx b l)(F:P b)(D:∀s,P s->∀x∈nx s,P x):∀s∈l,P s:=by
 classical
 intro s h;rw[B.e]at h;exact dJ (iU.mp (AI (Ua:=l.filter λx=>decide (P x)) (iU.mpr ⟨B.begin.2,bC F⟩) (λs q x C=>iU.mpr ⟨B.next (iU.mp q).1 C,bC (D s (dJ (iU.mp q).2) x C)⟩) _ s h)).2
def BJ(l:List (Ak)):List (Int×Int):=l.map λk=>(k.getD 0 0,k.getD 1 0)
structure D4(nm:Ai)(u v:A1)(l1 l2:List (Int×Ak)):Prop where
 b1:bJ (bI nm u) (0,List.replicate (YA u) 0) l1
 b2:bJ (bI nm v) (0,List.replicate (YA v) 0) l2
def AR(nm:Ai)(u v:A1):Prop:=∀ls:Aj,ls≠[]->(∀x∈ls,x<2^nm.length)->¬rN nm u v ls
def Zqo(h:eQ (.key Bk) H l u)(C:∀k∈l,∃i j,k=pK i j):cS H (BJ l) u:=by
 refine⟨by rw[h.1];exact(aI _).symm,λi p g=>?_⟩;unfold BJ at g;rw[aY]at g;obtain⟨k,e,rfl⟩:=eG.mp g;obtain⟨v,B,a,rfl,q⟩:=h.2 i k e;obtain⟨x,y,rfl⟩:=C k (bP e);exact⟨a,B,q⟩
def SH{v:A1}{D F:List (Int×Ak)}{l:List (Ak)}(T:cH N false u)(S2:cH N false v)(B1:bJ (bI N u) (0,List.replicate (YA u) 0) D)(Y:bJ (bI N v) (0,List.replicate (YA v) 0) F)(B:bJ (pN (bF (bI N u) D) (bF (bI N v) F)) (pK 0 0) l)
  (no:AR N u v):CU N N 0 0 (bF (bI N u) D) (bF (bI N v) F) (D.map (lZ N u)) (F.map (lZ N v)) (BJ l):=by
 have C:bD (bF (bI N u) D) (D.map (lZ N u)) N.length:=T.runs B1 (.int 0) (.int 1);have R2:bD (bF (bI N v) F) (F.map (lZ N v)) N.length:=S2.runs Y (.int 0) (.int 1);have all:=B.all (P:=λk=>∃ls:Aj,(∀x∈ls,x<2^N.length)/\k=pK (cJ (bF (bI N u) D) 0 ls) (cJ (bF (bI N v) F) 0 ls)) ⟨[],(λ_ h=>nomatch h),U⟩ λs hs x J=>by
  obtain⟨ls,h1,rfl⟩:=hs;obtain⟨_,_,I,G⟩:=Mn C R2 C.pos R2.pos B h1;obtain⟨c,O⟩:=oH J;have Q:=(bM.mp O).1;rw[F5 C R2 I G]at Q;rw[Lb C R2 I G Q]at O;refine⟨ls++[c],λx J=>?_,by rw[X5,X5];exact(Option.some.inj O).symm⟩;rcases dH.mp J with h|h
  .exact h1 x h
  .rw[b9.mp h];exact Q
 refine⟨U,bG.mpr ⟨_,B.begin.2,U⟩,λp hp=>?_⟩;obtain⟨k,hk,rfl⟩:=bG.mp hp;obtain⟨ls,h1,rfl⟩:=all k hk;refine ω (Mn C R2 C.pos R2.pos B h1) (θ3 λg1 _ I G=>?_);refine⟨_,_,U,I,G,?_,λq Z=>?_⟩
 .have e1:=C.or _ (aA (show _<(D.map (lZ N u)).length by rw[C.ol];exact I));have e2:=R2.or _ (aA (show _<(F.map (lZ N v)).length by rw[R2.ol];exact G));refine List.ext_getElem (by rw[e1,e2]) λc c1 c2=>?_;have g:∀x∈ls++[c],x<2^N.length:=λx J=>by
   grind
  have z:=mt (yt T S2 B1 Y B g).mp (no _ Ve g);rw[Qt C R2 C.pos R2.pos B g,lN,Dg,cF,cF (i:=c),aR c1,aR c2]at z;exact z
 .obtain⟨c,O⟩:=oH Z;refine bG.mpr ⟨[q.1,q.2],B.next g1 ?_,U⟩;exact bG.mpr ⟨q,Z,U⟩
def QH{v:A1}{G q:List (Int×Ak)}{l:List (Ak)}(N:mT nm)(D:Sm nm u)(F:Sm nm v)(B:D4 nm u v G q)(C:bJ (pN (bF (bI nm u) G) (bF (bI nm v) q)) (pK 0 0) l):(BJ l).length<=1000000/\∀k∈l,∃i j,k=pK i j:=by
 have I:=(D.nW N).runs B.b1 (.int 0) (.int 1);have R2:=(F.nW N).runs B.b2 (.int 0) (.int 1);have g:=Qr I R2 I.pos R2.pos C;refine⟨?_,λk J=>let⟨i,j,_,_,e⟩:=GS.mp (g k J);⟨i,j,e⟩⟩;have h:=Wi C.nodup g;rw[Nh,Xm,Xm]at h;have a1:=(D.nW N).lF B.b1;have a2:=(F.nW N).lF B.b2;have O:2^YA u<=2^5:=pY Vb D.rm;have Q:2^YA v<=2^5:=pY Vb F.rm;have:=FU (show G.length<=352 by lia) (show q.length<=352 by lia);rw[show(BJ l).length=l.length from aI _];lia
def vT.at{H':Hp}{p2:Pos}{C:Str}(D:Yd H a q x)(B:Yd H f p2 C)(o:vT a f H H'){b:Av}{u:HO}(e:H b=some u)(h:∀r,u≠.d4 r):H' b=some u\/∃ul z,u=.dK ul/\H' b=some (.b7 z (.dK ul)):=by
 obtain⟨p,G⟩:=D.ex;obtain⟨g,F⟩:=B.ex;exact o b u e (λz=>Vd) (λz=>Vd)
def vT.tup{g q:Av}{H H':Hp}{p1 p2:Pos}{F C:Str}(o:vT g q H H')(D:Yd H g p1 F)(B:Yd H q p2 C){b:Av}{xs:A1}(e:H b=am xs):H' b=am xs:=by
 rcases vT.at D B o e (λ_ z=>nomatch z)with z|⟨_,_,z,_⟩
 .exact z
 .cases z
def vT.lst{g q:Av}{H H':Hp}{p1 p2:Pos}{F C:Str}(o:vT g q H H')(D:Yd H g p1 F)(B:Yd H q p2 C){b:Av}{xs:A1}(e:H b=ap xs):H' b=ap xs:=by
 rcases vT.at D B o e (λ_ z=>nomatch z)with z|⟨_,_,z,_⟩
 .exact z
 .cases z
def vT.sq{C:Str}(o:vT f I H H')(B:Yd H f p x)(g:Yd H I q C){xs:A1}(h:aF K H a xs):aF K H' a xs:=by
 rcases h with(h|⟨u,h⟩)|h
 .exact .inl (.inl (o.lst B g h))
 .rcases vT.at B g o h (λ_ z=>nomatch z)with z|⟨_,_,z,_⟩
  .exact .inl (.inr ⟨u,z⟩)
  .cases z
 .exact .inr h
theorem NR:∀{xs ys:A1},xs.length=ys.length->(true∈(xs.zip ys).map (λq=>!decide (q.1=q.2))↔xs≠ys)
 |[],[],_=>Ve
 |x::xs,y::ys,h=>by
  have g:=NR (xs:=xs) (ys:=ys) (by simpa using h);rw[List.zip_cons_cons,eE,bR,g]
  by_cases e:x=y
  .subst e;simp
  .simp[e]
 |[],_::_,h=>by simp at h
 |_::_,[],h=>by simp at h
structure iY(nx1 nx2:Ad)(b1 b2:Nat)(A:Nat->Nat->Prop)(ps:List (Int×Int))(kn:Nat):Prop where
 nd:ps.Nodup
 b:((b1:Int),(b2:Int))∈ps
 al:∀p∈ps,∃i j:Nat,p=((i:Int),(j:Int))/\A i j
 cl:∀p∈ps.take kn,∀i j:Nat,p=((i:Int),(j:Int))->∀q∈vK (nx1.getD i []) (nx2.getD j []),q∈ps
def iY.one{A:Nat->Nat->Prop}(S:n5 R nx2 O ot2 b1 b2 A):iY R nx2 b1 b2 A [((b1:Int),(b2:Int))] 0:=⟨iO.mpr ⟨nofun,iW⟩,bN,λp g=>⟨b1,b2,b9.mp g,S.b⟩,λ_ z=>nomatch z⟩
def iY.snoc{nx2:Ad}{b1 b2 x y:Nat}{A:Nat->Nat->Prop}{ps:List (Int×Int)}(W:iY R nx2 b1 b2 A ps n)(D:n<=ps.length)(h:¬((x:Int),(y:Int))∈ps)(C:A x y):iY R nx2 b1 b2 A (ps++[((x:Int),(y:Int))]) n:=by
 refine⟨Zek W.nd h,iQ _ W.b,λp g=>?_,λp g i j e q B=>iQ _ (W.cl p ?_ i j e q B)⟩
 .rcases dH.mp g with z|z
  .exact W.al p z
  .grind
 .grind
def iY.next{nx2:Ad}{b1 b2 j:Nat}{A:Nat->Nat->Prop}{ps:List (Int×Int)}(W:iY R nx2 b1 b2 A ps n)(h:ps[n]?=some ((i:Int),(j:Int)))(hz:∀q∈vK (R.getD i []) (nx2.getD j []),q∈ps):iY R nx2 b1 b2 A ps (n+1):=by
 refine⟨W.nd,W.b,W.al,λp g D B e q C=>?_⟩;rw[aB h]at g;rcases dH.mp g with z|z
 .exact W.cl p z D B e q C
 .grind
def iY.len{nx2:Ad}{ot2:Ay}{b1 b2:Nat}{A:Nat->Nat->Prop}{ps:List (Int×Int)}(W:iY R nx2 b1 b2 A ps n)(S:n5 R nx2 O ot2 b1 b2 A)(h:R.length*nx2.length<=1000000):ps.length<=1000000:=bS (Tu W.nd λp g=>let⟨i,j,e,a⟩:=W.al p g;⟨i,j,e,S.lt i j a⟩) h
theorem iY.lets{nx2:Ad}{ot2:Ay}{b1 b2:Nat}{A:Nat->Nat->Prop}{ps:List (Int×Int)}(W:iY R nx2 b1 b2 A ps n)(S:n5 R nx2 O ot2 b1 b2 A)(h:ps.length<=n):CU N N b1 b2 R nx2 O ot2 ps:=⟨U,W.b,λp g=>by
 obtain⟨i,j,rfl,a⟩:=W.al p g;exact⟨i,j,U,(S.lt i j a).1,(S.lt i j a).2,(S.out i j a).symm,W.cl _ (by rw[i8 h];exact g) i j U⟩⟩
def Gr:V->V
 |.bl b=>.bl (!b)
 |.int z=>.int (1-z)
 |v=>v
def V9{v:V}(h:YE j v):YE j (Gr v):=by
 rcases h with⟨e,x,rfl⟩|⟨e,x,rfl⟩
 .exact .inl ⟨e,_,U⟩
 .exact .inr ⟨e,_,U⟩
def N8{v:V}(h:YE j v)(b:vB v=some 0\/vB v=some 1):(vB (Gr v)=some 0\/vB (Gr v)=some 1)/\Gr v≠v:=by
 rcases h with⟨e,x,rfl⟩|⟨e,x,rfl⟩
 .cases x<;>exact⟨Vb,Vb⟩
 .have b:x=0\/x=1:=b.imp (λz=>Option.some.inj z) (λz=>Option.some.inj z);rcases b with rfl|rfl<;>exact⟨Vb,Vb⟩
def Wf.flip{b:Nat}{nx:Ad}{ot:Ay}(W:Wf N b nx ot j):Wf N b nx (ot.map λr=>r.map Gr) j:=by
 refine⟨W.n3,W.b,W.le,by rw[aI];exact W.ol,W.nr,W.nl,λr q=>?_,λr q v B=>?_,λr q v B=>?_⟩
 all_goals obtain⟨r,h,rfl⟩:=bG.mp q
 .rw[aI];exact W.or r h
 all_goals obtain⟨v,g,rfl⟩:=bG.mp B
 .exact V9 (W.ok r h v g)
 .exact(N8 (W.ok r h v g) (W.bit r h v g)).1
def Tp{b1 b2:Nat}{nx2:Ad}{ot2:Ay}{G:Bool}{A:Nat->Nat->Prop}{ps:List (Int×Int)}(W:Wf N b2 nx2 ot2 G)(S:n5 R nx2 O ot2 b1 b2 A)(L:CU N N b1 b2 R nx2 O (ot2.map λr=>r.map Gr) ps):False:=by
 obtain⟨_,h1,h2⟩:=L;refine ω (h2 _ h1) (ε2 λi j=>θ4 λe _ _ B _=>?_);have e1:b1=i:=Int.ofNat.inj (congrArg Prod.fst e);have e2:b2=j:=Int.ofNat.inj (congrArg Prod.snd e);subst e1 e2;have F:b2<ot2.length:=by rw[W.ol];exact W.b
 have g:=aA F;rw[<-S.out _ _ S.b,show(ot2.map λr=>r.map Gr).getD b2 []=(ot2.getD b2 []).map Gr by rw[cF,cF,aY];cases ot2[b2]?<;>rfl]at B;have C:=W.or _ g;have D:=W.ok _ g;have q:=W.bit _ g;generalize ot2.getD b2 []=r at *;cases r with
 |nil=>exact absurd C (cQ (KO _))
 |cons v r=>exact(N8 (D v bN) (q v bN)).2 (List.cons.inj B).1.symm
def cH.wf{b:Bool}{l:List (Int×Ak)}{o0 o1:V}(S:cH N b u)(B:bJ (bI N u) (0,List.replicate (YA u) 0) l)(h:(j=false/\o0=.int 0/\o1=.int 1)\/(j=true/\o0=.bl false/\o1=.bl true)):Wf N 0 (bF (bI N u) l) (l.map (dM N (YF (2^N.length) N) u o0 o1)) j:=by
 have R:=S.runs B o0 o1;have C:∀r∈l.map (dM N (YF (2^N.length) N) u o0 o1),∀v∈r,v=o0\/v=o1:=λr q v g=>by
  obtain⟨s,_,rfl⟩:=bG.mp q;obtain⟨c,_,rfl⟩:=bG.mp g;split
  .exact .inr U
  .exact .inl U
 refine⟨S.n3,R.pos,by rw[Xm];exact S.len B,R.ol,R.nr,R.nl,R.or,λr q v g=>?_,λr q v g=>?_⟩
 .rcases h with⟨rfl,rfl,rfl⟩|⟨rfl,rfl,rfl⟩<;>rcases C r q v g with e|e<;>rw[e]
  .exact .inr ⟨U,_,U⟩
  .exact .inr ⟨U,_,U⟩
  .exact .inl ⟨U,_,U⟩
  .exact .inl ⟨U,_,U⟩
 .rcases h with⟨rfl,rfl,rfl⟩|⟨rfl,rfl,rfl⟩<;>rcases C r q v g with e|e<;>rw[e]
  .exact .inl U
  .exact .inr U
  .exact .inl U
  .exact .inr U
def IZ(H:Hp)(f:Av)(nm:Ai)(u v:A1):Prop:=∃(C B:List (Int×Ak)),D4 nm u v C B /\
 ((∃(q:Av)(l:List (Ak))(g:A1),H f=am [.str "same",.ref q]/\H q=am g/\cS H (BJ l) g/\bJ (pN (bF (bI nm u) C) (bF (bI nm v) B)) (pK 0 0) l/\AR nm u v) \/
 ∃(d:Av)(w:Nat)(r:Aj)(ul:Az),H f=am [.str "parted",.int w,.ref d]/\H d=some (.dK ul)/\i4 ul nm (λy=>(bA (dY nm y) r:Int))/\wD nm u v w r/\w<=1000000)
def Wp.sm(h:Wp ys u 22 5):Sm ys u:=⟨h.wd,h.en,h.st,h.rm,by have:=h.ln;lia⟩
structure i6(K:Af)(pw pc pl:Av)(H:Hp)(a:Av)(ns:Ak):Prop where
 S:aF K H a (ns.map V.int)
 W:Yd H pw Zz Zv
 C:Yd H pc ZD ZE
 L:Yd H pl Jf Jg
def nO(H H':Hp):Prop:=∀b xs,H b=am xs->H' b=am xs
def cS.a7{ps:List (Int×Int)}(h:cS H ps u)(e:nO H H'):cS H' ps u:=⟨h.1,λi p g=>let⟨a,g1,g2⟩:=h.2 i p g;⟨a,g1,e _ _ g2⟩⟩
def i6.same{K:Af}{g q pl:Av}{H H':Hp}{a:Av}{ns:Ak}(h:i6 K g q pl H a ns)(s:ZK H H'):i6 K g q pl H' a ns:=⟨Zlb h.S s,h.W.same s,h.C.same s,h.L.same s⟩
def i6.Es{ns:Ak}(h:i6 K f I pl H a ns)(q:I≠f)(B:pl≠f)(o:o7 f H H')(T:Yd H' f Zz Zv):i6 K f I pl H' a ns/\nO H H':=by
 obtain⟨g,hz⟩:=h.W.ex;exact⟨⟨QU h.S hz o,T,h.C.other q ⟨g,hz⟩ o,h.L.other B ⟨g,hz⟩ o⟩,λb xs e=>o.tup hz e⟩
def i6.Om{ns:Ak}(h:i6 K f I pl H a ns)(q:I≠pl)(B:pl≠f)(o:o7 pl H H')(T:Yd H' pl Jf Jg):i6 K f I pl H' a ns/\nO H H':=by
 obtain⟨g,hz⟩:=h.L.ex;exact⟨⟨QU h.S hz o,h.W.other B.symm ⟨g,hz⟩ o,h.C.other q ⟨g,hz⟩ o,T⟩,λb xs e=>o.tup hz e⟩
def i6.cmp{ns:Ak}(h:i6 K f I pl H a ns)(D:I≠pl)(B:pl≠f)(o:vT f I H H')(T:Yd H' f Zz Zv)(Ua:Yd H' I ZD ZE):i6 K f I pl H' a ns/\nO H H':=by
 have g:∀{q:Ah},H pl=some (.d4 q)->H' pl=some (.d4 q):=λe=>by
  rcases o _ _ e B D.symm with z|⟨_,_,z,_⟩
  .exact z
  .cases z
 refine⟨⟨o.sq h.W h.C h.S,T,Ua,?_⟩,λb xs e=>o.tup h.W h.C e⟩;rcases h.L with e|⟨c,oc,e1,e2,e3⟩
 .exact .inl (g e)
 .rcases vT.at h.W h.C o e2 (λ_ z=>nomatch z)with z|⟨_,_,z,_⟩
  .exact .inr ⟨c,oc,g e1,z,e3⟩
  .cases z
def eP.LG{v:A1}(e:eP u v)(nm:Ai):AR nm u v:=λls g _ d=>d (by rw[e _ _ (List.length_pos_iff.mpr g)])
def Su  {v:A1} (S:cH N false v) (e:eP u v) {W:Nat} (g:1<=W) (ρ:Str->Int):bt ((YQ W ρ (.str "not" :: v)).getD 0 0) (W-1)=1-bt ((YQ W ρ u).getD 0 0) (W-1):=by
 have b:=xY S.sg W ρ;rw[xb Va (by show YD "not" = 1;decide +kernel) b,e W ρ g];show bt (Builtin.bitNot _%2^W) (W-1)=_;rw[X0 _ _ _ Vc,XS]
def Lz  {v:A1}  (S:cH N false v) (e:eP u v) {ls:Aj} (g:ls≠[]):rN N u (.str "odd" :: (v++[.int z])) ls↔bt z (ls.length-1)=1:=by
 have B:1<=ls.length:=List.length_pos_iff.mpr g;unfold rN;generalize ls.length=W at *;generalize qY ls N=ρ;have b:=xY S.sg W ρ;rw[xb (is:=[(YQ W ρ v).getD 0 0,z%2^W]) Va (by show YD "odd" = 2;decide +kernel) (by
  rw[XO W ρ S.sg.ty.facts.2.1];exact congrArg (·++_) b),e W ρ B]
 generalize (YQ W ρ v).getD 0 0=o;show bt o (W-1)≠bt (Builtin.bitXor o (z%2^W)%2^W) (W-1)↔_;rw[X0 _ _ _ Vc,Wz,X0 _ _ _ Vc];rcases YU o (W-1)with p|p<;>rcases YU z (W-1)with q|q<;>rw[p,q]<;>decide
def OB{w:Nat}(h1:z%2^w=0)(h2:¬z%2^(w+1)=0):bt z w=1/\∀k,bt z k=1->w<=k:=by
 refine⟨?_,λk q=>FV λg=>?_⟩
 .rcases YU z w with h|h
  .refine absurd ?_ h2;rw[<-zA];show sm (λk=>bt z k) w+bt z w*2^w=0;rw[zA,h1,h,Int.zero_mul];rfl
  .exact h
 .rw[<-X0 z w k g,h1]at q;have:bt 0 k=0:=by unfold bt;rw[Int.zero_ediv];rfl
  lia
def CA  {v:A1}  {w k:Nat} {r:Aj} (S:cH N false v) (e:eP u v) (h1:z%2^k=0) (h2:¬z%2^(k+1)=0) (F:wD N u (.str "odd" :: (v++[.int z])) w r):w=k+1:=by
 obtain⟨b1,b2⟩:=OB h1 h2;have B:=F.w1;have q:r≠[]:=λz=>by have e:=F.len;rw[z]at e;have:0=_:=e;lia
 have a:=b2 _ ((Lz S e q).mp F.df);rw[F.len]at a;have g:List.replicate (k+1) 0≠[]:=nofun;have c:=F.least _ g (λx C=>Vd) ((Lz S e g).mpr (by rw[eZ];exact b1));rw[eZ]at c;lia
def UR  {v:A1} {B g:List (Int×Ak)} {ps:List (Int×Int)} (O:cH N false u) (F:cH N false v) (G:cH N false (.str "not" :: v)) (e:eP u v) (D:bJ (bI N u) (0,List.replicate (YA u) 0) B) (I:bJ (bI N (.str "not" :: v)) (0,List.replicate (YA (.str "not" :: v)) 0) g)
  (L:CU N N 0 0 (bF (bI N u) B) (bF (bI N (.str "not" :: v)) g) (B.map (dM N (YF (2^N.length) N) u (.int 0) (.int 1))) (g.map (dM N (YF (2^N.length) N) (.str "not" :: v) (.int 0) (.int 1))) ps):False:=by
 obtain⟨_,h1,h2⟩:=L;refine ω (h2 _ h1) (ε2 λi j=>θ4 λq _ _ J _=>?_);have e1:0=i:=Int.ofNat.inj (congrArg Prod.fst q);have e2:0=j:=Int.ofNat.inj (congrArg Prod.snd q);subst e1 e2;have C:∀x∈([]:Aj)++[0],x<2^N.length:=λx Q=>Vd
 have a:=GH O D (.int 0) (.int 1) C;have b:=GH G I (.int 0) (.int 1) C;have a:=a.symm.trans ((congrArg (λr:A1=>r.getD 0 V.aX) J).trans b);have c:=Su F e (aM 1) (qY ([]++[0]) N);have a:(if bt ((YQ 1 (qY ([]++[0]) N) u).getD 0 0) (1-1)=1 then V.int 1 else .int 0)=if bt ((YQ 1 (qY ([]++[0]) N) (.str "not" :: v)).getD 0 0) (1-1)=1 then V.int 1 else .int 0:=a;rw[c]at a;rcases YU ((YQ 1 (qY ([]++[0]) N) u).getD 0 0) (1-1)with p|p<;>rw[p]at a<;>exact absurd a Vb
def sG.mP{b:Nat}{nx:Ad}{ot:Ay}{l:Aj}(L:sG N b nx ot j l S):(fB (cU nx l) S).length<=nx.length:=by
 have h:=yj S;have h2:=L.B.len L.W.b L.W.nl;have g:S.length=(cU nx l).length:=by rw[L.e];exact Mo (by rw[Zlk];exact(aI _).trans (aI _).symm) _
 rw[show(cU nx l).length=l.length from aI _]at g;rw[show(fB (cU nx l) S).length=(XG S).length from aI ..];lia
def Wp.int{z:Int}(g:∀y∈nm,y∉YT)(q:0<=z)(h1:z<1000):Wp nm [.int z] 1 0:=by
 have l:=yc g (show gU nm (.int z)from .inr ⟨z,U,q,h1⟩);refine⟨λw hw=>by rw[b9.mp hw];exact l.1,⟨by exact cD _,trivial⟩,?_,aM _,?_⟩
 .show 0-aO (.int z)+1=1;lia
 .exact aM _
def Wp.nW{a b:Nat}(h:Wp nm u a b)(N:mT nm)(q:a<=100)(g:b<=15):cH nm false u:=⟨N.n3,N.nd,N.kp,bS h.ln q,h.sg,bS h.rm g⟩
def Sm.not  (S:Sm nm u) (N:mT nm):cH nm false (.str "not" :: u):=(Wp.word N.kp (y:= "not") (n:=1) Va ⟨S.wd,S.en,S.st,S.ln,S.rm⟩).nW N Vb Va
def Wp.odd {v:A1}  (P:Wp ys v 22 5) (N:mT ys) (g:0<=z) (h1:z<1000):Sm ys (.str "odd" :: (v++[.int z])):=by
 have W:=Wp.word N.kp (y:= "odd") (n:=2) Va (Wp.app P.of (Wp.int N.kp g h1).of);exact⟨W.wd,W.en,W.st,bS W.rm Va,bS W.ln Vb⟩
def cH.st{b:Bool}{l:List (Int×Ak)}(S:cH N b u)(B:bJ (bI N u) (0,List.replicate (YA u) 0) l)(h:YA u<=6):(bF (bI N u) l).length<=704:=by
 have:=pY (show 0<2 by decide) h;rw[Xm];exact bS (S.lF B) (Li 11 this)
set_option genInjectivity false in
set_option genSizeOfSpec false in
structure Kh where
 UJ:Av
 V5:An
 Uh:Av
 Uu:An
 acn:Av
 UQ:An
 mn:Av
 mq:An
 lh:Av
 lj:An
 aak:Av
 Sn:An
 om:Av
 oq:An
 ra:Av
 rb:An
 mr:Av
 mw:An
 rf:Av
 rh:An
 nc:Av
 ng:An
 uj:Av
 vb:An
 aam:Av
 Vl:An
 Th:Av
 SE:An
 ri:Av
 rj:An
 mi:Av
 mj:An
 abz:Av
 VQ:An
 vr:Av
 vu:An
 abg:Av
 abh:An
 ir:Av
 iu:An
 Uz:Av
 T5:An
 wh:Av
 xa:An
 aao:Av
 Vk:An
 aaq:Av
 aar:An
 rk:Av
 rn:An
 ro:Av
 rp:An
 R5:Av
 abl:An
 T6:Av
 TX:An
 rq:Av
 rr:An
 ou:Av
 ow:An
 Uo:Av
 aab:An
 sf:Av
 sh:An
 ox:Av
 oy:An
 aas:Av
 aat:An
 abo:Av
 RG:An
 iy:Av
 ka:An
 Vy:Av
 UA:An
 RP:Av
 acd:An
 oz:Av
 pd:An
 aau:Av
 VU:An
 sj:Av
 sr:An
 aac:Av
 aad:An
 nh:Av
 ni:An
 aaw:Av
 aax:An
 ace:Av
 acf:An
 pe:Av
 ph:An
 md:Av
 me:An
 su:Av
 sy:An
 abt:Av
 abu:An
 ti:Av
 tj:An
 lq:Av
 ma:An
 tu:Av
 ui:An
 V8:Av
 UE:An
 aay:Av
 SD:An
 nj:Av
 nq:An
 mf:Av
 fw:An
 ki:Av
 ft:An
 Uq:Av
 pj:An
 US:Av
 SU:An
 nu:Av
 ny:An
 abv:Av
 So:An
 acp:Av
 acq:An
 cq:Av
 ae:Av
 cb:Av
 aa:Av
 iw:Av
 aq:Av
 cg:Av
 ay:Av
 ao:Av
 UN:Tok
 pv:Tok
 ff:Av
structure Kg(K:Af)(w:As)(mg:Ae)(x:Str)(a:Av)(l:List (Str×Int)):Prop where
 m:mg x=some (.ref a)
 d:KD K w a l
structure Kt(K:Af)(mg:Ae)(x:Str)(a:Av)(l:Ai):Prop where
 m:mg x=some (.ref a)
 d:∀H,aD K H a (l.map V.str)
structure Df(K:Af)(mg:Ae)(x:Str)(st:Ax)(ps:Ai)(f:Av)(fd:An):Prop where
 F:sM K x x st f fd
 m:mg x=some (.ref f)
 b:cZ K fd ps []
abbrev bL{mg:Ae}{st:Ax}{ps:Ai}{fd:An}(_:Df K mg x st ps f fd)(P:Ao)(w:As)(wn:Heap)(k:Nat)(sp:Sp):Prop:=uS P w K mg wn j3 k f fd ps sp
theorem Df.go{mg:Ae}{wn:Heap}{st:Ax}{ps:Ai}{fd:An}{k:Nat}{sp:Sp}(d:Df K mg x st ps f fd)(S:Zy N ps (Zh st))(b:∀(g:Au)(A:Aq)(xz:List Env)(s:Ar)(H:Hp)(vs:A1)(Q:VK)(E:XK),JP k (A.deeper (envOfC x (Zh st) s.heap.objs.size f g))->sp vs H Q E->∃t,mC (pS j3 P w K mg wn N x (Zh st) f g A xz s H E).rQ (XY st) t/\t {nx:=λ_ H'=>Q .aX H',rt:=Q} (d6 N vs) H)(len:∀vs H Q E,sp vs H Q E->vs.length=ps.length:=by rintro _ _ _ _ ⟨⟩;subst_vars;rfl):uS P w K mg wn j3 (k+1) f fd ps sp:=d.F.ok S len λc A o s H vs Q E B h=>let⟨t,q,r⟩:=b c A o s H vs Q E B h;⟨t,q.out,r⟩
def Zn {X:Cx}  {st:Ax} {ps:Ai}  {fd:An} {k:Nat} {sp:Sp}    {t:TA} (d:Df X.K X.mg x st ps f fd) (F:uS X.prog X.w X.K X.mg X.base j3 k f fd ps sp) (I:JP n X.A) (C:QA X (e::G) t) (D:k<=n:=by decide) (B:Gl X x:=by exact U) (g:(x == ("__debug__" : Str))=false:=by decide) (J:(e::G).all Yx=true:=by rfl):QE X (.Call (.Name x p) (e::G) [] q) (DX sp [] E0 t):=YI F (I.mono D) B d.m d.F.kp d.b .nil qh C g J
set_option genInjectivity false in
set_option genSizeOfSpec false in
structure Txt(K:Af)(w:As)(mg:Ae)(t:Kh):Prop where
 cg:Kg K w mg "SUM_PARTS" t.cg [("not",1),("neg",1),("twice",1),("low",1),("and",2),("or",2),("odd",2),("add",2),("sub",2),("pick",3)]
 ay:Kg K w mg "SUMS_IN_CLAIM" t.ay [("same",2),("under",2),("beneath",2),("sign",1),("nought",1)]
 ao:Kg K w mg "CLAIMS_IN_CLAIM" t.ao [("both",2),("either",2),("so",2),("never",1),("yes",0)]
 acj:mg "LETTERS" = some (.str "abcdefghijklmnopqrstuvwxyz" t.UN)
 qs:mg "LONGEST_NAME" = some (.int 8 t.pv)
 ff:Kt K mg "REMEMBERING" t.ff ["neg","twice","low","add","sub","same","under","beneath","nought"]
 et:Df K mg "words_at" vC ["width"] t.UJ t.V5
 bj:Df K mg "number_of" j8 ["bits"] t.Uh t.Uu
 nz:Df K mg "run" PV ["machine","letters"] t.acn t.UQ
 dc:Df K mg "layers_led_to" Ge ["machine","letters"] t.mn t.mq
 bc:Df K mg "letters_with_bit" Xx ["letters","number","bit"] t.lh t.lj
 fy:Df K mg "goes_well" jA ["machine","state","letter","well","wanted"] t.aak t.Sn
 dw:Df K mg "state_number" GP ["state","states","numbers"] t.om t.oq
 bq:Df K mg "is_sum_word" qL ["text"] t.ra t.rb
 az:Df K mg "is_claim_word" Gf ["text"] t.mr t.mw
 br:Df K mg "sums_behind" qM ["word"] t.rf t.rh
 bb:Df K mg "claims_behind" Gg ["word"] t.nc t.ng
 bu:Df K mg "is_made_of" Gh ["text","signs"] t.uj t.vb
 dn:Df K mg "remembers" jB ["word"] t.aam t.Vl
 bw:Df K mg "borrowed" vD ["one","other","held"] t.Th t.SE
 fg:Df K mg "out_at_once" qN ["word","parts"] t.ri t.rj
 cy:Df K mg "longest_number" JD ["words"] t.mi t.mj
 dg:Df K mg "bits_at" jC ["columns","letter"] t.abz t.VQ
 bf:Df K mg "next_pairs" zo ["one","other","pair"] t.vr t.vu
 bx:Df K mg "partings" xP ["one","other","pair"] t.abg t.abh
 bp:Df K mg "least_width_of_truth" X7 ["machine"] t.ir t.iu
 eu:Df K mg "numbered" xQ ["marks"] t.Uz t.T5
 cz:Df K mg "classes_of" Gi ["states","classes"] t.wh t.xa
 gb:Df K mg "firsts_of" jD ["classes"] t.aao t.Vk
 dt:Df K mg "_law_whole" jE ["found"] t.aaq t.aar
 av:Df K mg "_law_cell_at" qO ["script","k"] t.rk t.rn
 cm:Df K mg "_law_numbers" qP ["cell","many","most"] t.ro t.rp
 ic:Df K mg "_law_atom" vE ["number","names"] t.R5 t.abl
 ie:Df K mg "_law_word" vF ["number","left"] t.T6 t.TX
 fh:Df K mg "_law_carries" Jt ["words"] t.rq t.rr
 dy:Df K mg "_law_writings" GQ ["pick","p","q","r"] t.ou t.ow
 da:Df K mg "_law_within" zp ["number","words","r"] t.Uo t.aab
 fi:Df K mg "_law_lets_by" qQ ["one","other","paper"] t.sf t.sh
 dz:Df K mg "_law_names_in" WV ["words","names"] t.ox t.oy
 gc:Df K mg "_law_pairs" jF ["one","other"] t.aas t.aat
 ig:Df K mg "words_of" xR ["names","letters"] t.abo t.RG
 ax:Df K mg "states_going_well" Xk ["machine","states","letters","well","wanted"] t.iy t.ka
 cx:Df K mg "parts_of" vG ["word"] t.Vy t.UA
 dh:Df K mg "is_name" gP ["text"] t.RP t.acd
 ee:Df K mg "name_columns" WW ["names","letters"] t.oz t.pd
 ia:Df K mg "kept_then" jG ["word","parts","held"] t.aau t.VU
 fj:Df K mg "out_by_kept" qR ["word","parts","held","then"] t.sj t.sr
 fu:Df K mg "pair_shown" Gj ["one","other","pair","pairs"] t.aac t.aad
 di:Df K mg "alike_classes" Wo ["steps","out"] t.nh t.ni
 ib:Df K mg "_law_names" Ju ["cell","many"] t.aaw t.aax
 dj:Df K mg "_law_sum" gQ ["numbers","names","most"] t.ace t.acf
 eh:Df K mg "_law_is_paper" GR ["found"] t.pe t.ph
 cu:Df K mg "with_least_word" Je ["machine","letters","number","wanted"] t.md t.me
 fk:Df K mg "parts_taken" Jv ["stack","word"] t.su t.sy
 ij:Df K mg "names_of" xS ["words"] t.abt t.abu
 ak:Df K mg "alike_shown" Jw ["one","other","paper"] t.ti t.tj
 ck:Df K mg "_law_two_writings" Wy ["cell","names"] t.lq t.ma
 fq:Df K mg "first_words" Wh ["machine","width","wanted"] t.tu t.ui
 dm:Df K mg "stepped" gR ["words","columns","place","kept"] t.V8 t.UE
 cj:Df K mg "_law_shown" qo ["one","other"] t.aay t.SD
 ah:Df K mg "machine_found" Wq ["names","begin","step_of"] t.nj t.nq
 aj:Df K mg "machine_telling" Yw ["words","names","told"] t.mf t.fw
 cf:Df K mg "machines_compared" Xl ["one","other"] t.ki t.ft
 ik:Df K mg "least" jH ["machine"] t.Uq t.pj
 au:Df K mg "machine_of" zq ["words","names"] t.US t.SU
 bz:Df K mg "claim_machine" Gk ["claim","names"] t.nu t.ny
 fe:Df K mg "compared" vH ["one","other"] t.abv t.So
 OX:Df K mg "law" HW ["script"] t.acp t.acq
 mh:t.fw.code=.ref t.cq
 kv:t.ft.code=.ref t.cb
 acm:t.pj.code=.ref t.iw
 bh:t.ae≠t.aa
 iq:t.ae≠t.aq
 il:t.aa≠t.aq
 Qk:mg "abs" = none
 og:mg "all" = none
 V6:mg "any" = none
 Q9:mg "bool" = none
 du:mg "enumerate" = none
 oh:mg "int" = none
 ai:mg "isinstance" = none
 ag:mg "len" = none
 Oh:mg "list" = none
 oj:mg "max" = none
 Uj:mg "min" = none
 aw:mg "range" = none
 ix:mg "reversed" = none
 Vt:mg "set" = none
 mm:mg "sorted" = none
 RM:mg "str" = none
 af:mg "tuple" = none
 ip:mg "zip" = none
set_option genInjectivity false in
set_option genSizeOfSpec false in
structure Tbs(mg:Ae)(base:Heap)(t:Kh):Prop where
 cq:PySem.W.CodeHd base t.cq t.ae
 cb:PySem.W.CodeHd base t.cb t.aa
 iw:PySem.W.CodeHd base t.iw t.aq
 B:kC mg base
def Jz:Zy ["width","many","bit_number"] ["width"] (Zh vC):={}
def WC:Zy ["bits","number","bit"] ["bits"] (Zh j8):={}
def yw:Zy ["machine","letters","state","steps","out","row","letter"] ["machine","letters"] (Zh PV):={}
def Ys:Zy ["machine","letters","steps","layers","some","layer","state","letter"] ["machine","letters"] (Zh Ge):={}
def qt:Zy ["letters","number","bit"] ["letters","number","bit"] (Zh Xx):={}
def uH:Zy ["machine","state","letter","well","wanted"] ["machine","state","letter","well","wanted"] (Zh jA):={}
def yx:Zy ["state","states","numbers"] ["state","states","numbers"] (Zh GP):={}
def yP:Zy ["text"] ["text"] (Zh qL):={}
def zD:Zy ["text"] ["text"] (Zh Gf):={}
def yQ:Zy ["word"] ["word"] (Zh qM):={}
def zE:Zy ["word"] ["word"] (Zh Gg):={}
def wF:Zy ["text","signs"] ["text","signs"] (Zh Gh):={}
def uI:Zy ["word"] ["word"] (Zh jB):={}
def Zbo:Zy ["one","other","held"] ["one","other","held"] (Zh vD):={}
def yR:Zy ["word","parts"] ["word","parts"] (Zh qN):={}
def zc:Zy ["words"] ["words"] (Zh JD):={}
def Vp:Zy ["columns","letter"] ["columns","letter"] (Zh jC):={}
def wG:Zy ["one","other","pair"] ["one","other","pair"] (Zh zo):={}
def Zbp:Zy ["one","other","pair"] ["one","other","pair"] (Zh xP):={}
def Yf:Zy ["machine","widths","state","row","led_to"] ["machine"] (Zh X7):={}
def yy:Zy ["marks","numbers"] ["marks"] (Zh xQ):={}
def wH:Zy ["states","classes"] ["states","classes"] (Zh Gi):={}
def WD:Zy ["classes","firsts","state","number"] ["classes"] (Zh jD):={}
def uJ:Zy ["found"] ["found"] (Zh jE):={}
def yS:Zy ["script","k"] ["script","k"] (Zh qO):={}
def Yb:Zy ["cell","many","most","found","rest","k","one","two"] ["cell","many","most"] (Zh qP):={}
def V7:Zy ["number","names"] ["number","names"] (Zh vE):={}
def J0:Zy ["number","left","words","word"] ["number","left"] (Zh vF):={}
def yT:Zy ["words"] ["words"] (Zh Jt):={}
def Gs:Zy ["pick","p","q","r","pairs"] ["pick","p","q","r"] (Zh GQ):={}
def wI:Zy ["number","words","r"] ["number","words","r"] (Zh zp):={}
def YL:Zy ["one","other","paper","there","pair","left","right","behind"] ["one","other","paper"] (Zh qQ):={}
def yz:Zy ["words","names"] ["words","names"] (Zh WV):={}
def Xo:Zy ["one","other","pairs","seen","k","behind"] ["one","other"] (Zh jF):={}
def J7:Zy ["names","letters","words","place","name"] ["names","letters"] (Zh xR):={}
def Xc:Zy ["machine","states","letters","well","wanted","going","state"] ["machine","states","letters","well","wanted"] (Zh Xk):={}
def Ud:Zy ["word"] ["word"] (Zh vG):={}
def Ze3:Zy ["text"] ["text"] (Zh gP):={}
def X6:Zy ["names","letters","columns","place","name"] ["names","letters"] (Zh WW):={}
def zt:Zy ["word","parts","held","one"] ["word","parts","held"] (Zh jG):={}
def yU:Zy ["word","parts","held","then"] ["word","parts","held","then"] (Zh qR):={}
def wJ:Zy ["one","other","pair","pairs"] ["one","other","pair","pairs"] (Zh Gj):={}
def YK:Zy ["steps","out","classes","many"] ["steps","out"] (Zh Wo):={}
def Y8:Zy ["cell","many","xs","menu","some","base","at","turn"] ["cell","many"] (Zh Ju):={}
def Yq:Zy ["numbers","names","most","some","left","number","word","wants","built","part"] ["numbers","names","most"] (Zh gQ):={}
def Gu:Zy ["found","pair"] ["found"] (Zh GR):={}
def ZT:Zy ["machine","letters","number","wanted","layers","left","well","place","chosen","going"] ["machine","letters","number","wanted"] (Zh Je):={}
def yV:Zy ["stack","word"] ["stack","word"] (Zh Jv):={}
def UK:Zy ["words"] ["words"] (Zh xS):={}
def WY:Zy ["one","other","paper","pairs","pair"] ["one","other","paper"] (Zh Jw):={}
def ZV:Zy ["cell","names","xs","most","p","q","r","one","other"] ["cell","names"] (Zh Wy):={}
def Y9:Zy ["machine","width","wanted","names","all_letters","letters","number","row"] ["machine","width","wanted"] (Zh Wh):={}
def Wj:Zy ["words","columns","place","kept","stack","later","word","parts","held"] ["words","columns","place","kept"] (Zh gR):={}
def XU:Zy ["one","other","paper","rows","row","over"] ["one","other"] (Zh qo):={}
def Y2:Zy ["names","begin","step_of","states","numbers","steps","out","told"] ["names","begin","step_of"] (Zh Wq):={}
def Yr:Zy ["words","names","told","letters","columns","last_place","step_of","begin"] ["words","names","told"] (Zh Yw):={}
def YC:Zy ["one","other","begins","found","width"] ["one","other"] (Zh Xl):={}
def WE:Zy ["machine","found","steps","out","classes","firsts","least_steps","least_out"] ["machine"] (Zh jH):={}
def wK:Zy ["words","names"] ["words","names"] (Zh zq):={}
def zF:Zy ["claim","names"] ["claim","names"] (Zh Gk):={}
def y4:Zy ["one","other","names"] ["one","other"] (Zh vH):={}
def Wa:Zy ["script","all_names","one","other","names","found","left","right","lacking","turned_over","sign","low","number","width","parted"] ["script"] (Zh HW):={}
def GI:Im (Zh Xy) ["state"] ["step","place","reached"] ["words","columns","last_place","letters","told"]:=⟨by rfl,by rfl,by rfl,Va,Va,Va,Va⟩
def bX(i:A1->Hp->VK->Prop):Sp:=λvs H Q _=>i vs H Q
section
variable (P:Ao){w:As}{K:Af}{mg:Ae}(wn:Heap){t:Kh}
variable (T:Txt K w mg t)(TB:Tbs mg wn t)
include T TB
variable(vs:A1)(H:Hp)(Q:VK)
inductive xg:Prop
 |mk(w:Nat):vs=[.int w]->w<=1000->Q (.int (2^w)) H->xg
theorem y6:bL T.et P w wn 1 (bX xg):=by
 refine T.et.go Jz ?_;rintro g A xz s H _ Q E B ⟨w,rfl,hw,k⟩;refine⟨_,(Zc (ZA 1 Jz.nd Ze)
   (Zc (YG dG U (XQ U T.aw (Zg (qv 0) Zb)) (YV 2 Jz.nd)
   (Zf (ZA 1 Jz.nd (Zl qi (qv 1) Ze))))
   (Zf (Zq (qv 1))))),(L2.pI ?_)⟩
 intro C q;refine⟨_,U,w,U,Vc,Vc,qz (λi σ H2=>∃v,σ=[some _,ad (2^i),v]/\H2=H) ⟨none,U,U⟩ ?_ ?_⟩
 .rintro i σ H2 hi ⟨v,rfl,rfl⟩;refine⟨_,U,_,_,U,U,.inr (.inr ⟨Vb,Vb⟩),ad (0+i),?_,U⟩;rfl
 .rintro σ H2 ⟨v,rfl,rfl⟩;refine⟨_,U,k⟩
omit T TB in
theorem Zlt{x:V}(h:(D.map V.int)[i]?=some x):∃b,x=V.int b/\D[i]?=some b:=Vd
inductive GU(K:Af):Prop
 |mk(p:Av)(ns:Ak):vs=[.ref p]->aD K H p (ns.map V.int)->Q (.int (lK ns.reverse)) H->GU K
def uK(K:Af):Sp:=λvs H Q _=>GU vs H Q K
theorem zu:bL T.bj P w wn 1 (uK K):=by
 refine T.bj.go WC ?_;rintro q A xz s H _ Q E F ⟨p,ns,rfl,B,k⟩;refine⟨_,(Zc (ZA 1 WC.nd Ze)
   (Zc (YG dG U (Pk U T.ix (qv 0)) (YV 2 WC.nd)
   (Zf (ZA 1 WC.nd (Zl Xd (Zl qi (qv 1) Ze) (qv 2)))))
   (Zf (Zq (qv 1))))),(L2.pI ?_)⟩
 intro G D;refine⟨_,U,p,_,U,B,OI (K:=K) (λi σ H2=>∃v,σ=[some _,ad (lK (ns.reverse.take i)),v]/\H2=H) ⟨none,U,U⟩ (λi σ H2 _ ⟨_,_,e⟩=>Vd) ?_ ?_⟩
 .rintro i x σ H2 g ⟨v,rfl,rfl⟩;rw[<-List.map_reverse]at g;obtain⟨b,rfl,C⟩:=Zlt g;refine⟨_,U,_,_,U,U,.inr (.inr ⟨Vb,Vb⟩),_,U,_,_,U,U,ad b,?_,U⟩;rw[Tx C];rfl
 .rintro σ H2 ⟨v,rfl,rfl⟩;refine⟨_,U,?_⟩;rw[i8 Vd];exact k
inductive OM:Prop
 |mk(m p:Av)(S L b:Nat)(nv:V)(nx:Nat->Nat->Nat)(ot:Nat->Nat->V)(ls:Aj):vs=[.ref m,.ref p]->Qi H m S L nv b nx ot->H p=am (ls.map Xh)->(∀l∈ls,l<L)->ls.length<=1000000->(∀q H',H q=none->H' q=am (wk nx ot b ls)->ZK H H'->Q (.ref q) H')->OM
theorem BY:bL T.nz P w wn 1 (bX OM):=by
 refine T.nz.go yw ?_;rintro cdv A xz s H _ Q E B ⟨m,p,S,L,b,nv,nx,ot,ls,rfl,M,J,hL,I,k⟩;refine⟨_,(Zc (ZA 2 yw.nd (Zp Zr (qv 0) Ze))
   (Zc (ZA 3 yw.nd (Zp Zr (qv 0) Ze))
   (Zc (ZA 4 yw.nd (Zp Zr (qv 0) Ze))
   (Zc (ZA 5 yw.nd (YS Zb))
   (Zc (YG dG U (Xf (qv 1)) (YV 6 yw.nd)
   (Zc (Ya (Yo c9 dE dD ZH (qv 5) (Zg (Zp Zr (Zp Zr (qv 4) (qv 2)) (qv 6)) Zb)))
   (Zf (ZA 2 yw.nd (Zp Zr (Zp Zr (qv 3) (qv 2)) (qv 6))))))
   (Zf (Zq (ZR Z4 (by rfl) T.af ZY (Zg (qv 5) Zb))))))))),?_⟩
 refine ω M.ex (ε2 λps Y=>θ2 λC RS RO=>?_);refine⟨_,U,m,_,1,_,U,U,aD.of C,U,_,U,m,_,2,_,U,U,aD.of C,U,_,U,m,_,3,_,U,U,aD.of C,U,?_⟩;refine⟨Vb,λr B=>?_⟩;refine⟨_,U,p,U,⟨_,aD.of (Zd B _ _ J)⟩,?_⟩;refine JQ (K:=K) (a:=p) (xs:=ls.map Xh) (λi σ H2=>∃u,σ=[ac m,ac p,ad (oZ nx b (ls.take i):Nat),ac ps,ac Y,ac r,u]/\H2 r=ap (wk nx ot b (ls.take i))/\ZK H H2) ⟨none,U,Za,Zd B⟩ (λi σ H2 _=>ε1 λu=>θ2 λ_ _ g=>aD.of (g _ _ J)) ?_ ?_
 .refine λi x σ H2 F=>ε1 λu=>θ2 λzq0 h2 g=>?_;subst zq0;obtain⟨l,rfl,D⟩:=jS F;have O:=hL l (bP D);have st:=Oc M.nx (ls.take i) b M.b λx F=>hL x (rW F);obtain⟨as,ho,go⟩:=RO.ex;refine ω (go _ st) (ε2 λa xs=>θ2 λo1 o2 o3=>?_);obtain⟨bs,hs,gs⟩:=RS.ex;refine ω (gs _ st) (ε2 λc ys=>θ2 λt1 t2 t3=>?_);have G:=Yp (p:=r) (o:=.lst (wk nx ot b (ls.take i)++[ot (oZ nx b (ls.take i)) l])) g B;refine⟨_,U,.inl ⟨U,_,aF.of h2⟩,_,U,_,U,Y,_,_,_,U,U,aD.of (g _ _ ho),Yu o1,_,U,a,_,_,_,U,U,aD.of (g _ _ o2),Yu (o3 l O),r,_,_,U,U,h2,?_,?_⟩
  .rw[Rn,cE];exact Yz Vc
  refine⟨_,U,_,U,ps,_,_,_,U,U,aD.of (G _ _ hs),Yu t1,_,U,c,_,_,_,U,U,aD.of (G _ _ t2),Yu (t3 l O),ad l,?_,?_,G⟩
  .rw[aB D,Qb];rfl
  .rw[Za,aB D,Iv];rfl
 .rintro σ H2 ⟨u,rfl,h2,g⟩;rw[aI,dI]at h2;exact⟨_,U,r,_,U,.inl ⟨aF.of h2,λq Z=>k q _ (g.free Z) Za (g.trans (Zd Z))⟩⟩
inductive WG:Prop
 |mk(m a:Av)(nm:Ai)(b:Nat)(nx:Ad)(ot:Ay)(n:Nat)(Ls:Ad):vs=[.ref m,.ref a]->M4 H m nm b nx ot->bD nx ot n->b<nx.length->nx.length<=1000000->uE H a Ls->Ls≠[]->(∀L∈Ls,L.length<=1000/\∀l∈L,l<2^n)->Ls.length<=1000000->(∀p H',H p=none->pC H' p (cV (mN nx) [b] Ls)->bQ H H'->Q (.ref p) H')->WG
theorem zG:bL T.dc P w wn 1 (bX WG):=by
 refine T.dc.go Ys ?_;rintro cdv A xz s H _ Q E hr ⟨m,a,nm,b,nx,ot,n,Ls,rfl,M,R,hb,hN,hA,hne,hL,hw,k⟩;have hu:=x6 hr;refine⟨_,(Zc (ZA 2 Ys.nd (Zp Zr (qv 0) Ze))
   (Zc (ZA 3 Ys.nd (YS (Zg (La (kE (Zp Zr (qv 0) Ze) YM Kc) U U nofun Vb) Zb)))
   (Zc (YG dG U (Xs (YY WN (qv 1) WS (Xb (Jr JA Ze)))) (YV 4 Ys.nd)
   (Zc (ZA 5 Ys.nd jv)
   (Zc (YG dG U (OP (Zp Z5 (qv 3) (Jr JA Ze))) (YV 6 Ys.nd)
   (Zf (YG dG U (Xf (qv 4)) (YV 7 Ys.nd)
   (Zf (JX hu (qv 5) (Zp Zr (Zp Zr (qv 2) (qv 6)) (qv 7)) YM U)))))
   (Zf (Ya (Yo c9 dE dD ZH (qv 3) (Zg (qv 5) Zb)))))))
   (Zf (Zq (qv 3)))))),?_⟩
 refine ω M.ex (ε3 λpn ps po=>θ3 λh1 _ Rs Ro=>?_);revert hA;refine ε1 λas=>θ2 λha hal hat=>?_;have lyl:=L8 (nx:=mN nx) Ls [b];have lyok:=IU (nx:=mN nx) (N:=nx.length) (M:=2^n) (λs l hs hl=>R.mN hs hl) (Ls:=Ls) (S:=[b]) (iO.mpr ⟨fQ,iW⟩) (λs hs=>by rw[b9.mp hs];exact hb) (λL h=>(hL L h).2);have ly1:1<=Ls.length/\(cV (mN nx) [b] Ls).take 1=[[b]]:=by
  cases Ls with
  |nil=>exact absurd U hne
  |cons _ _=>exact⟨D7 (cD _),U⟩
 refine⟨_,U,m,_,2,_,U,U,aD.of h1,U,Zi ?_⟩;refineλd hd=>?_;have sd:=Zd (o:=.dK []) hd;refine⟨_,U,m,_,1,_,U,U,aD.of (sd _ _ h1),U,Za,[(.inl (b:Int),.bl true)],U,by show 1<=15;decide,vV,λp hp=>Zi ?_⟩;rw[vW]at hp ⊢;have sd2:=Zd (o:=.dK (JC [] [((.inl (b:Int):aV),V.bl true)])) hd;have s2:=sd2.trans (Zd (o:=.lst [.ref d]) hp);have hpH:=sd2.free hp;have hd2:=Zd (o:=.lst [.ref d]) hp _ _ (Za (H:=H) (a:=d) (o:=.dK (JC [] [((.inl (b:Int):aV),V.bl true)])));have ly0:pC (aC (aC H d (.dK (JC [] [((.inl (b:Int):aV),V.bl true)]))) p (.lst [.ref d])) p ((cV (mN nx) [b] Ls).take 1):=by
  rw[ly1.2];refine⟨_,Za,U,λi S hi=>?_⟩
  match i,hi with
  |0,hi=>
   cases hi;exact⟨d,U,.inl hd2⟩
 have B:zR as none (some (-1))=as.take (as.length-1):=uo (xs:=as) (n:=1) Vc Vb;refine⟨_,U,_,U,_,U,a,as,U,aF.of (s2 _ _ ha),λq hq=>⟨q,U,⟨_,aF.of Za⟩,kg (K:=K) (a:=q) (xs:=zR as none (some (-1))) (λi σ H'=>∃(u4 u5 u6 g:Option V),σ=[ac m,ac a,ac ps,ac p,u4,u5,u6,g]/\i+1<=Ls.length/\pC H' p ((cV (mN nx) [b] Ls).take (i+1))/\H' q=ap (zR as none (some (-1)))/\bQ H H') ⟨none,none,none,none,U,ly1.1,ly0.fD (bQ.of (Zd hq)),Za,(bQ.of s2).trans (bQ.of (Zd hq))⟩ (λi σ H' _=>ε4 λ_ _ _ _=>θ4 λ_ _ _ h _=>aF.of h) ?_ ?_⟩⟩
 .refine λi x σ H1 Y=>ε4 λu4 u5 u6 g=>θ4 λzq0 hi zq1 hq1 s3=>?_;subst zq0;obtain ⟨zs,oE,lY,iX⟩:=zq1;rw[B,EV]at Y;have hi2:i+1<Ls.length:=by
   rcases nT i (as.length-1)with z|z
   .lia
   .rw[aL Vc]at Y;cases Y
  rw[aN Vc]at Y;obtain⟨L,hLi⟩:∃L,Ls[i]?=some L:=⟨_,aR Vc⟩;obtain⟨x0,hx0,htl⟩:=hat i L hLi;rw[Y]at hx0;cases hx0;obtain⟨hL1,J⟩:=hL L (bP hLi);obtain⟨S,G⟩:∃S,(cV (mN nx) [b] Ls)[i]?=some S:=⟨_,aR Vc⟩;obtain⟨hS1,hS2⟩:=lyok S (bP G);have O:=Ph G hLi hi2;rw[cE]at lY;have hzl:zs.length=i+1:=(by simp_all)
  obtain⟨dl,hdl,rdl⟩:=iX i S (by rw[EV,aN (by simp_all)];exact G);have ezs:zs=zs.take i++[.ref dl]:=by
   rw[<-aB hdl,<-hzl,dI]
  have Z:fN zs (-1)=ac dl:=by rw[ezs];exact kh _ _
  refine Zi λe he=>Zi ?_;have se:=bQ.of (Zd (o:=.dK []) he);have rd2:=se.rd rdl;refine⟨_,U,_,U,p,_,-1,_,U,U,aF.of (se.lst oE),Z,dl,_,U,rd2,λo ho=>Pe (ul:=dX S) (λj σ H'=>∃(u6 g:Option V),σ=[ac m,ac a,ac ps,ac p,ac x0,ac e,u6,g]/\H' dl=some (.b7 o (.dK (dX S)))/\H' e=some (.dK (dX (((S.take j).flatMap λs=>L.map (mN nx s)).foldl Y1 [])))/\bQ H1 H') ⟨_,_,U,Za,?_,se.trans (bQ.b7 rd2 ho)⟩ (λi σ H' _=>ε2 λ_ _=>θ2 λ_ h _=>h) ?_ ?_⟩
  .have hed:e≠dl:=λz=>by
    subst z;rcases rdl with z|⟨_,z⟩<;>rw[he]at z<;>cases z
   rw[Zk hed,Za];rfl
  .refine λj pr σ H3 I=>ε2 λu6 g=>θ3 λzq0 g1 g2 D=>?_;subst zq0;unfold dX at I;rw[aY]at I;obtain⟨s,hs,rfl⟩:=eG.mp I;have hsS:=bP hs;have hsN:=hS2 s hsS;have s34:=s3.trans D;have C:=s34.tup htl;refine ω ((M.fD s34).ex) (ε3 λpn3 ps3 po3=>θ3 λm1 _ Rs3 _=>?_);rw[s34.tup h1]at m1;cases m1;refine ω (YN Rs3 (i:=s) (by rw[aI];exact hsN)) (ε2 λas1 a1=>θ2 λr1 r2 r3=>?_);rw[XT]at r3;have l1:=R.nr _ (aA hsN);have hde:dl≠e:=λz=>by rw[z,g2]at g1;cases g1
   refine Zi ⟨_,U,x0,U,⟨_,aD.of C⟩,JQ (K:=K) (a:=x0) (xs:=L.map Xh) (λc σ H'=>∃(g:Option V),σ=[ac m,ac a,ac ps,ac p,ac x0,ac e,ad s,g]/\H' dl=some (.b7 o (.dK (dX S)))/\H' e=some (.dK (dX ((((S.take j).flatMap λs=>L.map (mN nx s))++(L.take c).map (mN nx s)).foldl Y1 [])))/\bQ H1 H'/\∀b xs,H3 b=am xs->H' b=am xs) ⟨_,U,g1,by rw[List.take_zero,List.map_nil,d9];exact g2,D,λ_ _ z=>z⟩ (λc σ H' _=>ε1 λ_=>θ4 λ_ _ _ _ z=>aD.of (z _ _ C)) ?_ ?_⟩
   .refine λc y σ H4 hy=>ε1 λg=>θ4 λzq0 f1 f2 s5 tp=>?_;subst zq0;rw[aY]at hy;obtain⟨l,hl,rfl⟩:=eG.mp hy;have hlL:=J l (bP hl);have hsz:((((S.take j).flatMap λs=>L.map (mN nx s))++(L.take c).map (mN nx s)).foldl Y1 []).length<=nx.length:=Zqk λx Y=>by
     rcases dH.mp Y with z|z
     .obtain⟨s',hs',z⟩:=List.mem_flatMap.mp z;obtain⟨l',F,rfl⟩:=bG.mp z;exact R.mN (hS2 s' (rW hs')) (J l' F)
     .obtain⟨l',F,rfl⟩:=bG.mp z;exact R.mN hsN (J l' (rW F))
    refine Zi ⟨_,U,_,U,_,U,ps,_,_,_,U,U,aD.of (tp _ _ r1),r2,_,U,a1,_,_,_,U,U,aD.of (tp _ _ r3),Yu (Kz (show l<(nx.getD s []).length by lia)),e,_,U,lT.k (k:=.inl (((nx.getD s []).getD l 0:Nat):Int)) f2 (by rw[yp];exact Yz Vc),_,U,by rw[Zk hde];exact f1,?_,s5.put he,λb xs z=>?_⟩
    .rw[Za,Qp,aB hl,dC,<-lW,nN (l':=List.map _ [l])];rfl
    .rw[Zk (Xp z (show H3 e=_ from g2) λq=>nomatch q)];exact tp b xs z
   .refine λσ H4=>ε1 λg=>θ4 λzq0 f1 f2 s5 _=>?_;subst zq0;rw[aI,dI]at f2;exact⟨_,_,U,f1,by rw[Um hs];exact f2,s5⟩
  .refine λσ H3=>ε2 λu6 g=>θ3 λzq0 g1 g2 D=>?_;subst zq0;rw[yp,dI]at g2;have mZ:=D.lst oE;have hq4:=D.lst hq1;have hpq:q≠p:=λz=>by
    subst z;obtain⟨w0,hw0,_⟩:=ly0;rw[hq]at hw0;cases hw0
   refine⟨_,U,.inl ⟨U,_,aF.of mZ⟩,_,U,p,_,_,U,U,mZ,by rw[hzl];exact Yz Vc,_,_,_,_,U,hi2,?_,by rw[Zk hpq];exact hq4,(s3.trans D).put hpH⟩;rw[aB O];exact pC.more (H':=H3) mZ (by rw[cE];omega) (λj S' hj=>by
    obtain⟨a9,y1,y2⟩:=iX j S' hj;exact⟨a9,y1,D.rd y2⟩) g2
 .refine λσ H1=>ε4 λu4 u5 u6 g=>θ4 λzq0 hi ly hq1 s3=>?_;subst zq0;rw[B,cE]at ly hi;refine⟨_,U,k p H1 hpH ?_ s3⟩;rw[show min (as.length-1) as.length+1=(cV (mN nx) [b] Ls).length by simp_all,dI]at ly;exact ly
inductive XW:Prop
 |mk(a:Av)(L:Aj)(kb b:Nat):vs=[.ref a,.int kb,.int b]->H a=am (L.map Xh)->L.length<=1000->kb<=3->(∀p H',H p=none->H' p=am ((fG kb b L).map Xh)->ZK H H'->Q (.ref p) H')->XW
theorem qu:bL T.bc P w wn 1 (bX XW):=by
 refine T.bc.go qt ?_;rintro J A xz s H _ Q E Y ⟨a,L,D,b,rfl,F,I,O,k⟩;refine⟨_,(Zf (Zq (ZR Z4 (by rfl) T.af ZY (Zg (Yy ({}:Ye (Zh Xx) _ ["letters","number","bit"] "letter" ["bit","number"] [2,1]) (Xf (qv 0)) (λ_ _ _ _=>(jq (Zu Xq (Zl Wu (Zl vk (qv 0) (qv 2)) Ze) (qv 1) (ZS _)))) (λ_ _ _ _=>(qv 0))) Zb)))),?_⟩;refine⟨_,U,a,U,⟨_,aD.of F⟩,j4 (xs:=L.map Xh) (Fj D b) ZK ZK.refl (λ_ _ _ x y=>x.trans y) (λH1 g=>aD.of (g _ _ F)) (by rw[aI];exact a8 (Zw I)) (λx G H1 g R hR=>?_) (λx G H1 R hR=>⟨_,U,hR⟩) (λH1 l g q=>?_)⟩
 .obtain⟨y,_,rfl⟩:=bG.mp G;refine⟨_,U,_,U,_,_,U,U,pP _,_,_,U,U,_,U,U,_,U,?_⟩;rw[Bb];exact hR H1 (ZK.refl H1)
 have B:=g.trans (Zd (o:=.lst ((L.map Xh).filter (Fj D b))) q);refine⟨l,_,U,.inl ⟨aF.of Za,λp C=>?_⟩⟩;exact k p _ (B.free C) (by rw[Za,yq]) (B.trans (Zd C))
inductive GV:Prop
 |mk(m:Av)(nm:Ai)(b:Nat)(nx:Ad)(ot:Ay)(n s c:Nat)(W:Option (Aj))(wv v:V)(tr:Bool):vs=[.ref m,.int s,.int c,wv,v]->M4 H m nm b nx ot->bD nx ot n->s<nx.length->c<2^n->vS H wv W->YE tr v->(∀r∈ot,∀x∈r,YE tr x)->Q (.bl (gw (mN nx) (mB ot v) W s c)) H->GV
theorem uL:bL T.fy P w wn 1 (bX GV):=by
 refine T.fy.go uH ?_;rintro D A xz s H _ Q E O ⟨m,nm,b,nx,ot,n,s,c,W,wv,v,tr,rfl,M,R,q,hc,hw,hv,F,k⟩;have hu:=x6 O;refine⟨_,(Zc (Yc (Zu Qj (qv 3) Hj Vg)
   (Zf (Zq (Xr Xq (Zp Zr (Zp Zr (Zp Zr (qv 0) Ze) (qv 1)) (qv 2)) (qv 4) (ZS _)))) Z3)
   (Zf (Zq (Xr (xD hu) (Zp Zr (Zp Zr (Zp Zr (qv 0) Ze) (qv 1)) (qv 2)) (qv 3) Vg)))),?_⟩
 refine ω M.ex (ε3 λpn ps po=>θ3 λh1 _ Y J=>?_);have g:s<ot.length:=by rw[R.ol];exact q
 have l1:=R.nr _ (aA q);have l2:=R.or _ (aA g);refine ω (YN Y (i:=s) (by rw[aI];exact q)) (ε2 λI a1=>θ2 λg1 Z B=>?_);refine ω (YN J g) (ε2 λas2 a2=>θ2 λf1 C G=>?_);rw[XT]at B;refine⟨_,U,U,_,U,?_⟩;rcases hw with⟨rfl,rfl⟩|⟨d,l,rfl,rfl,hd⟩
 .have e:=aU (d:=V.aX) (show c<(ot.getD s []).length by lia);exact Xe ⟨_,U,m,_,3,_,U,U,aD.of h1,U,_,U,po,_,_,_,U,U,aD.of f1,C,_,U,a2,_,_,_,U,U,aD.of G,Yu e,_,U,yk (F _ (aA g) _ (bP e)) hv,k⟩
 .refine YJ ⟨_,U,m,_,2,_,U,U,aD.of h1,U,_,U,ps,_,_,_,U,U,aD.of g1,Z,_,U,a1,_,_,_,U,U,aD.of B,Yu (Kz (show c<(nx.getD s []).length by lia)),_,U,d,_,U,.inl ⟨_,.inl _,hd,U,U⟩,?_⟩;rw[wB];exact k
inductive Ji:Prop
 |mk(κ:Type)(dq:DecidableEq κ)(sk:SK κ)(v:V)(st nd:Av)(k:κ)(l:List κ)(ws:A1):vs=[v,.ref st,.ref nd]->H st=ap ws->ws.length=l.length->sk.lE H nd l->sk.at_ H k v->l.Nodup->l.length<10000000->(∀H' ws',H' st=ap ws'->((k∈l/\ws'=ws)\/(k∉l/\ws'=ws++[v]))->sk.lE H' nd (Y1 l k)->(∀b o,H b=some o->b≠st->b≠nd->H' b=some o)->(∀b,H b=none->H' b=none)->Q (.int ((Y1 l k).idxOf k:Int)) H')->Ji
theorem y7:bL T.dw P w wn 1 (bX Ji):=by
 refine T.dw.go yx ?_;rintro cdv A xz s H _ Q E hr ⟨κ,_,sk,v,st,B,k0,l,Z,rfl,q,hal,n,D,I,hl,k⟩;have hu:=x6 hr;refine⟨_,(Zc (Yc (Zu (b8.or (VR (gJ hr)) (Xt hu)) (qv 0) (qv 2) Vg)
   (Zc (QS.or (Ul (gJ hr) (qv 2) (qv 0) (Zs Zx (by rfl) T.ag Yn (Zg (qv 1) Zb)) U) (JX hu (qv 2) (qv 0) (Zs Zx (by rfl) T.ag Yn (Zg (qv 1) Zb)) U))
   (Zf (Ya (Yo c9 dE dD ZH (qv 1) (Zg (qv 0) Zb))))) Z3)
   (Zf (Zq (QE.or (Zo1 (gJ hr) (qv 2) (qv 0) (λ_ _=>U)) (kx hu (qv 2) (qv 0) (λ_ _=>U)))))),?_⟩
 try dsimp only[L2.iN,L2.c8]
 have O:st≠B:=λz=>by
  obtain⟨o,e,_,h⟩:=SK.ne n;rw[<-z,q]at e;cases e;exact h _ U
 cases sk with
 |int f inj=>
  have n:H B=some (.dK (nk (l.map f))):=n;have D:v=.int (f k0):=D;subst D;have C:f k0∈l.map f↔k0∈l:=⟨λz=>let⟨a,ha,e⟩:=bG.mp z;inj _ _ e ▸ ha,λz=>mY z⟩;have G:(l.map f).Nodup:=by
   unfold List.Nodup;rw[MB];exact List.Pairwise.imp (λhne e=>hne (inj _ _ e)) I
  have ei:=MF f k0 (Y1 l k0) λa _ e=>inj _ _ e;have em:=kL f l k0 λa _ e=>inj _ _ e;refine⟨_,U,_,U,.inr ⟨B,Y0 (nk (l.map f)) (.inl (f k0)),U,.inl ⟨nk (l.map f),.inl (f k0),.inl n,U,U⟩,_,U,?_⟩⟩
  by_cases Y:k0∈l
  .have e1:Y1 l k0=l:=aN Y;rw[e1]at k ei;rw[IX (C.mpr Y) G];refine YJ (.inr ⟨_,U,_,U,B,_,U,.inl ⟨nk (l.map f),.inl (f k0),.inl n,U,(IX (C.mpr Y) G).symm⟩,?_⟩);rw[ei];exact k H Z q (.inl ⟨Y,U⟩) n (λ_ _ e _ _=>e) λ_ e=>e
  .have e1:Y1 l k0=l++[k0]:=aL Y;have hs':f k0∉l.map f:=λz=>Y (C.mp z);rw[e1]at k ei em;rw[VX hs'];have J:((l++[k0]).map f).Nodup:=by
    rw[<-em];exact Jd G _
   refine Xe (.inr ⟨_,U,st,_,U,.inl (aF.of q),_,U,_,U,B,_,U,lT.k (k:=.inl (f k0)) n (by rw[AJ,aI];exact Yz Vc),?_⟩);rw[hal,show(l.length:Int)=((l.map f).length:Int) by rw[aI],tX hs'];have e2:l.map f++[f k0]=(l++[k0]).map f:=by rw[dC];rfl
   rw[e2];have g:aC H B (.dK (nk ((l++[k0]).map f))) st=ap Z:=by rw[Zk O];exact q
   refine⟨_,U,.inl ⟨U,_,aF.of g⟩,_,U,st,_,_,U,U,g,Yz Vc,?_⟩;have F:aC (aC H B (.dK (nk ((l++[k0]).map f)))) st (.lst (Z++[.int (f k0)])) B=some (.dK (nk ((l++[k0]).map f))):=by rw[Zk O.symm];exact Za
   refine .inr ⟨_,U,_,U,B,_,U,.inl ⟨_,.inl (f k0),.inl F,U,(IX (mY Ve) J).symm⟩,?_⟩;rw[ei];refine k _ (Z++[.int (f k0)]) Za (.inr ⟨Y,U⟩) F (λb o e h1 h2=>?_) λb e=>?_
   .rw[Zk h1,Zk h2];exact e
   .rw[Zk (λz=>by rw[z,q]at e;cases e),Zk (λz=>by rw[z,n]at e;cases e)];exact e
 |key kn=>
  have n:zm kn H B (Wt l):=n;obtain⟨a,rfl,D⟩:=D;refine⟨_,U,_,U,.inl ⟨κ,_,kn,B,a,k0,_,U,U,n,D,_,U,?_⟩⟩
  by_cases C:k0∈l
  .have e1:Y1 l k0=l:=aN C;have hv:=Gd l k0 C I;rw[e1]at k;rw[hv];exact YJ (.inl ⟨_,U,_,U,κ,_,kn,B,a,k0,_,_,U,U,n,D,hv,k H Z q (.inl ⟨C,U⟩) n (λ_ _ e _ _=>e) λ_ e=>e⟩)
  .have e1:Y1 l k0=l++[k0]:=aL C;have hv:=xM l k0 C;have J:(l++[k0]).Nodup:=e1 ▸ Jd I k0;rw[e1]at k;rw[hv];refine Xe (.inl ⟨_,U,st,_,U,.inl (aF.of q),_,U,_,U,κ,_,kn,B,a,k0,_,U,U,n,D,hv,?_,λH2 n2 o2 hx=>?_⟩)
   .rw[Gb];exact Yz Vc
   rw[hal]at n2;rw[<-xK]at n2;have g:=o2 _ _ q O;refine⟨_,U,.inl ⟨U,_,aF.of g⟩,_,U,st,_,_,U,U,g,Yz Vc,?_⟩;have n3:zm kn (aC H2 st (.lst (Z++[.ref a]))) B (Wt (l++[k0])):=SK.off (sk:=.key kn) n2 g;have hk2:kn.at_ H2 k0 a:=kn.keep _ _ _ _ (λb xs e=>o2 b _ e λz=>by
    obtain⟨o,e3,h3,_⟩:=MN n;rw[z,e3]at e;cases e;exact h3 _ U) D
   refine .inl ⟨_,U,_,U,κ,_,kn,B,a,k0,_,_,U,U,n3,kn.keep _ _ _ _ (λb xs e=>by rw[Zk (Xp e g nofun)];exact e) hk2,Gd _ _ Ve J,k _ (Z++[.ref a]) Za (.inr ⟨C,U⟩) n3 (λb o e h1 h2=>?_) λb e=>?_⟩
   .rw[Zk h1];exact o2 b o e h2
   .obtain⟨oo,rfl⟩:=hx;rw[Zk (λz=>by rw[z,q]at e;cases e),Zk (λz=>by
     obtain⟨o,e3,_⟩:=MN n;rw[z,e3]at e;cases e)]
    exact e
inductive JF:Prop
 |mk(y:Str):vs=[.str y]->Q (.bl (decide (y∈GD))) H->JF
theorem yW:bL T.bq P w wn 1 (bX JF):=by
 refine T.bq.go yP ?_;rintro g A xz s H _ Q E q ⟨y,rfl,k⟩;refine⟨_,(Zf (Zq (Xr Kr (qv 0) (Jq (v:=.ref _) U T.cg.m U) Vg))),⟨_,U,_,T1,.inr y,U,T.cg.d,U,?_⟩⟩;rw[OV];exact k
inductive WH:Prop
 |mk(k:aV):vs=[kV k]->Q (.bl (Hd k)) H->WH
omit T TB in
theorem Rh(l:List (Str×Int))(k:aV):(Y0 (bK l) k).isSome=(match k with|.inr y=>decide (y∈l.map (·.1))|.inl _=>false):=by
 cases k with
 |inr y=>exact OV l y
 |inl z=>
  induction l with
  |nil=>rfl
  |cons p r g=>
   have e:Y0 (bK (p::r)) (.inl z)=Y0 (bK r) _:=Y4 nofun;rw[e,g]
omit T TB in
theorem Zlu(k:aV):Hd k=((Y0 (bK T2) k).isSome||(Y0 (bK T3) k).isSome):=by
 rw[Rh,Rh];cases k with
 |inl z=>rfl
 |inr y=>
  show decide _=(decide _||decide _);have e:Yt=T2.map (·.1)++T3.map (·.1):=Va
  rw[e]
  by_cases h1:y∈T2.map (·.1)
  .grind
  .grind
theorem zH:bL T.az P w wn 1 (bX WH):=by
 refine T.az.go zD ?_;rintro g A xz s H _ Q E q ⟨kk,rfl,k⟩;refine⟨_,(Zf (Zq (EJ (Xr Kr (qv 0) (Jq (v:=.ref _) U T.ay.m U) Vg) (gk (Xr Kr (qv 0) (Jq (v:=.ref _) U T.ao.m U) Vg))))),?_⟩;rw[Zlu]at k;refine⟨_,U,_,T2,kk,U,T.ay.d,U,_,U,?_⟩;cases h:(Y0 _ kk).isSome with
 |true=>
  rw[h]at k;exact Xe k
 |false=>
  rw[h]at k;exact YJ ⟨_,U,_,T3,kk,U,T.ao.d,U,k⟩
inductive JG:Prop
 |mk(k:aV):vs=[kV k]->Q (.int (qx T1 k+qx T2 k)) H->JG
theorem yX:bL T.br P w wn 1 (bX JG):=by
 refine T.br.go yQ ?_;rintro g A xz s H _ Q E q ⟨kk,rfl,k⟩;refine⟨_,(Zf (Zq (Zl Xd (LA (Jq (v:=.ref _) U T.cg.m U) (qv 0) Ze) (LA (Jq (v:=.ref _) U T.ay.m U) (qv 0) Ze)))),⟨_,T1,U,T.cg.d,_,U,kk,U,_,T2,U,T.ay.d,_,U,kk,U,?_⟩⟩;rw[AX,AX];exact⟨_,_,U,U,k⟩
inductive WI:Prop
 |mk(k:aV):vs=[kV k]->Q (.int (qx T3 k)) H->WI
theorem zI:bL T.bb P w wn 1 (bX WI):=by
 refine T.bb.go zE ?_;rintro g A xz s H _ Q E q ⟨kk,rfl,k⟩;refine⟨_,(Zf (Zq (LA (Jq (v:=.ref _) U T.ao.m U) (qv 0) Ze))),⟨_,T3,U,T.ao.d,_,U,kk,U,?_⟩⟩;rw[AX];exact k
inductive Gv:Prop
 |mk(y sg:Str):vs=[.str y,.str sg]->y.length<=100000->(∀H',ZK H H'->Q (.bl (decide (vI y sg))) H')->Gv
theorem wL:bL T.bu P w wn 1 (bX Gv):=by
 refine T.bu.go wF ?_;rintro D A xz s H _ Q E F ⟨y,sg,rfl,C,k⟩;refine⟨_,(Zf (Zq (gm (Xr CZ (qv 0) Zj (ZS _)) (gk (Zs (jt U) (by rfl) T.og IF (Zg (Yy (⟨by rfl,Ve,Vd,by rfl,Va,Va,by rfl,Va⟩:Ye (Zh Gh) _ ["text","signs"] "sign" ["signs"] [1]) (Bx (qv 0)) (λ_ _ _ _=>YZ) (λ_ _ _ _=>(Xr Td (qv 0) (qv 1) Vg))) Zb)))))),⟨_,U,U,_,U,?_⟩⟩
 by_cases g:y.cps.toList=[]
 .have e:=jL.mp g;subst e;refine YJ ?_;have e2:decide (vI _ sg)=false:=bO λz=>z.1 (jL.mpr U);have:=k H (ZK.refl H);exact this
 rw[bO λz=>g (jL.mpr (by injection z))];refine Xe ⟨_,U,y,U,Zkg (λc=>.bl (decide (c∈sg.cps.toList))) (bS (C) Vb) (λc _ R hR=>?_) (λl q=>?_)⟩
 .refine⟨_,U,_,U,_,_,U,U,?_⟩;rw[Tv];exact hR
 have e1:(y.cps.toList.map λc=>V.bl (decide (c∈sg.cps.toList)))=(y.cps.toList.map λc=>decide (c∈sg.cps.toList)).map V.bl:=Ve
 rw[e1];refine⟨l,_,U,aF.of Za,?_⟩;rw[AL];have e2:decide (vI y sg)=decide (∀c∈y.cps.toList,decide (c∈sg.cps.toList)=true):=by
  rw[pA,lN,lN];constructor
  .exact λz c B=>bC (z.2 c B)
  .exact λz=>⟨g,λc B=>dJ (z c B)⟩
 rw[<-e2];exact k _ (Zd q)
inductive GW:Prop
 |mk(x:V):vs=[x]->WO x=true->Q (.bl (cG x (allR.map V.str))) H->GW
theorem zv:bL T.dn P w wn 1 (bX GW):=by
 refine T.dn.go uI ?_;rintro q A xz s H _ Q E B ⟨x,rfl,g,k⟩;refine⟨_,(Zf (Zq (Xr Y3 (qv 0) (Jq (v:=.ref _) U T.ff.m U) Vg))),?_⟩;exact⟨_,U,_,_,U,.inr (T.ff.d H),g,(by
    rw[Fq];exact i7.mpr λ_ _=>U),k⟩
inductive xh:Prop
 |mk(a b h:Int):vs=[.int a,.int b,.int h]->Q (.int (D5 a b h)) H->xh
theorem y8:bL T.bw P w wn 1 (bX xh):=by
 refine T.bw.go Zbo ?_;rintro g A xz s H _ Q E q ⟨a,b,h,rfl,k⟩;refine⟨_,(Zf (Zq (Zl wU (Zl Wu (Jr jj (qv 0)) (qv 1)) (Zl Wu (qv 2) (Jr jj (Zl vm (qv 0) (qv 1))))))),⟨_,U,_,U,_,U,_,_,U,U,_,U,_,U,_,U,_,_,U,U,_,U,_,_,U,U,_,_,U,U,k⟩⟩
inductive JH:Prop
 |mk(y:Str)(p:Av)(is:Ak):vs=[.str y,.ref p]->H p=ap (is.map V.int)->y∈D6->is.length=Ez y->(∀H',ZK H H'->Q (.int (Cb y is)) H')->JH
theorem yY:bL T.fg P w wn 1 (bX JH):=by
 refine T.fg.go yR ?_;rintro cdv A xz s H _ Q E hr ⟨y,p,is,rfl,hp,hy,D,k⟩;refine⟨_,(Zc (Yc (Zu Xq (qv 0) Zj (ZS _))
   (Zf (Zq (Jr JA Ze))) Z3)
   (Zc (Yc (Zu Xq (qv 0) Zj (ZS _))
   (Zf (Zq (Zp Z5 (qv 1) Ze))) Z3)
   (Zc (Yc (Zu Y3 (qv 0) (Zt (Zg Zj (Zg Zj Zb))) Vg)
   (Zf (Zq (Jr jj (Zp Z5 (qv 1) Ze)))) Z3)
   (Zc (Yc (Zu Y3 (qv 0) (Zt (Zg Zj (Zg Zj Zb))) Vg)
   (Zf (Zq (Zl Wu (Zp Z5 (qv 1) Ze) (Zp Z5 (qv 1) Ze)))) Z3)
   (Zc (Yc (Zu Y3 (qv 0) (Zt (Zg Zj (Zg Zj Zb))) Vg)
   (Zf (Zq (Zl wU (Zp Z5 (qv 1) Ze) (Zp Z5 (qv 1) Ze)))) Z3)
   (Zc (Yc (Zu Xq (qv 0) Zj (ZS _))
   (Zf (Zq (Zl vm (Zp Z5 (qv 1) Ze) (Zp Z5 (qv 1) Ze)))) Z3)
   (Zc (Yc (Zu Xq (qv 0) Zj (ZS _))
   (Zf (Zq (Zl wU (Jr jj (Zp Z5 (qv 1) Ze)) (Zp Z5 (qv 1) Ze)))) Z3)
   (Zf (Zq (Zl wU (Zl Wu (Zp Z5 (qv 1) Ze) (Zp Z5 (qv 1) Ze)) (Zl Wu (Jr jj (Zp Z5 (qv 1) Ze)) (Zp Z5 (qv 1) Ze)))))))))))),?_⟩
 unfold Cb at k;refine⟨_,U,U,_,U,?_⟩
 by_cases h1:y = "yes"
 .rw[bC (congrArg V.str h1)];rw[aN h1]at k;refine Xe ?_;exact⟨_,U,k H (ZK.refl _)⟩
 rw[bO (λz=>h1 (by injection z))];rw[aL h1]at k;refine YJ ⟨_,U,U,_,U,?_⟩
 by_cases h2:y = "sign"
 .rw[bC (congrArg V.str h2)];rw[aN h2]at k;refine Xe ?_;exact⟨_,U,p,_,0,_,U,U,aF.of hp,ZQ 0 rfl (jP D (by rw[h2];decide +kernel)),k H (ZK.refl _)⟩
 rw[bO (λz=>h2 (by injection z))];rw[aL h2]at k;refine YJ ⟨_,U,Vb,λq hq=>⟨q,_,U,.inr (aD.of Za),U,U,_,U,?_⟩⟩;show if cG (.str y) ((["not","never"]:Ai).map V.str)=true then _ else _;rw[Yg];have sq:=Zd (o:=.tup [.str "not",.str "never"]) hq;have pq:=sq _ _ hp;generalize aC H q (.tup [.str "not",.str "never"])=H1 at *
 by_cases Y:y = "not" \/ y = "never"
 .rw[bC Vd];rw[aN Y]at k;refine Xe ?_;exact⟨_,U,p,_,0,_,U,U,aF.of pq,ZQ 0 rfl (jP D (by rcases Y with h|h<;>rw[h]<;>decide +kernel)),_,U,k H1 sq⟩
 rw[bO Vd];rw[aL Y]at k;refine YJ ⟨_,U,Vb,λr hr=>⟨r,_,U,.inr (aD.of Za),U,U,_,U,?_⟩⟩;show if cG (.str y) ((["and","both"]:Ai).map V.str)=true then _ else _;rw[Yg];have J:=Zd (o:=.tup [.str "and",.str "both"]) hr;have pr:=J _ _ pq;generalize aC H1 r (.tup [.str "and",.str "both"])=H2 at *
 by_cases O:y = "and" \/ y = "both"
 .rw[bC Vd];rw[aN O]at k;refine Xe ?_;have C:2<=is.length:=jP D (by rcases O with h|h<;>rw[h]<;>decide +kernel);exact⟨_,U,p,_,0,_,U,U,aF.of pr,ZQ 0 rfl Vc,_,U,p,_,1,_,U,U,aF.of pr,ZQ 1 rfl C,_,_,U,U,k H2 (sq.trans J)⟩
 rw[bO (by simp only[bR,fQ,nR];exact O)];rw[aL O]at k;refine YJ ⟨_,U,Vb,λt1 ht1=>⟨t1,_,U,.inr (aD.of Za),U,U,_,U,?_⟩⟩;show if cG (.str y) ((["or","either"]:Ai).map V.str)=true then _ else _;rw[Yg];have B:=Zd (o:=.tup [.str "or",.str "either"]) ht1;have g:=B _ _ pr;generalize aC H2 t1 (.tup [.str "or",.str "either"])=Z at *
 by_cases F:y = "or" \/ y = "either"
 .rw[bC (by simp only[bR,fQ,nR];exact F)];rw[aN F]at k;refine Xe ?_;have C:2<=is.length:=jP D (by rcases F with h|h<;>rw[h]<;>decide +kernel);exact⟨_,U,p,_,0,_,U,U,aF.of g,ZQ 0 rfl Vc,_,U,p,_,1,_,U,U,aF.of g,ZQ 1 rfl C,_,_,U,U,k Z ((sq.trans J).trans B)⟩
 rw[bO (by simp only[bR,fQ,nR];exact F)];rw[aL F]at k;refine YJ ⟨_,U,U,_,U,?_⟩
 by_cases I:y = "odd"
 .rw[bC (congrArg V.str I)];rw[aN I]at k;refine Xe ?_;have C:2<=is.length:=jP D (by rw[I];decide +kernel);exact⟨_,U,p,_,0,_,U,U,aF.of g,ZQ 0 rfl Vc,_,U,p,_,1,_,U,U,aF.of g,ZQ 1 rfl C,_,_,U,U,k Z ((sq.trans J).trans B)⟩
 rw[bO (λz=>I (by injection z))];rw[aL I]at k;refine YJ ⟨_,U,U,_,U,?_⟩
 by_cases G:y = "so"
 .rw[bC (congrArg V.str G)];rw[aN G]at k;refine Xe ?_;have C:2<=is.length:=jP D (by rw[G];decide +kernel);exact⟨_,U,p,_,0,_,U,U,aF.of g,ZQ 0 rfl Vc,_,U,_,U,p,_,1,_,U,U,aF.of g,ZQ 1 rfl C,_,_,U,U,k Z ((sq.trans J).trans B)⟩
 rw[bO (λz=>G (by injection z))];rw[aL G]at k;have l3:3<=is.length:=jP D (Zeh y hy h1 h2 Y O F I G);exact YJ ⟨_,U,p,_,0,_,U,U,aF.of g,ZQ 0 rfl Vc,_,U,p,_,1,_,U,U,aF.of g,ZQ 1 rfl Vc,_,_,U,U,_,U,p,_,0,_,U,U,aF.of g,ZQ 0 rfl Vc,_,U,_,U,p,_,2,_,U,U,aF.of g,ZQ 2 rfl l3,_,_,U,U,_,_,U,U,k Z ((sq.trans J).trans B)⟩
inductive Ws:Prop
 |mk(tw:Av)(ws:A1):vs=[.ref tw]->H tw=am ws->ws.length<=1000->(∀w∈ws,(∃y,w=.str y)\/∃z:Int,w=.int z)->(∀(L:Nat) H',(∀z:Int,V.int z∈ws->Builtin.Int.intBits z<=L)->(L=0\/∃z:Int,V.int z∈ws/\L=Builtin.Int.intBits z)->ZK H H'->Q (.int L) H')->Ws
theorem zd:bL T.cy P w wn 1 (bX Ws):=by
 refine T.cy.go zc ?_;rintro G A xz s H _ Q E O ⟨tw,q,rfl,C,J,hw,k⟩;refine⟨_,(Zf (Zq (Zo7 U U T.oj (Yy (⟨by rfl,Ve,Vd,by rfl,Ve,Ve,by rfl,Ve⟩:Ye _ _ _ "word" [] []) (Xf (qv 0)) (λ_ _ _ _=>(jq (Xn (Zs (show Wd _ _ (HY K)from XJ) (by rfl) T.ai Yj (Zg (qv 0) (Zg (WQ (v:=.ty "int") (by rfl) T.oh Ke U) Zb)))))) (λ_ _ _ _=>(show QE _ _ (AH K "int" Og _)from(FY PySem.F.plainAttrs_int PySem.F.slot_int_bit_length PySem.F.type_int_bit_length Tc (qv 0))))) Ze))),⟨_,U,tw,U,⟨_,aD.of C⟩,Wv (K:=K) (a:=tw) (xs:=q) (λi zs H'=>zs=(xX (q.take i)).map V.int/\H'=H) ⟨U,U⟩ (λi zs H' h=>?_) (λi zs H' h=>by rw[h.2];exact aD.of C) (λi x zs H1 R hR g h=>?_) (λzs H1 h p I=>?_)⟩⟩
 .rw[h.1,aI];have:=uh (q.take i);rw[cE]at this;exact a8 (Zw Vd)
 .obtain⟨rfl,rfl⟩:=h;rcases hw x (bP g)with⟨y,rfl⟩|⟨z,rfl⟩
  .refine⟨_,U,_,_,_,_,U,.str y,qk,_,U,YJ (hR _ _ ⟨?_,U⟩)⟩;rw[aB g,jZ];exact congrArg _ (d9 _).symm
  .refine⟨_,U,_,_,_,_,U,.int z,qj,_,U,Xe ⟨_,U,U,z,U,U,hR _ _ ⟨?_,U⟩⟩⟩;rw[aB g,jZ,dC];rfl
 .obtain⟨rfl,rfl⟩:=h;have sp:=Zd (o:=.lst ((xX (q.take q.length)).map V.int)) I;refine⟨p,_,U,aF.of Za,λe=>?_,λm B g=>?_⟩
  .rw[dI]at e;refine k 0 _ (λz hz=>?_) (.inl U) sp;have:=ya hz;rw[e]at this;cases this
  .rw[dI]at B g;obtain⟨z,hz,rfl⟩:=Nj B;exact k _ _ (λy D=>Int.ofNat_le.mp (g _ (ya D))) (.inr ⟨z,hz,U⟩) sp
inductive zw:Prop
 |mk(p:Av)(cs:Ak)(l:Nat):vs=[.ref p,.int l]->H p=ap (cs.map V.int)->cs.length<=1000->l<=100->(∀t H',H t=none->H' t=am ((cs.map λc=>bt c l).map V.int)->ZK H H'->Q (.ref t) H')->zw
theorem VO:bL T.dg P w wn 1 (bX zw):=by
 refine T.dg.go Vp ?_;rintro F A xz s H _ Q E O ⟨p,cs,l,rfl,B,J,G,k⟩;refine⟨_,(Zf (Zq (ZR Z4 (by rfl) T.af ZY (Zg (Yy ({}:Ye (Zh jC) _ ["columns","letter"] "column" ["letter"] [1]) (Xs (qv 0)) (λ_ _ _ _=>YZ) (λ_ _ _ _=>(Zl Wu (Zl vk (qv 0) (qv 1)) Ze))) Zb)))),?_⟩;refine⟨_,U,p,U,⟨_,aF.of B⟩,dN (fI λc=>V.int (bt c l)) (aF.of B) (by rw[aI];exact a8 (Zw Vc)) (λv D R hR=>?_) (λq I=>?_)⟩
 .obtain⟨c,_,rfl⟩:=bG.mp D;refine⟨_,U,_,U,_,_,U,U,pP l,_,_,U,U,?_⟩;have e:fI (λc=>V.int (bt c l)) (V.int c)=V.int (Builtin.bitAnd (c/2^(l:Int).toNat) 1):=by
   rw[iS];rfl
  rw[e]at hR;exact hR
 .refine⟨q,_,U,.inl ⟨aF.of Za,λt C=>?_⟩⟩;have g:=Zd (o:=.lst ((cs.map V.int).map (fI λc=>V.int (bt c l)))) I;refine k t _ (g.free C) ?_ (g.trans (Zd C));rw[Za,cR,cR];rfl
inductive Gw:Prop
 |mk(m1 m2 c:Av)(nm1 nm2:Ai)(b1 b2:Nat)(nx1 nx2:Ad)(ot1 ot2:Ay)(i j:Nat):vs=[.ref m1,.ref m2,.ref c]->M4 H m1 nm1 b1 nx1 ot1->M4 H m2 nm2 b2 nx2 ot2->H c=am [.int i,.int j]->i<nx1.length->j<nx2.length->(∀l zs H',H l=none->ZK H H'->H' l=ap zs->cS H' (vK (nx1.getD i []) (nx2.getD j [])) zs->Q (.ref l) H')->Gw
theorem xi:bL T.bf P w wn 1 (bX Gw):=by
 refine T.bf.go wG ?_;rintro J A xz s H _ Q E hr ⟨m1,m2,c,nm1,nm2,b1,b2,nx1,nx2,ot1,ot2,i,j,rfl,M1,M2,D,hi,O,k⟩;refine⟨_,(Zf (Zq (Zd8 (b1:=true) (b2:=true) U T.ip U T.Oh U (Zg (Zp Zr (Zp Zr (qv 0) Ze) (Zp Zr (qv 2) Ze)) (Zg (Zp Zr (Zp Zr (qv 1) Ze) (Zp Zr (qv 2) Ze)) Zb))))),?_⟩;refine ω M1.ex (ε3 λI g Y=>θ3 λh1 _ R1 _=>?_);refine ω M2.ex (ε3 λG q po2=>θ3 λh2 _ R2 _=>?_);refine ω (YN R1 (i:=i) (by rw[aI];exact hi)) (ε2 λZ a1=>θ2 λg1 g2 C=>?_);refine ω (YN R2 (i:=j) (by rw[aI];exact O)) (ε2 λas2 a2=>θ2 λf1 F B=>?_);rw[XT]at C B;exact⟨_,U,m1,_,2,_,U,U,aD.of h1,U,_,U,c,_,0,_,U,U,aD.of D,U,g,_,_,_,U,U,aD.of g1,g2,_,U,m2,_,2,_,U,U,aD.of h2,U,_,U,c,_,1,_,U,U,aD.of D,U,q,_,_,_,U,U,aD.of f1,F,a1,a2,_,_,U,bV.t C,bV.t B,λl zs H' hl s t hz=>k l zs H' hl s hz (Za7 t)⟩
inductive xj:Prop
 |mk(m1 m2 c:Av)(nm1 nm2:Ai)(b1 b2:Nat)(nx1 nx2:Ad)(ot1 ot2:Ay)(i j:Nat)(tr:Bool):vs=[.ref m1,.ref m2,.ref c]->M4 H m1 nm1 b1 nx1 ot1->M4 H m2 nm2 b2 nx2 ot2->H c=am [.int i,.int j]->i<ot1.length->j<ot2.length->(ot1.getD i []).length=(ot2.getD j []).length->(ot1.getD i []).length<=1000->(∀v∈ot1.getD i [],YE tr v)->(∀v∈ot2.getD j [],YE tr v)->(∀l H',H l=none->ZK H H'->H' l=ap ((((ot1.getD i []).zip (ot2.getD j [])).map λq=>!decide (q.1=q.2)).map V.bl)->Q (.ref l) H')->xj
theorem y9:bL T.bx P w wn 1 (bX xj):=by
 refine T.bx.go Zbp ?_;rintro cdv A xz s H _ Q E hr ⟨m1,m2,c,nm1,nm2,b1,b2,nx1,nx2,ot1,ot2,i,j,tr,rfl,M1,M2,O,hi,hj,G,hle,k1,k2,k⟩;refine⟨_,(Zf (Zq (Yy ({}:Ye (Zh xP) _ ["one","other","pair"] "bits" [] []) (FI (b1:=true) (b2:=true) U T.ip (Zg (Zp Zr (Zp Zr (qv 0) Ze) (Zp Zr (qv 2) Ze)) (Zg (Zp Zr (Zp Zr (qv 1) Ze) (Zp Zr (qv 2) Ze)) Zb))) (λ_ _ _ _=>YZ) (λ_ _ _ _=>(Xr CZ (Zp (show d5 _ (wR K)from Zr) (qv 0) Ze) (Zp (show d5 _ (wR K)from Zr) (qv 0) Ze) (ZS _)))))),?_⟩;refine ω M1.ex (ε3 λpn1 ps1 C=>θ3 λh1 _ _ R1=>?_);refine ω M2.ex (ε3 λpn2 ps2 D=>θ3 λh2 _ _ R2=>?_);refine ω (YN R1 hi) (ε2 λas1 a1=>θ2 λg1 g2 J=>?_);refine ω (YN R2 hj) (ε2 λas2 a2=>θ2 λf1 Z I=>?_);generalize ot1.getD i []=o1 at *;generalize ot2.getD j []=B at *;refine⟨_,U,m1,_,3,_,U,U,aD.of h1,U,_,U,c,_,0,_,U,U,aD.of O,U,C,_,_,_,U,U,aD.of g1,g2,_,U,m2,_,3,_,U,U,aD.of h2,U,_,U,c,_,1,_,U,U,aD.of O,U,D,_,_,_,U,U,aD.of f1,Z,a1,a2,_,_,U,bV.t J,bV.t I,?_⟩;refine Vs (xs:=o1) (ys:=B) (λn zs H'=>n<=(o1.zip B).length/\zs=(((o1.zip B).take n).map λq=>!decide (q.1=q.2)).map V.bl/\ZK H H') ⟨cD _,U,ZK.refl H⟩ (λn zs H' ⟨hn,hz,_⟩=>?_) (λn zs H' ⟨_,_,s⟩=>⟨bV.t (s _ _ J),bV.t (s _ _ I)⟩) (λn x y p zs H' R hR Y F ⟨hn,hz,s⟩ g=>?_) (λzs H' ⟨_,hz,s⟩ p g=>?_)
 .rw[hz,aI,aI,cE,mI];exact a8 (Zw Vd)
 .refine Cu ⟨_,U,p,_,0,_,U,U,aD.of Za,U,_,U,p,_,1,_,U,U,aD.of Za,U,yk (k1 _ (bP Y)) (k2 _ (bP F)),hR _ _ ⟨?_,?_,s.trans (Zd g)⟩⟩
  .grind
  .rw[hz,aB (Ca Y F),dC,dC];rfl
 .rw[dI]at hz;subst hz;exact k p _ (s.free g) (s.trans (Zd g)) Za
inductive Xi:Prop
 |mk(m:Av)(nm:Ai)(nx:Ad)(ot:Ay)(n:Nat)(kk:Nat->Nat):vs=[.ref m]->M4 H m nm 0 nx ot->bD nx ot n->nD nx kk->nx.length<=1000000->(∀r∈ot,∀x∈r,∃t,x=.bl t)->((∀(ls:Aj)(c:Nat),(∀x∈ls++[c],x<2^n)->mB ot (.bl true) (cJ nx 0 ls) c=false)->∀H',ZK H H'->Q .aX H')->(∀(w:Nat) H',1<=w->w<=nx.length->(∃(ls:Aj)(c:Nat),ls.length+1=w/\(∀x∈ls++[c],x<2^n)/\mB ot (.bl true) (cJ nx 0 ls) c=true)->(∀(ls:Aj)(c:Nat),(∀x∈ls++[c],x<2^n)->mB ot (.bl true) (cJ nx 0 ls) c=true->w<=ls.length+1)->ZK H H'->Q (.int w) H')->Xi
theorem J8:bL T.bp P w wn 1 (bX Xi):=by
 refine T.bp.go Yf ?_;rintro cdv A xz s H _ Q E hr ⟨m,nm,nx,ot,n,kk,rfl,M,R,G,hN,hbl,kN,kS⟩;have hu:=x6 hr;refine⟨_,(Zc (ZA 1 Yf.nd (La (kE (Zp Zr (qv 0) Ze) Ze Kc) U U nofun Vb))
   (Zc (YG dG U (ku U T.du (Zp Zr (qv 0) Ze)) (ql U (YV 2 Yf.nd) (YV 3 Yf.nd))
   (Zc (Yc (Zu Y3 YM (qv 3) Vg)
   (Zf (Zq (kx hu (qv 1) (qv 2) (λ_ _=>U)))) Z3)
   (Zf (YG dG U (Xf (Zp Zr (Zp Zr (qv 0) Ze) (qv 2))) (YV 4 Yf.nd)
   (Zf (Ya (Yo PySem.F.plainAttrs_dict PySem.F.slot_dict_setdefault PySem.F.type_dict_setdefault VS (qv 1) (Zg (qv 4) (Zg (Zl Xd (kx hu (qv 1) (qv 2) (λ_ _=>U)) Ze) Zb)))))))))
   (Zf (Zq Hj)))),?_⟩
 try dsimp only[L2.iN,L2.c8]
 refine ω M.ex (ε3 λpn ps po=>θ3 λh1 hpn Rs Ro=>?_);refineλd hd=>?_;have sd:=Zd (o:=.dK []) hd;refine⟨_,U,m,_,1,_,U,U,aD.of (sd _ _ h1),U,Za,[(.inl (0:Int),.int 1)],U,by show 1<=15;decide,Zi ?_⟩;rw[vW];have s1:=Zd (o:=.dK (JC [] [((.inl (0:Int):aV),V.int 1)])) hd;have hd1:aC H d (.dK (JC [] [((.inl (0:Int):aV),V.int 1)])) d=some (.dK (lQ (bH kk 0))):=Za;generalize aC H d (.dK (JC [] [((.inl (0:Int):aV),V.int 1)]))=H1 at *;revert Ro;refine ε1 λas=>θ2 λha hal hat=>?_;have hol:=R.ol;have okr:∀i c,i<nx.length->c<2^n->(mB ot (.bl true) i c=true↔(ot.getD i [])[c]?=some (.bl true)):=λi c hi O=>by
  have l1:=R.or _ (aA (show i<ot.length by lia));rw[aU (d:=V.aX) (show c<(ot.getD i []).length by lia)];unfold mB;rw[lN];exact⟨λz=>by rw[z],λz=>Option.some.inj z⟩
 refine⟨_,U,m,_,3,_,U,U,aD.of (s1 _ _ h1),U,po,as,U,aD.of (s1 _ _ ha),zT (K:=K) (a:=po) (xs:=as) (j:=2) (k:=3) (λi σ H'=>∃(u2 u3 I:Option V),σ=[ac m,ac d,u2,u3,I]/\i<=nx.length/\H' d=some (.dK (lQ (bH kk i)))/\(∀j,j<i->∀c,c<2^n->mB ot (.bl true) j c=false)/\ZK H H') ⟨none,none,none,U,cD _,hd1,(λj hj=>absurd hj (nP _)),s1⟩ (λi σ H' _=>ε3 λ_ _ _=>θ4 λ_ _ _ _ s2=>aD.of (s2 _ _ ha)) ?_ ?_⟩
 .refine λi x σ H2 t Z ht=>ε3 λu2 u3 I=>θ4 λzq0 hi J B s2=>?_;subst zq0;have g:i<nx.length:=by have:=(bM.mp Z).1;lia
  obtain⟨x0,hx0,hrow⟩:=hat i (ot.getD i []) (Hq Vc);rw[Z]at hx0;cases hx0;have st:=Zd (o:=.tup [.int i,.ref x0]) ht;have s3:=s2.trans st;have hd3:=st _ _ J;have htd:t≠d:=(Zo J ht).symm;generalize aC H2 t (.tup [.int i,.ref x0])=H3 at *;have lor:=R.or _ (aA (show i<ot.length by lia));obtain⟨bs,C⟩:∃bs:List Bool,ot.getD i []=bs.map V.bl:=by
   have go:∀l:A1,(∀x∈l,∃t,x=.bl t)->∃bs:List Bool,l=bs.map V.bl:=by
    intro l
    induction l with
    |nil=>exactλ_=>⟨[],U⟩
    |cons x l ih=>
     intro h;obtain⟨b,rfl⟩:=h x bN;obtain⟨bs,rfl⟩:=ih λy q=>h y (cA _ q);exact⟨b::bs,U⟩
   exact go _ (hbl _ (aA Vc))
  have lD:=zb G i (a8 g);have gi:=G.go i g;have vi:Y0 (lQ (bH kk i)) (.inl (i:Int))=ad (((bH kk i).getD i 0:Nat):Int):=by rw[yo,aN Vc]
  refine⟨_,U,x0,ot.getD i [],U,.inr (aD.of (s3 _ _ hrow)),U,by rw[C];exact i7.mpr (λx Z=>by obtain⟨b,_,rfl⟩:=bG.mp Z;rfl),_,U,?_⟩;show if cG (.bl true) (ot.getD i [])=true then _ else _;rw[C,QN];refine G5 (λhb=>?_) (λhb=>?_)
  .obtain⟨c,O⟩:=oH (dJ hb);have hc2:(ot.getD i [])[c]?=some (.bl true):=by rw[C,aY,O];rfl
   have Y:c<2^n:=by have:=(bM.mp hc2).1;lia
   obtain⟨w1,⟨ls,w2,w3,w4⟩,w5⟩:=Zbk G R.nr (ok:=mB ot (.bl true)) g Y ((okr i c g Y).mpr hc2) B;refine⟨_,U,_,U,d,_,U,.inl ⟨_,.inl (i:Int),.inl hd3,U,vi.symm⟩,kS _ H3 w1 (by have:=NJ G i (a8 g) i;lia) ⟨ls,c,w2,λy q=>?_,w4⟩ (λls' c' h1 h2=>w5 ls' c' (λy q=>h1 y (iQ _ q)) (h1 c' (dW _ (b9.mpr U))) h2) s3⟩;rcases dH.mp q with z|z
   .exact w3 y z
   .rw[b9.mp z];exact Y
  .have hnr:∀c,c<2^n->mB ot (.bl true) i c=false:=λc O=>by
    cases hm:mB ot (.bl true) i c with
    |false=>rfl
    |true=>
     have h2:=(okr i c g O).mp hm;rw[C,aY]at h2;obtain⟨b',h3,h4⟩:=eG.mp h2;cases h4;exact absurd (bC (bP h3)) hb
   refine ω (YN Rs (i:=i) (by rw[aI];exact g)) (ε2 λas1 a1=>θ2 λr1 r2 r3=>?_);rw[XT]at r3;have lnr:=R.nr _ (aA g);refine⟨_,U,m,_,2,_,U,U,aD.of (s3 _ _ h1),U,_,U,ps,_,_,_,U,U,aD.of (s3 _ _ r1),r2,a1,U,⟨_,aD.of (s3 _ _ r3)⟩,JQ (K:=K) (a:=a1) (xs:=JE (nx.getD i [])) (λj σ H'=>∃(I:Option V)(k:Nat),σ=[ac m,ac d,ad i,ac x0,I]/\((nx.getD i []).take j).foldl Y1 (List.range (kk i))=List.range k/\kk i<=k/\k<=nx.length/\H' d=some (.dK (lQ (bH kk i++List.replicate (k-kk i) ((bH kk i).getD i 0+1))))/\ZK H H') ⟨_,kk i,U,U,aM _,G.le i (a8 g),by rw[nB,List.replicate_zero,d9];exact hd3,s3⟩ (λj σ H' _=>ε2 λ_ _=>θ5 λ_ _ _ _ _ s=>aD.of (s _ _ r3)) ?_ ?_⟩
   .refine λj y σ H4 q=>ε2 λI k=>θ5 λzq0 f1 f2 f3 D s4=>?_;subst zq0;unfold JE at q;rw[aY]at q;obtain⟨tt,htt,rfl⟩:=eG.mp q;generalize hws:bH kk i++List.replicate (k-kk i) ((bH kk i).getD i 0+1)=ws at *;have wl:ws.length=k:=by rw[<-hws,aZ,eZ,lD];lia
    have wi:ws.getD i 0=(bH kk i).getD i 0:=by rw[<-hws,cF,eH Vc,cF]
    have vi4:Y0 (lQ ws) (.inl (i:Int))=ad (((bH kk i).getD i 0:Nat):Int):=by rw[yo,aN Vc,wi]
    refine Zi ⟨_,U,.inr (.inr (.inl ⟨U,.inl ⟨_,D⟩⟩)),_,U,_,U,_,U,d,_,U,.inl ⟨_,.inl (i:Int),.inl D,U,vi4.symm⟩,_,_,U,U,d,.inl (tt:Int),_,_,U,U,D,by rw[Zqe,wl];exact Yz Vc,?_,?_⟩
    .intro y q;rw[yo]at q;rcases G.more g htt f1 with⟨q1,q2⟩|⟨q1,q2⟩
     .exact⟨_,k,U,q2,f2,f3,by rw[hws];exact D,s4⟩
     .rw[aL Vc]at q;cases q
    .intro q;rw[yo]at q;rcases G.more g htt f1 with⟨q1,q2⟩|⟨q1,q2⟩
     .rw[aN Vc]at q;cases q
     .obtain⟨k',e1,e2,e3⟩:=G.part g (j+1);have ek:k'=k+1:=by
       rw[q2]at e1;have:=congrArg List.length e1;rw[dS,dS]at this;exact this.symm
      have:=G.le (i+1) g;refine⟨_,k+1,U,q2,(by simp_all),Vc,?_,Yp s4 hd⟩;rw[Za,q1,<-wl];show some (HO.dK (bB (lQ ws) (.inl (ws.length:Int)) (.int (((bH kk i).getD i 0:Int)+1))))=_;rw[show(((bH kk i).getD i 0:Nat):Int)+1=(((bH kk i).getD i 0+1:Nat):Int)from U,Sa,wl,<-hws,lW,show k+1-kk i=(k-kk i)+1 by grind,K4]
   .refine λσ H4=>ε2 λI k=>θ5 λzq0 f1 f2 f3 D s4=>?_;subst zq0;rw[show(JE (nx.getD i [])).length=(nx.getD i []).length from aI _,dI,G.step g]at f1;have ek:kk (i+1)=k:=by
     have:=congrArg List.length f1;rw[dS,dS]at this;exact this
    refine⟨_,_,_,U,g,by rw[<-ek]at D;exact D,λj hj c O=>?_,s4⟩
    by_cases e:j=i
    .rw[e];exact hnr c O
    .exact B j Vc c O
 .refine λσ H2=>ε3 λu2 u3 I=>θ4 λzq0 hi J B s2=>?_;subst zq0;rw[hal,hol]at B;refine kN (λls c h=>?_) H2 s2;exact B _ (ym R R.pos λx Z=>h x (iQ _ Z)) c (h c (dW _ (b9.mpr U)))
inductive xk:Prop
 |mk(Kk:Type)(dq:DecidableEq Kk)(kn:KN Kk)(a:Av)(as:List Av)(ks:List Kk):vs=[.ref a]->H a=ap (as.map V.ref)\/H a=am (as.map V.ref)->as.length=ks.length->(∀(i:Nat)(b:Av)(k:Kk),as[i]?=some b->ks[i]?=some k->kn.at_ H k b)->ks.length<=1000000->(∀p H',H p=none->H' p=ap ((ks.map λk=>((ZW ks).idxOf k:Int)).map V.int)->ZK H H'->Q (.ref p) H')->xk
theorem Se:bL T.eu P w wn 1 (bX xk):=by
 refine T.eu.go yy ?_;rintro cdv A xz s H _ Q E hr ⟨Kk,_,kn,a,as,ks,rfl,C,hl,Y,hz,k⟩;refine⟨_,(Zc (ZA 1 yy.nd jv)
   (Zf (Zq (Yy ({}:Ye (Zh xQ) _ ["marks","numbers"] "mark" ["numbers"] [1]) (Zoz (qv 0)) (λ_ _ _ _=>YZ) (λ_ _ _ _=>(Zow (gJ hr) (qv 1) (Zg (qv 0) (Zg (Zs V1 (by rfl) T.ag Yn (Zg (qv 1) Zb)) Zb)))))))),?_⟩
 refineλd hd=>?_;have G:=Zd (o:=.dK []) hd;refine Zi ?_;have n0:zm kn (aC H d (.dK [])) d (Wt (ZW (ks.take 0))):=⟨iW,(show 0<sizeLine by decide),.inl ⟨U,Za⟩⟩;have step:∀(i:Nat)(b:Av)(kk:Kk)(H1:Hp)(R:VK),as[i]?=some b->ks[i]?=some kk->zm kn H1 d (Wt (ZW (ks.take i)))->(∀b o,H b=some o->H1 b=some o)->(∀H2,zm kn H2 d (Wt (ZW (ks.take (i+1))))->(∀b o,H b=some o->H2 b=some o)->R (V.int ((ZW ks).idxOf kk:Int)) H2)->EK (yG 1) (qg (yG 0) (qg (CJ Oz (qg (yG 1) nL)) nL)) (xx [1] [ac a,ac d] (ac b)) H1 R:=by
  intro i b kk H1 R q g I o1 hR;have e1:ZW (ks.take (i+1))=Y1 (ZW (ks.take i)) kk:=by rw[aB g,v9]
  obtain⟨r,er⟩:=vA ks (i+1);refine⟨_,U,⟨Kk,_,kn,d,_,U,I⟩,_,U,_,U,Kk,_,kn,d,_,U,I,Kk,_,kn,d,b,kk,_,_,U,U,I,kn.keep _ _ _ _ (λb xs e=>o1 b _ e) (Y i b kk q g),?_,λy F=>?_,λZ H' n' o' _=>?_⟩
  .rw[Gb];exact Yz (by have:=Q1 (ks.take i);rw[cE]at this;lia)
  .by_cases B:kk∈ZW (ks.take i)
   .rw[Gd _ _ B (Wn _)]at F;cases F;have e2:ZW (ks.take (i+1))=ZW (ks.take i):=by rw[e1];exact aN B
    have:=hR H1 (by rw[e2];exact I) o1;rw[er,e2,kI B]at this;exact this
   .rw[xM _ _ B]at F;cases F
  .have B:kk∉ZW (ks.take i):=λz=>by
    rw[Gd _ _ z (Wn _)]at Z;cases Z
   have e2:ZW (ks.take (i+1))=ZW (ks.take i)++[kk]:=by rw[e1];exact aL B
   have:=hR H' (by rw[e2,xK];rw[Gb]at n';exact n') (λc o e=>o' c o (o1 c o e) (Zo e hd));rw[er,e2,kI Ve,List.idxOf_append,aL B,List.idxOf_cons_self,CD]at this;rw[Gb];exact this
 have fin:∀(zs:A1)(H1:Hp),zs=(ks.take as.length).map (λk=>V.int ((ZW ks).idxOf k:Int))->(∀b o,H b=some o->H1 b=some o)->∀p,H1 p=none->Q (.ref p) (aC H1 p (.lst zs)):=by
  intro zs H1 ez o1 p hp;have s2:ZK H H1:=o1;refine k p _ (s2.free hp) ?_ (s2.trans (Zd hp));rw[Za,ez,hl,dI,cR];rfl
 have zl:∀i,((ks.take i).map (λk=>V.int ((ZW ks).idxOf k:Int))).length<=sizeLine:=λi=>by
  rw[aI,cE];exact a8 (Yz Vc)
 have item:∀(i:Nat)(x:V),(as.map V.ref)[i]?=some x->∃b kk,x=.ref b/\as[i]?=some b/\ks[i]?=some kk:=λi x D=>by
  rw[aY]at D;obtain⟨b,q,rfl⟩:=eG.mp D;have hi:=(bM.mp q).1;exact⟨b,ks[i]' Vc,U,q,aR Vc⟩
 rcases C with C|C
 .refine⟨a,U,.inl ⟨⟨_,aF.of (G _ _ C)⟩,XR (K:=K) (a:=a) (xs:=as.map V.ref) (λi zs H'=>zs=(ks.take i).map _/\zm kn H' d (Wt (ZW (ks.take i)))/\∀b o,H b=some o->H' b=some o) ⟨U,n0,G⟩ (λi zs H' h=>by rw[h.1];exact zl i) (λi zs H' h=>aF.of (h.2.2 _ _ C)) (λi x zs H1 R hR D h=>?_) (λzs H1 h=>?_)⟩⟩
  .obtain⟨b,kk,rfl,q,g⟩:=item i x D;refine step i b kk H1 _ q g h.2.1 h.2.2 λH2 O J=>hR _ _ ⟨?_,O,J⟩;rw[h.1,aB g,dC]
   rfl
  .rw[aI]at h;exact fin zs H1 h.1 h.2.2
 .refine⟨a,U,.inr ⟨⟨_,aD.of (G _ _ C)⟩,Wv (K:=K) (a:=a) (xs:=as.map V.ref) (λi zs H'=>zs=(ks.take i).map _/\zm kn H' d (Wt (ZW (ks.take i)))/\∀b o,H b=some o->H' b=some o) ⟨U,n0,G⟩ (λi zs H' h=>by rw[h.1];exact zl i) (λi zs H' h=>aD.of (h.2.2 _ _ C)) (λi x zs H1 R hR D h=>?_) (λzs H1 h=>?_)⟩⟩
  .obtain⟨b,kk,rfl,q,g⟩:=item i x D;refine step i b kk H1 _ q g h.2.1 h.2.2 λH2 O J=>hR _ _ ⟨?_,O,J⟩;rw[h.1,aB g,dC]
   rfl
  .rw[aI]at h;exact fin zs H1 h.1 h.2.2
inductive Gx:Prop
 |mk(a b:Av)(ss:Aj)(cs:Ak):vs=[.ref a,.ref b]->H a=am (ss.map λs:Nat=>V.int s)->H b=ap (cs.map V.int)->(∀s∈ss,s<cs.length)->ss.length<=1000000->cs.length<=1000000->(∀p H',H p=none->H' p=am ((ss.map λs=>cs.getD s 0).map V.int)->ZK H H'->Q (.ref p) H')->Gx
theorem xl:bL T.cz P w wn 1 (bX Gx):=by
 refine T.cz.go wH ?_;rintro I A xz s H _ Q E hr ⟨a,b,Y,cs,rfl,F,J,O,Z,hc,k⟩;refine⟨_,(Zf (Zq (ZR Z4 (by rfl) T.af ZY (Zg (Yy (⟨by rfl,Ve,Vd,by rfl,Va,Va,by rfl,Va⟩:Ye (Zh Gi) _ ["states","classes"] "state" ["classes"] [1]) (Xf (qv 0)) (λ_ _ _ _=>YZ) (λ_ _ _ _=>(Zp (show d5 _ (CL K)from Z5) (qv 1) (qv 0)))) Zb)))),⟨_,U,a,U,⟨_,aD.of F⟩,qD (fI λz=>V.int (cs.getD z.toNat 0)) (aD.of F) (by rw[aI];exact a8 (Yz Vc)) (λv G R hR=>?_) (λl q=>?_)⟩⟩
 .obtain⟨s,B,rfl⟩:=bG.mp G;have g:=O s B;exact⟨_,U,_,U,b,_,_,_,U,U,aF.of J,Yu (by rw[aY,aR g];rfl),by
   have e:fI (λz=>V.int (cs.getD z.toNat 0)) (V.int s)=V.int cs[s]:=by
    show V.int _=_;rw[dr,cF,aR g];rfl
   rw[e]at hR;exact hR⟩
 .refine⟨l,_,U,.inl ⟨aF.of Za,λp D=>?_⟩⟩;have C:=(Zd (o:=.lst ((Y.map λs:Nat=>V.int s).map (fI λz=>V.int (cs.getD z.toNat 0)))) q);refine k p _ (C.free D) ?_ (C.trans (Zd D));rw[Za,cR,cR];rfl
inductive GX:Prop
 |mk(a:Av)(cs:Ak):vs=[.ref a]->H a=ap (cs.map V.int)->cs.length<=1000000->(∀p H',H p=none->H' p=ap ((yh cs 0 []).map λi:Nat=>V.int i)->ZK H H'->Q (.ref p) H')->GX
theorem uM:bL T.gb P w wn 1 (bX GX):=by
 refine T.gb.go WD ?_;rintro cdv A xz s H _ Q E hr ⟨a,cs,rfl,ha,hl,k⟩;refine⟨_,(Zc (ZA 1 WD.nd (YS Zb))
   (Zc (YG dG U (Sd U T.du (qv 0)) (ql U (YV 2 WD.nd) (YV 3 WD.nd))
   (Zf (Yc (Zu Xq (qv 3) (Zs Zx (by rfl) T.ag Yn (Zg (qv 1) Zb)) (ZS _))
   (Zf (Ya (Yo c9 dE dD ZH (qv 1) (Zg (qv 2) Zb)))) Z3)))
   (Zf (Zq (qv 1))))),(L2.pI ?_)⟩
 intro U2 U1;refine⟨Vb,λp O=>?_⟩;have Z:=Zd (o:=.lst []) O;refine Zi ?_;refine⟨_,U,a,_,U,aF.of (Z _ _ ha),zT (λi σ H'=>∃(acc:Aj)(J I:Option V),σ=[some _,some _,J,I]/\H' p=ap (acc.map λi:Nat=>V.int i)/\yh cs 0 []=yh (cs.drop i) i acc/\acc.length<=i/\i<=cs.length/\ZK H H') ⟨[],none,none,U,Za,U,aM _,cD _,Z⟩ (λi σ H' _=>ε3 λ_ _ _=>θ5 λ_ _ _ _ _ s=>aF.of (s _ _ ha)) ?_ ?_⟩
 .refine λi x σ H1 q hx hq=>ε3 λacc J I=>θ5 λzq0 D F Y hi G=>?_;subst zq0;rw[aY]at hx;obtain⟨c,hc,rfl⟩:=eG.mp hx;have C:=(bM.mp hc).1;have sq:=Zd (o:=.tup [.int i,.int c]) hq;have B:=sq _ _ D;have g:yh cs 0 []=yh (cs.drop (i+1)) (i+1) (if c=acc.length then acc++[i]else acc):=by
   rw[F,rE C,(bM.mp hc).2];rfl
  refine⟨_,U,_,U,p,_,U,.inl (aF.of B),U,_,U,?_⟩;rw[aI]
  by_cases h:c=acc.length
  .rw[aN h]at g;rw[bC (by rw[h])];refine Xe ⟨_,U,.inl ⟨U,_,aF.of B⟩,_,U,p,_,_,U,U,B,by rw[aI];exact Yz Vc,_,_,_,U,?_,g,Vd,C,Yp (G.trans sq) O⟩;rw[Za,dC];rfl
  .rw[aL h]at g;rw[bO (λz=>h (by injection z))];exact YJ ⟨acc,_,_,U,B,g,Vc,C,G.trans sq⟩
 .refine λσ H1=>ε3 λacc J I=>θ5 λzq0 D F Y hi G=>?_;subst zq0;rw[aI,t6]at F;exact⟨_,U,k p H1 O (by rw[D,F];rfl) G⟩
inductive GY:Prop
 |mk(a:Int):vs=[.int a]->Q (.bl true) H->GY
theorem uN:bL T.dt P w wn 1 (bX GY):=by
 refine T.dt.go uJ ?_;rintro g A xz s H _ Q E q ⟨a,rfl,k⟩;refine⟨_,(Zf (Zq (gm (Zs XJ (by rfl) T.ai Yj (Zg (qv 0) (Zg (WQ (v:=.ty "int") (by rfl) T.oh Ke U) Zb))) (gk (Q2 (Zs XJ (by rfl) T.ai Yj (Zg (qv 0) (Zg (WQ (v:=.ty "bool") (by rfl) T.Q9 Nz U) Zb)))))))),?_⟩;exact⟨_,U,_,_,_,_,U,.int a,qj,true,U,Xe ⟨_,U,_,_,_,_,U,.int a,zg,false,U,k⟩⟩
inductive JI(K:Af):Prop
 |mk(a:Av)(ns:Ak)(j:Nat):vs=[.ref a,.int j]->aF K H a (ns.map V.int)->(∀v:Int,Q (.int v) H)->JI K
def yZ(K:Af):Sp:=λvs H Q _=>JI vs H Q K
theorem va:bL T.av P w wn 1 (yZ K):=by
 refine T.av.go yS ?_;rintro q A xz s H _ Q E C ⟨a,ns,j,rfl,g,k⟩;refine⟨_,(Zc (Yc (Zu yH (qv 1) (Zs Zx (by rfl) T.ag Yn (Zg (qv 0) Zb)) (ZS _))
   (Zf (Zq (Zp Z5 (qv 0) (qv 1)))) Z3)
   (Zf (Zq Ze))),?_⟩
 refine⟨_,U,_,U,a,_,U,.inl g,_,_,U,U,_,U,G5 (λh=>?_) (λh=>?_)⟩
 .have B:j<ns.length:=by
   simp_all
  exact⟨_,U,_,U,a,_,_,_,U,U,g,Yu (by rw[aY,aR B];rfl),k _⟩
 .exact k 0
inductive JJ:Prop
 |mk(cell:Int)(many most:Nat):vs=[.int cell,.int many,.int most]->many<=1000->1<=most->most<=1000003->(∀p (ns:Ak) H',H p=none->H' p=ap (ns.map V.int)->ns.length=many->(∀x∈ns,0<=x/\x<(most:Int))->ZK H H'->Q (.ref p) H')->JJ
theorem GZ:bL T.cm P w wn 1 (bX JJ):=by
 refine T.cm.go Yb ?_;rintro cdv A xz s H _ Q E hr ⟨G,g,q,rfl,Z,hm1,hm2,k⟩;refine⟨_,(Zc (ZA 3 Yb.nd (YS Zb))
   (Zc (ZA 4 Yb.nd (Zs QP (by rfl) T.Qk Q6 (Zg (qv 0) Zb)))
   (Zc (Yc (Zu Kv (qv 4) (Zl N2 Ze Ze) (ZS _))
   (Zc (ZA 4 Yb.nd (Zl ji (qv 4) (Zl N2 Ze Ze)))
   (Zc (YG dG U (XQ U T.aw (Zg (qv 1) Zb)) (YV 5 Yb.nd)
   (Zc (Ya (Yo c9 dE dD ZH (qv 3) (Zg (Zl Yl (qv 4) (qv 2)) Zb)))
   (Zf (ZA 4 Yb.nd (Zl XI (qv 4) (qv 2))))))
   (Zf (Zq (qv 3))))) Z3)
   (Zc (ZA 6 Yb.nd (Zl Yl (Zl Xd (Zl qi (qv 0) Ze) Ze) Ze))
   (Zc (ZA 7 Yb.nd (Zl Yl (Zl Xd (Zl qi (qv 0) Ze) Ze) Ze))
   (Zc (YG dG U (XQ U T.aw (Zg (qv 1) Zb)) (YV 5 Yb.nd)
   (Zc (ZA 6 Yb.nd (Zl Yl (Zl Xd (Zl Xd (Zl qi (qv 6) Ze) (qv 7)) (qv 5)) Ze))
   (Zc (ZA 7 Yb.nd (Zl Yl (Zl Xd (Zl qi (qv 7) (qv 7)) (qv 6)) Ze))
   (Zf (Ya (Yo c9 dE dD ZH (qv 3) (Zg (Zl Yl (Zl XI (Zl Xd (qv 6) (qv 7)) Ze) (qv 2)) Zb)))))))
   (Zf (Zq (qv 3))))))))),?_⟩
 refine⟨Vb,λp Y=>?_⟩;refine⟨_,U,_,U,?_⟩;refine⟨_,U,_,_,U,U,⟨Vb,Vb,Vb⟩,_,_,U,U,_,U,G5 (λ_=>?_) (λ_=>?_)⟩
 .refine⟨_,U,_,_,U,U,⟨Vb,Vb,Vb⟩,_,_,U,U,?_⟩;refine⟨_,U,(g:Int),U,Vc,Vc,qz (λi σ H2=>∃(r:Int)(u:Option V)(ns:Ak),σ=[ad G,ad g,ad q,ac p,ad r,u,none,none]/\H2 p=ap (ns.map V.int)/\ns.length=i/\(∀x∈ns,0<=x/\x<(q:Int))/\ZK H H2/\i<=g) ⟨_,none,[],U,Za,U,(λ_ h=>nomatch h),Zd Y,cD _⟩ ?_ ?_⟩
  .refine λi σ H2 hi=>ε3 λr u ns=>θ5 λzq0 h2 F O I J=>?_;subst zq0;refine⟨_,U,.inl ⟨U,_,aF.of h2⟩,_,U,_,U,_,_,U,U,Vc,p,_,_,U,U,h2,?_,?_⟩
   .rw[aI,F];exact Zw Vc
   .refine⟨_,U,_,U,_,_,U,U,.of Vc Vc,_,_,ns++[r%q],U,?_,?_,?_,?_,hi⟩
    .rw[Za,dC];rfl
    .rw[aZ,F];rfl
    .exact Qx O ⟨fF _ Vc,fY _ Vc⟩
    .exact Yp I Y
  .refine λσ H2=>ε3 λr u ns=>θ5 λzq0 h2 F O I J=>?_;subst zq0;exact⟨_,U,k p ns H2 Y h2 F O I⟩
 .refine⟨_,U,_,_,U,U,.inr (.inr ⟨Vb,Vb⟩),_,_,U,U,_,_,U,U,Vb,?_⟩;refine⟨_,U,_,_,U,U,.inr (.inr ⟨Vb,Vb⟩),_,_,U,U,_,_,U,U,Vb,?_⟩;refine⟨_,U,(g:Int),U,Vc,Vc,qz (λi σ H2=>∃(r one C:Int)(u:Option V)(ns:Ak),σ=[ad G,ad g,ad q,ac p,ad r,u,ad one,ad C]/\0<=one/\one<2147483629/\0<=C/\C<1000000007/\H2 p=ap (ns.map V.int)/\ns.length=i/\(∀x∈ns,0<=x/\x<(q:Int))/\ZK H H2/\i<=g) ⟨_,_,_,none,[],U,fF _ Vb,fY _ Vb,fF _ Vb,fY _ Vb,Za,U,(λ_ h=>nomatch h),Zd Y,cD _⟩ ?_ ?_⟩
  .refine λi σ H2 hi=>ε5 λr one C u ns=>θ6 λzq0 o0 o1 t0 t1 h2=>θ3 λF O I J=>?_;subst zq0;refine⟨_,U,_,_,U,U,.inr (.inr ⟨Vb,Vb⟩),_,U,_,_,U,U,_,U,_,_,U,U,_,_,U,U,Vb,?_⟩;generalize h1e:(one*69069+C+(0+(i:Int)))%2147483629=B;have p0:0<=B:=Vc
   have p1:B<2147483629:=Vc
   refine⟨_,U,_,U,_,_,U,U,.inr (.inl ⟨Vc,Vc⟩),_,U,_,_,U,U,_,_,U,U,Vb,?_⟩;generalize h2e:(C*C+B)%1000000007=D;have q0:0<=D:=Vc
   have q1:D<1000000007:=Vc
   refine⟨_,U,.inl ⟨U,_,aF.of h2⟩,_,U,_,U,_,_,U,U,_,_,U,U,.of Vb Vb,_,U,_,_,U,U,Vc,p,_,_,U,U,h2,?_,?_⟩
   .rw[aI,F];exact Zw Vc
   .refine⟨_,B,D,_,ns++[(B+D)/16%q],U,p0,p1,q0,q1,?_,?_,?_,?_,hi⟩
    .rw[Za,dC];rfl
    .rw[aZ,F];rfl
    .exact Qx O ⟨fF _ Vc,fY _ Vc⟩
    .exact Yp I Y
  .refine λσ H2=>ε5 λr one C u ns=>θ6 λzq0 o0 o1 t0 t1 h2=>θ3 λF O I J=>?_;subst zq0;exact⟨_,U,k p ns H2 Y h2 F O I⟩
inductive J9:Prop
 |mk(n:Int)(tn:Av)(ys:Ai):vs=[.int n,.ref tn]->0<=n->H tn=am (ys.map V.str)->ys.length<=1000->(∀p w H',H p=none->H' p=am [w]->gU ys w->ZK H H'->Q (.ref p) H')->J9
theorem UX:bL T.ic P w wn 1 (bX J9):=by
 refine T.ic.go V7 ?_;rintro F A xz s H _ Q E Z ⟨n,q,ys,rfl,J,B,Y,k⟩;refine⟨_,(Zc (Yc (x9 (vo (Zu yH (Zl Yl (qv 0) Ze) Ze (ZS _)) (x8 (Zu II (Zs Zx (by rfl) T.ag Yn (Zg (qv 1) Zb)) Ze (ZS _)))))
   (Zf (Zq (Zt (Zg (Zp Zr (qv 1) (Zl Yl (Zl XI (qv 0) Ze) (Zs Zx (by rfl) T.ag Yn (Zg (qv 1) Zb)))) Zb)))) Z3)
   (Zc (Yc (Zu Xq (Zl Yl (qv 0) Ze) Ze (ZS _))
   (Zf (Zq (Zt (Zg (Zl Yl (Zl XI (qv 0) Ze) Ze) Zb)))) Z3)
   (Zf (Zq (Zt (Zg (Zl Yl (Zl XI (qv 0) Ze) Ze) Zb)))))),?_⟩
 refine L2.pI ?_;intro U2 G;have fin:∀z:Int,0<=z->z<1000->∀p,H p=none->Q (.ref p) (aC H p (.tup [.int z])):=λz I h1 p g=>k p _ _ g Za (.inr ⟨z,U,I,h1⟩) (Zd g);have op:G {nx:=λ_ H'=>Q .aX H',rt:=Q} [ad n,ac q] H:=by
  refine⟨_,U,_,_,U,U,Vb,U,_,U,G5 (λ_=>?_) (λ_=>?_)⟩
  .refine⟨_,U,_,_,U,U,.of Vb Vb,_,_,U,U,Vb,vV,λp g=>?_⟩;exact fin _ (fF _ Vb) Vd p g
  .refine⟨_,U,_,_,U,U,.of Vb Vb,_,_,U,U,Vb,vV,λp g=>?_⟩;exact fin _ (fF _ Vb) (fY _ Vb) p g
 refine⟨_,U,_,_,U,U,Vb,_,_,U,U,_,U,G5 (λ_=>?_) (λ_=>?_)⟩
 .refine⟨_,U,q,_,U,.inr (aD.of B),_,_,U,U,_,U,G5 (λO=>?_) (λ_=>op)⟩;have hpos:0<ys.length:=by
   simp_all
  have g:(0:Int)<((ys.map V.str).length:Int):=(by simp_all)
  obtain⟨y,C,D⟩:=zY (ys:=ys) (i:=n/20%((ys.map V.str).length:Int)) (fF _ Vc) (by have:=fY (n/20) g;rw[aI]at this ⊢;exact this);exact⟨_,U,_,U,_,_,U,U,.of Vb Vb,_,U,q,_,U,.inr (aD.of B),_,_,U,U,g,q,_,_,_,U,U,aD.of B,D,vV,λp g=>k p _ _ g Za (.inl ⟨y,C,U⟩) (Zd g)⟩
 .exact YJ op
inductive xm:Prop
 |mk(n l:Int):vs=[.int n,.int l]->0<=n->(∀(y:Str) H',(y = "" \/ y∈GD)->(l=0->y∉qy)->ZK H H'->Q (.str y) H')->xm
def LQ:Ai:=["","","","","","","not","neg","twice","low","and","or","odd","add","sub"]
def Mk:Ai:=["add","sub","pick","pick","odd"]
def Dq:Ai:=["","","","","","","not","neg","twice","low","and","or","odd","add","sub","add","sub","pick","pick","odd"]
omit T TB in
theorem AE:∀y∈Dq,y = "" \/ y∈GD:=Va
theorem Sl:bL T.ie P w wn 1 (bX xm):=by
 refine T.ie.go J0 ?_;rintro cdv A xz s H _ Q E hr ⟨n,l,rfl,hn,k⟩;refine⟨_,(Zc (ZA 2 J0.nd (YS (Zg Zj (Zg Zj (Zg Zj (Zg Zj (Zg Zj (Zg Zj (Zg Zj (Zg Zj (Zg Zj (Zg Zj (Zg Zj (Zg Zj (Zg Zj (Zg Zj (Zg Zj Zb)))))))))))))))))
   (Zc (ZA 2 J0.nd (Zl gg (qv 2) (YS (Zg Zj (Zg Zj (Zg Zj (Zg Zj (Zg Zj Zb))))))))
   (Zc (ZA 3 J0.nd (Zp Z5 (qv 2) (Zl Yl (qv 0) Ze)))
   (Zc (Yc (x9 (vo (Zu Xq (qv 1) Ze (ZS _)) (x8 (Zu Y3 (qv 3) (Zt (Zg Zj (Zg Zj (Zg Zj Zb)))) Vg))))
   (Zf (Zq Zj)) Z3)
   (Zc (Yc (x9 (vo (Zu Xq (qv 1) Ze (ZS _)) (x8 (Zu Y3 (qv 3) (Zt (Zg Zj (Zg Zj Zb))) Vg))))
   (Zf (Zq (Zp Z5 (YS (Zg Zj (Zg Zj (Zg Zj Zb)))) (Zl Yl (Zl XI (qv 0) Ze) Ze)))) Z3)
   (Zf (Zq (qv 3)))))))),?_⟩
 refine L2.Co ?_;intro U5 U4 U3 U2 U1;have D:0<=n%20/\n%20<20:=⟨fF _ Vb,fY _ Vb⟩;refine⟨Vb,λY hm1=>Zi ⟨_,U,Vb,λZ F=>⟨Y,Z,_,_,U,U,Zd F _ _ Za,Za,Vb,λm hm=>Zi ?_⟩⟩⟩;have s1:ZK H (aC (aC (aC H Y (.lst (LQ.map V.str))) Z (.lst (Mk.map V.str))) m (.lst (Dq.map V.str))):=(Zd (o:=.lst (LQ.map V.str)) hm1).trans ((Zd (o:=.lst (Mk.map V.str)) F).trans (Zd (o:=.lst (Dq.map V.str)) hm));have hm':aC (aC (aC H Y (.lst (LQ.map V.str))) Z (.lst (Mk.map V.str))) m (.lst (Dq.map V.str)) m=ap (Dq.map V.str):=Za;obtain⟨y,hy,ey⟩:=zY (ys:=Dq) (i:=n%20) D.1 D.2;have hyw:=AE y hy;refine⟨_,U,_,U,_,_,U,U,Vb,m,_,_,_,U,U,aF.of hm',ey,Zi ?_⟩;have B:∀(H2:Hp),ZK H H2->(l=0->y∉qy)->U5 {nx:=λ_ H'=>Q .aX H',rt:=Q} [ad n,ad l,ac m,some (.str y)] H2:=λH2 O h=>⟨_,U,k y H2 hyw h O⟩;have r1:∀z:Str,z∈qy↔(z∈(["neg","twice","low"]:Ai)\/z∈(["add","sub"]:Ai)):=λz=>by
  unfold qy;simp only[bR,fQ,nR];constructor
  .rintro(h|h|h|h|h)<;>simp[h]
  .rintro((h|h|h)|(h|h))<;>simp[h]
 have I:∀(H2:Hp),ZK H H2->(l=0->y∉(["neg","twice","low"]:Ai))->U4 {nx:=λ_ H'=>Q .aX H',rt:=Q} [ad n,ad l,ac m,some (.str y)] H2:=λH2 O h=>by
  refine⟨_,U,U,_,U,?_⟩
  by_cases C:l=0
  .rw[bC (congrArg V.int C)];refine Xe ⟨_,U,Vb,λq hq=>⟨q,_,U,.inr (aD.of Za),U,U,_,U,?_⟩⟩;show if cG (.str y) ((["add","sub"]:Ai).map V.str)=true then _ else _;rw[Yg];have J:=O.trans (Zd (o:=.tup [.str "add",.str "sub"]) hq)
   by_cases h2:y∈(["add","sub"]:Ai)
   .rw[bC h2];obtain⟨z,hz,ez⟩:=zY (ys:=["and","or","odd"]) (i:=n/20%3) (fF _ Vb) (fY _ Vb);refine Xe ⟨Vb,λg hg=>⟨_,U,_,_,U,U,.of Vb Vb,_,_,U,U,Vb,g,_,_,_,U,U,aF.of Za,ez,?_⟩⟩;obtain⟨g1,g2⟩:=(by decide +kernel:∀z∈(["and","or","odd"]:Ai),z∈GD/\z∉qy) z hz;exact k z _ (.inr g1) (λ_=>g2) (J.trans (Zd hg))
   .rw[bO h2];exact YJ (B _ J λG z=>((r1 y).mp z).elim (h G) h2)
  .rw[bO λz=>C (by injection z)];exact YJ (B _ O λG=>absurd G C)
 refine⟨_,U,U,_,U,?_⟩
 by_cases C:l=0
 .rw[bC (congrArg V.int C)];refine Xe ⟨_,U,Vb,λq hq=>⟨q,_,U,.inr (aD.of Za),U,U,_,U,?_⟩⟩;show if cG (.str y) ((["neg","twice","low"]:Ai).map V.str)=true then _ else _;rw[Yg];have J:=s1.trans (Zd (o:=.tup [.str "neg",.str "twice",.str "low"]) hq)
  by_cases h2:y∈(["neg","twice","low"]:Ai)
  .rw[bC h2];exact Xe (k "not" _ (.inr Va) (λ_=>Va) J)
  .rw[bO h2];exact YJ (I _ J λ_=>h2)
 .rw[bO λz=>C (by injection z)];exact YJ (I _ s1 λG=>absurd G C)
inductive JK:Prop
 |mk(p:Av)(ws:A1):vs=[.ref p]->H p=ap ws\/H p=am ws->(∀w∈ws,(∃y,w=.str y)\/∃z,w=.int z)->ws.length<=100->(∀H',ZK H H'->Q (.int (ws.filter lC).length) H')->JK
theorem vc:bL T.fh P w wn 1 (bX JK):=by
 refine T.fh.go yT ?_;rintro cdv A xz s H _ Q E Y ⟨p,B,rfl,I,hw,hl,k⟩;refine⟨_,(Zf (Zq (Zs Zx (by rfl) T.ag Yn (Zg (Yy ({}:Ye (Zh Jt) _ ["words"] "word" [] []) (QI.or (Xs (qv 0)) (Xf (qv 0))) (λ_ _ _ _=>(jq (Zu (show b8 _ (compareOp .In) (Na K false)from Y3) (qv 0) (Zt (Zg Zj (Zg Zj (Zg Zj (Zg Zj (Zg Zj Zb)))))) Vg))) (λ_ _ _ _=>(qv 0))) Zb)))),?_⟩;have O:∀x∈B,WO x=true/\cG x ((["add","sub","neg","twice","low"]:Ai).map V.str)=lC x:=λx C=>by
  rcases hw x C with⟨y,rfl⟩|⟨z,rfl⟩
  .refine⟨U,?_⟩;rw[Yg];refine rJ.mpr ?_;unfold qy;simp only[bR,fQ,nR];constructor
   .rintro(h|h|h|h|h)<;>simp[h]
   .rintro(h|h|h|h|h)<;>simp[h]
  .exact⟨U,wb z _⟩
 have fin:∀(zs:A1)(H1:Hp),zs=(B.take B.length).filter lC/\ZK H H1->∀q,H1 q=none->(CJ (λxs H Q=>∃p ys,xs=[V.ref p]/\(aF K H p ys\/aD K H p ys)/\Q (V.int ys.length) H) (λ_ H Q=>Q [.ref q] H)) [] (aC H1 q (.lst zs)) Q:=by
  rintro zs H1 ⟨rfl,J⟩ q D;refine⟨q,_,U,.inl (aF.of Za),?_⟩;rw[dI];exact k _ (J.trans (Zd D))
 have F:∀i,((B.take i).filter lC).length<=sizeLine:=λi=>a8 (Zw (bS (Cj _ _) (by rw[cE];lia)));have G:∀(i:Nat)(x:V),B[i]?=some x->((B.take (i+1)).filter lC)=if lC x=true then(B.take i).filter lC++[x]else(B.take i).filter lC:=λi x C=>by
  rw[aB C,tH,nU];split
  .rfl
  .rw[List.filter_nil,d9]
 rcases I with I|I
 .refine .inl ⟨_,U,p,U,⟨_,aF.of I⟩,XR (K:=K) (a:=p) (xs:=B) (λi zs H'=>zs=(B.take i).filter lC/\ZK H H') ⟨U,ZK.refl _⟩ (λi zs H' h=>by rw[h.1];exact F i) (λi zs H' h=>aF.of (h.2 _ _ I)) (λi x zs H1 R hR C h=>?_) (λzs H1 h q D=>fin zs H1 h q D)⟩;obtain⟨rfl,J⟩:=h;obtain⟨f1,Z⟩:=O x (bP C);refine⟨_,U,Vb,λq D=>⟨q,_,U,.inr (aD.of Za),f1,U,_,U,?_⟩⟩;show if cG x ((["add","sub","neg","twice","low"]:Ai).map V.str)=true then _ else _;rw[Z];have s2:=J.trans (Zd (o:=.tup [.str "add",.str "sub",.str "neg",.str "twice",.str "low"]) D);have g:=G i x C
  by_cases Y:lC x=true
  .rw[aN Y]at g ⊢;exact⟨_,U,hR _ _ ⟨g.symm,s2⟩⟩
  .grind
 .refine .inr ⟨_,U,p,U,⟨_,aD.of I⟩,Wv (K:=K) (a:=p) (xs:=B) (λi zs H'=>zs=(B.take i).filter lC/\ZK H H') ⟨U,ZK.refl _⟩ (λi zs H' h=>by rw[h.1];exact F i) (λi zs H' h=>aD.of (h.2 _ _ I)) (λi x zs H1 R hR C h=>?_) (λzs H1 h q D=>fin zs H1 h q D)⟩;obtain⟨rfl,J⟩:=h;obtain⟨f1,Z⟩:=O x (bP C);refine⟨_,U,Vb,λq D=>⟨q,_,U,.inr (aD.of Za),f1,U,_,U,?_⟩⟩;show if cG x ((["add","sub","neg","twice","low"]:Ai).map V.str)=true then _ else _;rw[Z];have s2:=J.trans (Zd (o:=.tup [.str "add",.str "sub",.str "neg",.str "twice",.str "low"]) D);have g:=G i x C
  by_cases Y:lC x=true
  .rw[aN Y]at g ⊢;exact⟨_,U,hR _ _ ⟨g.symm,s2⟩⟩
  .grind
inductive Jj:Prop
 |mk(pick:Int)(a b c:Av)(P X R:A1):vs=[.int pick,.ref a,.ref b,.ref c]->H a=am P->H b=am X->H c=am R->P.length<=7->X.length<=7->R.length<=7->(∀p u v (w:Tr×Tr) H',w∈rR->H' p=am [.ref u,.ref v]->H' u=am (w.1.flat P X R)->H' v=am (w.2.flat P X R)->ZK H H'->Q (.ref p) H')->Jj
theorem yA:bL T.dy P w wn 1 (bX Jj):=by
 refine T.dy.go Gs ?_;rintro cdv A xz s H _ Q E hr ⟨B,a,b,c,P,X,R,rfl,Y,hb,hc,Z,lX,lR,k⟩;refine⟨_,(Zc (ZA 4 Gs.nd (YS (Zg (Zt (Zg (Zl Zm (Zl Zm (Zt (Zg Zj Zb)) (qv 1)) (qv 2)) (Zg (Zl Zm (Zl Zm (Zl Zm (Zl Zm (Zl Zm (Zt (Zg Zj (Zg Zj Zb))) (qv 1)) (qv 2)) (Zt (Zg Zj Zb))) (qv 1)) (qv 2)) Zb))) Zb)))
   (Zc (Ya (Yo c9 dE dD ZH (qv 4) (Zg (Zt (Zg (Zl Zm (Zl Zm (Zt (Zg Zj Zb)) (qv 1)) (qv 2)) (Zg (Zl Zm (Zl Zm (Zt (Zg Zj Zb)) (qv 2)) (qv 1)) Zb))) Zb)))
   (Zc (Ya (Yo c9 dE dD ZH (qv 4) (Zg (Zt (Zg (Zl Zm (Zl Zm (Zt (Zg Zj Zb)) (qv 1)) (qv 2)) (Zg (Zl Zm (Zl Zm (Zl Zm (Zt (Zg Zj Zb)) (qv 1)) (Zt (Zg Zj Zb))) (qv 2)) Zb))) Zb)))
   (Zc (Ya (Yo c9 dE dD ZH (qv 4) (Zg (Zt (Zg (Zl Zm (Zl Zm (Zt (Zg Zj Zb)) (qv 1)) (qv 2)) (Zg (Zl Zm (Zl Zm (Zl Zm (Zl Zm (Zl Zm (Zt (Zg Zj (Zg Zj Zb))) (qv 1)) (qv 2)) (Zt (Zg Zj Zb))) (qv 1)) (qv 2)) Zb))) Zb)))
   (Zc (Ya (Yo c9 dE dD ZH (qv 4) (Zg (Zt (Zg (Zl Zm (Zt (Zg Zj Zb)) (qv 1)) (Zg (Zl Zm (Zl Zm (Zt (Zg Zj (Zg Zj Zb))) (qv 1)) (Zt (Zg Ze Zb))) Zb))) Zb)))
   (Zc (Ya (Yo c9 dE dD ZH (qv 4) (Zg (Zt (Zg (Zl Zm (Zt (Zg Zj Zb)) (qv 1)) (Zg (Zl Zm (Zl Zm (Zt (Zg Zj Zb)) (qv 1)) (qv 1)) Zb))) Zb)))
   (Zc (Ya (Yo c9 dE dD ZH (qv 4) (Zg (Zt (Zg (Zl Zm (Zt (Zg Zj Zb)) (qv 1)) (Zg (Zl Zm (Zl Zm (Zl Zm (Zt (Zg Zj Zb)) (qv 1)) (Zt (Zg Zj Zb))) (qv 1)) Zb))) Zb)))
   (Zc (Ya (Yo c9 dE dD ZH (qv 4) (Zg (Zt (Zg (Zl Zm (Zl Zm (Zl Zm (Zt (Zg Zj Zb)) (qv 1)) (qv 2)) (qv 3)) (Zg (Zl Zm (Zl Zm (Zl Zm (Zl Zm (Zl Zm (Zl Zm (Zt (Zg Zj Zb)) (qv 3)) (Zt (Zg Zj Zb))) (qv 1)) (Zt (Zg Zj Zb))) (qv 2)) (qv 3)) Zb))) Zb)))
   (Zc (Ya (Yo c9 dE dD ZH (qv 4) (Zg (Zt (Zg (Zl Zm (Zl Zm (Zt (Zg Zj (Zg Zj Zb))) (qv 1)) (qv 2)) (Zg (Zl Zm (Zl Zm (Zl Zm (Zt (Zg Zj (Zg Zj Zb))) (qv 1)) (Zt (Zg Zj Zb))) (qv 2)) Zb))) Zb)))
   (Zc (Ya (Yo c9 dE dD ZH (qv 4) (Zg (Zt (Zg (Zl Zm (Zl Zm (Zt (Zg Zj Zb)) (qv 1)) (qv 2)) (Zg (Zl Zm (Zl Zm (Zl Zm (Zl Zm (Zl Zm (Zt (Zg Zj (Zg Zj Zb))) (qv 1)) (qv 2)) (Zt (Zg Zj (Zg Zj Zb)))) (qv 1)) (qv 2)) Zb))) Zb)))
   (Zc (Ya (Yo c9 dE dD ZH (qv 4) (Zg (Zt (Zg (Zl Zm (Zl Zm (Zt (Zg Zj Zb)) (qv 1)) (qv 2)) (Zg (Zl Zm (Zl Zm (Zt (Zg Zj (Zg Zj (Zg Zj Zb)))) (qv 1)) (qv 2)) Zb))) Zb)))
   (Zc (Ya (Yo c9 dE dD ZH (qv 4) (Zg (Zt (Zg (Zl Zm (Zl Zm (Zt (Zg Zj Zb)) (qv 1)) (qv 2)) (Zg (Zl Zm (Zl Zm (Zl Zm (Zt (Zg Zj (Zg Zj (Zg Zj Zb)))) (qv 1)) (Zt (Zg Zj Zb))) (qv 2)) Zb))) Zb)))
   (Zc (Ya (Yo c9 dE dD ZH (qv 4) (Zg (Zt (Zg (qv 1) (Zg (Zl Zm (Zt (Zg Zj (Zg Zj Zb))) (qv 1)) Zb))) Zb)))
   (Zc (Ya (Yo c9 dE dD ZH (qv 4) (Zg (Zt (Zg (Zl Zm (Zl Zm (Zt (Zg Zj Zb)) (qv 1)) (qv 2)) (Zg (Zl Zm (Zl Zm (Zl Zm (Zl Zm (Zl Zm (Zt (Zg Zj (Zg Zj Zb))) (qv 1)) (qv 2)) (Zt (Zg Zj Zb))) (qv 1)) (qv 2)) Zb))) Zb)))
   (Zc (Ya (Yo c9 dE dD ZH (qv 4) (Zg (Zt (Zg (Zl Zm (Zl Zm (Zt (Zg Zj Zb)) (qv 1)) (qv 1)) (Zg (Zt (Zg Ze Zb)) Zb))) Zb)))
   (Zc (Ya (Yo c9 dE dD ZH (qv 4) (Zg (Zt (Zg (qv 1) (Zg (Zl Zm (Zl Zm (Zl Zm (Zl Zm (Zt (Zg Zj Zb)) (qv 2)) (Zt (Zg Zj Zb))) (qv 1)) (qv 2)) Zb))) Zb)))
   (Zf (Zq (Zp Z5 (qv 4) (Zl Yl (qv 0) Ze)))))))))))))))))))),?_⟩
 try dsimp only[L2.iN,L2.c8]
 show Xj (sU (AZ _) (JO 4)) _ _ [ad B,ac a,ac b,ac c,none] H;have p':bT (yG 1) [ad B,ac a,ac b,ac c,none] H P 7:=yl U Y Z;have q':bT (yG 2) [ad B,ac a,ac b,ac c,none] H X 7:=yl U hb lX;refine Cn (Zqa λps H1 h0 hz=>Zi ?_);show Xj (F3 _) _ _ [ad B,ac a,ac b,ac c,ac ps] H1;have p:bT (yG 1) [ad B,ac a,ac b,ac c,ac ps] H P 7:=yl U Y Z;have q:bT (yG 2) [ad B,ac a,ac b,ac c,ac ps] H X 7:=yl U hb lX;have r:bT (yG 3) [ad B,ac a,ac b,ac c,ac ps] H R 7:=yl U hc lR;have I:([ad B,ac a,ac b,ac c,ac ps]:L2.St)[4]?=some (ac ps):=rfl
 iterate 15 refine Ck (RV I h0 hz λF hz=>?_)
 revert hz;refine ε1 λD=>θ3 λG J _ O=>?_;have PW:rG F D (rR.map λw=>(w.1.flat P X R,w.2.flat P X R)):=by
  simpa[rR,Tr.flat]using J
 have b16:0<=B%16/\B%16<16:=⟨fF _ Vb,fY _ Vb⟩;obtain⟨j,hj⟩:∃j:Nat,B%16=(j:Int):=⟨(B%16).toNat,Vc⟩;have C:j<rR.length:=by show j<16;lia
 refine ω (PW.g j _ (by rw[aY,aR C];rfl)) (ε3 λtt u v=>θ3 λg1 g2 g3 g4=>?_);exact⟨_,U,_,U,_,_,U,U,(by show(0:Int)<16;decide),ps,_,_,_,U,U,aF.of G,by rw[hj];exact Yu g1,k tt u v rR[j] F (f7 C) g2 g3 g4 O⟩
inductive Gy:Prop
 |mk(n:Int)(a c:Av)(nm:Ai)(ws R:A1):vs=[.int n,.ref a,.ref c]->H a=am ws->H c=am R->(∀y∈nm,y∉YT)->Wp nm ws 20 4->Wp nm R 1 0->(∀p us H',Wp nm us 22 5->us=zB n ws R->H' p=am us->ZK H H'->Q (.ref p) H')->Gy
theorem wM:bL T.da P w wn 1 (bX Gy):=by
 refine T.da.go wI ?_;rintro J A xz s H _ Q E hr ⟨n,a,c,nm,F,R,rfl,Y,Z,q,W,C,k⟩;refine⟨_,(Zc (Yc (Zu Xq (Zl Yl (qv 0) Ze) Ze (ZS _))
   (Zf (Zq (Zl Zm (Zt (Zg Zj Zb)) (qv 1)))) Z3)
   (Zc (Yc (Zu Xq (Zl Yl (qv 0) Ze) Ze (ZS _))
   (Zf (Zq (Zl Zm (Zl Zm (Zt (Zg Zj Zb)) (qv 1)) (qv 2)))) Z3)
   (Zc (Yc (Zu Xq (Zl Yl (qv 0) Ze) Ze (ZS _))
   (Zf (Zq (Zl Zm (Zl Zm (Zt (Zg Zj Zb)) (qv 2)) (qv 1)))) Z3)
   (Zc (Yc (Zu Xq (Zl Yl (qv 0) Ze) Ze (ZS _))
   (Zf (Zq (Zl Zm (Zl Zm (Zt (Zg Zj Zb)) (qv 1)) (qv 2)))) Z3)
   (Zc (Yc (Zu Xq (Zl Yl (qv 0) Ze) Ze (ZS _))
   (Zf (Zq (Zl Zm (Zt (Zg Zj Zb)) (qv 1)))) Z3)
   (Zc (Yc (Zu Xq (Zl Yl (qv 0) Ze) Ze (ZS _))
   (Zf (Zq (Zl Zm (Zl Zm (Zt (Zg Zj Zb)) (qv 2)) (qv 1)))) Z3)
   (Zf (Zq (qv 1))))))))),?_⟩
 try dsimp only[L2.iN,L2.c8]
 have w:bT (yG 1) [ad n,ac a,ac c] H F 20:=yl U Y W.ln;have r:bT (yG 2) [ad n,ac a,ac c] H R 1:=yl U Z C.ln;have B:∀v,bT (D8 (qg (tC v) nL)) [ad n,ac a,ac c] H [v] 1:=λv=>uB 1 (λ_ _ h=>h) (aM _) Vb;have ret:∀{te:TE} {D:A1} {m x y:Nat},bT te [ad n,ac a,ac c] H D m->Wp nm D x y->x<=22->y<=5->D=zB n F R->te [ad n,ac a,ac c] H Q:=λg z hx G e=>g.g H _ (ZK.refl _) λp H' s h=>k p _ H' ⟨z.wd,z.en,z.st,bS z.ln hx,bS z.rm G⟩ e h s;refine⟨_,U,_,_,U,U,(by show(0:Int)<8;decide),U,_,U,G5 (λh1=>ret (WA (B _) w) (Wp.word q (n:=1) Va W.of) Va Va (by simp_all[zB])) λh1=>?_⟩;refine⟨_,U,_,_,U,U,(by show(0:Int)<8;decide),U,_,U,G5 (λh2=>ret (WA (WA (B _) w) r) (Wp.word q (n:=2) Va (Wp.app W.of C.of)) Va Va (by simp_all[zB])) λh2=>?_⟩;refine⟨_,U,_,_,U,U,(by show(0:Int)<8;decide),U,_,U,G5 (λI=>ret (WA (WA (B _) r) w) (Wp.word q (n:=2) Va (Wp.app C.of W.of)) Va Va (by simp_all[zB])) λI=>?_⟩;refine⟨_,U,_,_,U,U,(by show(0:Int)<8;decide),U,_,U,G5 (λO=>ret (WA (WA (B _) w) r) (Wp.word q (n:=2) Va (Wp.app W.of C.of)) Va Va (by simp_all[zB])) λO=>?_⟩;refine⟨_,U,_,_,U,U,(by show(0:Int)<8;decide),U,_,U,G5 (λh5=>ret (WA (B _) w) (Wp.word q (n:=1) Va W.of) Va Va (by simp_all[zB])) λh5=>?_⟩;refine⟨_,U,_,_,U,U,(by show(0:Int)<8;decide),U,_,U,G5 (λh6=>ret (WA (WA (B _) r) w) (Wp.word q (n:=2) Va (Wp.app C.of W.of)) Va Va (by simp_all[zB])) λh6=>?_⟩;exact ret w W Vb Vb (by simp_all[zB])
def vd(K:Af):Sp:=DU K
theorem ve:bL T.fi P w wn 1 (vd K):=by
 refine T.fi.go YL ?_ (by refine λ_ _ _ _=>ε6 λ_ _ _ _ _ _=>ε6 λ_ _ _ _ _ _=>ε2 λ_ _=>θ1 λzq0 _=>?_;subst zq0;rfl);refine λcdv A xz s H _ Q E hr=>ε6 λY Z c nm1 nm2 b1=>ε6 λb2 nx1 nx2 ot1 ot2 tr=>ε2 λps ws=>θ6 λzq0 M1 M2 W1 W2 hc=>θ2 λhp hlen k=>?_;subst zq0;have hu:=x6 hr;refine⟨_,(Zc (Yc (Zu (kz (qC hr)) (Zp Zr (qv 0) Ze) (Zp Zr (qv 1) Ze) (ZS _))
   (Zf (Zq YM)) Z3)
   (Zc (ZA 3 YL.nd NH)
   (Zc (YG dG U (Xf (qv 2)) (YV 4 YL.nd)
   (Zf (JX hu (qv 3) (qv 4) YM U)))
   (Zc (Yc (Zu (Xt hu) (Zt (Zg (Zp Zr (qv 0) Ze) (Zg (Zp Zr (qv 1) Ze) Zb))) (qv 3) Vg)
   (Zf (Zq YM)) Z3)
   (Zc (YG dG U (Xf (qv 2)) (ql U (YV 5 YL.nd) (YV 6 YL.nd))
   (Zc (Yc (x9 (q8 (Zu yH (qv 5) Ze (ZS _)) (q8 (Zu Kv (qv 5) (Zs Zx (by rfl) T.ag Yn (Zg (Zp Zr (qv 0) Ze) Zb)) (ZS _)) (q8 (Zu yH (qv 6) Ze (ZS _)) (jo (Zu Kv (qv 6) (Zs Zx (by rfl) T.ag Yn (Zg (Zp Zr (qv 1) Ze) Zb)) (ZS _)))))))
   (Zf (Zq YM)) Z3)
   (Zc (Yc (Zu (kz (qC hr)) (Zp Zr (Zp Zr (qv 0) Ze) (qv 5)) (Zp Zr (Zp Zr (qv 1) Ze) (qv 6)) (ZS _))
   (Zf (Zq YM)) Z3)
   (Zf (YG dG U (FI (b1:=true) (b2:=true) U T.ip (Zg (Zp Zr (Zp Zr (qv 0) Ze) (qv 5)) (Zg (Zp Zr (Zp Zr (qv 1) Ze) (qv 6)) Zb))) (YV 7 YL.nd)
   (Zf (Yc (Zu (Xt hu) (qv 7) (qv 3) Vg)
   (Zf (Zq YM)) Z3)))))))
   (Zf (Zq YM))))))),?_⟩
 try dsimp only[L2.iN,L2.c8]
 refine ω M1.ex (ε3 λpn1 ps1 po1=>θ3 λh1 n1 _ _=>?_);refine ω M2.ex (ε3 λpn2 ps2 po2=>θ3 λh2 n2 _ _=>?_);refine⟨_,U,Y,_,0,_,U,U,aD.of h1,U,_,U,Z,_,0,_,U,U,aD.of h2,U,pn1,pn2,_,_,U,U,aD.of n1,aD.of n2,qV _,qV _,_,U,?_⟩;show if(!gz (nm1.map V.str) (nm2.map V.str))=true then _ else _;rw[wj]
 by_cases en:nm1≠nm2
 .rw[bO en];exact Xe (k false H ⟨nofun,λh=>absurd h.1 en⟩ (ZK.refl H))
 have en:=Dg.mp en;rw[bC en];subst en;refine YJ (λd hd=>?_);refine⟨_,U,c,U,⟨_,aD.of (Zd hd _ _ hc)⟩,?_⟩;refine JQ (K:=K) (a:=c) (xs:=ws) (λi σ H2=>∃u,σ=[ac Y,ac Z,ac c,ac d,u,none,none,none]/\H2 d=some (.dT (dk (ps.take i)))/\ZK H H2) ⟨none,U,Za,Zd hd⟩ (λi σ H2 _=>ε1 λu=>θ2 λ_ _ J=>aD.of (J _ _ hc)) ?_ ?_
 .refine λi x σ H2 hx=>ε1 λu=>θ2 λzq0 h3 J=>?_;subst zq0;obtain⟨q,a,hq,rfl,ha⟩:=(hp.same J).at hx;refine⟨_,U,_,U,d,_,U,lT.t (k:=pk q) h3 ha ?_,_,U,?_,Yp J hd⟩
  .have:=F7 (ps.take i);rw[cE]at this;exact Yz Vc
  .rw[Za,aB hq,xU]
 .refine λσ H2=>ε1 λu=>θ2 λzq0 h3 J=>?_;subst zq0;rw[hp.1,dI]at h3;have h12:=J _ _ h1;have h22:=J _ _ h2;refine⟨_,U,Y,_,1,_,U,U,aD.of h12,U,_,U,Z,_,1,_,U,U,aD.of h22,U,yF,λq hq=>?_⟩;have s3:=Zd (o:=.tup [.int b1,.int b2]) hq;refine⟨_,U,d,_,U,jT (x:=b1) (y:=b2) (.inl (s3 _ _ h3)) Za,_,U,?_⟩;show if(!(Y0 (dk ps) (pk ((b1:Int),(b2:Int)))).isSome)=true then _ else _;rw[vL]
  by_cases eb:¬((b1:Int),(b2:Int))∈ps
  .rw[bO eb];exact Xe (k false _ ⟨nofun,λh=>absurd h.2.1 eb⟩ (J.trans s3))
  have eb:=Dg.mp eb;rw[bC eb];refine YJ ?_;have F:=J.trans s3;have h4:=s3 _ _ h3;generalize aC H2 q (.tup [.int b1,.int b2])=H4 at *;refine⟨_,U,c,U,⟨_,aD.of (F _ _ hc)⟩,?_⟩;refine JQ (K:=K) (a:=c) (xs:=ws) (λi σ H5=>∃u u6 u7 u8,σ=[ac Y,ac Z,ac c,ac d,u,u6,u7,u8]/\ZK H4 H5/\∀p∈ps.take i,Ft nx1 nx2 ot1 ot2 ps p) ⟨u,none,none,none,U,ZK.refl H4,λp hp=>nomatch hp⟩ (λi σ H5 _=>ε4 λ_ _ _ _=>θ2 λ_ s5 _=>aD.of (s5 _ _ (F _ _ hc))) ?_ ?_
  .refine λi v σ H5 hv=>ε4 λu5 u6 u7 u8=>θ2 λzq0 s5 g=>?_;subst zq0;have I:=F.trans s5;refine ω ((hp.same I).at hv) (ε2 λzq0 a=>θ2 λhq zq1 ha=>?_);obtain ⟨x,y⟩:=zq0;subst zq1;have hm:(x,y)∈ps:=bP hq;refine⟨a,_,U,aD.of ha,U,_,_,U,_,_,U,U,?_⟩;refine ω ((M1.same I).ex) (ε3 λ_ B po1'=>θ3 λG _ R1 O1=>?_);refine ω ((M2.same I).ex) (ε3 λ_ C po2'=>θ3 λh2' _ R2 O2=>?_);refine ω (id R1) (ε1 λas1=>θ2 λg1 l1 _=>?_);refine ω (id R2) (ε1 λas2=>θ2 λg2 l2 _=>?_);rw[aI]at l1 l2;have kf:∀O,ZK H5 O->¬Ft nx1 nx2 ot1 ot2 ps (x,y)->Q (.bl false) O:=λO D h=>k false O ⟨nofun,λz=>absurd (z.2.2 _ hm) h⟩ (I.trans D)
   by_cases ok:(0<=x/\x<nx1.length)/\(0<=y/\y<nx2.length)
   .obtain⟨i1,rfl⟩:∃i:Nat,x=(i:Int):=⟨x.toNat,Vc⟩;obtain⟨j1,rfl⟩:∃j:Nat,y=(j:Int):=⟨y.toNat,Vc⟩;have hi:i1<nx1.length:=Vc
    have hj:j1<nx2.length:=Vc
    have hi':i1<ot1.length:=by rw[W1.ol];exact hi
    have hj':j1<ot2.length:=by rw[W2.ol];exact hj
    have uniq:∀{i' j':Nat},((i1:Int),(j1:Int))=((i':Int),(j':Int))->i1=i'/\j1=j':=λe=>by
     have e1:=congrArg Prod.fst e;have e2:=congrArg Prod.snd e;simp only at e1 e2;lia
    refine⟨_,U,_,_,U,U,_,U,G5 (λz=>absurd (dJ z) Vc) (λ_=>?_)⟩;refine⟨_,U,_,U,Y,_,2,_,U,U,aD.of G,U,B,_,U,.inr (aD.of g1),_,_,U,U,_,U,G5 (λz=>absurd (dJ z) (by rw[l1];lia)) (λ_=>?_)⟩;refine⟨_,U,_,_,U,U,_,U,G5 (λz=>absurd (dJ z) Vc) (λ_=>?_)⟩;refine⟨_,U,_,U,Z,_,2,_,U,U,aD.of h2',U,C,_,U,.inr (aD.of g2),_,_,U,U,_,U,?_⟩;rw[l2,bO (show¬(j1:Int)>=nx2.length by simp_all)];refine YJ ?_;refine ω (YN O1 hi') (ε2 λcs1 a1=>θ2 λe1 e2 e3=>?_);refine ω (YN O2 hj') (ε2 λcs2 a2=>θ2 λf1 f2 f3=>?_);refine⟨_,U,Y,_,3,_,U,U,aD.of G,U,_,U,po1',_,_,_,U,U,aD.of e1,e2,_,U,Z,_,3,_,U,U,aD.of h2',U,_,U,po2',_,_,_,U,U,aD.of f1,f2,a1,a2,_,_,U,U,aD.of e3,aD.of f3,uc (W1.ok _ (aA hi')),uc (W2.ok _ (aA hj')),_,U,?_⟩;show if(!gz (ot1.getD i1 []) (ot2.getD j1 []))=true then _ else _;rw[ub (W1.ok _ (aA hi')) (W2.ok _ (aA hj'))]
    by_cases eo:ot1.getD i1 []≠ot2.getD j1 []
    .rw[bO eo];refine Xe (kf _ (ZK.refl _) λ⟨i',j',e,_,_,h,_⟩=>?_);obtain⟨rfl,rfl⟩:=uniq e;exact eo h
    have eo:=Dg.mp eo;rw[bC eo];refine YJ ?_;refine ω (YN R1 (i:=i1) (by rw[aI];exact hi)) (ε2 λcs3 a3=>θ2 λp1 p2 p3=>?_);refine ω (YN R2 (i:=j1) (by rw[aI];exact hj)) (ε2 λcs4 a4=>θ2 λq1 q2 q3=>?_);rw[XT]at p3 q3;refine⟨_,U,Y,_,2,_,U,U,aD.of G,U,_,U,B,_,_,_,U,U,aD.of p1,p2,_,U,Z,_,2,_,U,U,aD.of h2',U,_,U,C,_,_,_,U,U,aD.of q1,q2,a3,a4,_,_,U,bV.t p3,bV.t q3,?_⟩;refine Oj (xs:=JE (nx1.getD i1 [])) (ys:=JE (nx2.getD j1 [])) (λn σ O=>∃u,σ=[ac Y,ac Z,ac c,ac d,u5,ad i1,ad j1,u]/\ZK H5 O/\∀p∈(vK (nx1.getD i1 []) (nx2.getD j1 [])).take n,p∈ps) ⟨u8,U,ZK.refl H5,λp hp=>nomatch hp⟩ (λn σ O=>ε1 λ_=>θ2 λ_ D _=>⟨bV.t (D _ _ p3),bV.t (D _ _ q3)⟩) ?_ ?_
    .rintro n x' y' p σ O hx hy ⟨u,rfl,D,hz⟩ hp6;refine ω (RA hx hy) (ε2 λxn yn=>θ4 λzq0 zq1 _ _ hq6=>?_);subst zq0;subst zq1;have s7:=Zd (o:=.tup [.int xn,.int yn]) hp6;refine⟨_,U,_,U,d,_,U,jT (x:=xn) (y:=yn) (.inl (s7 _ _ (D _ _ (s5 _ _ h4)))) Za,_,U,?_⟩;show if(!(Y0 (dk ps) (pk ((xn:Int),(yn:Int)))).isSome)=true then _ else _;rw[vL]
     by_cases em:((xn:Int),(yn:Int))∈ps
     .rw[bC em];exact YJ ⟨_,U,D.trans s7,(X3 hq6).mpr ⟨hz,em⟩⟩
     .rw[bO em];refine Xe (kf _ (D.trans s7) λ⟨i',j',e,_,_,_,h⟩=>?_);obtain⟨rfl,rfl⟩:=uniq e;exact em (h _ (bP hq6))
    .rintro σ O ⟨u,rfl,D,hz⟩;rw[<-zZ,dI]at hz;exact⟨_,_,_,_,U,s5.trans D,(X3 hq).mpr ⟨g,i1,j1,U,hi,hj,eo,hz⟩⟩
   .have kf:=kf _ (ZK.refl _) λ⟨i',j',e,h1,h2,_⟩=>absurd (by
     have e1:x=(i':Int):=congrArg Prod.fst e;have e2:y=(j':Int):=congrArg Prod.snd e;simp_all) ok
    refine⟨_,U,_,_,U,U,_,U,G5 (λ_=>Xe kf) (λx0=>?_)⟩;refine⟨_,U,_,U,Y,_,2,_,U,U,aD.of G,U,B,_,U,.inr (aD.of g1),_,_,U,U,_,U,G5 (λ_=>Xe kf) (λx1=>?_)⟩;refine⟨_,U,_,_,U,U,_,U,G5 (λ_=>Xe kf) (λy0=>?_)⟩;refine⟨_,U,_,U,Z,_,2,_,U,U,aD.of h2',U,C,_,U,.inr (aD.of g2),_,_,U,U,_,U,?_⟩;simp only[decide_eq_true_eq]at x0 x1 y0;rw[l1]at x1;rw[l2,bC (show y>=nx2.length from by simp_all)];exact Xe kf
  .refine λσ H5=>ε4 λu5 u6 u7 u8=>θ2 λzq0 s5 g=>?_;subst zq0;rw[hp.1,dI]at g;exact k true H5 ⟨λ_=>⟨U,eb,g⟩,λ_=>U⟩ (F.trans s5)
inductive Jk:Prop
 |mk(tw tn:Av)(ws:A1)(ys:Ai):vs=[.ref tw,.ref tn]->H tw=am ws->(∀w∈ws,gW w)->H tn=am (ys.map V.str)->ys.length<=3->(∀p H',H' p=am ((nC ys ws).map V.str)->ZK H H'->Q (.ref p) H')->Jk
theorem yB:bL T.dz P w wn 1 (bX Jk):=by
 refine T.dz.go yz ?_;rintro J A xz s H _ Q E hr ⟨tw,Y,q,ys,rfl,hw,C,D,Z,k⟩;refine⟨_,(Zf (Zq (ZR Z4 (by rfl) T.af ZY (Zg (Yy ({}:Ye (Zh WV) _ ["words","names"] "name" ["words"] [0]) (Xf (qv 1)) (λ_ _ _ _=>(jq (Zu (show b8 _ (compareOp .In) (Na K false)from Y3) (qv 0) (qv 1) Vg))) (λ_ _ _ _=>(qv 0))) Zb)))),?_⟩;have G:q.all WO=true:=i7.mpr λw h=>by
  rcases C w h with⟨y,rfl,_⟩|⟨z,rfl⟩<;>rfl
 refine⟨_,U,Y,U,⟨_,aD.of D⟩,j4 (xs:=ys.map V.str) (λx=>cG x q) ZK ZK.refl (λ_ _ _ x y=>x.trans y) (λH1 g=>aD.of (g _ _ D)) (by rw[aI];exact a8 (Zw Vc)) (λx F H1 g R hR=>?_) (λx F H1 R hR=>⟨_,U,hR⟩) (λH1 l g B=>?_)⟩
 .obtain⟨y,_,rfl⟩:=bG.mp F;exact⟨_,U,_,U,tw,q,U,.inr (aD.of (g _ _ hw)),U,G,_,U,hR H1 (ZK.refl H1)⟩
 have I:=g.trans (Zd (o:=.lst ((ys.map V.str).filter λx=>cG x q)) B);exact⟨l,_,U,.inl ⟨aF.of Za,λp O=>k p _ (by rw[Za,List.filter_map];rfl) (I.trans (Zd O))⟩⟩
inductive qa:Prop
 |mk(m1 m2:Av)(nm:Ai)(b1 b2:Nat)(nx1 nx2:Ad)(ot1 ot2:Ay)(tr:Bool)(A:Nat->Nat->Prop):vs=[.ref m1,.ref m2]->M4 H m1 nm b1 nx1 ot1->M4 H m2 nm b2 nx2 ot2->Wf nm b1 nx1 ot1 tr->Wf nm b2 nx2 ot2 tr->n5 nx1 nx2 ot1 ot2 b1 b2 A->nx1.length*nx2.length<=1000000->(∀l ps zs H',ZK H H'->H' l=ap zs->cS H' ps zs->ps.length<=1000000->CU nm nm b1 b2 nx1 nx2 ot1 ot2 ps->Q (.ref l) H')->qa
theorem uO:bL T.gc P w wn 1 (bX qa):=by
 refine T.gc.go Xo ?_;rintro cdv A xz s H _ Q E hr ⟨m1,m2,nm,b1,b2,nx1,nx2,ot1,ot2,tr,A,rfl,M1,M2,W1,W2,BS,hbig,k⟩;have hu:=x6 hr;refine⟨_,(Zc (ZA 2 Xo.nd (YS (Zg (Zt (Zg (Zp Zr (qv 0) Ze) (Zg (Zp Zr (qv 1) Ze) Zb))) Zb)))
   (Zc (ZA 3 Xo.nd (Zg7 hu (Zp Z5 (qv 2) Ze) YM))
   (Zc (ZA 4 Xo.nd Ze)
   (Zc (q9 dG (Zu yH (qv 4) (Zs Zx (by rfl) T.ag Yn (Zg (qv 2) Zb)) (ZS _))
   (Zc (YG dG U (FI (b1:=true) (b2:=true) U T.ip (Zg (Zp Zr (Zp Zr (qv 0) Ze) (Zp Zr (Zp Z5 (qv 2) (qv 4)) Ze)) (Zg (Zp Zr (Zp Zr (qv 1) Ze) (Zp Zr (Zp Z5 (qv 2) (qv 4)) Ze)) Zb))) (YV 5 Xo.nd)
   (Zf (Yc (Zu (Xt hu) (qv 5) (qv 3) Vg)
   (Zc (JX hu (qv 3) (qv 5) YM U)
   (Zf (Ya (Yo c9 dE dD ZH (qv 2) (Zg (qv 5) Zb))))) Z3)))
   (Zf (ZA 4 Xo.nd (Zl Xd (qv 4) Ze)))))
   (Zf (Zq (qv 2))))))),?_⟩
 refine ω M1.ex (ε3 λpn1 ps1 po1=>θ3 λh1 n1 _ _=>?_);refine ω M2.ex (ε3 λpn2 ps2 po2=>θ3 λh2 n2 _ _=>?_);refine⟨_,U,m1,_,1,_,U,U,aD.of h1,U,_,U,m2,_,1,_,U,U,aD.of h2,U,yF,λa ha=>⟨vV,λl hl=>?_⟩⟩;have s1:=Zd (o:=.tup [.int b1,.int b2]) ha;have s2:=Zd (o:=.lst [.ref a]) hl;have hl0:H l=none:=s1.free hl;have ha2:(aC (aC H a (.tup [.int b1,.int b2])) l (.lst [.ref a])) a=am [.int b1,.int b2]:=s2 _ _ Za;have hl2:(aC (aC H a (.tup [.int b1,.int b2])) l (.lst [.ref a])) l=ap [.ref a]:=Za;have s12:=s1.trans s2;generalize aC (aC H a (.tup [.int b1,.int b2])) l (.lst [.ref a])=H2 at *;intro d hd;have s3:=Zd (o:=.dT []) hd;refine⟨_,U,l,_,0,_,U,U,aF.of (s3 _ _ hl2),U,Za,a,pk ((b1:Int),(b2:Int)),U,s3 _ _ ha2,?_⟩;have hd0:H d=none:=s12.free hd;have p7:l≠d:=Zo hl2 hd;refine⟨λm σ F=>∃kn u ps zs,m=1000000-kn/\σ=[ac m1,ac m2,ac l,ac d,ad (kn:Nat),u]/\F l=ap zs/\cS F ps zs/\F d=some (.dT (dk ps))/\iY nx1 nx2 b1 b2 A ps kn/\kn<=ps.length/\ZK H F,⟨1000000,0,none,[((b1:Int),(b2:Int))],[.ref a],U,U,?_,?_,Za,iY.one BS,cD _,?_⟩,?_⟩
 .rw[Zk p7,Zk p7];exact hl2
 .exact((cS.one (H:=H2) ha2).same s3).put λxs e=>by rw[Za]at e;cases e
 .exact Yp (s12.trans s3) hd0
 refine λm σ F=>ε4 λkn u ps zs=>θ6 λzq0 zq1 I O hd5 W=>θ1 λhk s5=>?_;subst zq0;subst zq1;have hlen:=W.len BS hbig;refine⟨_,U,_,U,l,_,U,.inl (aF.of I),_,_,U,U,_,U,?_⟩;rw[O.1];refine G5 (λB=>?_) (λz=>⟨_,U,k l ps zs F s5 I O hlen (W.lets BS (by simp_all))⟩);have B:kn<ps.length:=by
  simp_all
 refine⟨λσ' H'=>∃m',m'<1000000-kn/\(λm σ F=>∃kn u ps zs,m=1000000-kn/\σ=[ac m1,ac m2,ac l,ac d,ad (kn:Nat),u]/\F l=ap zs/\cS F ps zs/\F d=some (.dT (dk ps))/\iY nx1 nx2 b1 b2 A ps kn/\kn<=ps.length/\ZK H F) m' σ' H',λ_ _ h=>h,?_⟩;refine ω (W.al ps[kn] (f7 B)) (ε2 λi j=>θ1 λepk hA=>?_);obtain⟨hi,hj⟩:=BS.lt i j hA;have g:ps[kn]?=some ((i:Int),(j:Int)):=by rw[aR B,epk]
 obtain⟨c,hc1,hc2⟩:=O.2 kn _ g;refine ω ((M1.same s5).ex) (ε3 λ_ ps1' po1'=>θ3 λh1' _ R1 _=>?_);refine ω ((M2.same s5).ex) (ε3 λ_ ps2' po2'=>θ3 λh2' _ R2 _=>?_);refine ω (YN R1 (i:=i) (by rw[aI];exact hi)) (ε2 λcs3 a3=>θ2 λp1 p2 p3=>?_);refine ω (YN R2 (i:=j) (by rw[aI];exact hj)) (ε2 λcs4 a4=>θ2 λq1 q2 q3=>?_);rw[XT]at p3 q3;refine⟨_,U,m1,_,2,_,U,U,aD.of h1',U,_,U,_,U,l,_,_,_,U,U,aF.of I,Yu hc1,c,_,0,_,U,U,aD.of hc2,U,ps1',_,_,_,U,U,aD.of p1,p2,_,U,m2,_,2,_,U,U,aD.of h2',U,_,U,_,U,l,_,_,_,U,U,aF.of I,Yu hc1,c,_,1,_,U,U,aD.of hc2,U,ps2',_,_,_,U,U,aD.of q1,q2,a3,a4,_,_,U,bV.t p3,bV.t q3,?_⟩;refine Oj (xs:=JE (nx1.getD i [])) (ys:=JE (nx2.getD j [])) (λn σ G=>∃u ps zs,σ=[ac m1,ac m2,ac l,ac d,ad (kn:Nat),u]/\G l=ap zs/\cS G ps zs/\G d=some (.dT (dk ps))/\iY nx1 nx2 b1 b2 A ps kn/\ps[kn]?=some ((i:Int),(j:Int))/\(∀q∈(vK (nx1.getD i []) (nx2.getD j [])).take n,q∈ps)/\G a3=am (JE (nx1.getD i []))/\G a4=am (JE (nx2.getD j []))/\ZK H G) ⟨u,ps,zs,U,I,O,hd5,W,g,(λ_ z=>nomatch z),p3,q3,s5⟩ (λn σ G=>ε3 λ_ _ _=>θ6 λ_ _ _ _ _ _=>θ3 λ_ g1 g2 _=>⟨bV.t g1,bV.t g2⟩) ?_ ?_
 .refine λn x' y' p σ G hx hy=>ε3 λu ps zs=>θ6 λzq0 hl6 hp6 hd6 W g=>θ3 λhz r1 r2 s6=>λhpn=>?_;subst zq0;refine ω (RA hx hy) (ε2 λJ yn=>θ4 λzq0 zq1 mx my mz=>?_);subst zq0;subst zq1;have s7:=Zd (o:=.tup [.int J,.int yn]) hpn;have hp7:(aC G p (.tup [.int J,.int yn])) p=am [.int J,.int yn]:=Za;have C:=s7 _ _ hl6;have D:=s7 _ _ hd6;have hP7:=hp6.same s7;have Y:=s7 _ _ r1;have Z:=s7 _ _ r2;have s67:=s6.trans s7;generalize aC G p (.tup [.int J,.int yn])=H7 at *;refine⟨_,U,_,U,d,_,U,jT (x:=J) (y:=yn) (.inl D) hp7,_,U,?_⟩;rw[vL]
  by_cases em:((J:Int),(yn:Int))∈ps
  .rw[bC em];exact YJ ⟨_,ps,zs,U,C,hP7,D,W,g,(X3 mz).mpr ⟨hz,em⟩,Y,Z,s67⟩
  .rw[bO em];have hlen:=W.len BS hbig;have hA':=BS.next i j n J yn hA mx my;have B:=(bM.mp g).1;have nl:∀{q:Av} {xs:A1},H7 q=am xs->q≠d:=λhq e=>by rw[e,D]at hq;cases hq
   have nl2:∀{q:Av} {xs:A1},H7 q=am xs->q≠l:=λhq e=>by rw[e,C]at hq;cases hq
   refine Xe ⟨_,U,_,U,d,_,U,lT.t (k:=pk ((J:Int),(yn:Int))) D hp7 ?_,_,U,.inl ⟨U,_,aF.of (by rw[Zk p7];exact C)⟩,_,U,l,_,_,U,U,by rw[Zk p7];exact C,?_,_,ps++[((J:Int),(yn:Int))],zs++[.ref p],U,Za,?_,?_,W.snoc Vc em hA',by rw[eH B];exact g,(X3 mz).mpr ⟨λq z=>iQ _ (hz q z),dW _ bN⟩,?_,?_,Yp (Yp s67 hd0) hl0⟩
   .have:=F7 ps;exact Yz Vc
   .rw[hP7.1];exact Yz Vc
   .refine cS.put (cS.put (hP7.app (cS.one hp7)) ?_) ?_
    .intro xs e;rw[D]at e;cases e
    .intro xs e;rw[Zk p7,C]at e;cases e
   .rw[Zk p7.symm,Za,xU]
   .rw[Zk (nl2 Y),Zk (nl Y)];exact Y
   .rw[Zk (nl2 Z),Zk (nl Z)];exact Z
 .refine λσ G=>ε3 λu ps zs=>θ6 λzq0 hl6 hp6 hd6 W g=>θ3 λhz _ _ s6=>?_;subst zq0;rw[<-zZ,dI]at hz;have B:=(bM.mp g).1;exact⟨_,U,_,_,U,U,1000000-(kn+1),Vd,kn+1,u,ps,zs,U,U,hl6,hp6,hd6,W.next g hz,B,s6⟩
inductive xo:Prop
 |mk(nm p:Av)(ys:Ai)(cs:Ak)(g:Str->Int):vs=[.ref nm,.ref p]->H nm=am (ys.map V.str)->H p=am (cs.map V.int)->ys.length<=3->cs.length<=1000000->(∀c∈cs,0<=c)->(∀(i:Nat)(y:Str),ys[i]?=some y->lK ((cs.map λc=>c/2^i%2).reverse)=g y)->(∀d ul H',H d=none->H' d=some (.dK ul)->i4 ul ys g->ZK H H'->Q (.ref d) H')->xo
theorem TY:bL T.ig P w wn 2 (bX xo):=by
 have q:=zu P wn T TB;refine T.ig.go J7 ?_;rintro cdv A xz s H _ Q E Z ⟨nm,p,ys,cs,g,rfl,I,Y,hy3,hcl,C,hg,k⟩;have hu:=x6 Z;refine⟨_,(Zc (ZA 2 J7.nd jv)
   (Zc (YG dG U (ku U T.du (qv 0)) (ql U (YV 3 J7.nd) (YV 4 J7.nd))
   (Zf (JX hu (qv 2) (qv 4) (Zn T.bj q Z (Zg (ZR Z4 (by rfl) T.af ZY (Zg (Yy ({}:Ye (Zh xR) _ ["names","letters","words","place","name"] "letter" ["place"] [3]) (Xf (qv 1)) (λ_ _ _ _=>YZ) (λ_ _ _ _=>(Zl Wu (Zl vk (qv 0) (qv 1)) Ze))) Zb)) Zb)) U)))
   (Zf (Zq (qv 2))))),?_⟩
 intro d F;have J:=Zd (o:=.dK []) F;refine⟨_,U,nm,_,U,aD.of (J _ _ I),?_⟩;refine zT (K:=K) (a:=nm) (xs:=ys.map V.str) (j:=3) (k:=4) (λi σ H2=>∃u v ul,σ=[ac nm,ac p,ac d,u,v]/\H2 d=some (.dK ul)/\i4 ul (ys.take i) g/\ZK H H2) ⟨none,none,[],U,Za,.nil,J⟩ (λi σ H2 _=>ε3 λ_ _ _=>θ3 λ_ _ _ B=>aD.of (B _ _ I)) ?_ ?_
 .refine λi x σ H2 t hx ht=>ε3 λu v ul=>θ3 λzq0 h2 T B=>?_;subst zq0;obtain⟨y,rfl,G⟩:=Te hx;have v1:=Zd (o:=.tup [.int i,.str y]) ht;have s3:=B.trans v1;refine⟨_,U,p,U,⟨_,aD.of (s3 _ _ Y)⟩,qD (fI λc=>V.int (Builtin.bitAnd (c/2^((i:Nat):Int).toNat) 1)) (aD.of (s3 _ _ Y)) (by rw[aI];exact a8 (Yz Vc)) (λw hw R hR=>?_) (λl hl=>?_)⟩
  .obtain⟨c,_,rfl⟩:=bG.mp hw;exact⟨_,U,_,U,_,_,U,U,pP i,_,_,U,U,hR⟩
  have e1:(cs.map V.int).map (fI λc=>V.int (Builtin.bitAnd (c/2^((i:Nat):Int).toNat) 1))=(cs.map λc=>c/2^i%2).map V.int:=by
   rw[Cv,cR];apply mK;intro c hc;show V.int _=V.int _;rw[dr,VZ (AY (C c hc) i)]
  rw[e1];have v2:=Zd (o:=.lst ((cs.map λc=>c/2^i%2).map V.int)) hl;refine⟨l,_,U,.inl ⟨aF.of Za,λt2 D=>⟨t2,_,U,aD.of Za,?_⟩⟩⟩;have v3:=Zd (o:=.tup ((cs.map λc=>c/2^i%2).map V.int)) D;have O:=v1.trans (v2.trans v3);have mP:=T.mP;rw[cE]at mP;refine⟨_,U,_,U,d,_,U,lT.k (k:=.inr y) (O _ _ h2) (Yz Vc),_,_,_,U,Za,?_,Yp (B.trans O) F⟩;rw[aB G];refine(T.put y _).same λz hz=>?_
  by_cases e:z=y
  .rw[aN e,e,<-hg i y G]
  .rw[aL e]
 .refine λσ H2=>ε3 λu v ul=>θ3 λzq0 h2 T B=>?_;subst zq0;rw[aI,dI]at T;exact⟨_,U,k d ul H2 F h2 T B⟩
inductive X8:Prop
 |mk(m a lt:Av)(nm:Ai)(b:Nat)(nx:Ad)(ot:Ay)(n:Nat)(S L:Aj)(W:Option (Aj))(wv v:V)(tr:Bool):vs=[.ref m,.ref a,.ref lt,wv,v]->M4 H m nm b nx ot->bD nx ot n->Rd H a (.dK (dX S))->S.Nodup->(∀s∈S,s<nx.length)->S.length<=1000000->H lt=am (L.map Xh)->(∀l∈L,l<2^n)->L.length<=1000->vS H wv W->YE tr v->(∀r∈ot,∀x∈r,YE tr x)->(∀p H',H p=none->H' p=some (.dK (dX (iE (mN nx) (mB ot v) W S L)))->bQ H H'->Q (.ref p) H')->X8
theorem GJ:bL T.ax P w wn 2 (bX X8):=by
 have g:=uL P wn T TB;refine T.ax.go Xc ?_;rintro cdv A xz s H _ Q E hr ⟨m,a,lt,nm,b,nx,ot,n,S,L,W,wv,v,tr,rfl,M,R,ha,O,hS,hSl,hlt,hL,hLl,hw,hv,hk,k⟩;have hu:=x6 hr;refine⟨_,(Zc (ZA 5 Xc.nd jv)
   (Zc (YG dG U (OP (qv 1)) (YV 6 Xc.nd)
   (Zf (Yc (Xn (Zs (VJ U) (by rfl) T.V6 BU (Zg (Yy ({}:Ye (Zh Xk) _ ["machine","states","letters","well","wanted","going","state"] "letter" ["machine","state","well","wanted"] [0,6,3,4]) (Xf (qv 2)) (λ_ _ _ _=>YZ) (λ_ _ _ _=>(Zn T.fy g hr (Zg (qv 1) (Zg (qv 2) (Zg (qv 0) (Zg (qv 3) (Zg (qv 4) Zb)))))))) Zb)))
   (Zf (JX hu (qv 5) (qv 6) YM U)) Z3)))
   (Zf (Zq (qv 5))))),?_⟩
 refineλp J=>?_;have s1:=bQ.of (Zd (o:=.dK []) J);refine Zi ?_;have F:=s1.rd ha;refine⟨_,U,a,_,U,F,λo ho=>Pe (ul:=dX S) (λi σ H'=>∃(u6:Option V),σ=[ac m,ac a,ac lt,some wv,some v,ac p,u6]/\H' a=some (.b7 o (.dK (dX S)))/\H' p=some (.dK (dX (iE (mN nx) (mB ot v) W (S.take i) L)))/\bQ H H') ⟨none,U,Za,?_,s1.trans (bQ.b7 F ho)⟩ (λi σ H' _=>ε1 λ_=>θ2 λ_ h _=>h) ?_ ?_⟩
 .have C:p≠a:=λz=>by
   subst z;rcases ha with z|⟨_,z⟩<;>rw[J]at z<;>cases z
  rw[Zk C,Za];rfl
 .refine λi q σ H1 Z=>ε1 λu6=>θ3 λzq0 h1 h2 D=>?_;subst zq0;unfold dX at Z;rw[aY]at Z;obtain⟨s,Y,rfl⟩:=eG.mp Z;have hsS:=bP Y;have B:=D.tup hlt;refine Zi ⟨_,U,lt,U,⟨_,aD.of B⟩,qD (xs:=L.map Xh) (fI λz=>V.bl (gw (mN nx) (mB ot v) W s z.toNat)) (aD.of B) (by rw[aI];exact a8 (Zw hLl)) (λx hx R' hR=>?_) (λl hl=>?_)⟩
  .obtain⟨y,hy,rfl⟩:=bG.mp hx;have e:fI (λz=>V.bl (gw (mN nx) (mB ot v) W s z.toNat)) (Xh y)=V.bl (gw (mN nx) (mB ot v) W s y):=by
    show V.bl (gw (mN nx) (mB ot v) W s (y:Int).toNat)=_;rw[dr]
   exact⟨_,U,_,U,_,U,_,U,_,U,m,nm,b,nx,ot,n,s,y,W,wv,v,tr,U,M.fD D,R,hS s hsS,hL y hy,D.well hw,hv,hk,hR⟩
  .refine⟨l,L.map (gw (mN nx) (mB ot v) W s),U,aF.of (by rw[Za,cR,cR];congr 2),_,U,?_⟩;have sl:=Zd (o:=.lst (List.map (fI λz=>V.bl (gw (mN nx) (mB ot v) W s z.toNat)) (List.map Xh L))) hl;have s3:=D.trans (bQ.of sl);have I:=sl _ _ h1;have G:=sl _ _ h2;have ea:(L.map (gw (mN nx) (mB ot v) W s)).any id=L.any (gw (mN nx) (mB ot v) W s):=by rw[List.any_map];rfl
   have es:=Tt (nx:=mN nx) (ok:=mB ot v) (W:=W) (L:=L) Y;rw[ea];have C:a≠p:=λz=>by rw[z,h2]at h1;cases h1
   refine G5 (λhb=>?_) (λhb=>?_)
   .rw[aN hb]at es;refine⟨_,U,_,U,p,_,U,lT.k (k:=.inl (s:Int)) G (by rw[yp];have h3:=Ut (nx:=mN nx) (ok:=mB ot v) (W:=W) (S:=S.take i) (L:=L);rw[cE]at h3;exact Yz Vc),_,U,by rw[Zk C];exact I,?_,s3.put J⟩;rw[Za,Qp,es];exact congrArg (λz=>some (HO.dK (dX z))) (aL (VM O Y))
   .rw[aL hb,d9]at es;exact⟨_,U,I,by rw[es];exact G,s3⟩
 .refine λσ H1=>ε1 λu6=>θ3 λzq0 h1 h2 D=>?_;subst zq0;rw[yp,dI]at h2;exact⟨_,U,k p H1 J h2 D⟩
inductive xp:Prop
 |mk(k:aV):vs=[kV k]->Q (.int (GF k)) H->xp
theorem SF:bL T.cx P w wn 2 (bX xp):=by
 refine T.cx.go Ud ?_;rintro q A xz s H _ Q E g ⟨kk,rfl,k⟩;refine⟨_,(Zf (Zq (Zl Xd (YI (yX P wn T TB) (g.mono Vb) U T.br.m T.br.F.kp T.br.b .nil qh (Zg (qv 0) Zb)) (YI (zI P wn T TB) (g.mono Vb) U T.bb.m T.bb.F.kp T.bb.b .nil qh (Zg (qv 0) Zb))))),⟨_,U,kk,U,_,U,kk,U,_,_,U,U,k⟩⟩
inductive zx:Prop
 |mk(y:Str):vs=[.str y]->y.length<=100000->(∀H',ZK H H'->Q (.bl (decide (y∉YT/\pM y))) H')->zx
omit T TB in
theorem Zlv{y:Str}:pM y↔y.length<=8/\vI y Hn:=by
 constructor
 .intro h;refine⟨h.1.2,λz=>?_,h.2⟩;have h1:=h.1.1;rw[bU,z]at h1;exact absurd h1 Vb
 .intro h;refine⟨⟨?_,h.1⟩,h.2.2⟩;rw[bU];cases e:y.cps.toList with
  |nil=>exact absurd e h.2.1
  |cons a r=>exact D7 (cD _)
theorem UZ:bL T.dh P w wn 2 (bX zx):=by
 refine T.dh.go Ze3 ?_;rintro D A xz s H _ Q E q ⟨y,rfl,C,k⟩;refine⟨_,(Zc (Yc (x9 (q8 (Xn (YI (yW P wn T TB) (q.mono Vb) U T.bq.m T.bq.F.kp T.bq.b .nil qh (Zg (qv 0) Zb))) (jo (Xn (YI (zH P wn T TB) (q.mono Vb) U T.az.m T.az.F.kp T.az.b .nil qh (Zg (qv 0) Zb))))))
   (Zf (Zq YM)) Z3)
   (Zf (Zq (gm (Xr LZ (Zs zf (by rfl) T.ag Yn (Zg (qv 0) Zb)) (Jq (v:=.int 8) U T.qs ⟨_,U⟩) (ZS _)) (gk (YI (wL P wn T TB) (q.mono Vb) U T.bu.m T.bu.F.kp T.bu.b .nil qh (Zg (qv 0) (Zg (Jq (v:=.str _) U T.acj ⟨_,U⟩) Zb)))))))),(L2.Ll ?_)⟩
 intro G
 by_cases h1:y∈YT
 .have e:decide (y∉YT/\pM y)=false:=bO λz=>z.1 h1
  rw[e]at k;refine⟨_,U,y,U,_,U,?_⟩
  by_cases h2:y∈GD
  .rw[bC h2];exact Xe (Xe (k H (ZK.refl H)))
  .rw[bO h2];have g:=((IP y).mp h1).resolve_left h2;refine YJ ⟨_,U,.inr y,U,_,U,?_⟩;rw[show Hd (.inr y)=true from bC g];exact Xe (k H (ZK.refl H))
 .have h2:=λz=>h1 ((IP y).mpr (.inl z))
  have g:=λz=>h1 ((IP y).mpr (.inr z));refine⟨_,U,y,U,_,U,?_⟩;rw[bO h2];refine YJ ⟨_,U,.inr y,U,_,U,?_⟩;rw[show Hd (.inr y)=false from bO g];refine YJ ⟨_,U,y,U,bS C Vb,_,_,U,U,_,U,?_⟩
  by_cases B:y.length<=8
  .rw[bC Vc];refine Xe ⟨_,U,y,Hn,U,C,λH' s'=>?_⟩;have e:decide (vI y Hn)=decide (y∉YT/\pM y):=by
    rw[pA,lN,lN,Zlv];exact⟨λz=>⟨h1,B,z⟩,λz=>z.2.2⟩
   rw[e];exact k H' s'
  .rw[bO Vc];have e:decide (y∉YT/\pM y)=false:=bO λz=>B z.2.1.2;rw[e]at k;exact YJ (k H (ZK.refl H))
inductive Jl:Prop
 |mk(tn tl:Av)(ys:Ai)(L:Nat):vs=[.ref tn,.ref tl]->H tn=am (ys.map V.str)->ys.Nodup->ys.length<=10->H tl=ap ((List.range L).map λi:Nat=>V.int i)->L<=100->(∀dv ul H',H dv=none->H' dv=some (.dK ul)->MM ul ys (YF L ys)->ZK H H'->Q (.ref dv) H')->Jl
theorem yC:bL T.ee P w wn 2 (bX Jl):=by
 refine T.ee.go X6 ?_;rintro cdv A xz s H _ Q E hr ⟨tn,tl,ys,L,rfl,hn,Y,hn3,hl,hL,k⟩;have hu:=x6 hr;refine⟨_,(Zc (ZA 2 X6.nd jv)
   (Zc (YG dG U (ku U T.du (qv 0)) (ql U (YV 3 X6.nd) (YV 4 X6.nd))
   (Zf (JX hu (qv 2) (qv 4) (YI (zu P wn T TB) (hr.mono Vb) U T.bj.m T.bj.F.kp T.bj.b .nil qh (Zg (ZR Z4 (by rfl) T.af ZY (Zg (Yy ({}:Ye (Zh WW) _ ["names","letters","columns","place","name"] "letter" ["place"] [3]) (Xs (qv 1)) (λ_ _ _ _=>YZ) (λ_ _ _ _=>(Zl Wu (Zl vk (qv 0) (qv 1)) Ze))) Zb)) Zb)) U)))
   (Zf (Zq (qv 2))))),?_⟩
 refineλI B=>Zi ?_;have s1:=Zd (o:=.dK []) B;refine⟨_,U,tn,_,U,aD.of (s1 _ _ hn),zT (K:=K) (a:=tn) (xs:=ys.map V.str) (λi σ H2=>∃(ul:Az)(J u4:Option V),σ=[ac tn,ac tl,ac I,J,u4]/\H2 I=some (.dK ul)/\MM ul (ys.take i) (YF L ys)/\ul.length<=i/\i<=ys.length/\ZK H H2) ⟨[],none,none,U,Za,⟨λy h=>(by cases h),λy _=>U⟩,aM _,cD _,s1⟩ (λi σ H2 _=>ε3 λ_ _ _=>θ5 λ_ _ _ _ _ s=>aD.of (s _ _ hn)) ?_ ?_⟩
 .refine λi x σ H2 p hx hp=>ε3 λul J u4=>θ5 λzq0 h2 C Z _ O=>?_;subst zq0;rw[aY]at hx;obtain⟨y,G,rfl⟩:=eG.mp hx;have hi:=(bM.mp G).1;have s3:=O.trans (Zd (o:=.tup [.int i,.str y]) hp);have h3:=Zd (o:=.tup [.int i,.str y]) hp _ _ h2;have D:=s3 _ _ hl;refine⟨_,U,tl,U,⟨_,aF.of D⟩,dN (fI λc=>V.int (bt c i)) (aF.of D) (by rw[aI,dS];exact a8 (Zw Vc)) (λv hv R hR=>?_) (λq hq=>?_)⟩
  .obtain⟨c,_,rfl⟩:=bG.mp hv;refine⟨_,U,_,U,_,_,U,U,pP i,_,_,U,U,?_⟩;have e:fI (λc=>V.int (bt c i)) (V.int c)=V.int (Builtin.bitAnd ((c:Int)/2^(i:Int).toNat) 1):=by
    rw[iS,dr];rfl
   rw[e]at hR;exact hR
  have ex:((List.range L).map λi:Nat=>V.int i).map (fI λc=>V.int (bt c i))=((List.range L).map λl:Nat=>bt (l:Int) i).map V.int:=by
   rw[cR,cR];rfl
  rw[ex];have s4:=Zd (o:=.lst (((List.range L).map λl:Nat=>bt (l:Int) i).map V.int)) hq;refine⟨q,_,U,.inl ⟨aF.of Za,λt ht=>?_⟩⟩;have s5:=s4.trans (Zd (o:=.tup (((List.range L).map λl:Nat=>bt (l:Int) i).map V.int)) ht);have h5:=s5 _ _ h3;refine⟨t,_,U,aD.of Za,?_⟩;have hv:lK ((List.range L).map λl:Nat=>bt (l:Int) i).reverse=YF L ys y:=by
   unfold YF;rw[W9 Y G]
  rw[hv];have lp:=XB ul (.inr y) (.int (YF L ys y));refine⟨_,U,_,U,I,_,U,lT.k (k:=.inr y) h5 (Zw Vc),_,_,_,U,Za,⟨λz hz=>?_,λz hz=>?_⟩,Vc,hi,Yp (s3.trans s5) B⟩
  .rw[aB G]at hz;rw[G9]
   by_cases g:z=y
   .rw[aN (by rw[g]),g]
   .rw[aL (λe=>g (Sum.inr.inj e))];rcases dH.mp hz with h|h
    .exact C.1 z h
    .exact absurd (b9.mp h) g
  .rw[aB G]at hz;rw[G9,aL (λe=>hz (dH.mpr (.inr (b9.mpr (Sum.inr.inj e)))))];exact C.2 z λh=>hz (dH.mpr (.inl h))
 .refine λσ H2=>ε3 λul J u4=>θ5 λzq0 h2 C Z _ O=>?_;subst zq0;rw[aI,dI]at C;exact⟨_,U,k I ul H2 B h2 C O⟩
inductive qb:Prop
 |mk(y:Str)(p:Av)(is:Ak)(h:Int):vs=[.str y,.ref p,.int h]->H p=ap (is.map V.int)->1<=is.length->y∈allR->(y∈CF->2<=is.length)->(∀H',ZK H H'->Q (.int (iF y is h)) H')->qb
theorem uP:bL T.ia P w wn 2 (bX qb):=by
 refine T.ia.go zt ?_;rintro J A xz s H _ Q E Y ⟨y,p,is,h,rfl,G,Z,I,C,k⟩;refine⟨_,(Zc (ZA 3 zt.nd (Zp Z5 (qv 1) Ze))
   (Zc (Yc (Zu Xq (qv 0) Zj (ZS _))
   (Zf (Zq (qv 3))) Z3)
   (Zc (Yc (Zu Y3 (qv 0) (Zt (Zg Zj (Zg Zj (Zg Zj Zb)))) Vg)
   (Zf (Zq (Zl wU (qv 3) (qv 2)))) Z3)
   (Zc (Yc (Zu Xq (qv 0) Zj (ZS _))
   (Zf (Zq (Zl wU (Zl vm (qv 3) (Zp Z5 (qv 1) Ze)) (qv 2)))) Z3)
   (Zc (Yc (Zu Xq (qv 0) Zj (ZS _))
   (Zf (Zq (Zl wU (Zl Wu (qv 3) (Zp Z5 (qv 1) Ze)) (Zl Wu (qv 2) (Zl wU (qv 3) (Zp Z5 (qv 1) Ze)))))) Z3)
   (Zf (Zq (YI (y8 P wn T TB) (Y.mono Vb) U T.bw.m T.bw.F.kp T.bw.b .nil qh (Zg (qv 3) (Zg (Zp Z5 (qv 1) Ze) (Zg (qv 2) Zb))))))))))),?_⟩
 unfold iF at k;refine⟨_,U,p,_,0,_,U,U,aF.of G,ZQ 0 rfl Z,Zi ⟨_,U,U,_,U,?_⟩⟩
 by_cases h1:y = "twice"
 .rw[bC (congrArg V.str h1)];rw[aN h1]at k;refine Xe ?_;exact⟨_,U,k H (ZK.refl _)⟩
 rw[bO (λz=>h1 (by injection z))];rw[aL h1]at k;refine YJ ⟨_,U,Vb,λq O=>⟨q,_,U,.inr (aD.of Za),U,U,_,U,?_⟩⟩;show if cG (.str y) ((["neg","low","nought"]:Ai).map V.str)=true then _ else _;rw[Yg];have sq:=Zd (o:=.tup [.str "neg",.str "low",.str "nought"]) O;have pq:=sq _ _ G;generalize aC H q _=H1 at *
 by_cases h2:y = "neg" \/ y = "low" \/ y = "nought"
 .rw[bC Vd];rw[aN h2]at k;refine Xe ?_;exact⟨_,U,_,U,_,_,U,U,k H1 sq⟩
 rw[bO Vd];rw[aL h2]at k;refine YJ ⟨_,U,U,_,U,?_⟩
 by_cases g:y = "same"
 .rw[bC (congrArg V.str g)];rw[aN g]at k;refine Xe ?_;exact⟨_,U,_,U,p,_,1,_,U,U,aF.of pq,ZQ 1 rfl (C (by rw[g];decide +kernel)),_,_,U,U,_,U,_,_,U,U,k H1 sq⟩
 rw[bO (λz=>g (by injection z))];rw[aL g]at k;refine YJ ⟨_,U,U,_,U,?_⟩
 by_cases B:y = "add"
 .rw[bC (congrArg V.str B)];rw[aN B]at k;refine Xe ?_;have D:=C (by rw[B];decide +kernel);exact⟨_,U,_,U,p,_,1,_,U,U,aF.of pq,ZQ 1 rfl D,_,_,U,U,_,U,_,U,_,U,p,_,1,_,U,U,aF.of pq,ZQ 1 rfl D,_,_,U,U,_,_,U,U,_,_,U,U,k H1 sq⟩
 rw[bO (λz=>B (by injection z))];rw[aL B]at k;exact YJ ⟨_,U,_,U,p,_,1,_,U,U,aF.of pq,ZQ 1 rfl (C (PM y I h1 h2)),_,U,_,_,_,U,k H1 sq⟩
inductive JL:Prop
 |mk(y:Str)(p:Av)(is:Ak)(h n:Int):vs=[.str y,.ref p,.int h,.int n]->H p=ap (is.map V.int)->1<=is.length->y∈allR->(y∈CF->2<=is.length)->(∀H',ZK H H'->Q (.int (BB y is h n)) H')->JL
theorem vf:bL T.fj P w wn 2 (bX JL):=by
 have g:=y8 P wn T TB;refine T.fj.go yU ?_;rintro cdv A xz s H _ Q E J ⟨y,p,is,h,n,rfl,hp,G,Z,O,k⟩;refine⟨_,(Zc (Yc (Zu Y3 (qv 0) (Zt (Zg Zj (Zg Zj Zb))) Vg)
   (Zf (Zq (Zl vm (Zl vm (Zp Z5 (qv 1) Ze) (Zp Z5 (qv 1) Ze)) (qv 2)))) Z3)
   (Zc (Yc (Zu Xq (qv 0) Zj (ZS _))
   (Zf (Zq (Zl vm (Zp Z5 (qv 1) Ze) (qv 2)))) Z3)
   (Zc (Yc (Zu Xq (qv 0) Zj (ZS _))
   (Zf (Zq (qv 2))) Z3)
   (Zc (Yc (Zu Xq (qv 0) Zj (ZS _))
   (Zf (Zq (Zl Wu (Zp Z5 (qv 1) Ze) (Jr jj (qv 2))))) Z3)
   (Zc (Yc (Zu Y3 (qv 0) (Zt (Zg Zj (Zg Zj Zb))) Vg)
   (Zf (Zq (Jr jj (qv 3)))) Z3)
   (Zc (Yc (Zu Xq (qv 0) Zj (ZS _))
   (Zf (Zq (qv 3))) Z3)
   (Zf (Zq (Zn T.bw g J (Zg (Zp Z5 (qv 1) Ze) (Zg (Zp Z5 (qv 1) Ze) (Zg (qv 2) Zb)))))))))))),?_⟩
 unfold BB at k;refine⟨_,U,Vb,λq hq=>⟨q,_,U,.inr (aD.of Za),U,U,_,U,?_⟩⟩;show if cG (.str y) ((["add","sub"]:Ai).map V.str)=true then _ else _;rw[Yg];have sq:=Zd (o:=.tup [.str "add",.str "sub"]) hq;have pq:=sq _ _ hp;generalize aC H q (.tup [.str "add",.str "sub"])=H1 at *
 by_cases h1:y = "add" \/ y = "sub"
 .rw[bC Vd];rw[aN h1]at k;refine Xe ?_;have l3:2<=is.length:=O (by rcases h1 with h|h<;>rw[h]<;>decide +kernel);exact⟨_,U,p,_,0,_,U,U,aF.of pq,ZQ 0 rfl G,_,U,p,_,1,_,U,U,aF.of pq,ZQ 1 rfl l3,_,_,U,U,_,U,_,_,U,U,k H1 sq⟩
 rw[bO Vd];rw[aL h1]at k;refine YJ ⟨_,U,U,_,U,?_⟩
 by_cases h2:y = "neg"
 .rw[bC (congrArg V.str h2)];rw[aN h2]at k;refine Xe ?_;exact⟨_,U,p,_,0,_,U,U,aF.of pq,ZQ 0 rfl G,_,U,_,_,U,U,k H1 sq⟩
 rw[bO (λz=>h2 (by injection z))];rw[aL h2]at k;refine YJ ⟨_,U,U,_,U,?_⟩
 by_cases B:y = "twice"
 .rw[bC (congrArg V.str B)];rw[aN B]at k;refine Xe ?_;exact⟨_,U,k H1 sq⟩
 rw[bO (λz=>B (by injection z))];rw[aL B]at k;refine YJ ⟨_,U,U,_,U,?_⟩
 by_cases C:y = "low"
 .rw[bC (congrArg V.str C)];rw[aN C]at k;refine Xe ?_;exact⟨_,U,p,_,0,_,U,U,aF.of pq,ZQ 0 rfl G,_,U,_,U,_,_,U,U,k H1 sq⟩
 rw[bO (λz=>C (by injection z))];rw[aL C]at k;refine YJ ⟨_,U,Vb,λr J=>⟨r,_,U,.inr (aD.of Za),U,U,_,U,?_⟩⟩;show if cG (.str y) ((["same","nought"]:Ai).map V.str)=true then _ else _;rw[Yg];have I:=Zd (o:=.tup [.str "same",.str "nought"]) J;have Y:=I _ _ pq;generalize aC H1 r (.tup [.str "same",.str "nought"])=H2 at *
 by_cases D:y = "same" \/ y = "nought"
 .rw[bC (by simp only[bR,fQ,nR];exact D)];rw[aN D]at k;refine Xe ?_;exact⟨_,U,_,U,k H2 (sq.trans I)⟩
 rw[bO (by simp only[bR,fQ,nR];exact D)];rw[aL D]at k;refine YJ ⟨_,U,U,_,U,?_⟩
 by_cases F:y = "under"
 .rw[bC (congrArg V.str F)];rw[aN F]at k;refine Xe ?_;exact⟨_,U,k H2 (sq.trans I)⟩
 rw[bO (λz=>F (by injection z))];rw[aL F]at k;exact YJ ⟨_,U,p,_,1,_,U,U,aF.of Y,ZQ 1 rfl (O (PM y Z B (λz=>Vd))),_,U,p,_,0,_,U,U,aF.of Y,ZQ 0 rfl G,_,U,_,_,_,U,k H2 (sq.trans I)⟩
inductive Gz:Prop
 |mk(m1 m2 c d:Av)(nm:Ai)(b1 b2:Nat)(nx1 nx2:Ad)(ot1 ot2:Ay)(tr:Bool)(x y:Int)(ps:List (Int×Int)):vs=[.ref m1,.ref m2,.ref c,.ref d]->M4 H m1 nm b1 nx1 ot1->M4 H m2 nm b2 nx2 ot2->Wf nm b1 nx1 ot1 tr->Wf nm b2 nx2 ot2 tr->H c=am [.int x,.int y]->Rd H d (.dT (dk ps))->(∀r H',(r=true↔Ft nx1 nx2 ot1 ot2 ps (x,y))->ZK H H'->Q (.bl r) H')->Gz
theorem wN:bL T.fu P w wn 2 (bX Gz):=by
 have g:=xi P wn T TB;have B:=y9 P wn T TB;refine T.fu.go wJ ?_;rintro cdv A xz s H _ Q E hr ⟨m1,m2,c,d,nm,b1,b2,nx1,nx2,ot1,ot2,tr,x,y,ps,rfl,M1,M2,F,W2,G,hd,k⟩;have hu:=x6 hr;refine⟨_,(Zc (Yc (JS (x9 (vo (Rv LZ yH Ze (Zp Zr (qv 2) Ze) (Zs Zx (by rfl) T.ag Yn (Zg (Zp Zr (qv 0) Ze) Zb))) (x8 (Rv LZ yH Ze (Zp Zr (qv 2) Ze) (Zs Zx (by rfl) T.ag Yn (Zg (Zp Zr (qv 1) Ze) Zb)))))))
   (Zf (Zq YM)) Z3)
   (Zc (Yc (Zu Y3 YM (Zn T.bx B hr (Zg (qv 0) (Zg (qv 1) (Zg (qv 2) Zb)))) Vg)
   (Zf (Zq YM)) Z3)
   (Zf (Zq (Zs (jt U) (by rfl) T.og IF (Zg (Yy ({}:Ye (Zh Gj) _ ["one","other","pair","pairs"] "led_to" ["pairs"] [3]) (Xs (Zn T.bf g hr (Zg (qv 0) (Zg (qv 1) (Zg (qv 2) Zb))))) (λ_ _ _ _=>YZ) (λ_ _ _ _=>(Xr (xD hu) (qv 0) (qv 1) Vg))) Zb)))))),?_⟩
 refine ω M1.ex (ε3 λpn1 ps1 po1=>θ3 λh1 _ R1 _=>?_);refine ω M2.ex (ε3 λpn2 ps2 po2=>θ3 λh2 _ R2 _=>?_);revert R1;refine ε1 λas1=>θ2 λg1 l1 _=>?_;revert R2;refine ε1 λas2=>θ2 λg2 Y _=>?_;rw[aI]at l1 Y
 by_cases ok:(0<=x/\x<nx1.length)/\(0<=y/\y<nx2.length)
 .obtain⟨i,rfl⟩:∃i:Nat,x=(i:Int):=⟨x.toNat,Vc⟩;obtain⟨j,rfl⟩:∃j:Nat,y=(j:Int):=⟨y.toNat,Vc⟩;have hi:i<nx1.length:=Vc
  have hj:j<nx2.length:=Vc
  have C:i<ot1.length:=by rw[F.ol];exact hi
  have D:j<ot2.length:=by rw[W2.ol];exact hj
  have e8:=p8 F.n3;refine⟨_,U,c,_,0,_,U,U,aD.of G,U,_,_,U,U,_,U,G5 (λ_=>⟨_,U,m1,_,2,_,U,U,aD.of h1,U,ps1,_,U,.inr (aD.of g1),_,_,U,U,_,U,?_⟩) (λz=>absurd (bC (pP i)) z)⟩;rw[l1,bC (show(i:Int)<nx1.length by simp_all)];refine Xe ⟨_,U,c,_,1,_,U,U,aD.of G,U,_,_,U,U,_,U,G5 (λ_=>⟨_,U,m2,_,2,_,U,U,aD.of h2,U,ps2,_,U,.inr (aD.of g2),_,_,U,U,_,U,?_⟩) (λz=>absurd (bC (pP j)) z)⟩;rw[Y,bC (show(j:Int)<nx2.length by simp_all)];refine YJ ?_;refine⟨_,U,_,U,_,U,m1,m2,c,nm,nm,b1,b2,nx1,nx2,ot1,ot2,i,j,tr,U,M1,M2,G,C,D,?_,?_,F.ok _ (aA C),W2.ok _ (aA D),λl H1 hl0 O hl=>?_⟩
  .rw[F.or _ (aA C),W2.or _ (aA D)]
  .rw[F.or _ (aA C)];lia
  have hb:=NR (xs:=ot1.getD i []) (ys:=ot2.getD j []) (by rw[F.or _ (aA C),W2.or _ (aA D)]);generalize ((ot1.getD i []).zip (ot2.getD j [])).map (λq=>!decide (q.1=q.2))=bs at hl hb;refine⟨l,_,U,.inl (aF.of hl),U,?_,_,U,?_⟩
  .rw[Fq];exact i7.mpr λ_ _=>U
  have eb:cG (.bl true) (bs.map V.bl)=decide (ot1.getD i []≠ot2.getD j []):=by
   rw[pA,lN,<-hb];unfold cG;rw[List.any_map,AM];constructor
   .rintro⟨z,hz,e⟩;have:z=true:=by simpa[dR]using e
    rw[<-this];exact hz
   .intro h;exact⟨true,h,by simp[dR]⟩
  rw[eb]
  by_cases eo:ot1.getD i []=ot2.getD j []
  .rw[bO (λz=>z eo)];refine YJ ?_;refine⟨_,U,_,U,_,U,m1,m2,c,nm,nm,b1,b2,nx1,nx2,ot1,ot2,i,j,U,M1.same O,M2.same O,O _ _ G,hi,hj,λY zs H2 _ s2 Z hp=>?_⟩;have s12:=O.trans s2;refine⟨Y,U,⟨_,aF.of Z⟩,XR (xs:=zs) (λn ws I=>I=H2/\ws=(((vK (nx1.getD i []) (nx2.getD j [])).take n).map λq=>decide (q∈ps)).map V.bl) ⟨U,U⟩ (λn ws I ⟨_,e⟩=>?_) (λn ws I ⟨e,_⟩=>by rw[e];exact aF.of Z) (λn v ws I R hR hv ⟨e,ew⟩=>?_) (λws I ⟨e,ew⟩ p hp3=>?_)⟩
   .rw[e,aI,aI,cE,zZ,mI,Nf,Nf,F.nr _ (aA hi)];exact a8 (Zw Vd)
   .subst e;obtain⟨q,a,J,rfl,ha⟩:=hp.at hv;refine Cu ⟨_,U,_,U,d,_,U,jT (Rd.same hd s12) ha,hR _ _ ⟨U,?_⟩⟩;rw[ew,aB J,dC,dC];show _++[V.bl _]=_++[V.bl _];rw[show(if false=true then !(Y0 (dk ps) (pk (q.1,q.2))).isSome else(Y0 (dk ps) (pk (q.1,q.2))).isSome)=decide (q∈ps)from vL q ps]
   .subst e ew;rw[i8 (DD hp.1.symm)];refine⟨p,_,U,aF.of Za,k _ _ ?_ (s12.trans (Zd hp3))⟩;rw[Fq,i7];constructor
    .intro h;exact⟨i,j,U,hi,hj,eo,λq J=>by simpa using h q J⟩
    .refine ε2 λi' j'=>θ4 λe _ _ _ h=>λq J=>?_;have e1:i=i':=by have:=congrArg Prod.fst e;lia
     have e2:j=j':=by have:=congrArg Prod.snd e;lia
     subst e1 e2;simpa using h q J
  .rw[bC eo];refine Xe (k false H1 ⟨nofun,λ⟨i',j',e,_,_,h,_⟩=>?_⟩ O);have e1:i=i':=by have:=congrArg Prod.fst e;lia
   have e2:j=j':=by have:=congrArg Prod.snd e;lia
   subst e1 e2;exact absurd h eo
 .have kf:Q (.bl false) H:=k false H ⟨nofun,ε2 λi' j'=>θ3 λe h1 h2 _=>absurd (by
   simp_all) ok⟩ (ZK.refl H)
  refine⟨_,U,c,_,0,_,U,U,aD.of G,U,_,_,U,U,_,U,G5 (λx0=>⟨_,U,m1,_,2,_,U,U,aD.of h1,U,ps1,_,U,.inr (aD.of g1),_,_,U,U,_,U,G5 (λx1=>?_) (λ_=>Xe kf)⟩) (λ_=>⟨_,U,YJ (Xe kf)⟩)⟩;refine⟨_,U,c,_,1,_,U,U,aD.of G,U,_,_,U,U,_,U,G5 (λy0=>⟨_,U,m2,_,2,_,U,U,aD.of h2,U,ps2,_,U,.inr (aD.of g2),_,_,U,U,_,U,?_⟩) (λ_=>⟨_,U,Xe kf⟩)⟩;have x0:=dJ x0;have x1:=dJ x1;have y0:=dJ y0;rw[l1]at x1;rw[Y,bO (show¬y<nx2.length fromλz=>ok ⟨⟨x0,x1⟩,y0,z⟩)];exact Xe kf
inductive WJ:Prop
 |mk(ps po:Av)(nx:Ad)(ot:Ay)(kos:List (Ak)):vs=[.ref ps,.ref po]->qU H ps (nx.map JE)->qU H po ot->ot.map (λr=>r.map vB)=kos.map (λk=>k.map some)->ot.length=nx.length->(∀row∈nx,row.length<=8/\∀s∈row,s<nx.length)->1<=nx.length->nx.length<=1000000->(∀p (cs:Aj) H',H p=none->H' p=ap (cs.map Xh)->cs.length=nx.length->WZ (jb nx cs)=cs->WZ cs=cs->Dp kos cs->cs=mX nx kos nx.length->ZK H H'->Q (.ref p) H')->WJ
theorem zJ:bL T.di P w wn 2 (bX WJ):=by
 have B:=Se P wn T TB;have D:=xl P wn T TB;refine T.di.go YK ?_;rintro cdv A xz s H _ Q E hr ⟨ps,po,nx,ot,F,rfl,Rs,Ro,hk,hlo,hnx,h1,h2,k⟩;refine⟨_,(Zc (ZA 2 YK.nd (Zn T.eu B hr (Zg (qv 1) Zb)))
   (Zc (ZA 3 YK.nd Ze)
   (Zc (q9 dG (Zu II (Zl Xd (Zs (gI U) (by rfl) T.oj Mq (Zg (qv 2) Zb)) Ze) (qv 3) (ZS _))
   (Zc (ZA 3 YK.nd (Zl Xd (Zs (gI U) (by rfl) T.oj Mq (Zg (qv 2) Zb)) Ze))
   (Zf (ZA 2 YK.nd (Zn T.eu B hr (Zg (Vx ({}:Ye (Zh Wo) _ ["steps","out","classes","many"] "mark" ["classes"] [2]) (⟨by rfl,Va⟩:Mz _ "mark" "row" ["classes"]) (FI (b1:=false) (b2:=true) U T.ip (Zg (qv 2) (Zg (qv 0) Zb))) (λ_ _ _ _=>YZ) (λ_ _ _ _=>(Zt (Zg (qv 0) (Zg (Zn T.cz D hr (Zg (qv 1) (Zg (qv 2) Zb))) Zb))))) Zb))))))
   (Zf (Zq (qv 2)))))),?_⟩
 try dsimp only[L2.iN,L2.c8]
 refine ω (ue Ro) (ε1 λbo=>θ2 λhpo hbo hob=>?_);obtain⟨bs,hps,hbs,hsb⟩:=ue Rs;have hkl:F.length=nx.length:=by
  have:=congrArg List.length hk;rw[aI,aI]at this;lia
 refine⟨_,U,Ak,_,MC,po,bo,F,U,.inr hpo,Vc,λi b kk hb I=>?_,Vc,λp0 H1 hp0 hp1 s1=>?_⟩
 .have hi:i<ot.length:=by have:=(bM.mp hb).1;lia
  refine⟨_,hob i _ b (aR hi) hb,?_⟩;have e:=congrArg (λl=>l[i]?) hk;simp only[aY,aR hi,I]at e;exact Option.some.inj e
 rw[uf]at hp1;refine Zi ?_;have cls0:Dp F (WZ F):=λi j a b ha hb e=>(kK ha hb).mp e;refine LW (λσ H2=>∃(p:Av)(cs:Aj)(g n:Nat),σ=[some (.ref ps),some (.ref po),some (.ref p),some (.int g)]/\H2 p=ap (cs.map Xh)/\H p=none/\cs.length=nx.length/\WZ cs=cs/\Dp F cs/\cs=mX nx F n/\n<=g/\g<=nx.length/\(g=0\/((ZW cs).length<=g->WZ (jb nx cs)=cs))/\ZK H H2) (λσ _=>match σ with|[_,_,_,some (.int m)]=>nx.length-m.toNat|_=>0) ⟨p0,WZ F,0,0,U,hp1,hp0,by rw[zW];exact hkl,j7 F,cls0,U,aM _,cD _,.inl U,s1⟩ ?_;refine λσ H2=>ε4 λp cs g n=>θ6 λzq0 hp2 hpH C hnn hcls=>θ4 λhcn hnm hmy hst s2=>?_;subst zq0;have hne:cs≠[]:=λz=>by rw[z]at C;have:(0:Nat)=nx.length:=C;lia
 have mx:∀m∈(cs.map λc:Nat=>(c:Int)),(∀n∈(cs.map λc:Nat=>(c:Int)),n<=m)->m+1=((ZW cs).length:Int):=by
  intro m hm hx;obtain⟨c,hc,rfl⟩:=bG.mp hm;have h3:c∈WZ cs:=by rw[hnn];exact hc
  have:=Zkt h3 λn hn=>by
   rw[hnn]at hn;have:=hx _ (mY hn);lia
  lia
 have G:H2 p=ap ((cs.map λc:Nat=>(c:Int)).map V.int):=by rw[hp2,cR];rfl
 have hsl:(ZW cs).length<=nx.length:=by have:=Q1 cs;lia
 have hne':(cs.map λc:Nat=>(c:Int))≠[]:=λz=>hne (List.map_eq_nil_iff.mp z);refine⟨_,U,p,_,U,aF.of G,hne',λm hm hx=>⟨_,_,U,U,_,U,_,_,U,U,_,U,?_⟩⟩;have em:=mx m hm hx;refine G5 (λhgt=>?_) (λhgt=>?_)
 .have hlt:g<(ZW cs).length:=by
   have:=dJ hgt;lia
  refine⟨λσ' H'=>∃(p':Av),σ'=[some (.ref ps),some (.ref po),some (.ref p'),some (.int ((ZW cs).length:Int))]/\H' p'=ap ((WZ (jb nx cs)).map Xh)/\H p'=none/\ZK H H',?_,?_⟩
  .refine λσ' H'=>ε1 λp'=>θ3 λzq0 hp' hpn s'=>?_;subst zq0;refine⟨nx.length-(ZW cs).length,?_,?_,p',WZ (jb nx cs),(ZW cs).length,n+1,U,hp',hpn,?_,j7 _,Zps C hkl hcls,by rw[hcn];rfl,Vc,hsl,.inr λY=>?_,s'⟩
   .show nx.length-(ZW cs).length<nx.length-(g:Int).toNat;rw[dr];lia
   .show _=nx.length-((ZW cs).length:Int).toNat;rw[dr]
   .rw[zW,jc C,C]
   .rw[Zhe]at Y;have:=Zel C hnn Y;rw[this,this]
  .refine⟨_,U,p,_,U,aF.of G,hne',λm2 hm2 hx2=>⟨_,_,U,U,?_⟩⟩;have em2:=mx m2 hm2 hx2;try dsimp only
   rw[em2];have hps2:=s2 _ _ hps;refine⟨_,U,_,U,p,ps,_,_,U,bV.l G,bV.t hps2,?_⟩;refine Zed (xs:=(cs.map λc:Nat=>(c:Int)).map V.int) (ys:=bs.map V.ref) (λi zs H'=>∃ds:List Av,zs=ds.map V.ref/\ds.length=i/\i<=nx.length/\(∀(j:Nat)(d:Av)(kk:Int×Ak),ds[j]?=some d->(jb nx cs)[j]?=some kk->Mu H' kk d)/\ZK H2 H') ⟨[],U,U,cD _,(λj d kk hd=>by cases hd),ZK.refl _⟩ ?_ ?_ ?_ ?_
   .refine λi zs H'=>ε1 λds=>θ3 λzq0 hd hi _=>?_;subst zq0;rw[aI,hd];exact a8 (Yz Vc)
   .rintro i zs H' ⟨ds,_,_,_,_,s'⟩;exact⟨bV.l (s' _ _ G),bV.t (s' _ _ hps2)⟩
   .refine λi x y q zs H3 R hR J hy'=>ε1 λds=>θ4 λzq0 Z hi hpa s3=>λhq=>?_;subst zq0;rw[aY,aY]at J;cases hc:cs[i]? with
    |none=>rw[hc]at J;cases J
    |some c=>
    rw[hc]at J;cases J;rw[aY]at hy';obtain⟨b,hb,rfl⟩:=eG.mp hy';have hil:i<nx.length:=by have:=(bM.mp hc).1;lia
    have hrow:nx[i]?=some nx[i]:=aR hil;have hbr:H b=am (JE nx[i]):=hsb i _ b (by rw[aY,hrow];rfl) hb;obtain⟨r8,rlt⟩:=hnx nx[i] (f7 hil);have sq:=Zd (o:=.tup [.int c,.ref b]) hq;have s4:=(s2.trans s3).trans sq;unfold oU;try dsimp only
    rw[aN U];refine⟨_,U,_,U,_,U,b,p,nx[i],cs.map λc:Nat=>(c:Int),U,s4 _ _ hbr,(s3.trans sq) _ _ G,λs hs=>by rw[aI,C];exact rlt s hs,Vc,by rw[aI];lia,λt H5 ht0 ht s5=>⟨yF,λd hd=>hR _ _ ⟨ds++[d],by rw[dC];rfl,by rw[aZ,Z];rfl,hil,λj d' kk hj I=>?_,((s3.trans sq).trans s5).trans (Zd hd)⟩⟩⟩;have sd:=Zd (o:=.tup [.int c,.ref t]) hd;rw[List.getElem?_append]at hj;split at hj
    .have:=hpa j d' kk hj I;exact pX.keep _ _ _ _ (λb xs e=>((sq.trans s5).trans sd) _ _ e) this
    .rename_i hnl;have hji:j=i:=by
      have:=(bM.mp hj).1;rw[List.length_singleton]at this;lia
     subst hji;rw[Z,nB]at hj;cases hj;rw[qW hc hrow]at I;cases I;refine⟨t,Za,_,sd _ _ ht,?_⟩;rw[cR,cR,cR];refine mK λs _=>?_;show some ((cs.map λc:Nat=>(c:Int)).getD s 0)=some ((cs.getD s 0:Nat):Int);rw[cF,cF,aY];cases cs[s]?<;>rfl
   .refine λzs H3=>ε1 λds=>θ4 λzq0 Z hi hpa s3=>λl hl3=>?_;subst zq0;have hzl:(((cs.map λc:Nat=>(c:Int)).map V.int).zip (bs.map V.ref)).length=nx.length:=by
     rw[mI,aI,aI,aI,C,hbs,aI,Hu]
    rw[hzl]at Z;have sl:=Zd (o:=.lst (ds.map V.ref)) hl3;refine⟨Int×Ak,_,pX,l,ds,jb nx cs,U,.inl Za,by rw[jc C];lia,λi b kk hb I=>pX.keep _ _ _ _ (λb xs e=>sl _ _ e) (hpa i b kk hb I),by rw[jc C];lia,λp' H6 hp6 hq6 s6=>?_⟩;rw[uf]at hq6;have s26:=(s2.trans s3).trans (sl.trans s6);exact⟨p',U,hq6,(s2.trans s3).free (sl.free hp6),s26⟩
 .have Y:(ZW cs).length<=g:=by
   have:¬(g:Int)<m+1:=λz=>hgt (bC z);simp_all
  have O:=hst.resolve_left (λz=>by
   have:(0:Int)<m+1:=by
    obtain⟨c,_,rfl⟩:=bG.mp hm;lia
   simp_all) Y
  exact⟨_,U,k p cs H2 hpH hp2 C O hnn hcls (by rw[hcn]at O ⊢;exact(Zli O Vc).symm) s2⟩
def zK:Ai:=["x","y","ab","aba","nots","adda","lowly","z","orb","xx","samer","pickaxes","yesx","subx","a","ba"]
def CP:Aj:=[97,101,105,111,117]
def Hh:Aj:=("bcdfghjkmpqrtvxz" : Str).cps.toList
omit T TB in
theorem Zqs:∀y∈zK,y∉YT:=Va
omit T TB in
theorem QY:zK.Nodup:=Va
omit T TB in
theorem LX:∀c∈Hh,c∉CP/\c∉("lnsw" : Str).cps.toList:=Va
omit T TB in
theorem V4:∀c∈("lnsw" : Str).cps.toList,c∉CP:=Va
omit T TB in
theorem Zlw:∀y∈YT,∃c∈y.cps.toList,c∈CP:=Va
omit T TB in
theorem BC{y:Str}(h:∀c∈y.cps.toList,c∉CP):y∉YT:=λz=>let⟨c,h1,h2⟩:=Zlw y z;h c h1 h2
omit T TB in
theorem Zlx:∀y∈zK,pM y:=Va
omit T TB in
theorem Nt:∀c∈Hh,C0 c:=Va
omit T TB in
theorem Ub:∀c∈("lnsw" : Str).cps.toList,C0 c:=Va
omit T TB in
theorem KY{y:Str}(h1:1<=y.cps.toList.length)(h2:y.cps.toList.length<=8)(q:∀c∈y.cps.toList,C0 c/\c∉CP):Em y:=⟨⟨⟨h1,h2⟩,λc g=>(q c g).1⟩,BC λc g=>(q c g).2⟩
inductive qc:Prop
 |mk(cell:Int)(many:Nat):vs=[.int cell,.int many]->many<=3->(∀p (ys:Ai) H',H p=none->H' p=am (ys.map V.str)->ys.length=many->ys.Nodup->(∀y∈ys,Em y)->PyProof.Rows.sortedS ys=true->ZK H H'->Q (.ref p) H')->qc
omit T TB in
theorem Zqv{ys:Ai}{x s:Int}(h0:0<=x)(T:1<=s)(Y:s<=5)(G:ys.length=3)(h:∀(i:Nat)(y:Str),ys[i]?=some y->zK[((x+(i:Int)*s)%16).toNat]?=some y):ys.Nodup:=by
 match ys,G with
 |[a,b,c],_=>
  have B:=h 0 a rfl;have q:=h 1 b rfl;have C:=h 2 c rfl;have ne:∀{i j:Int} {u v:Str},0<=i->i<16->0<=j->j<16->i≠j->zK[i.toNat]?=some u->zK[j.toNat]?=some v->u≠v:=λ{i j u v} Z i1 j0 j1 J Q F e=>by
   subst e;have e1:=W9 QY Q;have e2:=W9 QY F;lia
  have g:∀z:Int,0<=z%16/\z%16<16:=λz=>⟨Vc,Vc⟩;have O:=ne (g _).1 (g _).2 (g _).1 (g _).2 Vc B q;have I:=ne (g _).1 (g _).2 (g _).1 (g _).2 Vc B C;have D:=ne (g _).1 (g _).2 (g _).1 (g _).2 Vc q C;simp[O,I,D]
theorem uQ:bL T.ib P w wn 2 (bX qc):=by
 have C:=GZ P wn T TB;refine T.ib.go Y8 ?_;rintro cdv A xz s H _ Q E hr ⟨cell,many,rfl,hmany,k⟩;refine⟨_,(Zc (ZA 2 Y8.nd (Zn T.cm C hr (Zg (qv 0) (Zg Ze (Zg Ze Zb)))))
   (Zc (ZA 3 Y8.nd (YS (Zg Zj (Zg Zj (Zg Zj (Zg Zj (Zg Zj (Zg Zj (Zg Zj (Zg Zj (Zg Zj (Zg Zj (Zg Zj (Zg Zj Zb))))))))))))))
   (Zc (ZA 3 Y8.nd (Zl gg (qv 3) (YS (Zg Zj (Zg Zj (Zg Zj (Zg Zj Zb)))))))
   (Zc (jr (i:=4) Y8.nd U U ({}:Ye (Zh Ju) _ ["cell","many","xs","menu","some","base","at","turn"] "k" ["menu","xs"] [3,2]) (XQ U T.aw (Zg Ze Zb)) (λ_ _ _ _=>YZ) (λ_ _ _ _=>(Zp (show d5 _ (CL K)from Z5) (qv 1) (Zl Yl (Zl Xd (Zp (show d5 _ (CL K)from Z5) (qv 2) Ze) (Zl qi (qv 0) (Zl Xd Ze (Zl Yl (Zp (show d5 _ (CL K)from Z5) (qv 2) Ze) Ze)))) Ze))))
   (Zc (Yc (Zu Xq (Zl Yl (Zp Z5 (qv 2) Ze) Ze) Ze (ZS _))
   (Zc (ZA 5 Y8.nd (Yo PySem.F.plainAttrs_str PySem.F.slot_str_join PySem.F.type_str_join Uk Zj (Zg (Yy ({}:Ye (Zh Ju) _ ["cell","many","xs","menu","some","base","at","turn"] "k" ["xs"] [2]) (XQ U T.aw (Zg (Zl Xd Ze (Zl Yl (Zp Z5 (qv 2) Ze) Ze)) Zb)) (λ_ _ _ _=>YZ) (λ_ _ _ _=>(Zp L1 Zj (Zl Yl (Zp (show d5 _ (CL K)from Z5) (qv 1) (Zl Xd Ze (qv 0))) Ze)))) Zb)))
   (Zc (ZA 6 Y8.nd (Zl Yl (Zp Z5 (qv 2) Ze) (Zs zf (by rfl) T.ag Yn (Zg (qv 5) Zb))))
   (Zf (ZA 4 Y8.nd (YS (Zg (qv 5) (Zg (Zl xy (qv 5) (Zp L1 Zj (Zl Yl (Zp Z5 (qv 2) Ze) Ze))) (Zg (Zl xy (Zl xy (YY NX (qv 5) WS (Xb (qv 6))) (Zp L1 Zj (Zl Yl (Zp Z5 (qv 2) Ze) Ze))) (YY NX (qv 5) (Xb (Zl Xd (qv 6) Ze)) WS)) Zb)))))))) Z3)
   (Zc (ZA 7 Y8.nd (Zl Yl (Zl XI (Zp Z5 (qv 2) Ze) Ze) Ze))
   (Zf (Zq (ZR Z4 (by rfl) T.af ZY (Zg (Zs gu (by rfl) T.mm gj (Zg (YY WN (Zl gg (YY WN (qv 4) (Xb (qv 7)) WS) (YY WN (qv 4) WS (Xb (qv 7)))) WS (Xb (qv 1))) Zb)) Zb)))))))))),?_⟩
 try dsimp only[L2.iN,L2.c8]
 refine⟨_,U,cell,12,400,U,Vb,Vb,Vb,λp ns H1 hp h1 hl hb s1=>?_⟩;have hx:∀j,j<12->0<=ns.getD j 0/\ns.getD j 0<400:=λj hj=>R0 hb j Vc;refine⟨ES,λm1 hm1=>?_⟩;refine⟨_,U,DO,λm2 hm2=>⟨m1,m2,_,_,U,U,Zd hm2 _ _ Za,Za,EW,λm hm=>?_⟩⟩;have s4:=((Zd (o:=.lst [.str "x",.str "y",.str "ab",.str "aba",.str "nots",.str "adda",.str "lowly",.str "z",.str "orb",.str "xx",.str "samer",.str "pickaxes"]) hm1).trans (Zd (o:=.lst [.str "yesx",.str "subx",.str "a",.str "ba"]) hm2)).trans (Zd (o:=.lst (zK.map V.str)) hm);refine⟨3,U,Vb,Vb,gT (n:=3) (λi v=>∃y,v=.str y/\zK[((ns.getD 1 0+(i:Int)*(1+ns.getD 2 0%5))%16).toNat]?=some y) Vb (λi hi R hR=>?_) (λvs J hvP q hq=>?_)⟩
 .have e0:0<=(ns.getD 1 0+(0+(i:Int))*(1+ns.getD 2 0%5))%16:=fF _ Vb;have e1:(ns.getD 1 0+(0+(i:Int))*(1+ns.getD 2 0%5))%16<16:=fY _ Vb;rw[Fx]at e0 e1;obtain⟨y,D⟩:∃y,zK[((ns.getD 1 0+(i:Int)*(1+ns.getD 2 0%5))%16).toNat]?=some y:=⟨_,aR (by show _<16;lia)⟩;have ey:fN (zK.map V.str) ((ns.getD 1 0+(0+(i:Int))*(1+ns.getD 2 0%5))%16)=some (.str y):=by
   rw[Fx];obtain⟨j,hj⟩:∃j:Nat,(ns.getD 1 0+(i:Int)*(1+ns.getD 2 0%5))%16=(j:Int):=⟨_,(Int.toNat_of_nonneg e0).symm⟩;rw[hj,dr]at D;rw[hj];exact Yu (by rw[aY,D];rfl)
  exact⟨_,U,_,U,p,_,_,_,U,U,aF.of (s4 _ _ h1),ZQ 1 rfl Vc,_,U,_,U,p,_,_,_,U,U,aF.of (s4 _ _ h1),ZQ 2 rfl Vc,_,_,U,U,(by show(0:Int)<5;decide),_,_,U,U,_,_,U,U,.inr (.inl ⟨Vc,Vc⟩),_,_,U,U,_,_,U,U,(by show(0:Int)<16;decide),m,zK.map V.str,_,_,U,U,aF.of Za,ey,hR _ ⟨y,U,D⟩⟩
 obtain⟨ys,rfl,_⟩:=KZ (P:=λ_=>True) (λv hv=>by
  obtain⟨i,hi⟩:=sO.mp hv;obtain⟨y,e,_⟩:=hvP i v hi;exact⟨y,e,trivial⟩)
 rw[aI]at J;have hyi:∀(i:Nat)(y:Str),ys[i]?=some y->zK[((ns.getD 1 0+(i:Int)*(1+ns.getD 2 0%5))%16).toNat]?=some y:=λi y D=>by
  obtain⟨z,e,h⟩:=hvP i (.str y) (by rw[aY,D];rfl);injection e with e;rw[e];exact h
 have hys:∀y∈ys,Em y:=λy D=>by
  obtain⟨i,hi⟩:=sO.mp D;exact⟨Zlx y (bP (hyi i y hi)),Zqs y (bP (hyi i y hi))⟩
 have b2:=hx 2 Vb;have hyd:ys.Nodup:=Zqv (x:=ns.getD 1 0) (s:=1+ns.getD 2 0%5) (hx 1 Vb).1 Vc Vc J hyi;have s5:=s4.trans (Zd (o:=.lst (ys.map V.str)) hq);refine Zi ?_;refine Kw (λσ H'=>∃(q:Av)(ys:Ai)(b a:Option V),σ=[ad cell,ad many,ac p,ac m,ac q,b,a,none]/\H' q=ap (ys.map V.str)/\ys.length=3/\ys.Nodup/\(∀y∈ys,Em y)/\ZK H1 H') (λN hN=>?_) ?_
 .refine⟨_,U,p,_,_,_,U,U,aF.of (s5 _ _ h1),ZQ 0 rfl Vc,_,_,U,U,(by show(0:Int)<2;decide),U,_,U,G5 (λ_=>?_) (λ_=>?_)⟩
  .have b1:=hx 1 Vb;refine⟨U,_,U,p,_,_,_,U,U,aF.of (s5 _ _ h1),ZQ 1 rfl Vc,_,_,U,U,(by show(0:Int)<7;decide),_,_,U,U,_,U,?_,?_,gT (n:=(1+ns.getD 1 0%7).toNat) (λ_ v=>∃y,v=.str y/\∃c,y=⟨#[c]⟩/\c∈Hh) ?_ (λi hi R hR=>?_) (λvs J hvP l hl2=>?_)⟩
   .lia
   .lia
   .exact a8 (Zw Vc)
   .obtain⟨c,I,ec⟩:=Lu (z:=("bcdfghjkmpqrtvxz" : Str)) (i:=ns.getD (3+i) 0%16) 16 Va (fF _ Vb) (fY _ Vb);exact⟨_,U,_,U,_,_,U,U,p,_,_,_,U,U,aF.of (s5 _ _ h1),ZQ (3+i) Vc Vc,_,_,U,U,(by show(0:Int)<16;decide),_,_,c,U,U,Va,ec,hR _ ⟨_,U,c,U,I⟩⟩
   obtain⟨zs,rfl,hzs⟩:=KZ (P:=λy=>∃c,y=⟨#[c]⟩/\c∈Hh) (Bp hvP);rw[aI]at J;obtain⟨f1,f2,f3⟩:=Ue hzs;have s6:=s5.trans (Zd (o:=.lst (zs.map V.str)) hl2);refine⟨_,l,zs,U,U,aF.of Za,?_,?_⟩
   .rw[f3];show zs.length+zs.length*0<=_;lia
   have js:=TZ ("" : Str) Va zs;rw[<-js]at f1 f2;generalize Txt.join ("" : Str) zs=B at *;have hB:B.length=zs.length:=by rw[bU];exact f1
   refine⟨_,U,p,_,_,_,U,U,aF.of (s6 _ _ h1),ZQ 2 rfl Vc,_,U,B,U,a8 (Zw Vc),_,_,U,U,(by show(0:Int)<B.length;lia),?_⟩;try dsimp only
   have a0:0<=ns.getD 2 0%(B.length:Int):=fF _ Vc;have a1:ns.getD 2 0%(B.length:Int)<B.length:=fY _ Vc;generalize ns.getD 2 0%(B.length:Int)=a at *;obtain⟨j,rfl⟩:∃j:Nat,a=(j:Int):=⟨a.toNat,Vc⟩;obtain⟨c1,hc1,ec1⟩:=Lu (z:=("bcdfghjkmpqrtvxz" : Str)) (i:=ns.getD 10 0%16) 16 Va (fF _ Vb) (fY _ Vb);obtain⟨G,hc2,ec2⟩:=Lu (z:=("lnsw" : Str)) (i:=ns.getD 11 0%4) 4 Va (fF _ Vb) (fY _ Vb);have Z:(Txt.slice B none (some (j:Int))).cps.toList=B.cps.toList.take j:=Zkz Vc;have Y:(Txt.slice B (some ((j:Int)+1)) none).cps.toList=B.cps.toList.drop (j+1):=VY (i:=j+1) Vc;have l1:=CT B none (some (j:Int));have l2:=CT B (some ((j:Int)+1)) none;have one:∀c:Nat,(⟨#[c]⟩:Str).length=1:=λ_=>rfl;refine⟨_,U,_,U,_,U,p,_,_,_,U,U,aF.of (s6 _ _ h1),ZQ 10 rfl Vc,_,_,U,U,(by show(0:Int)<16;decide),_,_,c1,U,U,Va,ec1,_,_,U,U,?_,?_⟩
   .rw[one];exact a8 (Zw Vc)
   refine⟨_,U,_,U,_,U,_,U,a8 (Zw Vc),_,U,p,_,_,_,U,U,aF.of (s6 _ _ h1),ZQ 11 rfl Vc,_,_,U,U,(by show(0:Int)<4;decide),_,_,G,U,U,Va,ec2,_,_,U,U,?_,?_⟩
   .rw[one];exact a8 (Zw Vc)
   refine⟨_,U,_,U,_,_,U,U,_,U,_,U,a8 (Zw Vc),_,_,U,U,?_,AO,λg hg=>?_⟩
   .rw[Str.length_append,one];exact a8 (Zw Vc)
   refine hN _ _ ⟨g,[B,B++⟨#[c1]⟩,Txt.slice B none (some (j:Int))++⟨#[G]⟩++Txt.slice B (some ((j:Int)+1)) none],_,_,U,Za,U,?_,?_,s6.trans (Zd hg)⟩
   .have e1:(B++⟨#[c1]⟩:Str).cps.toList=B.cps.toList++[c1]:=Y7 _ _;have e2:(Txt.slice B none (some (j:Int))++⟨#[G]⟩++Txt.slice B (some ((j:Int)+1)) none).cps.toList=B.cps.toList.take j++[G]++B.cps.toList.drop (j+1):=by rw[Y7,Y7,Z,Y]
    have lB:=bU B;have jl:j<B.cps.toList.length:=Vc
    have O:(B.cps.toList.take j++[G]++B.cps.toList.drop (j+1))[j]?=some G:=by
     rw[lW,eL (by rw[cE];lia),cE,Bi Vc,nB];rfl
    have nc2:∀c,B.cps.toList[j]?=some c->c≠G:=λc I e=>(LX c (f2 c (bP I))).2 (by rw[e];exact hc2);have d12:B≠B++⟨#[c1]⟩:=λe=>by
     have:=congrArg (λs:Str=>s.cps.toList.length) e;simp only[e1,aZ,lL,Bg]at this;lia
    have d13:B≠Txt.slice B none (some (j:Int))++⟨#[G]⟩++Txt.slice B (some ((j:Int)+1)) none:=λe=>by
     have e3:=congrArg (λs:Str=>s.cps.toList) e;simp only[e2]at e3;rw[<-e3]at O;exact nc2 _ O U
    have d23:B++⟨#[c1]⟩≠Txt.slice B none (some (j:Int))++⟨#[G]⟩++Txt.slice B (some ((j:Int)+1)) none:=λe=>by
     have e3:=congrArg (λs:Str=>s.cps.toList) e;simp only[e1,e2]at e3;rw[<-e3,eH jl]at O;exact nc2 _ O U
    simp[d12,d13,d23]
   .intro y D;simp only[bR,fQ,nR]at D;have lB:=bU B;have cn:∀c∈B.cps.toList,C0 c/\c∉CP:=λc I=>⟨Nt c (f2 c I),(LX c (f2 c I)).1⟩;rcases D with rfl|rfl|rfl
    .exact KY Vc Vc cn
    .refine KY (by rw[Y7,aZ];lia) (by rw[Y7,aZ];show _+1<=8;lia) λc I=>?_
     rw[Y7]at I;rcases dH.mp I with h|h
     .exact cn c h
     .rw[b9.mp h];exact⟨Nt c1 hc1,(LX c1 hc1).1⟩
    .have el:(B.cps.toList.take j++[G]++B.cps.toList.drop (j+1)).length=B.cps.toList.length:=by
      rw[aZ,aZ,cE,iD];show min j _+1+_=_;lia
     refine KY (by rw[Y7,Y7,Z,Y,el];lia) (by rw[Y7,Y7,Z,Y,el];lia) λc I=>?_;rw[Y7,Y7,Z,Y]at I;rcases dH.mp I with h|h
     .rcases dH.mp h with h|h
      .exact cn c (rW h)
      .rw[b9.mp h];exact⟨Ub G hc2,V4 G hc2⟩
     .exact cn c (CG h)
  .exact hN _ _ ⟨q,ys,none,none,U,Za,J,hyd,hys,s5⟩
 refine λσ H'=>ε4 λq ys b a=>θ5 λzq0 hq hl3 hyd hys s6=>?_;subst zq0;refine⟨_,U,p,_,_,_,U,U,aF.of (s6 _ _ h1),ZQ 0 rfl Vc,_,_,U,U,.of Vb Vb,_,_,U,U,(by show(0:Int)<3;decide),?_⟩;try dsimp only
 have t0:0<=ns.getD 0 0/2%3:=Vc
 generalize ns.getD 0 0/2%3=t at *;obtain⟨t,rfl⟩:∃j:Nat,t=(j:Int):=⟨t.toNat,Vc⟩;refine⟨_,U,_,U,_,U,q,_,U,aF.of hq,λl1 hl1=>?_⟩;rw[GC,gS];have u1:=Zd (o:=.lst ((ys.drop t).map V.str)) hl1;refine⟨_,U,_,U,_,U,q,_,U,aF.of (u1 _ _ hq),λl2 hl2=>?_⟩;rw[GC,jI];have u2:=Zd (o:=.lst ((ys.take t).map V.str)) hl2;refine⟨l1,l2,_,_,U,U,u2 _ _ Za,Za,?_,λl3 hl3'=>?_⟩
 .rw[aI,aI,iD,cE];exact a8 (Zw Vc)
 rw[<-dC];have u3:=Zd (o:=.lst ((ys.drop t++ys.take t).map V.str)) hl3';refine⟨_,U,_,U,l3,_,U,aF.of Za,λl4 hl4=>?_⟩;rw[GC,jI];have u4:=Zd (o:=.lst (((ys.drop t++ys.take t).take many).map V.str)) hl4;refine⟨l4,_,U,aF.of Za,?_,λl5 ms hl5 hpm hsr=>⟨l5,_,U,.inl ⟨aF.of Za,λl6 hl6=>?_⟩⟩⟩
 .rw[cE];lia
 have u5:=Zd (o:=.lst (ms.map V.str)) hl5;have u:=s1.trans (s6.trans (((u1.trans u2).trans (u3.trans u4)).trans u5));refine k l6 ms _ (u.free hl6) Za ?_ ?_ ?_ hsr (u.trans (Zd hl6))
 .rw[hpm.length_eq,cE,aZ,iD,cE];lia
 .refine hpm.nodup_iff.mpr (List.Nodup.sublist (List.take_sublist _ _) ?_);exact(List.perm_append_comm.nodup_iff).mpr (by rw[oN];exact hyd)
 .intro y D;have:=rW (hpm.mem_iff.mp D);rcases dH.mp this with z|z
  .exact hys y (CG z)
  .exact hys y (rW z)
inductive zy:Prop
 |mk(pn tn:Av)(ns:Ak)(ys:Ai)(most:Nat):vs=[.ref pn,.ref tn,.int most]->H pn=ap (ns.map V.int)->1<=ns.length->ns.length<=20->(∀x∈ns,0<=x)->H tn=am (ys.map V.str)->ys.length<=3->(∀y∈ys,y∉YT)->(∀p ws H',H' p=am ws->ws.length<2*ns.length->(∀w∈ws,Gn ys 10 w)->Yh ws->WX ws=1->YA ws<=most->ZK H H'->Q (.ref p) H')->zy
def YR (y:Str):Nat:=if y = "pick" then 3 else if y∈(["not","neg","twice","low"]:Ai)then 1 else 2
omit T TB in
theorem SM:∀y∈GD,YD y=YR y:=Va
omit T TB in
theorem Ta(y:Str):1<=YR y/\YR y<=3:=by
 unfold YR;split
 .lia
 .split<;>lia
theorem RN:bL T.dj P w wn 2 (bX zy):=by
 have Z:=UX P wn T TB;have J:=vc P wn T TB;have G_law_word:=Sl P wn T TB;refine T.dj.go Yq ?_;rintro cdv A xz s H _ Q E Y ⟨pn,tn,ns,ys,C,rfl,hpn,h1,h20,hns,htn,hy3,hyk,k⟩;refine⟨_,(Zc (ZA 3 Yq.nd (YS Zb))
   (Zc (ZA 4 Yq.nd (qv 2))
   (Zc (YG dG U (Xs (qv 0)) (YV 5 Yq.nd)
   (Zc (ZA 6 Yq.nd (Zn T.ie G_law_word Y (Zg (qv 5) (Zg (qv 4) Zb))))
   (Zc (ZA 7 Yq.nd Ze)
   (Zc (Yc (Zu Y3 (qv 6) (Zt (Zg Zj (Zg Zj (Zg Zj (Zg Zj Zb))))) Vg)
   (Zf (ZA 7 Yq.nd Ze)) Z3)
   (Zc (Yc (Zu Xq (qv 6) Zj (ZS _))
   (Zf (ZA 7 Yq.nd Ze)) Z3)
   (Zf (Yc (x9 (q8 (Zu Xq (qv 6) Zj (ZS _)) (jo (Zu yH (Zs Zx (by rfl) T.ag Yn (Zg (qv 3) Zb)) (qv 7) (ZS _)))))
   (Zf (Ya (Yo c9 dE dD ZH (qv 3) (Zg (Zn T.ic Z Y (Zg (qv 5) (Zg (qv 1) Zb))) Zb)))) (Zc (ZA 4 Yq.nd (Zl ji (qv 4) (Zn T.fh J Y (Zg (YS (Zg (qv 6) Zb)) Zb))))
   (Zc (ZA 8 Yq.nd (Zt (Zg (qv 6) Zb)))
   (Zc (YG dG U (Xs (YY WN (qv 3) (Xb (Zl ji (Zs Zx (by rfl) T.ag Yn (Zg (qv 3) Zb)) (qv 7))) WS)) (YV 9 Yq.nd)
   (Zf (ZA 8 Yq.nd (Zl Zm (qv 8) (qv 9)))))
   (Zf (ZA 3 Yq.nd (Zl gg (YY WN (qv 3) WS (Xb (Zl ji (Zs Zx (by rfl) T.ag Yn (Zg (qv 3) Zb)) (qv 7)))) (YS (Zg (qv 8) Zb)))))))))))))))
   (Zc (q9 dG (Zu II (Zs Zx (by rfl) T.ag Yn (Zg (qv 3) Zb)) Ze (ZS _))
   (Zf (ZA 3 Yq.nd (Zl gg (YY WN (qv 3) WS (Xb (Jr JA Ze))) (YS (Zg (Zl Zm (Zl Zm (Zt (Zg (Zp Z5 (YS (Zg Zj (Zg Zj (Zg Zj Zb)))) (Zl Yl (Zs Zx (by rfl) T.ag Yn (Zg (qv 3) Zb)) Ze)) Zb)) (Zp Z5 (qv 3) (Jr JA Ze))) (Zp Z5 (qv 3) (Jr JA Ze))) Zb))))))
   (Zf (Zq (Zp Z5 (qv 3) Ze))))))),?_⟩
 try dsimp only[L2.iN,L2.c8]
 refine⟨CN,λF hso=>Zi ⟨_,U,Zi ?_⟩⟩;have s0:=Zd (o:=.lst []) hso;refine⟨_,U,pn,U,⟨_,aF.of (s0 _ _ hpn)⟩,kg (K:=K) (a:=pn) (xs:=ns.map V.int) (λi σ H2=>∃(F:Av)(left:Nat)(u5 u6 u7 u8 u9:Option V)(zs:A1)(B:Ay),σ=[some (.ref pn),some (.ref tn),some (.int C),some (.ref F),some (.int left),u5,u6,u7,u8,u9]/\H2 F=some (.lst zs)/\H F=none/\YO H2 zs B/\Bm ys B/\YA B.flatten+left=C/\B.flatten.length<=i/\B.length<=i/\(1<=i->1<=B.length)/\i<=ns.length/\ZK H H2) ⟨F,C,none,none,none,none,none,[],[],U,Za,hso,YO.nil,(λps hp=>by cases hp),CD _,aM _,aM _,(λh=>absurd h (Nat.not_succ_le_zero _)),cD _,s0⟩ (λi σ H2 _ ⟨_,_,_,_,_,_,_,_,_,_,_,_,_,_,_,_,_,_,_,s⟩=>aF.of (s _ _ hpn)) ?_ ?_⟩
 .refine λi x σ H2 hx=>ε6 λF left u5 u6 u7 u8=>ε3 λu9 zs B=>θ6 λzq0 h2 hso0 R2 G2 I=>θ4 λhfl hpl hp1 _ s2=>?_;subst zq0;rw[aY]at hx;obtain⟨n,hn,rfl⟩:=eG.mp hx;have hi:i<ns.length:=(bM.mp hn).1;have hn0:=hns n (bP hn);have hzl:=R2.1;refine⟨_,U,_,U,n,(left:Int),U,hn0,λy H3 hy hyr s3=>Zi ?_⟩;have s23:=s2.trans s3;have h3:=s3 _ _ h2;have R3:=R2.same s3;refine Kw (λσ H'=>σ=[some (.ref pn),some (.ref tn),some (.int C),some (.ref F),some (.int left),some (.int n),some (.str y),some (.int 2),u8,u9]/\H'=H3) (λN hN=>hN _ _ ⟨U,U⟩) ?_;rintro σ H3 ⟨rfl,rfl⟩;refine NZ (λσ H'=>σ=[some (.ref pn),some (.ref tn),some (.int C),some (.ref F),some (.int left),some (.int n),some (.str y),some (.int (if y∈(["not","neg","twice","low"]:Ai)then 1 else 2)),u8,u9]/\ZK H3 H') (λN hN=>?_) ?_
  .refine⟨_,U,DO,λq hq=>⟨q,_,U,.inr (aD.of Za),U,U,_,U,?_⟩⟩;show if cG (.str y) ((["not","neg","twice","low"]:Ai).map V.str)=true then _ else _;rw[Yg];have sq:=Zd (o:=.tup [.str "not",.str "neg",.str "twice",.str "low"]) hq
   by_cases h:y∈(["not","neg","twice","low"]:Ai)
   .rw[aN h]at hN;rw[bC h];exact Xe (hN _ _ ⟨U,sq⟩)
   .rw[aL h]at hN;rw[bO h];exact YJ (hN _ _ ⟨U,sq⟩)
  rintro σ H4 ⟨rfl,s4⟩;refine NZ (λσ H'=>σ=[some (.ref pn),some (.ref tn),some (.int C),some (.ref F),some (.int left),some (.int n),some (.str y),some (.int (YR y:Int)),u8,u9]/\H'=H4) (λN hN=>?_) ?_
  .refine⟨_,U,U,_,U,?_⟩;unfold YR at hN
   by_cases h:y = "pick"
   .rw[aN h]at hN;rw[bC (congrArg V.str h)];exact Xe (hN _ _ ⟨U,U⟩)
   .rw[aL h]at hN;rw[bO λz=>h (by injection z)];refine YJ (hN _ _ ⟨?_,U⟩);split<;>rfl
  rintro σ H5 ⟨rfl,rfl⟩;have s24:=s23.trans s4;have h4:=s4 _ _ h3;have R4:=R3.same s4;have hbw:=Ta y;have atom:∀(D:Ends),(∀σ' H',(∃(F:Av)(left:Nat)(u5 u6 u7 u8 u9:Option V)(zs:A1)(B:Ay),σ'=[some (.ref pn),some (.ref tn),some (.int C),some (.ref F),some (.int left),u5,u6,u7,u8,u9]/\H' F=some (.lst zs)/\H F=none/\YO H' zs B/\Bm ys B/\YA B.flatten+left=C/\B.flatten.length<=i+1/\B.length<=i+1/\(1<=i+1->1<=B.length)/\i+1<=ns.length/\ZK H H')->D.nx σ' H')->F3 (FW K "list" uZ (yG 3) (qg (DX (bX J9) [] E0 (qg (yG 5) (qg (yG 1) nL))) nL)) D [some (.ref pn),some (.ref tn),some (.int C),some (.ref F),some (.int left),some (.int n),some (.str y),some (.int (YR y:Int)),u8,u9] H5:=by
   intro D hD;refine⟨_,U,.inl ⟨U,_,aF.of h4⟩,_,U,_,U,n,tn,ys,U,hn0,s24 _ _ htn,Vc,λp w H6 hp0 hp hleaf s6=>?_⟩;have h6:=s6 _ _ h4;obtain⟨w1,w2,w3⟩:=yc hyk hleaf;refine⟨F,_,_,U,U,h6,Zw Vc,hD _ _ ⟨F,left,_,_,_,_,_,zs++[.ref p],B++[[w]],U,Za,hso0,?_,?_,?_,?_,?_,?_,hi,Yp (s24.trans s6) hso0⟩⟩
   .exact(xW (λb xs e=>by rw[Zk (Xp e h6 nofun)];exact e) (R4.same s6)).snoc (by rw[Zk (Xp hp h6 nofun)];exact hp)
   .intro ps hps;rcases dH.mp hps with hps|hps
    .exact G2 ps hps
    .rw[b9.mp hps];exact⟨Zeq w2,λv hv=>by rw[b9.mp hv];exact w1⟩
   .rw[p6,GG];show YA B.flatten+YA [w]+left=C;rw[Jh,w3];exact I
   .rw[p6,aZ];show _+1<=_;lia
   .rw[aZ];show _+1<=_;lia
   .intro _;rw[aZ];show 1<=_+1;lia
  refine⟨_,U,U,_,U,?_⟩
  by_cases hye:y = ""
  .rw[bC (congrArg V.str hye)];exact Xe (Xe (atom _ λ_ _ z=>z))
  rw[bO λz=>hye (by injection z)];refine YJ ⟨_,U,F,_,U,.inl (aF.of h4),_,U,_,_,U,U,_,U,G5 (λ_=>atom _ λ_ _ z=>z) (λhlt=>?_)⟩;have hw:YR y<=zs.length:=by
   have:¬((zs.length:Int)<(YR y:Int)):=λz=>hlt (bC z);lia
  have hys:y∈GD:=hy.resolve_left hye;obtain⟨w1,w2,w3⟩:=je hyk hys;refine⟨_,U,_,U,vV,λq hq=>⟨q,[.str y],U,.inl Za,(λv hv=>.inl ⟨y,b9.mp hv⟩),by show 1<=100;decide,λH6 s6=>⟨_,_,U,U,Zi ?_⟩⟩⟩;have s56:=(Zd (o:=.lst [.str y]) hq).trans s6;obtain⟨O,hl'⟩:∃O:Nat,(left:Int)-(([V.str y].filter lC).length:Int)=(O:Int)/\left=O+if y∈qy then 1 else 0:=by
   by_cases Y:y∈qy
   .have h0:left≠0:=λz=>hyr (by rw[z];rfl) Y
    have e:[V.str y].filter lC=[.str y]:=List.filter_cons_of_pos (bC Y);exact⟨left-1,by rw[e];show(left:Int)-1=_;lia,by rw[aN Y];lia⟩
   .have e:[V.str y].filter lC=[]:=List.filter_cons_of_neg λz=>Y (dJ z)
    exact⟨left,by rw[e];show(left:Int)-0=_;lia,by rw[aL Y];lia⟩
  try dsimp only
  rw[hl'.1];refine⟨_,U,vV,λb0 hb0=>Zi ?_⟩;have s57:=s56.trans (Zd (o:=.tup [.str y]) hb0);have h7:=s57 _ _ h4;have R7:=R4.same s57;have hb7:=Za (H:=H6) (a:=b0) (o:=.tup [.str y]);try dsimp only
  generalize aC H6 b0 (.tup [.str y])=H7 at *;have ecut:zR zs (some ((zs.length:Int)-(YR y:Int))) none=zs.drop (zs.length-YR y):=by
   rw[show((zs.length:Int)-(YR y:Int))=((zs.length-YR y:Nat):Int) by lia];exact SO zs _
  have ecut2:zR zs none (some ((zs.length:Int)-(YR y:Int)))=zs.take (zs.length-YR y):=by
   rw[show((zs.length:Int)-(YR y:Int))=((zs.length-YR y:Nat):Int) by lia];exact ud zs _
  refine⟨_,U,_,U,F,_,U,.inl (aF.of h7),_,U,_,_,U,U,_,U,F,_,U,aF.of h7,λl1 hl1=>⟨l1,U,⟨_,aF.of Za⟩,?_⟩⟩;have s78:=Zd (o:=.lst (zR zs (some ((zs.length:Int)-(YR y:Int))) none)) hl1;have h8:=s78 _ _ h7;have R8:=R7.same s78;have hb8:=s78 _ _ hb7;have hl18:=Za (H:=H7) (a:=l1) (o:=.lst (zR zs (some ((zs.length:Int)-(YR y:Int))) none));have s28:=s24.trans (s57.trans s78);refine kg (K:=K) (a:=l1) (xs:=zR zs (some ((zs.length:Int)-(YR y:Int))) none) (λj σ H'=>∃(bt9:Av)(u9:Option V),σ=[some (.ref pn),some (.ref tn),some (.int C),some (.ref F),some (.int O),some (.int n),some (.str y),some (.int (YR y:Int)),some (.ref bt9),u9]/\H' bt9=some (.tup (.str y::((B.drop (B.length-YR y)).take j).flatten))/\ZK (aC H7 l1 (.lst (zR zs (some ((zs.length:Int)-(YR y:Int))) none))) H') ⟨b0,_,U,hb8,ZK.refl _⟩ (λj σ H' _=>ε2 λ_ _=>θ2 λ_ _ s=>aF.of (s _ _ hl18)) ?_ ?_
  .refine λj x σ H9 hx=>ε2 λbt9 u9=>θ2 λzq0 hb9 s9=>?_;subst zq0;rw[ecut,hzl]at hx;refine ω ((R8.drop (B.length-YR y)).at hx) (ε2 λa r=>θ2 λzq0 Y ha=>?_);subst zq0;have hlen:((B.drop (B.length-YR y)).take j).flatten.length+r.length<=100:=by
    have e1:((B.drop (B.length-YR y)).take (j+1)).flatten.length<=B.flatten.length:=by
     have e2:B.flatten=(B.take (B.length-YR y)).flatten++(((B.drop (B.length-YR y)).take (j+1)).flatten++((B.drop (B.length-YR y)).drop (j+1)).flatten):=by rw[<-p6,oN,<-p6,oN]
     rw[e2,aZ,aZ];lia
    rw[aB Y,p6,aZ,DV,FE,d9]at e1;lia
   refine⟨_,U,_,U,bt9,a,_,_,U,U,hb9,s9 _ _ ha,?_,λp9 H10 hp9 s10=>⟨p9,_,U,?_,s9.trans s10⟩⟩
   .rw[lL];exact a8 (Zw Vc)
   .rw[hp9,aB Y,p6,DV,FE,d9,FN]
  .refine λσ H9=>ε2 λbt9 u9=>θ2 λzq0 hb9 s9=>?_;subst zq0;rw[ecut,iD,hzl,i8 (by rw[iD];lia)]at hb9;have h9:=s9 _ _ h8;refine⟨_,U,_,U,F,_,U,.inl (aF.of h9),_,U,_,_,U,U,_,U,F,_,U,aF.of h9,λl2 hl2=>⟨_,U,vV,λl3 hl3=>?_⟩⟩;rw[ecut2]at hl3 ⊢;have s10:=Zd (o:=.lst (zs.take (zs.length-YR y))) hl2;have s11:=s10.trans (Zd (o:=.lst [.ref bt9]) hl3);refine⟨l2,l3,_,_,U,U,Zd hl3 _ _ Za,Za,?_,λl4 hl4=>?_⟩
   .rw[cE];exact a8 (Zw (by show _+1<=_;lia))
   have s12:=s11.trans (Zd (o:=.lst (zs.take (zs.length-YR y)++[.ref bt9])) hl4);have s2z:=s28.trans (s9.trans s12);obtain⟨f1,f2⟩:=um B (.str y) (B.length-YR y);refine⟨l4,O,_,_,_,_,_,zs.take (zs.length-YR y)++[.ref bt9],B.take (B.length-YR y)++[.str y::(B.drop (B.length-YR y)).flatten],U,Za,(s28.trans (s9.trans s11)).free hl4,?_,G2.word hyk hys (SM y hys) Vc,?_,Vc,?_,?_,hi,s2z⟩
   .have e9:B.length-YR y=zs.length-YR y:=Vc
    rw[e9]at hb9 ⊢;exact((R8.same (s9.trans s12)).take _).snoc (s12 _ _ hb9)
   .rw[f2,w3];have:=hl'.2
    by_cases Y:y∈qy
    .rw[aN Y]at this;rw[aN (bC Y)];lia
    .rw[aL Y]at this;rw[aL (λz=>Y (dJ z))];lia
   .rw[aZ,cE];show _+1<=_;lia
   .intro _;rw[aZ];show 1<=_+1;lia
 .refine λσ H2=>ε6 λF left u5 u6 u7 u8=>ε3 λu9 zs B=>θ6 λzq0 h2 hso0 R2 G2 I=>θ4 λhfl hpl hp1 _ s2=>?_;subst zq0;rw[aI]at hfl hpl hp1;have hp1:=hp1 h1;refine LW (λσ H2=>∃(F:Av)(zs:A1)(B:Ay),σ=[some (.ref pn),some (.ref tn),some (.int C),some (.ref F),some (.int left),u5,u6,u7,u8,u9]/\H2 F=some (.lst zs)/\YO H2 zs B/\Bm ys B/\YA B.flatten<=C/\B.flatten.length+B.length<=2*ns.length/\1<=B.length/\ZK H H2) (λσ H=>match σ with|[_,_,_,some (.ref F),_,_,_,_,_,_]=>(match H F with|some (.lst zs)=>zs.length|_=>0)|_=>0) ⟨F,zs,B,U,h2,R2,G2,Vc,Vc,hp1,s2⟩ ?_;refine λσ H2=>ε3 λF zs B=>θ6 λzq0 h2 R2 G2 I hfl=>θ1 λhp1 s2=>?_;subst zq0;have hzl:=R2.1;refine⟨_,U,F,_,U,.inl (aF.of h2),_,_,U,U,_,U,G5 (λhgt=>?_) (λhng=>?_)⟩
  .have lY:2<=zs.length:=by
    have:=dJ hgt;lia
   refine⟨λσ' H'=>∃(F:Av)(zs':A1)(G:Ay),σ'=[some (.ref pn),some (.ref tn),some (.int C),some (.ref F),some (.int left),u5,u6,u7,u8,u9]/\H' F=some (.lst zs')/\YO H' zs' G/\Bm ys G/\YA G.flatten<=C/\G.flatten.length+G.length<=2*ns.length/\1<=G.length/\zs'.length<zs.length/\ZK H H',?_,?_⟩
   .refine λσ' H'=>ε3 λso' zs' G=>θ6 λzq0 g1 g2 g3 g4 g5=>θ2 λg6 g7 g8=>?_;subst zq0;refine⟨zs'.length,?_,?_,so',zs',G,U,g1,g2,g3,g4,g5,g6,g8⟩
    .show zs'.length<(match H2 F with|some (.lst zs)=>zs.length|_=>0);rw[h2];exact g7
    .show _=(match H' so' with|some (.lst zs)=>zs.length|_=>0);rw[g1]
   .have pl:B.length=zs.length:=hzl.symm;obtain⟨a,ha1,ha⟩:=R2.2 (zs.length-2) _ (aR Vc);obtain⟨b,hb1,hb⟩:=R2.2 (zs.length-1) _ (aR Vc);have at2:=Qm (n:=2) ha1 Vc Vb;have at1:=Qm (n:=1) hb1 Vc Vb;have ecut:zR zs none (some (-2))=zs.take (zs.length-2):=uo (xs:=zs) (n:=2) lY Vb;have e2:B.drop (zs.length-2)=[B[zs.length-2]' Vc,B[zs.length-1]' Vc]:=by
     rw[rE Vc,rE Vc,List.drop_of_length_le Vc];congr 2;congr 1;lia
    generalize B[zs.length-2]' Vc=pa at *;generalize B[zs.length-1]' Vc=pb at *;have hpab:pa.length+pb.length<=B.flatten.length:=by
     have e3:B.flatten=(B.take (zs.length-2)).flatten++(B.drop (zs.length-2)).flatten:=by rw[<-p6,oN]
     rw[e3,e2,aZ];show _<=_+(pa++(pb++[])).length;rw[d9,aZ];lia
    obtain⟨y,hy,ey⟩:=zY (ys:=["and","or","odd"]) (i:=(zs.length:Int)%3) (fF _ Vb) (fY _ Vb);obtain⟨y1,y2,y3⟩:=(by decide +kernel:∀z∈(["and","or","odd"]:Ai),z∈GD/\z∉qy/\YD z=2) y hy;obtain⟨w1,w2,w3⟩:=je hyk y1;refine⟨_,U,_,U,_,U,F,_,U,aF.of h2,λl1 hl1=>⟨AO,λg hg=>?_⟩⟩;have s3:=Zd (o:=.lst (zR zs none (some (-2)))) hl1;have s4:=s3.trans (Zd (o:=.lst [.str "and",.str "or",.str "odd"]) hg);refine⟨_,U,F,_,U,.inl (aF.of (s4 _ _ h2)),_,_,U,U,(by show(0:Int)<3;decide),g,_,_,_,U,U,aF.of Za,ey,vV,λq1 hq1=>?_⟩;have s5:=s4.trans (Zd (o:=.tup [.str y]) hq1);refine⟨_,U,_,U,F,_,-2,.ref a,U,U,aF.of (s5 _ _ h2),at2,q1,a,_,_,U,U,Za,s5 _ _ ha,?_,λq2 H6 hq2 s6=>?_⟩
    .exact a8 (Zw (by show 1+_<=_;lia))
    have s26:=s5.trans s6;refine⟨_,U,_,U,F,_,-1,.ref b,U,U,aF.of (s26 _ _ h2),at1,q2,b,_,_,U,U,hq2,s26 _ _ hb,?_,λq3 H7 hq3 s7=>⟨vV,λl3 hl3=>⟨l1,l3,zR zs none (some (-2)),[.ref q3],U,U,?_,Za,?_,λl4 hl4=>?_⟩⟩⟩
    .exact a8 (Zw (by rw[aZ];show 1+_+_<=_;lia))
    .exact((Zd hg).trans ((Zd hq1).trans (s6.trans (s7.trans (Zd hl3))))) _ _ Za
    .rw[ecut,cE];exact a8 (Zw (by show _+1<=_;lia))
    have s8:=s26.trans (s7.trans (Zd (o:=.lst [.ref q3]) hl3));have s9:=s8.trans (Zd (o:=.lst (zR zs none (some (-2))++[.ref q3])) hl4);obtain⟨f1,f2⟩:=um B (.str y) (zs.length-2);have G3:=G2.word hyk y1 y3 Vc;rw[show B.length-2=zs.length-2 by lia]at G3;rw[e2]at f1 f2 G3;have efl:[pa,pb].flatten=pa++pb:=Ve
    rw[efl]at f1 f2 G3;have hq3':H7 q3=some (.tup (.str y::(pa++pb))):=by rw[hq3];rfl
    refine Zi ⟨l4,zs.take (zs.length-2)++[.ref q3],B.take (zs.length-2)++[.str y::(pa++pb)],U,?_,?_,G3,?_,?_,?_,?_,s2.trans s9⟩
    .rw[Za,ecut]
    .exact((R2.same s9).take _).snoc (((Zd hl3).trans (Zd hl4)) _ _ hq3')
    .rw[f2,w3,aL (λz=>y2 (dJ z))];exact I
    .rw[f1,aZ,cE];show _+1+(_+1)<=2*ns.length;lia
    .rw[aZ];show 1<=_+1;lia
    .rw[aZ,cE];show _+1<_;lia
  .have oE:zs.length=1:=by
    have:¬((1:Int)<(zs.length:Int)):=λz=>hng (bC z);lia
   match zs,B,oE,hzl,R2,G2,I,hfl,h2 with
   |[z],[ps],_,_,R2,G2,I,hfl,h2=>
    obtain⟨a,r,rfl,Y,ha⟩:=R2.at (i:=0) rfl;cases Y;obtain⟨g1,g2⟩:=G2 ps bN;obtain⟨e1,e2⟩:=g1.one;rw[DV,FE,d9]at I hfl;exact⟨_,U,F,_,0,_,U,U,aF.of h2,U,k a ps H2 ha Vc g2 e1 e2 I s2⟩
inductive Jm:Prop
 |mk(c:Av)(ps:List (Int×Int))(ws:A1):vs=[.ref c]->H c=am ws->cS H ps ws->Q (.bl true) H->Jm
theorem yD:bL T.eh P w wn 2 (bX Jm):=by
 have g:=uN P wn T TB;refine T.eh.go Gu ?_;rintro F A xz s H _ Q E D ⟨c,ps,I,rfl,C,G,k⟩;refine⟨_,(Zc (Yc (JS (Xn (Zs XJ (by rfl) T.ai Yj (Zg (qv 0) (Zg (WQ (v:=.ty "tuple") (by rfl) T.af ZY U) Zb)))))
   (Zf (Zq YM)) Z3)
   (Zc (YG dG U (Xf (qv 0)) (YV 1 Gu.nd)
   (Zf (Yc (x9 (q8 (JS (Xn (Zs XJ (by rfl) T.ai Yj (Zg (qv 1) (Zg (WQ (v:=.ty "tuple") (by rfl) T.af ZY U) Zb))))) (q8 (Zu CZ (Zs Zx (by rfl) T.ag Yn (Zg (qv 1) Zb)) Ze (ZS _)) (q8 (JS (Xn (Zn T.dt g D (Zg (Zp Zr (qv 1) Ze) Zb)))) (jo (JS (Xn (Zn T.dt g D (Zg (Zp Zr (qv 1) Ze) Zb)))))))))
   (Zf (Zq YM)) Z3)))
   (Zf (Zq YM)))),?_⟩
 refine⟨_,U,_,_,_,_,U,.tup C,Jp,_,U,YJ ⟨_,U,c,U,⟨_,aD.of C⟩,JQ (K:=K) (a:=c) (xs:=I) (λi σ H2=>∃B,σ=[ac c,B]/\H2=H) ⟨none,U,U⟩ (λi σ H2 _ ⟨_,_,e⟩=>e ▸ aD.of C) ?_ ?_⟩⟩
 .rintro i x σ H2 J ⟨B,rfl,rfl⟩;refine ω (G.at J) (ε2 λp a=>θ2 λO zq0 q=>?_);subst zq0;exact Zi ⟨_,U,_,_,_,_,U,.tup q,Jp,_,U,YJ ⟨_,U,a,_,U,.inr (aD.of q),U,_,U,YJ ⟨_,U,a,_,0,_,U,U,aD.of q,U,p.1,U,_,U,YJ ⟨_,U,a,_,1,_,U,U,aD.of q,U,p.2,U,_,U,YJ ⟨_,U,U⟩⟩⟩⟩⟩
 .rintro σ H2 ⟨B,rfl,rfl⟩;exact k
inductive Wb:Prop
 |mk(m a:Av)(nm:Ai)(b:Nat)(nx:Ad)(ot:Ay)(n:Nat)(Ls:Ad)(kb:Nat)(v:V)(tr:Bool):vs=[.ref m,.ref a,.int kb,v]->M4 H m nm b nx ot->bD nx ot n->b<nx.length->nx.length<=1000000->uE H a Ls->Ls≠[]->(∀L∈Ls,L.length<=1000/\∀l∈L,l<2^n)->Ls.length<=1000000->kb<=3->YE tr v->(∀r∈ot,∀x∈r,YE tr x)->(∀p H',H p=none->uE H' p (nM kb (eY (mN nx) (mB ot v) kb (cV (mN nx) [b] Ls) Ls).1 Ls)->bQ H H'->Q (.ref p) H')->Wb
theorem xq:bL T.cu P w wn 3 (bX Wb):=by
 have B:=GJ P wn T TB;have D:=qu P wn T TB;have I:=zG P wn T TB;refine T.cu.go ZT ?_;rintro cdv A xz s H _ Q E hr ⟨m,a,nm,b,nx,ot,n,Ls,G,v,tr,rfl,M,R,hb,hN,hA,hne,hL,hw,hkb,hv,hk,k⟩;refine⟨_,(Zc (ZA 4 ZT.nd (Zn T.dc I hr (Zg (qv 0) (Zg (qv 1) Zb))))
   (Zc (ZA 5 ZT.nd (YS Zb))
   (Zc (ZA 6 ZT.nd Hj)
   (Zc (YG dG U (Zpa U T.aw (Zg (Zl ji (Zs Zx (by rfl) T.ag Yn (Zg (qv 1) Zb)) Ze) (Zg (Jr JA Ze) (Zg (Jr JA Ze) Zb)))) (YV 7 ZT.nd)
   (Zc (ZA 8 ZT.nd (Zn T.bc D hr (Zg (Zp Z5 (qv 1) (qv 7)) (Zg (qv 2) (Zg Ze Zb)))))
   (Zc (ZA 9 ZT.nd (Zn T.ax B hr (Zg (qv 0) (Zg (Zp Z5 (qv 4) (qv 7)) (Zg (qv 8) (Zg (qv 6) (Zg (qv 3) Zb)))))))
   (Zc (Yc (Zu Xq (Zs RH (by rfl) T.ag Yn (Zg (qv 9) Zb)) Ze (ZS _))
   (Zc (ZA 8 ZT.nd (Zn T.bc D hr (Zg (Zp Z5 (qv 1) (qv 7)) (Zg (qv 2) (Zg Ze Zb)))))
   (Zf (ZA 9 ZT.nd (Zn T.ax B hr (Zg (qv 0) (Zg (Zp Z5 (qv 4) (qv 7)) (Zg (qv 8) (Zg (qv 6) (Zg (qv 3) Zb))))))))) Z3)
   (Zc (Ya (Yo c9 dE dD ZH (qv 5) (Zg (qv 8) Zb)))
   (Zf (ZA 6 ZT.nd (qv 9))))))))
   (Zc (Ya (FY c9 PySem.F.slot_list_reverse PySem.F.type_list_reverse Vm (qv 5)))
   (Zf (Zq (qv 5)))))))),?_⟩
 try dsimp only[L2.iN,L2.c8]
 have lyl:=L8 (nx:=mN nx) Ls [b];have lyok:=IU (nx:=mN nx) (N:=nx.length) (M:=2^n) (λs l hs hl=>R.mN hs hl) (Ls:=Ls) (S:=[b]) (iO.mpr ⟨fQ,iW⟩) (λs hs=>by rw[b9.mp hs];exact hb) (λL h=>(hL L h).2);refine⟨_,U,_,U,m,a,nm,b,nx,ot,n,Ls,U,M,R,hb,hN,hA,hne,hL,hw,λly H1 hly Ly s1=>Zi ⟨CN,λJ hlf=>Zi (Zi ?_)⟩⟩;have s2:=s1.trans (bQ.of (Zd (o:=.lst []) hlf));have Y:=s1.free hlf;refine ω (hA.fD s2) (ε1 λas=>θ2 λha hal hat=>?_);have Ly2:=Ly.fD (bQ.of (Zd (o:=.lst []) hlf));have W0:vS (aC H1 J (.lst [])) .aX (iH (mN nx) (mB ot v) G [b] Ls Ls.length).2:=by rw[Nx];exact .inl ⟨U,U⟩
 have T0:zr (aC H1 J (.lst [])) ([]:A1).reverse (nM G (iH (mN nx) (mB ot v) G [b] Ls Ls.length).1 (Ls.drop Ls.length)):=by rw[Nx];exact⟨U,λi C h=>nomatch h⟩
 have hlf2:aC H1 J (.lst []) J=ap []:=Za;have M2:=M.fD s2;generalize aC H1 J (.lst [])=H2 at *;refine⟨_,U,a,as,U,.inl (aF.of ha),_,_,U,U,_,U,_,U,as.length,U,Vc,Zkx (λi σ H'=>∃(zs:A1)(wv:V)(u7 u8 u9:Option V),σ=[ac m,ac a,ad G,some v,ac ly,ac J,some wv,u7,u8,u9]/\i<=Ls.length/\H' J=ap zs/\zs.length=i/\zr H' zs.reverse (nM G (iH (mN nx) (mB ot v) G [b] Ls (Ls.length-i)).1 (Ls.drop (Ls.length-i)))/\vS H' wv (iH (mN nx) (mB ot v) G [b] Ls (Ls.length-i)).2/\bQ H H'/\pC H' ly (cV (mN nx) [b] Ls)/\(∀b xs,H2 b=am xs->H' b=am xs)/\H' a=ap as) ⟨[],.aX,none,none,none,U,cD _,hlf2,U,T0,W0,s2,Ly2,λ_ _ z=>z,ha⟩ ?_ ?_⟩
 .refine λi σ H3 hi=>ε5 λzs wv u7 u8 u9=>θ6 λzq0 hil z1 z2 z3 z4=>θ3 λs3 Ly3 tp3 ha3=>?_;subst zq0;rw[hal]at hi;obtain⟨j,hj⟩:∃j,Ls.length-i=j+1:=⟨Ls.length-i-1,Vc⟩;rw[hj]at z3 z4;have ep:(as.length:Int)-1-i=(j:Int):=Vd
  rw[ep];obtain⟨L,hLj⟩:∃L,Ls[j]?=some L:=⟨_,aR Vc⟩;obtain⟨S,hSj⟩:∃S,(cV (mN nx) [b] Ls)[j]?=some S:=⟨_,aR Vc⟩;obtain⟨hL1,hL2⟩:=hL L (bP hLj);obtain⟨hS1,hS2⟩:=lyok S (bP hSj);obtain⟨x0,hx0,htl⟩:=hat j L hLj;have htl3:=tp3 _ _ htl;have hst:=Zlr (nx:=mN nx) (ok:=mB ot v) (k:=G) hSj hLj;have hSl:S.length<=1000000:=bS (Rp hS1 hS2) hN;have chl:∀w,(∀l∈fG G w L,l<2^n)/\(fG G w L).length<=1000:=λw=>⟨λl hl=>hL2 l (Gq.mp hl).1,bS (Cj _ _) hL1⟩;refine Zi ⟨_,U,_,U,a,_,_,_,U,U,aF.of ha3,Yu hx0,_,U,x0,L,G,0,U,htl3,hL1,hkb,λc0 H4 hc0 hc04 s4=>Zi ?_⟩;have s4':=bQ.of s4;have s34:=s3.trans s4';obtain⟨ys,hy1,hy2,hy3⟩:=Ly3.fD s4';obtain⟨dl,hdl,rdl⟩:=hy3 j S hSj;refine⟨_,U,_,U,_,U,ly,_,_,_,U,U,aF.of hy1,Yu hdl,_,U,_,U,_,U,m,dl,c0,nm,b,nx,ot,n,S,fG G 0 L,_,wv,v,tr,U,M.fD s34,R,rdl,hS1,hS2,hSl,hc04,(chl 0).1,(chl 0).2,s4'.well z4,hv,hk,λg0 H5 hg0 hg5 s5=>Zi ?_⟩;have s45:=s4'.trans s5;have hc5:=s5.tup hc04;refine Kw (λσ H'=>∃c g,σ=[ac m,ac a,ad G,some v,ac ly,ac J,some wv,ad j,ac c,ac g]/\H' c=am ((fG G (uC (mN nx) (mB ot v) G (iH (mN nx) (mB ot v) G [b] Ls (j+1)).2 S L) L).map Xh)/\H' g=some (.dK (dX (iE (mN nx) (mB ot v) (iH (mN nx) (mB ot v) G [b] Ls (j+1)).2 S (fG G (uC (mN nx) (mB ot v) G (iH (mN nx) (mB ot v) G [b] Ls (j+1)).2 S L) L))))/\bQ H3 H') (λN hN=>?_) ?_
  .refine⟨_,U,g0,_,U,.inl hg5,U,_,U,?_⟩;rw[yp]
   by_cases hz:iE (mN nx) (mB ot v) (iH (mN nx) (mB ot v) G [b] Ls (j+1)).2 S (fG G 0 L)=[]
   .have ew:uC (mN nx) (mB ot v) G (iH (mN nx) (mB ot v) G [b] Ls (j+1)).2 S L=1:=aN hz;rw[ew]at hN;rw[hz,bC (by rfl)];refine ω ((Ly3.fD s4').fD s5) (ε1 λys2=>θ2 λoE lY iX=>?_);obtain⟨dl2,hdl2,rdl2⟩:=iX j S hSj;refine Xe ⟨_,U,_,U,a,_,_,_,U,U,aF.of (s45.lst ha3),Yu hx0,_,U,x0,L,G,1,U,s45.tup htl3,hL1,hkb,λc1 H6 hc1 hc16 s6=>Zi ?_⟩;have s6':=bQ.of s6;refine⟨_,U,_,U,_,U,ly,_,_,_,U,U,aF.of (s6'.lst oE),Yu hdl2,_,U,_,U,_,U,m,dl2,c1,nm,b,nx,ot,n,S,fG G 1 L,_,wv,v,tr,U,M.fD ((s34.trans s5).trans s6'),R,s6'.rd rdl2,hS1,hS2,hSl,hc16,(chl 1).1,(chl 1).2,(s45.trans s6').well z4,hv,hk,λg1 H7 hg1 hg7 s7=>Zi (hN _ _ ⟨c1,g1,U,s7.tup hc16,hg7,(s45.trans s6').trans s7⟩)⟩
   .have ew:uC (mN nx) (mB ot v) G (iH (mN nx) (mB ot v) G [b] Ls (j+1)).2 S L=0:=aL hz;rw[ew]at hN;rw[bO λq=>hz (sW (by injection q with q;simp_all))];exact YJ (hN _ _ ⟨c0,g0,U,hc5,hg5,s45⟩)
  .refine λσ H7=>ε2 λc g=>θ3 λzq0 q1 q2 s7=>?_;subst zq0;have z7:=s7.lst z1;have tp7:∀b xs,H3 b=am xs->H7 b=am xs:=λb xs z=>s7.tup z;have tpu:∀b xs,H7 b=am xs->aC H7 J (.lst (zs++[.ref c])) b=am xs:=λb xs z=>by rw[Zk (Xp z z7 λq=>nomatch q)];exact z
   have s37:=s3.trans s7;have hglf:g≠J:=λz=>by rw[z,z7]at q2;cases q2
   have hlyl:ly≠J:=λz=>by
    obtain⟨w0,O,hw1,_⟩:=Ly2;rw[z,hlf2]at O;cases O;have:(0:Nat)=(cV (mN nx) [b] Ls).length:=hw1;cases Ls with
    |nil=>exact hne U
    |cons _ _=>rw[lyl]at this;cases this
   have half:a≠J:=λz=>by
    obtain⟨w0,O,_⟩:=hA;rw[z,Y]at O;cases O
   refine⟨_,U,.inl ⟨U,_,aF.of z7⟩,_,U,J,_,_,U,U,z7,Yz Vc,_,U,Zi ⟨zs++[.ref c],.ref g,_,_,_,U,hi,Za,by rw[aZ,z2];rfl,?_,?_,s37.put Y,?_,λb xs z=>tpu _ _ (tp7 _ _ (tp3 _ _ z)),by rw[Zk half];exact s7.lst ha3⟩⟩
   .rw[show Ls.length-(i+1)=j by lia,hst,RE hLj,List.reverse_append];exact((z3.fD tp7).fD tpu).cons (tpu _ _ q1)
   .rw[show Ls.length-(i+1)=j by lia,hst];exact .inr ⟨g,_,U,U,.inl (by rw[Zk hglf];exact q2)⟩
   .obtain⟨w0,O,hw1,hw2⟩:=Ly3.fD s7;refine⟨w0,by rw[Zk hlyl];exact O,hw1,λt S' ht=>?_⟩;obtain⟨a9,y1,Z⟩:=hw2 t S' ht;have ne9:a9≠J:=λz=>by
     subst z;rcases Z with Z|⟨_,Z⟩<;>rw[z7]at Z<;>cases Z
    refine⟨a9,y1,?_⟩;rcases Z with Z|⟨u,Z⟩
    .exact .inl (by rw[Zk ne9];exact Z)
    .exact .inr ⟨u,by rw[Zk ne9];exact Z⟩
 .refine λσ H3=>ε5 λzs wv u7 u8 u9=>θ6 λzq0 hil z1 z2 z3 z4=>θ3 λs3 Ly3 tp3 ha3=>?_;subst zq0;rw[hal,nB]at z3;refine⟨_,U,.inl ⟨U,_,aF.of z1⟩,J,_,U,U,z1,_,U,k J _ Y ⟨_,Za,z3.1,λt C ht=>?_⟩ (s3.put Y)⟩;obtain⟨a9,y1,Z⟩:=z3.2 t C ht;exact⟨a9,y1,by rw[Zk (Xp Z z1 λq=>nomatch q)];exact Z⟩
inductive JM:Prop
 |mk(s:Av)(nY:A1)(w:V):vs=[.ref s,w]->H s=ap nY.reverse->w=kV (dF w)->aO w<=nY.length->nY.length<=100->(∀pl H',H pl=none->H' pl=ap (nY.take (aO w))->H' s=ap (nY.drop (aO w)).reverse->(∀b o,H b=some o->b≠s->H' b=some o)->Q (.ref pl) H')->JM
theorem vg:bL T.fk P w wn 3 (bX JM):=by
 refine T.fk.go yV ?_;rintro Y A xz s H _ Q E Z ⟨st,g,x,rfl,hs,hx,hn,hl,k⟩;refine⟨_,(Zf (Zq (Yy ({}:Ye (Zh Jv) _ ["stack","word"] "part" ["stack"] [0]) (XQ U T.aw (Zg (YI (SF P wn T TB) (Z.mono Vb) U T.cx.m T.cx.F.kp T.cx.b .nil qh (Zg (qv 1) Zb)) Zb)) (λ_ _ _ _=>YZ) (λ_ _ _ _=>(show QE _ _ (AH K "list" Fi (yG 1))from(FY c9 PySem.F.slot_list_pop PySem.F.type_list_pop Po (qv 1))))))),?_⟩;refine⟨_,U,dF x,congrArg (λz=>[z]) hx,GF (dF x),U,?_,?_,xA (λi zs H2=>i<=aO x/\zs=g.take i/\H2 st=ap (g.drop i).reverse/\∀b o,H b=some o->b≠st->H2 b=some o) ⟨cD _,U,hs,λb o e _=>e⟩ ?_ ?_ ?_⟩
 .have:=jM (dF x);lia
 .have:=jM (dF x);lia
 .rintro i zs H2 ⟨_,rfl,_,_⟩;rw[cE];exact a8 (Zw Vc)
 .refine λi zs H2 R hR hi=>θ3 λO zq0 h2 I=>?_;subst zq0;have J:i<aO x:=hi;have D:i<g.length:=Vc
  rw[UG D]at h2;refine⟨_,U,.inl ⟨U,_,aF.of h2⟩,st,_,g[i],U,U,h2,Sf _ _,hR _ _ ⟨J,?_,?_,λb o e C=>?_⟩⟩
  .rw[aB (aR D)]
  .rw[Za,List.dropLast_concat]
  .rw[Zk C];exact I b o e C
 .rintro zs H2 ⟨O,rfl,h2,I⟩ l B;have G:H l=none:=by
   cases q:H l with
   |none=>rfl
   |some o=>
    by_cases C:l=st
    .rw[C,h2]at B;cases B
    .grind
  refine k l _ G Za ?_ λb o e C=>?_
  .rw[Zk (Zo h2 B)];exact h2
  .rw[Zk (Zo e G)];exact I b o e C
inductive xr:Prop
 |mk(t:Av)(ws:A1):vs=[.ref t]->H t=am ws->(∀w∈ws,gW w)->ws.length<=60->(∀p H' (ms:Ai),H p=none->H' p=am (ms.map V.str)->ZK H H'->ms.Perm (JY ((ws.filter rZ).map DY))->PyProof.Rows.sortedS ms=true->Q (.ref p) H')->xr
theorem TF:bL T.ij P w wn 3 (bX xr):=by
 refine T.ij.go UK ?_;rintro cdv A xz s H _ Q E hr ⟨t,B,rfl,I,hw,hl,k⟩;refine⟨_,(Zf (Zq (ZR Z4 (by rfl) T.af ZY (Zg (Zs (kA U) (by rfl) T.mm gj (Zg (ZR (T7 U) (by rfl) T.Vt BK (Zg (Yy ({}:Ye (Zh xS) _ ["words"] "word" [] []) (Xf (qv 0)) (λ_ _ _ _=>(jq (x9 (vo (Xn (Zs (show Wd _ (.builtin "isinstance") (HY K)from XJ) (by rfl) T.ai Yj (Zg (qv 0) (Zg (WQ (v:=.ty "str") (by rfl) T.RM t4 U) Zb)))) (x8 (Xn (YI (UZ P wn T TB) (hr.mono Vb) U T.dh.m T.dh.F.kp T.dh.b .nil qh (Zg (qv 0) Zb)))))))) (λ_ _ _ _=>(qv 0))) Zb)) Zb)) Zb)))),?_⟩;refine⟨_,U,t,U,⟨_,aD.of I⟩,j4 (xs:=B) rZ ZK ZK.refl (λ_ _ _ a b=>a.trans b) (λH1 q=>aD.of (q _ _ I)) (a8 (Zw Vc)) (λx J H1 q R hR=>?_) (λx J H1 R hR=>⟨_,U,hR⟩) (λH1 l q D=>?_)⟩
 .rcases hw x J with⟨y,rfl,Y⟩|⟨z,rfl⟩
  .exact⟨_,U,_,_,_,_,U,.str y,Zab,_,U,Xe ⟨_,U,y,U,bS Y Vb,λH2 C=>⟨_,U,hR H2 C⟩⟩⟩
  .exact⟨_,U,_,_,_,_,U,.int z,Vv,_,U,YJ (hR H1 (ZK.refl H1))⟩
 have fl:(B.filter rZ).length<=60:=bS (Cj _ _) hl;have Z:=Zhn ((B.filter rZ).map DY);rw[aI]at Z;have C:=q.trans (Zd (o:=.lst (B.filter rZ)) D);refine⟨l,_,U,aF.of (by rw[TN];exact Za),by rw[aI];lia,λa ha=>⟨a,_,U,Za,Vc,λm G hm hp hs=>⟨m,_,U,.inl ⟨aF.of Za,λp g=>?_⟩⟩⟩⟩;have O:ZK H _:=C.trans ((Zd ha).trans (Zd (o:=.lst (G.map V.str)) hm));exact k p _ G (ZK.free O g) Za (O.trans (Zd g)) hp hs
def vh(K:Af):Sp:=DU K
theorem qd:bL T.ak P w wn 3 (vh K):=by
 have g:=wN P wn T TB;refine T.ak.go WY ?_ (by refine λ_ _ _ _=>ε6 λ_ _ _ _ _ _=>ε6 λ_ _ _ _ _ _=>ε2 λ_ _=>θ1 λzq0 _=>?_;subst zq0;rfl);refine λcdv A xz s H _ Q E hr=>ε6 λm1 m2 c Y nm2 b1=>ε6 λb2 nx1 nx2 ot1 ot2 tr=>ε2 λps ws=>θ6 λzq0 M1 M2 W1 W2 hc=>θ2 λhp hlen k=>?_;subst zq0;have hu:=x6 hr;refine⟨_,(Zc (Yc (Zu (kz (qC hr)) (Zp Zr (qv 0) Ze) (Zp Zr (qv 1) Ze) (ZS _))
   (Zf (Zq YM)) Z3)
   (Zc (ZA 3 WY.nd NH)
   (Zc (YG dG U (Xf (qv 2)) (YV 4 WY.nd)
   (Zf (JX hu (qv 3) (qv 4) YM U)))
   (Zc (Yc (Zu (Xt hu) (Zt (Zg (Zp Zr (qv 0) Ze) (Zg (Zp Zr (qv 1) Ze) Zb))) (qv 3) Vg)
   (Zf (Zq YM)) Z3)
   (Zf (Zq (Zs (jt U) (by rfl) T.og IF (Zg (Yy ({}:Ye (Zh Jw) _ ["one","other","paper","pairs","pair"] "pair" ["one","other","pairs"] [0,1,3]) (Zkp (qv 3)) (λ_ _ _ _=>YZ) (λ_ _ _ _=>(Zn T.fu g hr (Zg (qv 1) (Zg (qv 2) (Zg (qv 0) (Zg (qv 3) Zb))))))) Zb)))))))),?_⟩
 refine ω M1.ex (ε3 λpn1 ps1 po1=>θ3 λh1 n1 _ _=>?_);refine ω M2.ex (ε3 λpn2 ps2 po2=>θ3 λh2 n2 _ _=>?_);refine⟨_,U,m1,_,0,_,U,U,aD.of h1,U,_,U,m2,_,0,_,U,U,aD.of h2,U,pn1,pn2,_,_,U,U,aD.of n1,aD.of n2,qV _,qV _,_,U,?_⟩;rw[wj]
 by_cases J:Y≠nm2
 .rw[bO J];exact Xe (k false H ⟨nofun,λh=>absurd h.1 J⟩ (ZK.refl H))
 have J:=Dg.mp J;rw[bC J];subst J;refine YJ (λd hd=>?_);refine⟨_,U,c,U,⟨_,aD.of (Zd hd _ _ hc)⟩,?_⟩;refine JQ (K:=K) (a:=c) (xs:=ws) (λi σ H2=>∃u,σ=[ac m1,ac m2,ac c,ac d,u]/\H2 d=some (.dT (dk (ps.take i)))/\ZK H H2) ⟨none,U,Za,Zd hd⟩ (λi σ H2 _=>ε1 λu=>θ2 λ_ _ D=>aD.of (D _ _ hc)) ?_ ?_
 .rintro i x σ H2 hx ⟨u,rfl,O,D⟩;refine ω ((hp.same D).at hx) (ε2 λq a=>θ2 λhq zq0 ha=>?_);subst zq0;refine⟨_,U,_,U,d,_,U,lT.t (k:=pk q) O ha ?_,_,U,?_,Yp D hd⟩
  .have:=F7 (ps.take i);rw[cE]at this;exact Yz Vc
  .rw[Za,aB hq,xU]
 .refine λσ H2=>ε1 λu=>θ2 λzq0 O D=>?_;subst zq0;rw[hp.1,dI]at O;have h12:=D _ _ h1;have h22:=D _ _ h2;refine⟨_,U,m1,_,1,_,U,U,aD.of h12,U,_,U,m2,_,1,_,U,U,aD.of h22,U,yF,λq hq=>?_⟩;have s3:=Zd (o:=.tup [.int b1,.int b2]) hq;refine⟨_,U,d,_,U,jT (x:=b1) (y:=b2) (.inl (s3 _ _ O)) Za,_,U,?_⟩;rw[vL]
  by_cases I:¬((b1:Int),(b2:Int))∈ps
  .rw[bO I];exact Xe (k false _ ⟨nofun,λh=>absurd h.2.1 I⟩ (D.trans s3))
  have I:=Dg.mp I;rw[bC I];refine YJ ⟨_,U,d,_,U,.inl (s3 _ _ O),λo=>?_⟩;have s4:ZK H (aC (aC H2 q (.tup [.int b1,.int b2])) d (.b7 o (.dT (dk ps)))):=Yp (D.trans s3) hd;have h4:(aC (aC H2 q (.tup [.int b1,.int b2])) d (.b7 o (.dT (dk ps)))) d=some (.b7 o (.dT (dk ps))):=Za;generalize aC (aC H2 q (.tup [.int b1,.int b2])) d (.b7 o (.dT (dk ps)))=H4 at *;have kl:=F7 ps;refine Zea (λi zs H5=>∃bs:List Bool,zs=bs.map V.bl/\bs.length<=i/\i<=(dk ps).length/\ZK H4 H5/\(bs.all id=true↔∀e∈(dk ps).take i,∀p,e.1=pk p->Ft nx1 nx2 ot1 ot2 ps p)) ⟨[],U,aM _,cD _,ZK.refl H4,⟨(λ_ e F=>nomatch F),λ_=>U⟩⟩ ?_ ?_ ?_ ?_
  .refine λi zs H5=>ε1 λbs=>θ3 λzq0 l l2 _=>?_;subst zq0;rw[aI];exact a8 (Yz Vc)
  .rintro i zs H5 ⟨bs,_,_,_,G,_⟩;exact G _ _ h4
  .refine λi e a zs H5 R hR F ha=>ε1 λbs=>θ4 λzq0 l l2 G B=>?_;subst zq0;obtain⟨p,C,ep⟩:=OS ps e (bP F);rw[ep]at ha;have Z:=s4.trans G;refine Cu ⟨_,U,_,U,_,U,_,U,m1,m2,a,d,Y,b1,b2,nx1,nx2,ot1,ot2,tr,p.1,p.2,ps,U,M1.same Z,M2.same Z,W1,W2,ha,.inr ⟨o,G _ _ h4⟩,λr H6 hr6 s6=>hR _ _ ⟨bs++[r],?_,?_,?_,G.trans s6,?_⟩⟩
   .rw[dC];rfl
   .rw[aZ];exact D7 l
   .exact(bM.mp F).1
   .rw[X3 F,<-B,List.all_append,lI];have:([r].all id=true)↔r=true:=Ve
    rw[this,hr6];refine and_congr_right λ_=>⟨λh p' hp'=>?_,λh=>h p ep⟩;rw[ep]at hp';rw[<-MJ hp'];exact h
  .refine λzs H5=>ε1 λbs=>θ4 λzq0 _ _ G B=>λl hl=>?_;subst zq0;refine⟨l,bs,U,aF.of Za,k _ _ ?_ (s4.trans (G.trans (Zd hl)))⟩;rw[B,dI];constructor
   .intro h;refine⟨U,I,λp C=>?_⟩;obtain⟨e,F,ep⟩:=BF C;exact h e F p ep
   .rintro⟨_,_,h⟩ e F p ep;obtain⟨p',C,ep'⟩:=OS ps e F;rw[ep']at ep;rw[<-MJ ep];exact h p' C
inductive XX:Prop
 |mk(cell:Int)(tn:Av)(nm:Ai):vs=[.int cell,.ref tn]->H tn=am (nm.map V.str)->nm.length<=3->(∀y∈nm,y∉YT)->(∀p u v (us vs:A1) H',Wp nm us 22 5->Wp nm vs 22 5->eP us vs->H' p=am [.ref u,.ref v]->H' u=am us->H' v=am vs->ZK H H'->Q (.ref p) H')->XX
theorem qw:bL T.ck P w wn 3 (bX XX):=by
 have g:=wM P wn T TB;have B:=yA P wn T TB;have q:=RN P wn T TB;have C:=GZ P wn T TB;refine T.ck.go ZV ?_;rintro cdv A xz s H _ Q E Y ⟨G,tn,nm,rfl,htn,hn3,D,k⟩;have hu:=x6 Y;refine⟨_,(Zc (ZA 2 ZV.nd (Zn T.cm C Y (Zg (qv 0) (Zg Ze (Zg Ze Zb)))))
   (Zc (ZA 3 ZV.nd (Zl ji Ze (Zl XI (Zs Zx (by rfl) T.ag Yn (Zg (qv 1) Zb)) Ze)))
   (Zc (ZA 4 ZV.nd (Zn T.dj q Y (Zg (YY WN (qv 2) (Xb Ze) (Xb Ze)) (Zg (qv 1) (Zg (qv 3) Zb)))))
   (Zc (ZA 5 ZV.nd (Zn T.dj q Y (Zg (YY WN (qv 2) (Xb Ze) (Xb Ze)) (Zg (qv 1) (Zg Ze Zb)))))
   (Zc (ZA 6 ZV.nd (Zn T.dj q Y (Zg (YY WN (qv 2) (Xb Ze) (Xb Ze)) (Zg (qv 1) (Zg Ze Zb)))))
   (Zc (Rk (Zn T.dy B Y (Zg (Zp Z5 (qv 2) Ze) (Zg (qv 4) (Zg (qv 5) (Zg (qv 6) Zb))))) (ql U (YV 7 ZV.nd) (YV 8 ZV.nd)))
   (Zc (Yc (Zu Xq (Zl Yl (Zl XI (Zp Z5 (qv 2) Ze) Ze) Ze) Ze (ZS _))
   (Zf (t7 (i:=7) (j:=8) U ZV.nd U U Vb U U (Zg (qv 8) (Zg (qv 7) Zb)) U)) Z3)
   (Zf (Zq (Zt (Zg (Zn T.da g Y (Zg (Zp Z5 (qv 2) Ze) (Zg (qv 7) (Zg (qv 6) Zb)))) (Zg (Zn T.da g Y (Zg (Zp Z5 (qv 2) Ze) (Zg (qv 8) (Zg (qv 6) Zb)))) Zb)))))))))))),?_⟩
 try dsimp only[L2.iN,L2.c8]
 refine L2.Iq ?_;intro U7 U6 U5 U4 U3 U2 U1;refine⟨_,U,G,9,20000,U,Vc,Vb,Vb,λpl ks H1 hpl0 J hkl hkb s1=>Zi ?_⟩;have F:=s1 _ _ htn;have hpos:∀(j k:Nat)(x:Int),x∈(ks.drop j).take k->0<=x:=λj k x hx=>(hkb x (CG (rW hx))).1;obtain⟨mo,hmo,hmo1⟩:∃mo:Nat,1-((nm.map V.str).length:Int)/3=(mo:Int)/\mo<=1:=⟨(1-((nm.map V.str).length:Int)/3).toNat,by rw[aI];lia,Vc⟩;refine⟨_,U,tn,_,U,.inr (aD.of F),_,_,U,U,.of Vb Vb,_,_,U,U,Zi ?_⟩;show U2 _ [ad G,ac tn,ac pl,ad (1-((nm.map V.str).length:Int)/3),none,none,none,none,none] H1;rw[hmo];refine⟨_,U,1,U,4,U,pl,_,U,aF.of J,λx1 hx1=>?_⟩;rw[GC,show oI ks (some 1) (some 4)=(ks.drop 1).take (4-1)from jJ ks 1 4 Vc];have n1:((ks.drop 1).take (4-1)).length=3:=by rw[cE,iD];lia
 have w1:=Zd (o:=.lst (((ks.drop 1).take (4-1)).map V.int)) hx1;refine⟨_,U,_,U,x1,tn,_,nm,mo,U,Za,Vc,Vc,hpos 1 _,w1 _ _ F,hn3,D,λa0 P H3 h3 l3 wd3 en3 st3 rm3 s3=>Zi ?_⟩;have v3:=w1.trans s3;refine⟨_,U,4,U,6,U,pl,_,U,aF.of (v3 _ _ J),λx2 hx2=>?_⟩;rw[GC,show oI ks (some 4) (some 6)=(ks.drop 4).take (6-4)from jJ ks 4 6 Vc];have n2:((ks.drop 4).take (6-4)).length=2:=by rw[cE,iD];lia
 have w2:=Zd (o:=.lst (((ks.drop 4).take (6-4)).map V.int)) hx2;refine⟨_,U,x2,tn,_,nm,0,U,Za,Vc,Vc,hpos 4 _,(v3.trans w2) _ _ F,hn3,D,λa1 X H4 h4 l4 wd4 en4 st4 rm4 s4=>Zi ?_⟩;have v4:=v3.trans (w2.trans s4);refine⟨_,U,6,U,7,U,pl,_,U,aF.of (v4 _ _ J),λx3 hx3=>?_⟩;rw[GC,show oI ks (some 6) (some 7)=(ks.drop 6).take (7-6)from jJ ks 6 7 Vc];have n3:((ks.drop 6).take (7-6)).length=1:=by rw[cE,iD];lia
 have w3:=Zd (o:=.lst (((ks.drop 6).take (7-6)).map V.int)) hx3;refine⟨_,U,x3,tn,_,nm,0,U,Za,Vc,Vc,hpos 6 _,(v4.trans w3) _ _ F,hn3,D,λa2 R H5 h5 l5 wd5 en5 st5 rm5 s5=>Zi ?_⟩;have v5:=v4.trans (w3.trans s5);have h53:=((w2.trans s4).trans (w3.trans s5)) _ _ h3;have h54:=(w3.trans s5) _ _ h4;have PP:Wp nm P 5 1:=⟨wd3,en3,st3,Vc,Vc⟩;have PX:Wp nm X 3 0:=⟨wd4,en4,st4,Vc,Vc⟩;have Z:Wp nm R 1 0:=⟨wd5,en5,st5,Vc,Vc⟩;have O:=v5 _ _ J;have at_:∀j:Nat,j<9->fN (ks.map V.int) (j:Int)=ad (ks.getD j 0):=λj hj=>Yu (by rw[aY,aU Vc];rfl);have lp:=PP.ln;have lx:=PX.ln;have lr:=Z.ln;refine⟨_,U,pl,_,0,_,U,U,aF.of O,at_ 0 Vb,_,U,_,U,_,U,ks.getD 0 0,a0,a1,a2,P,X,R,U,h53,h54,h5,Vc,Vc,Vc,λtp u v w H6 hw htp hu hv s6=>?_⟩;refine ω (Zqb w hw) (θ5 λo1 o2 z1 z2 r1 r2=>?_);have W1:=Tr.wp D PP PX Z o1;have W2:=Tr.wp D PP PX Z o2;have a26:=s6 _ _ h5;have I:=s6 _ _ O;refine⟨tp,_,U,aD.of htp,U,_,_,U,Zi ⟨_,_,U,Zi ⟨U,?_⟩⟩⟩;show U6 _ [ad G,ac tn,ac pl,ad mo,ac a0,ac a1,ac a2,ac u,ac v] H6;have fin:∀(us vs:A1)(u v:Av),Wp nm us 20 4->Wp nm vs 20 4->eP us vs->H6 u=am us->H6 v=am vs->U7 {nx:=λ_ H'=>Q .aX H',rt:=Q} [ad G,ac tn,ac pl,ad mo,ac a0,ac a1,ac a2,ac u,ac v] H6:=λus vs u v f1 f2 f3 hu hv=>by
  refine⟨_,U,pl,_,8,_,U,U,aF.of I,at_ 8 Vb,_,U,_,U,ks.getD 8 0,u,a2,nm,_,R,U,hu,a26,D,f1,Z,λq1 us' H7 W7 e7 h7 s7=>?_⟩;refine⟨_,U,pl,_,8,_,U,U,aF.of (s7 _ _ I),at_ 8 Vb,_,U,_,U,ks.getD 8 0,v,a2,nm,_,R,U,s7 _ _ hv,s7 _ _ a26,D,f2,Z,λq2 vs' H8 W8 e8 h8 s8=>⟨yF,λq3 hq3=>?_⟩⟩;have s9:=Zd (o:=.tup [.ref q1,.ref q2]) hq3;exact k q3 q1 q2 _ _ _ W7 W8 (by rw[e7,e8];exact RT _ f3 f1.en f2.en Z.en) Za (s9 _ _ (s8 _ _ h7)) (s9 _ _ h8) (s1.trans (v5.trans (s6.trans (s7.trans (s8.trans s9)))))
 have e12:=BH D PP PX Z o1 o2 (VI w hw);have X1:Wp nm (w.1.flat P X R) 20 4:=⟨W1.wd,W1.en,W1.st,bS W1.ln z1,bS W1.rm r1⟩;have X2:Wp nm (w.2.flat P X R) 20 4:=⟨W2.wd,W2.en,W2.st,bS W2.ln z2,bS W2.rm r2⟩;refine⟨_,U,pl,_,8,_,U,U,aF.of I,at_ 8 Vb,_,_,U,U,.of Vb Vb,_,_,U,U,(by show(0:Int)<2;decide),U,_,U,G5 (λ_=>?_) (λ_=>?_)⟩
 .refine⟨_,U,_,U,_,_,U,?_⟩;exact fin _ _ v u X2 X1 e12.symm hv hu
 .exact fin _ _ u v X1 X2 e12 hu hv
inductive JN:Prop
 |mk(m:Av)(nm:Ai)(b:Nat)(nx:Ad)(ot:Ay)(w:Nat)(v:V)(tr:Bool):vs=[.ref m,.int w,v]->M4 H m nm b nx ot->bD nx ot nm.length->b<nx.length->nx.length<=1000000->nm.length<=3->nm.Nodup->1<=w->w<=1000000->YE tr v->(∀r∈ot,∀x∈r,YE tr x)->(∃r,r.length=w/\(∀l∈r,l<2^nm.length)/\Xa (mN nx) (mB ot v) b r=true)->(∀r d ul H',jg (mN nx) (mB ot v) b nm.length w r->H d=none->H' d=some (.dK ul)->i4 ul nm (λy=>(bA (dY nm y) r:Int))->bQ H H'->Q (.ref d) H')->JN
theorem vj:bL T.fq P w wn 4 (bX JN):=by
 have C:=TY P wn T TB;have G_run:=BY P wn T TB;have g:=xq P wn T TB;have B:=y6 P wn T TB;refine T.fq.go Y9 ?_;rintro cdv A xz s H _ Q E hr ⟨m,nm,b,nx,ot,w,v,tr,rfl,M,R,hb,hN,hn3,hnd,hw1,hw2,hv,hk,hex,k⟩;refine⟨_,(Zc (ZA 3 Y9.nd (Zp Zr (qv 0) Ze))
   (Zc (ZA 4 Y9.nd (ZR (gN U) (by rfl) T.af ZY (Zg (ZR j6 (by rfl) T.aw Q8 (Zg (Zn T.et B hr (Zg (Zs Zx (by rfl) T.ag Yn (Zg (qv 3) Zb)) Zb)) Zb)) Zb)))
   (Zc (jr (i:=5) Y9.nd U U ({}:Ye (Zh Wh) _ ["machine","width","wanted","names","all_letters","letters","number","row"] "place" ["all_letters"] [4]) (XQ U T.aw (Zg (qv 1) Zb)) (λ_ _ _ _=>YZ) (λ_ _ _ _=>(qv 1)))
   (Zc (YG dG U (XQ U T.aw (Zg (Zs Zx (by rfl) T.ag Yn (Zg (qv 3) Zb)) Zb)) (YV 6 Y9.nd)
   (Zf (ZA 5 Y9.nd (Zn T.cu g hr (Zg (qv 0) (Zg (qv 5) (Zg (qv 6) (Zg (qv 2) Zb))))))))
   (Zc (ZA 7 Y9.nd (ZR Z4 (by rfl) T.af ZY (Zg (Yy ({}:Ye (Zh Wh) _ ["machine","width","wanted","names","all_letters","letters","number","row"] "left" [] []) (Xs (qv 5)) (λ_ _ _ _=>YZ) (λ_ _ _ _=>(Zp (show d5 _ (wR K)from Zr) (qv 0) Ze))) Zb)))
   (Zc (Yc (Zu CZ (Zp Zr (Zn T.nz G_run hr (Zg (qv 0) (Zg (qv 7) Zb))) (Jr JA Ze)) (qv 2) (ZS _))
   (Zf Tf) Z3)
   (Zf (Zq (Zn T.ig C hr (Zg (qv 3) (Zg (qv 7) Zb))))))))))),?_⟩
 try dsimp only[L2.iN,L2.c8]
 refine ω M.ex (ε3 λpn ps po=>θ3 λh1 hpn Rs Ro=>?_);refine⟨_,U,m,_,0,_,U,U,aD.of h1,U,Zi ?_⟩;have J:(nm.map V.str).length=nm.length:=aI _;have p8:2^nm.length<=8:=pY Vb hn3 (n:=2);refine⟨_,U,pn,_,U,.inr (aD.of hpn),nm.length,congrArg (λz:Nat=>[V.int z]) J,Vc,_,U,λrg hrg=>⟨rg,2^nm.length,U,by rw[Za,Int.natCast_pow];rfl,Vc,λal hal=>Zi ?_⟩⟩;have s1:=(Zd (o:=.nI 0 (2^nm.length)) hrg).trans (Zd (o:=.tup ((List.range (2^nm.length)).map λi:Nat=>V.int i)) hal);have hal1:aC (aC H rg (.nI 0 (2^nm.length))) al (.tup ((List.range (2^nm.length)).map λi:Nat=>V.int i)) al=am ((List.range (2^nm.length)).map Xh):=Za;generalize aC (aC H rg (.nI 0 (2^nm.length))) al (.tup ((List.range (2^nm.length)).map λi:Nat=>V.int i))=H1 at *;refine⟨_,U,(w:Int),U,Vc,Vc,Zgi (n:=(w:Int).toNat) (λ_=>.ref al) (by rw[dr];exact a8 (Yz Vc)) (λi _ R' hR=>⟨_,U,hR⟩) (λI Y=>Zi ?_)⟩;rw[dr];have s2:=s1.trans (Zd (o:=.lst ((List.range w).map λ_=>V.ref al)) Y);have Lt0:uE (aC H1 I (.lst ((List.range w).map λ_=>V.ref al))) I (List.replicate w (List.range (2^nm.length))):=by
  refine⟨_,Za,by rw[aI,dS,eZ],λi L hi=>?_⟩;obtain⟨h3,rfl⟩:=A9 hi;exact⟨al,by rw[aY,CV h3];rfl,Zd Y _ _ hal1⟩
 generalize aC H1 I (.lst ((List.range w).map λ_=>V.ref al))=H2 at *;have hne:List.replicate w (List.range (2^nm.length))≠[]:=λz=>by
  have:=congrArg List.length z;rw[eZ]at this;have:w=0:=this;lia
 revert hex;refine ε1 λr1=>θ2 λq1 q2 q3=>?_;have fr:=VW (nx:=mN nx) (ok:=mB ot v) (b:=b) (n:=nm.length) (w:=w) Vc ⟨r1,q1,q2,q3⟩;have O:=λk=>LK (nx:=mN nx) (ok:=mB ot v) (b:=b) hne ⟨r1,za.mpr ⟨q1,q2⟩,q3⟩ k;have itf:=λk=>uF (nx:=mN nx) (ok:=mB ot v) (b:=b) (Ls:=List.replicate w (List.range (2^nm.length))) k;have itl:∀k,∀L∈eN (mN nx) (mB ot v) b (List.replicate w (List.range (2^nm.length))) k,L.length<=1000/\∀l∈L,l<2^nm.length:=λk L G=>by
  obtain⟨L0,f1,f2,f3⟩:=(itf k).2 L G;rw[C7 f1]at f2 f3;rw[dS]at f2;exact⟨Vc,λl hl=>fV.mp (f3 l hl)⟩
 refine⟨_,U,pn,_,U,.inr (aD.of (s2 _ _ hpn)),_,U,(by simp_all),by rw[J];lia,qz (lo:=0) (λi σ H'=>∃(lt:Av)(u6:Option V),σ=[ac m,ad w,some v,ac pn,ac al,ac lt,u6,none]/\i<=nm.length/\uE H' lt (eN (mN nx) (mB ot v) b (List.replicate w (List.range (2^nm.length))) i)/\bQ H H') ⟨I,none,U,cD _,Lt0,bQ.of s2⟩ ?_ ?_⟩
 .refine λi σ H3 hi=>ε2 λlt u6=>θ3 λzq0 hil Lt s3=>?_;subst zq0;rw[dr,J]at hi;rw[Fx];refine Zi ⟨_,U,_,U,_,U,_,U,m,lt,nm,b,nx,ot,nm.length,_,i,v,tr,U,M.fD s3,R,hb,hN,Lt,(O i).1,itl i,by rw[(itf i).1,eZ];exact hw2,Vc,hv,hk,λp H4 hp Lt4 s4=>Zi ⟨p,_,U,hi,Lt4,s3.trans s4⟩⟩
 refine λσ H3=>ε2 λlt u6=>θ3 λzq0 hil zq1 s3=>?_;subst zq0;obtain ⟨as,ha,Z,hat⟩:=zq1;rw[dr,J]at Z hat;have itn:∀L∈eN (mN nx) (mB ot v) b (List.replicate w (List.range (2^nm.length))) nm.length,L≠[]:=by
  obtain⟨_,⟨r2,g1,_⟩,_⟩:=O nm.length;intro L G z;obtain⟨t,ht⟩:=oH G;have go:∀{r:Aj} {Ls:Ad},cW r Ls->∀(t:Nat),Ls[t]?≠some []:=by
   intro r Ls
   induction Ls generalizing r with
   |nil=>intro _ t h;cases h
   |cons L0 Ls ih=>
    intro h t ht;obtain⟨l,r',rfl,h1,h2⟩:=h.dU;cases t with
    |zero=>cases ht;cases h1
    |succ t=>exact ih h2 t ht
  exact go g1 t (by rw[ht,z])
 have hdl:as.map (HN H3)=((eN (mN nx) (mB ot v) b (List.replicate w (List.range (2^nm.length))) nm.length).map λL=>L.headD 0).map Xh:=by
  refine AD λt=>?_;rw[aY,aY,aY];cases G:(eN (mN nx) (mB ot v) b (List.replicate w (List.range (2^nm.length))) nm.length)[t]? with
  |none=>rw[List.getElem?_eq_none (by have:=List.getElem?_eq_none_iff.mp G;lia)];rfl
  |some L=>
   obtain⟨x,e1,e2⟩:=hat t L G;rw[e1];exact congrArg some (Nw e2 (itn L (bP G))).1
 have hasl:as.length=w:=by rw[Z,(itf _).1,eZ]
 refine⟨_,U,lt,U,⟨_,aF.of ha⟩,dN (xs:=as) (HN H3) (aF.of ha) (by rw[hasl];exact a8 (Yz Vc)) (λx hx R' hR=>?_) (λl hl=>⟨l,_,U,.inl ⟨aF.of Za,λD hrw=>Zi ?_⟩⟩)⟩
 .obtain⟨t,ht⟩:=oH hx;have htl:t<as.length:=(bM.mp ht).1;obtain⟨L,G⟩:∃L,(eN (mN nx) (mB ot v) b (List.replicate w (List.range (2^nm.length))) nm.length)[t]?=some L:=⟨_,aR Vc⟩;obtain⟨y,e1,e2⟩:=hat t L G;rw[ht]at e1;cases e1;obtain⟨e3,e4⟩:=Nw e2 (itn L (bP G));rw[e3]at hR;exact⟨_,U,y,_,0,_,U,U,aD.of e2,e4,hR⟩
 rw[hdl]at hrw ⊢;generalize hrr:(eN (mN nx) (mB ot v) b (List.replicate w (List.range (2^nm.length))) nm.length).map (λL=>L.headD 0)=r at *;have s4:=(Zd (o:=.lst (r.map Xh)) hl).trans (Zd (o:=.tup (r.map Xh)) hrw);have hr4:aC (aC H3 l (.lst (r.map Xh))) D (.tup (r.map Xh)) D=am (r.map Xh):=Za;generalize aC (aC H3 l (.lst (r.map Xh))) D (.tup (r.map Xh))=H4 at *;have s34:=s3.trans (bQ.of s4);obtain⟨nv,MA⟩:=Zql (M.fD s34) R hb;obtain⟨r0,c,er⟩:=wC (r:=r) (λz=>by have:=fr.len;rw[z]at this;have:0=w:=this;lia);refine⟨_,U,_,U,m,D,_,_,b,nv,_,_,r,U,MA,hr4,fr.lt,by rw[fr.len];exact hw2,λq H5 hq hq5 s5=>⟨_,U,q,_,-1,_,U,U,aD.of hq5,by rw[er,Iv];exact kh _ _,_,U,?_⟩⟩;have F:=fr.last;rw[er,XH]at F;have ev:=dJ F;have e9:(λs c=>(ot.getD s []).getD c V.aX) (cJ nx b r0) c=v:=ev;rw[Q3,e9];refine⟨yk hv hv,_,U,?_⟩;rw[show(!decide (v=v))=false by rw[bC U];rfl];refine YJ ?_;have hr5:=s5 _ _ hr4;have s35:=s34.trans (bQ.of s5);refine⟨_,U,_,U,pn,D,nm,r.map (λl:Nat=>(l:Int)),λy=>(bA (dY nm y) r:Int),U,s35.tup hpn,by rw[hr5,cR];rfl,hn3,by rw[aI,fr.len];exact hw2,λc hc=>?_,λi y hy=>?_,λd ul H6 hd hd6 T s6=>?_⟩
 .obtain⟨l,_,rfl⟩:=bG.mp hc;exact pP _
 .rw[OZ];show _=(bA (dY nm y) r:Int);rw[show dY nm y=i from W9 hnd hy]
 .exact k r d ul H6 fr (s35.free hd) hd6 T (s35.trans (bQ.of s6))
inductive z5:Prop
 |mk(tw dv kt:Av)(ys:Ai)(ws:A1)(ul:Az)(re:Str->Int)(pl:Nat)(kp:Ak)(o:Int)(lt:Ak):vs=[.ref tw,.ref dv,.int pl,.ref kt]->H tw=am ws->ws.length<=100->H dv=some (.dK ul)->MM ul ys re->H kt=am (kp.map V.int)->(∀w∈ws,yN ys w)->Yh ws->W6 ys re pl kp ws=([o],lt)->lt.length<=kp.length->(∀t l H',H t=none->H' t=am [.int o,.ref l]->H' l=ap (lt.map V.int)->ZK H H'->Q (.ref t) H')->z5
theorem Ze8:bL T.dm P w wn 4 (bX z5):=by
 have G:=zv P wn T TB;have D:=vf P wn T TB;have I:=uP P wn T TB;have B:=yY P wn T TB;have C:=vg P wn T TB;refine T.dm.go Wj ?_;rintro cdv A xz s H _ Q E hr ⟨tw,dv,kt,ys,q,ul,re,pl,kp,o,lt,rfl,ht,hl,hd,hc,hk,hw,he,hst,hkl,k⟩;have hu:=x6 hr;refine⟨_,(Zc (ZA 4 Wj.nd (YS Zb))
   (Zc (ZA 5 Wj.nd (YS Zb))
   (Zc (YG dG U (Pk U T.ix (qv 0)) (YV 6 Wj.nd)
   (Zc (ZA 7 Wj.nd (Zn T.fk C hr (Zg (qv 4) (Zg (qv 6) Zb))))
   (Zf (Yc (Xn (Zn T.dn G hr (Zg (qv 6) Zb)))
   (Zc (ZA 8 Wj.nd (Jr JA (Zp Zr (qv 3) (Zs Zx (by rfl) T.ag Yn (Zg (qv 5) Zb)))))
   (Zc (Ya (Yo c9 dE dD ZH (qv 5) (Zg (Zn T.ia I hr (Zg (qv 6) (Zg (qv 7) (Zg (qv 8) Zb)))) Zb)))
   (Zf (Ya (Yo c9 dE dD ZH (qv 4) (Zg (Zn T.fj D hr (Zg (qv 6) (Zg (qv 7) (Zg (qv 8) (Zg (Zp Z5 (qv 5) (Jr JA Ze)) Zb))))) Zb)))))) (Zf (Yc (Xn (Zs XJ (by rfl) T.ai Yj (Zg (qv 6) (Zg (WQ (v:=.ty "int") (by rfl) T.oh Ke U) Zb))))
   (Zf (Ya (Yo c9 dE dD ZH (qv 4) (Zg (Jr JA (Zl Wu (Zl vk (qv 6) (qv 2)) Ze)) Zb)))) (Zf (Yc (Zu (xD hu) (qv 6) (qv 1) Vg)
   (Zf (Ya (Yo c9 dE dD ZH (qv 4) (Zg (kx hu (qv 1) (qv 6) (λ_ _=>U)) Zb)))) (Zf (Ya (Yo c9 dE dD ZH (qv 4) (Zg (Zn T.fg B hr (Zg (qv 6) (Zg (qv 7) Zb))) Zb))))))))))))
   (Zf (Zq (Zt (Zg (FY c9 PySem.F.slot_list_pop PySem.F.type_list_pop Po (qv 4)) (Zg (qv 5) Zb)))))))),?_⟩
 try dsimp only[L2.iN,L2.c8]
 refine⟨CN,λst O=>Zi ⟨CN,λJ hla0=>Zi ?_⟩⟩;have s1:=Zd (o:=.lst []) O;have s2:=s1.trans (Zd (o:=.lst []) hla0);have hsl:st≠J:=Zo (Za (H:=H) (a:=st) (o:=.lst [])) hla0;have hlaH:H J=none:=s1.free hla0;refine⟨_,U,tw,_,U,aD.of (s2 _ _ ht),OI (K:=K) (a:=tw) (xs:=q) (λi σ H2=>∃u6 u7 u8,σ=[ac tw,ac dv,ad pl,ac kt,ac st,ac J,u6,u7,u8]/\i<=q.length/\H2 st=ap ((W6 ys re pl kp (q.drop (q.length-i))).1.map V.int).reverse/\H2 J=ap ((W6 ys re pl kp (q.drop (q.length-i))).2.map V.int)/\ZK H H2) ⟨none,none,none,U,cD _,?_,?_,s2⟩ (λi σ H2 _=>ε3 λ_ _ _=>θ4 λ_ _ _ _ s=>aD.of (s _ _ ht)) ?_ ?_⟩
 .rw[Nat.sub_zero,t6,Zk hsl];exact Za
 .rw[Nat.sub_zero,t6];exact Za
 .refine λi x σ H2 hx=>ε3 λu6 u7 u8=>θ4 λzq0 hi0 h2s h2l s3=>?_;subst zq0;obtain⟨hi,hx⟩:=BE hx;have ed:q.drop (q.length-(i+1))=x::q.drop (q.length-i):=by
   rw[show q.length-(i+1)=q.length-1-i by lia,rE Vc,show q.length-1-i+1=q.length-i by lia];congr 1;exact(bM.mp hx).2
  have hwx:=hw x (bP hx);have hen:=jQ q (q.length-(i+1)) he;have hmo:=ua ys re pl kp q (q.length-(i+1));rw[hst]at hmo;rw[ed]at hen hmo ⊢;have hln:=wa (ys:=ys) (re:=re) (pl:=pl) (kp:=kp) (q.drop (q.length-i)) λw h=>hw w (CG h);have hle2:=Qv (q.drop (q.length-i));rw[iD]at hle2;have hmo2:=gZ ys re pl kp x (q.drop (q.length-i));have hlb:=Ow ys re pl kp (q.drop (q.length-i));rw[iD]at hlb;generalize q.drop (q.length-i)=r at *;have hn:=hen.1;have eC:∀z:V,W6 ys re pl kp (z::r)=match z with
   |.str y=>
    if y∈allR then(BB y ((W6 ys re pl kp r).1.take (aO z)) (-(kp.getD (W6 ys re pl kp r).2.length 0)) (iF y ((W6 ys re pl kp r).1.take (aO z)) (-(kp.getD (W6 ys re pl kp r).2.length 0)))::(W6 ys re pl kp r).1.drop (aO z),(W6 ys re pl kp r).2++[iF y ((W6 ys re pl kp r).1.take (aO z)) (-(kp.getD (W6 ys re pl kp r).2.length 0))])
    else if y∈ys then(re y::(W6 ys re pl kp r).1.drop (aO z),(W6 ys re pl kp r).2)
    else(Cb y ((W6 ys re pl kp r).1.take (aO z))::(W6 ys re pl kp r).1.drop (aO z),(W6 ys re pl kp r).2)
   |.int z'=>(-(bt z' pl)::(W6 ys re pl kp r).1.drop (aO z),(W6 ys re pl kp r).2)
   |_=>W6 ys re pl kp r:=λz=>by cases z<;>rfl
  have eX:=eC x;generalize W6 ys re pl kp r=P at *;obtain⟨g,Z⟩:=P;try dsimp only at *
  have hkx:x=kV (dF x)/\WO x=true:=by
   rcases hwx with⟨y,rfl,_⟩|⟨y,rfl,_⟩|⟨y,rfl,_⟩|⟨z,rfl,_⟩<;>exact⟨U,U⟩
  refine⟨_,U,_,U,st,g.map V.int,x,U,h2s,hkx.1,by rw[aI];lia,by rw[aI];lia,λpp H3 hpp0 hpp Y o3=>Zi ?_⟩;rw[<-pQ]at hpp;rw[<-sQ]at Y;have h3l:=o3 _ _ h2l hsl.symm;have s4:ZK H H3:=λb o e=>o3 b o (s3 b o e) (Zo e O);have hln3:(g.take (aO x)).length=aO x:=by rw[cE];lia
  have hps:pp≠st:=λz=>by rw[z,h2s]at hpp0;cases hpp0
  have hpl2:pp≠J:=λz=>by rw[z,h2l]at hpp0;cases hpp0
  refine⟨_,U,x,U,hkx.2,_,U,?_⟩;have sml:((g.drop (aO x)).map V.int).reverse.length<sizeLine:=by
   rw[List.length_reverse,aI,iD];exact Zw Vc
  have fin:∀(v:Int)(Hx:Hp),W6 ys re pl kp (x::r)=(v::g.drop (aO x),Z)->ZK H3 Hx->aC Hx st (.lst (((g.drop (aO x)).map V.int).reverse++[.int v])) st=ap ((W6 ys re pl kp (x::r)).1.map V.int).reverse/\aC Hx st (.lst (((g.drop (aO x)).map V.int).reverse++[.int v])) J=ap ((W6 ys re pl kp (x::r)).2.map V.int)/\ZK H (aC Hx st (.lst (((g.drop (aO x)).map V.int).reverse++[.int v]))):=λv Hx e sx=>by
   rw[e];refine⟨by rw[Za,eE,rY],by rw[Zk hsl.symm];exact sx _ _ h3l,Yp (s4.trans sx) O⟩
  rcases hwx with⟨y,rfl,hy,hny,hn1,hn2⟩|⟨y,rfl,hy,hna,hny,hnp⟩|⟨y,rfl,hy,hna,hnp⟩|⟨z,rfl,hz,hnp⟩
  .show if cG (.str y) (allR.map V.str)=true then _ else _
   rw[Yg,bC hy];have eX:W6 ys re pl kp (.str y::r)=(BB y (g.take (aO (.str y))) (-(kp.getD Z.length 0)) (iF y (g.take (aO (.str y))) (-(kp.getD Z.length 0)))::g.drop (aO (.str y)),Z++[iF y (g.take (aO (.str y))) (-(kp.getD Z.length 0))]):=by
    rw[eX];exact aN hy
   have hkk:Z.length<kp.length:=by
    rw[eX]at hmo;simp only[aZ,lL,Bg]at hmo;lia
   refine Xe ⟨_,U,_,U,J,_,U,.inl (aF.of h3l),kt,_,_,.int (kp.getD Z.length 0),U,U,aD.of (s4 _ _ hk),?_,_,U,?_⟩
   .rw[aI];exact ZQ _ U hkk
   try dsimp only
   generalize -(kp.getD Z.length 0)=hh at *;refine Zi ?_;refine⟨_,U,.inl ⟨U,_,aF.of h3l⟩,_,U,_,U,_,U,y,pp,g.take (aO (.str y)),hh,U,hpp,Vc,hy,(λh=>by have:=hn2 h;lia),λH4 s5=>⟨J,_,_,U,U,s5 _ _ h3l,?_,?_⟩⟩
   .rw[aI];exact Zw Vc
   have h5s:aC H4 J (.lst (Z.map V.int++[.int (iF y (g.take (aO (.str y))) hh)])) st=ap ((g.drop (aO (.str y))).map V.int).reverse:=by rw[Zk hsl];exact s5 _ _ Y
   have h5p:aC H4 J (.lst (Z.map V.int++[.int (iF y (g.take (aO (.str y))) hh)])) pp=ap ((g.take (aO (.str y))).map V.int):=by rw[Zk hpl2];exact s5 _ _ hpp
   have h5l:aC H4 J (.lst (Z.map V.int++[.int (iF y (g.take (aO (.str y))) hh)])) J=ap (Z.map V.int++[.int (iF y (g.take (aO (.str y))) hh)]):=Za;have s6:ZK H (aC H4 J (.lst (Z.map V.int++[.int (iF y (g.take (aO (.str y))) hh)]))):=Yp (s4.trans s5) hlaH;generalize aC H4 J (.lst (Z.map V.int++[.int (iF y (g.take (aO (.str y))) hh)]))=H5 at *;refine⟨_,U,.inl ⟨U,_,aF.of h5s⟩,_,U,_,U,_,U,_,U,1,U,J,_,-1,.int (iF y (g.take (aO (.str y))) hh),U,U,aF.of h5l,kh _ _,y,pp,g.take (aO (.str y)),hh,_,U,h5p,Vc,hy,(λh=>by have:=hn2 h;lia),λH6 s7=>⟨st,_,_,U,U,s7 _ _ h5s,sml,_,_,_,U,hi,?_,?_,Yp (s6.trans s7) O⟩⟩
   .rw[Za,eX,eE,rY]
   .rw[Zk hsl.symm,eX,dC];exact s7 _ _ h5l
  .show if cG (.str y) (allR.map V.str)=true then _ else _
   rw[Yg,bO hna];have eX:W6 ys re pl kp (.str y::r)=(Cb y (g.take (aO (.str y)))::g.drop (aO (.str y)),Z):=by
    rw[eX];show(if y∈allR then _ else if y∈ys then _ else _)=_;rw[aL hna,aL hny]
   refine YJ ⟨_,U,_,_,_,_,U,.str y,qk,_,U,YJ ⟨_,U,_,U,dv,Y0 ul (.inr y),U,.inl ⟨ul,.inr y,.inl (s4 _ _ hd),U,U⟩,_,U,?_⟩⟩;show if(Y0 ul (.inr y)).isSome=true then _ else _;rw[hc.2 y hny];refine YJ ⟨_,U,.inl ⟨U,_,aF.of Y⟩,_,U,_,U,y,pp,g.take (aO (.str y)),U,hpp,hy,by rw[hln3,hnp],λH4 s5=>?_⟩;obtain⟨f1,f2,f3⟩:=fin _ H4 eX s5;exact⟨st,_,_,U,U,s5 _ _ Y,sml,_,_,_,U,hi,f1,f2,f3⟩
  .show if cG (.str y) (allR.map V.str)=true then _ else _
   rw[Yg,bO hna];have eX:W6 ys re pl kp (.str y::r)=(re y::g.drop (aO (.str y)),Z):=by
    rw[eX];show(if y∈allR then _ else if y∈ys then _ else _)=_;rw[aL hna,aN hy]
   refine YJ ⟨_,U,_,_,_,_,U,.str y,qk,_,U,YJ ⟨_,U,_,U,dv,Y0 ul (.inr y),U,.inl ⟨ul,.inr y,.inl (s4 _ _ hd),U,U⟩,_,U,?_⟩⟩;show if(Y0 ul (.inr y)).isSome=true then _ else _;rw[hc.1 y hy];obtain⟨f1,f2,f3⟩:=fin _ H3 eX (ZK.refl _);exact Xe ⟨_,U,.inl ⟨U,_,aF.of Y⟩,_,U,_,U,dv,_,U,.inl ⟨ul,.inr y,.inl (s4 _ _ hd),U,(hc.1 y hy).symm⟩,st,_,_,U,U,Y,sml,_,_,_,U,hi,f1,f2,f3⟩
  .show if cG (.int z) (allR.map V.str)=true then _ else _
   rw[wb];refine YJ ⟨_,U,_,_,_,_,U,.int z,qj,_,U,Xe ⟨_,U,.inl ⟨U,_,aF.of Y⟩,_,U,_,U,_,_,U,U,pP pl,_,_,U,U,_,U,?_⟩⟩;have ev:-(Builtin.bitAnd (z/2^(pl:Int).toNat) 1)=-(bt z pl):=by
    rw[iS,dr];rfl
   try dsimp only
   rw[ev];obtain⟨f1,f2,f3⟩:=fin _ H3 eX (ZK.refl _);exact⟨st,_,_,U,U,Y,sml,_,_,_,U,hi,f1,f2,f3⟩
 .refine λσ H2=>ε3 λu6 u7 u8=>θ4 λzq0 hi0 h2s h2l s3=>?_;subst zq0;rw[nB,List.drop_zero,hst]at h2s h2l;refine⟨_,U,.inl ⟨U,_,aF.of h2s⟩,st,_,.int o,U,U,h2s,U,_,U,yF,λtt htt=>?_⟩;have hlt:aC H2 st (.lst []) J=ap (lt.map V.int):=by rw[Zk hsl.symm];exact h2l
  have s5:ZK H (aC H2 st (.lst [])):=Yp s3 O;exact k tt J _ (s5.free htt) Za (Zd htt _ _ hlt) (s5.trans (Zd htt))
inductive qe:Prop
 |mk(m1 m2:Av)(nm:Ai)(b1 b2:Nat)(nx1 nx2:Ad)(ot1 ot2:Ay)(tr:Bool)(A:Nat->Nat->Prop):vs=[.ref m1,.ref m2]->M4 H m1 nm b1 nx1 ot1->M4 H m2 nm b2 nx2 ot2->Wf nm b1 nx1 ot1 tr->Wf nm b2 nx2 ot2 tr->n5 nx1 nx2 ot1 ot2 b1 b2 A->nx1.length*nx2.length<=1000000->(∀H',ZK H H'->Q (.bl true) H')->qe
theorem uR:bL T.cj P w wn 4 (bX qe):=by
 have g:=qd P wn T TB;have B:=uO P wn T TB;refine T.cj.go XU ?_;rintro cdv A xz s H _ Q E O ⟨m1,m2,nm,b1,b2,nx1,nx2,ot1,ot2,tr,A,rfl,M1,M2,W1,W2,BS,hbig,k⟩;refine⟨_,(Zc (ZA 2 XU.nd (ZR Z4 (by rfl) T.af ZY (Zg (Zn T.gc B O (Zg (qv 0) (Zg (qv 1) Zb))) Zb)))
   (Zc (ZA 3 XU.nd (YS Zb))
   (Zc (YG dG U (Xf (Zp Zr (qv 1) Ze)) (YV 4 XU.nd)
   (Zf (Ya (Yo c9 dE dD ZH (qv 3) (Zg (ZR Z4 (by rfl) T.af ZY (Zg (Yy ({}:Ye (Zh qo) _ ["one","other","paper","rows","row","over"] "bit" [] []) (Xf (qv 4)) (λ_ _ _ _=>YZ) (λ_ _ _ _=>(Zj7 (Xn (Zs (show Wd _ (.builtin "isinstance") (HY K)from XJ) (by rfl) T.ai Yj (Zg (qv 0) (Zg (WQ (v:=.ty "bool") (by rfl) T.Q9 Nz U) Zb)))) (Q2 (qv 0)) (Zl ji Ze (qv 0))))) Zb)) Zb)))))
   (Zc (ZA 5 XU.nd (Zt (Zg (Zp Zr (qv 1) Ze) (Zg (Zp Zr (qv 1) Ze) (Zg (Zp Zr (qv 1) Ze) (Zg (ZR Z4 (by rfl) T.af ZY (Zg (qv 3) Zb)) Zb))))))
   (Zc (Yc (x9 (vo (Zu yH (Zs Zx (by rfl) T.ag Yn (Zg (qv 3) Zb)) Ze (ZS _)) (x8 (Zu qK (Zn T.ak g O (Zg (qv 0) (Zg (qv 5) (Zg (qv 2) Zb)))) YM Vg))))
   (Zf (Zq YM)) Z3)
   (Zf (Zq (Xr tR (Zn T.ak g O (Zg (qv 0) (Zg (qv 1) (Zg (qv 2) Zb)))) YM Vg)))))))),?_⟩
 refine L2.Co ?_;intro U5 U4 U3 U2 U1;refine⟨_,U,_,U,m1,m2,nm,b1,b2,nx1,nx2,ot1,ot2,tr,A,U,M1,M2,W1,W2,BS,hbig,λl ps zs H1 s1 hl hz h6 L=>?_⟩;refine⟨l,_,U,.inl ⟨aF.of hl,λc hc=>Zi ?_⟩⟩;have s2:=s1.trans (Zd (o:=.tup zs) hc);have P2:=hz.same (Zd (o:=.tup zs) hc);have c2:=Za (H:=H1) (a:=c) (o:=.tup zs);generalize aC H1 c (.tup zs)=H2 at *;refine⟨Vb,λC Z=>Zi ?_⟩;have s3:=s2.trans (Zd (o:=.lst []) Z);have P3:=P2.same (Zd (o:=.lst []) Z);have c3:=Zd (o:=.lst []) Z _ _ c2;have r3:=Za (H:=H2) (a:=C) (o:=.lst []);have hrw0:=s2.free Z;refine ω (id M2.ex) (ε3 λI J po2=>θ3 λh2 n2 R2 O2=>?_);refine ω (id O2) (ε1 λas2=>θ2 λg1 g2 g3=>?_);refine⟨_,U,m2,_,3,_,U,U,aD.of (s3 _ _ h2),U,po2,U,⟨_,aD.of (s3 _ _ g1)⟩,?_⟩;have l8:=p8 W2.n3;have lo:=W2.ol;have le2:=W2.le;refine JQ (K:=K) (a:=po2) (xs:=as2) (λi σ H'=>∃(u4:Option V)(as:A1),σ=[ac m1,ac m2,ac c,ac C,u4,none]/\H' C=ap as/\as.length=i/\(∀(j:Nat)(r:A1),j<i->ot2[j]?=some r->∃a,as[j]?=ac a/\H' a=am (r.map Gr))/\H' c=am zs/\cS H' ps zs/\ZK H H') ⟨none,[],U,r3,U,(λj _ z=>absurd z (nP j)),c3,P3,s3⟩ (λi σ H' _=>ε2 λ_ _=>θ6 λ_ _ _ _ _ _ s=>aD.of (s _ _ g1)) ?_ ?_
 .refine λi x σ H4 hx=>ε2 λu4 as=>θ6 λzq0 G Y har c4 P4 s4=>?_;subst zq0;have hi:i<ot2.length:=by rw[<-g2];exact(bM.mp hx).1
  have O:=aR hi;have hm:=f7 hi;obtain⟨a,ga,gr⟩:=g3 i _ O;rw[ga]at hx;cases hx;generalize ot2[i]=r at *;have lr:=W2.or r hm;have gr4:=s4 _ _ gr;refine Zi ⟨_,U,.inl ⟨U,_,aF.of G⟩,_,U,⟨a,U,⟨_,aD.of gr4⟩,qD Gr (aD.of gr4) (a8 (Zw Vc)) (λx hx R hR=>?_) (λl hl=>?_)⟩⟩
  .rcases W2.ok r hm x hx with⟨e,b,rfl⟩|⟨e,z,rfl⟩
   .exact⟨_,U,_,_,_,_,U,.bl b,ko,true,U,Xe ⟨_,U,b,U,hR⟩⟩
   .exact⟨_,U,_,_,_,_,U,.int z,zg,false,U,YJ ⟨_,U,_,_,U,U,hR⟩⟩
  .refine⟨l,_,U,.inl ⟨aF.of Za,λq hq=>?_⟩⟩;have F:=(Zd (o:=.lst (r.map Gr)) hl).trans (Zd (o:=.tup (r.map Gr)) hq);have q6:=Za (H:=aC H4 l (.lst (r.map Gr))) (a:=q) (o:=.tup (r.map Gr));generalize aC (aC H4 l (.lst (r.map Gr))) q (.tup (r.map Gr))=H6 at *;have hr6:=F _ _ G;have nt:∀{b:Av} {ys:A1},H6 b=am ys->b≠C:=λe=>Xp e hr6 nofun;refine⟨C,_,_,U,U,hr6,Yz Vc,_,as++[.ref q],U,Za,by rw[aZ,Y];rfl,λj r' hj hr'=>?_,(Zk (nt (F _ _ c4))).trans (F _ _ c4),(P4.same F).put λxs e=>(by rw[hr6]at e;cases e),Yp (s4.trans F) hrw0⟩
   by_cases hji:j<i
   .obtain⟨b,b1,b2⟩:=har j r' hji hr';exact⟨b,by rw[eH (by simp_all)];exact b1,(Zk (nt (F _ _ b2))).trans (F _ _ b2)⟩
   .obtain rfl:j=i:=Vc
    rw[O]at hr';cases hr';exact⟨q,Vd,(Zk (nt q6)).trans q6⟩
 refine λσ H4=>ε2 λu4 as=>θ6 λzq0 G Y har c4 P4 s4=>?_;subst zq0;rw[g2]at Y har;have h24:=s4 _ _ h2;refine⟨_,U,m2,_,0,_,U,U,aD.of h24,U,_,U,m2,_,1,_,U,U,aD.of h24,U,_,U,m2,_,2,_,U,U,aD.of h24,U,_,U,C,_,U,.inl ⟨aF.of G,λq hq=>⟨DO,λov hov=>Zi ?_⟩⟩⟩;have F:=(Zd (o:=.tup as) hq).trans (Zd (o:=.tup [.ref I,.int b2,.ref J,.ref q]) hov);have q6:=Zd (o:=.tup [.ref I,.int b2,.ref J,.ref q]) hov _ _ (Za (H:=H4) (a:=q) (o:=.tup as));have o6:=Za (H:=aC H4 q (.tup as)) (a:=ov) (o:=.tup [.ref I,.int b2,.ref J,.ref q]);generalize aC (aC H4 q (.tup as)) ov (.tup [.ref I,.int b2,.ref J,.ref q])=H6 at *;have D:=s4.trans F;have MO:M4 H6 ov nm b2 nx2 (ot2.map λr=>r.map Gr):=⟨⟨I,J,q,o6,D _ _ n2,R2.same D,as,q6,by rw[aI];exact Y,λi r hi=>by
  rw[aY]at hi;obtain⟨r',h1,rfl⟩:=eG.mp hi;obtain⟨a,e1,e2⟩:=har i r' (bM.mp h1).1 h1;exact⟨a,e1,F _ _ e2⟩⟩⟩
 have c6:=F _ _ c4;have P6:=P4.same F;have fin:∀H',ZK H6 H'->U5 {nx:=λx H'=>Q V.aX H',rt:=Q} [ac m1,ac m2,ac c,ac C,u4,ac ov] H':=λH' s7=>⟨_,U,_,U,_,U,m1,m2,c,nm,nm,b1,b2,nx1,nx2,ot1,ot2,tr,ps,zs,U,M1.same (D.trans s7),M2.same (D.trans s7),W1,W2,s7 _ _ c6,P6.same s7,h6,λr H8 O s8=>⟨r,true,U,U,by rw[O.mpr L];exact k _ (D.trans (s7.trans s8))⟩⟩;refine⟨_,U,C,_,U,.inl (aF.of (F _ _ G)),_,_,U,U,_,U,G5 (λ_=>?_) (λ_=>YJ (fin H6 (ZK.refl _)))⟩;refine⟨_,U,_,U,_,U,m1,ov,c,nm,nm,b1,b2,nx1,nx2,ot1,_,tr,ps,zs,U,M1.same D,MO,W1,W2.flip,c6,P6,h6,λr H8 O s8=>⟨r,false,U,U,?_⟩⟩;rw[Hf.mpr λz=>Tp W2 BS (O.mp z)];exact⟨_,U,YJ (fin H8 s8)⟩
inductive WK(P:Ao)(w:As)(K:Af)(mg:Ae)(wn:Heap):Prop
 |mk(κ:Type)(dq:DecidableEq κ)(sk:SK κ)(pn f:Av)(nm:Ai)(b:κ)(bv:V)(nx:κ->List κ)(ot:κ->List V)(Ua:List κ)(τ:Sp):vs=[.ref pn,bv,.ref f]->H pn=am (nm.map V.str)->sk.at_ H b bv->b∈Ua->(∀s∈Ua,(nx s).length<=8/\(ot s).length<=8/\∀x∈nx s,x∈Ua)->Ua.length<=1000000->nm.length<=3->XN P w K mg wn 12 f H τ->(∀(s:κ)(sv:V)(H1:Hp)(Q':VK),s∈Ua->sk.at_ H1 s sv->ZK H H1->(∀t r1 r2 ws H2,H2 t=am [.ref r1,.ref r2]->Me H1 H2 r1 ws->eQ sk H2 (nx s) ws->Me H1 H2 r2 (ot s)->ZK H1 H2->Q' (.ref t) H2)->τ [sv] H1 Q' E0)->(∀p sts m (l:List κ) ws H',bJ nx b l->H' p=am [.ref sts,.ref m]->H sts=none->H' sts=ap ws->eQ sk H' l ws->M4 H' m nm 0 (bF nx l) (l.map ot)->ZK H H'->Q (.ref p) H')->WK P w K mg wn
def zL(P:Ao)(w:As)(K:Af)(mg:Ae)(wn:Heap):Sp:=λvs H Q _=>WK vs H Q P w K mg wn
theorem XZ:bL T.ah P w wn 13 (zL P w K mg wn):=by
 have D:=y7 P wn T TB;refine T.ah.go Y2 ?_;rintro cdv A xz s H _ Q E hr ⟨κ,_,sk,pn,f,nm,b,bv,nx,ot,Ua,τ,rfl,hpn,hbv,hb,hU,h2,hn3,hc,hτ,k⟩;refine⟨_,(Zc (ZA 3 Y2.nd (YS (Zg (qv 1) Zb)))
   (Zc (ZA 4 Y2.nd (QE.or (Tn (gJ hr) (qv 1) Ze) (La (kE (qv 1) Ze Kc) U U nofun Vb)))
   (Zc (ZA 5 Y2.nd (YS Zb))
   (Zc (ZA 6 Y2.nd (YS Zb))
   (Zc (q9 dG (Zu yH (Zs Zx (by rfl) T.ag Yn (Zg (qv 5) Zb)) (Zs Zx (by rfl) T.ag Yn (Zg (qv 3) Zb)) (ZS _))
   (Zc (ZA 7 Y2.nd (Zkj (k:=12) 2 (hr.mono Vb) (Zg (Zp Z5 (qv 3) (Zs Zx (by rfl) T.ag Yn (Zg (qv 5) Zb))) Zb)))
   (Zc (Ya (Yo c9 dE dD ZH (qv 5) (Zg (ZR Z4 (by rfl) T.af ZY (Zg (Yy ({}:Ye (Zh Wq) _ ["names","begin","step_of","states","numbers","steps","out","told"] "state" ["states","numbers"] [3,4]) (QI.or (Xs (Zp Zr (qv 7) Ze)) (Xf (Zp Zr (qv 7) Ze))) (λ_ _ _ _=>YZ) (λ_ _ _ _=>(Zn T.dw D hr (Zg (qv 0) (Zg (qv 1) (Zg (qv 2) Zb)))))) Zb)) Zb)))
   (Zf (Ya (Yo c9 dE dD ZH (qv 6) (Zg (ZR Z4 (by rfl) T.af ZY (Zg (Zp Zr (qv 7) Ze) Zb)) Zb)))))))
   (Zf (Zq (Zt (Zg (qv 3) (Zg (Zt (Zg (ZR Z4 (by rfl) T.af ZY (Zg (qv 0) Zb)) (Zg Ze (Zg (ZR Z4 (by rfl) T.af ZY (Zg (qv 5) Zb)) (Zg (ZR Z4 (by rfl) T.af ZY (Zg (qv 6) Zb)) Zb))))) Zb)))))))))),?_⟩
 try dsimp only[L2.iN,L2.c8]
 refine L2.Co ?_;intro U5 U4 U3 U2 U1;have hr:∀s∈Ua,∀x∈nx s,x∈Ua:=λs h=>(hU s h).2.2;refine⟨_,U,vV,λst hst=>?_⟩;have s1:=Zd (o:=.lst [bv]) hst;refine Zi ?_;have begun:∀(g:Av)(H3:Hp),H g=none->H3 st=some (.lst [bv])->sk.lE H3 g [b]->sk.at_ H3 b bv->ZK H H3->U2 {nx:=λ_ H'=>Q .aX H',rt:=Q} [ac pn,some bv,ac f,ac st,ac g,none,none,none] H3:=by
  intro g H3 hndH hst3 hnd3 hbv3 s3;obtain⟨ond,hond,ndT,ndL⟩:=SK.ne hnd3;refine⟨CN,λpp hpp=>Zi ⟨CN,λC hpo=>Zi ?_⟩⟩;have sp:=Zd (o:=.lst []) hpp;have so:=sp.trans (Zd (o:=.lst []) hpo);have hppH:H pp=none:=s3.free hpp;have hpoH:H C=none:=s3.free (sp.free hpo);have pst:pp≠st:=(Zo hst3 hpp).symm;have pnd:pp≠g:=(Zo hond hpp).symm;have ppo:pp≠C:=Zo Za hpo;have ost:C≠st:=(Zo (sp _ _ hst3) hpo).symm;have oNd:C≠g:=(Zo (sp _ _ hond) hpo).symm;have rl:∀{H:Hp} {zs:A1} {i:Nat},YO H zs (yO nx b i)->zs.length=i:=λz=>by
   have:=z.1;unfold yO at this;rw[aI,dS]at this;exact this
  have ol:∀{H:Hp} {zs:A1} {i:Nat},YO H zs (wm nx ot b i)->zs.length=i:=λz=>by
   have:=z.1;unfold wm at this;rw[aI,dS]at this;exact this
  have F:∀{Ha Hb:Hp},ZK Ha Hb->∀b xs,Ha b=some (.tup xs)->Hb b=some (.tup xs):=λs b xs e=>s _ _ e;refine LW (λσ H2=>∃(i:Nat)(u7:Option V)(zs os ws:A1),σ=[ac pn,some bv,ac f,ac st,ac g,ac pp,ac C,u7]/\H2 st=some (.lst ws)/\eQ sk H2 (ba nx b i) ws/\sk.lE H2 g (ba nx b i)/\H2 pp=some (.lst zs)/\H2 C=some (.lst os)/\YO H2 zs (yO nx b i)/\YO H2 os (wm nx ot b i)/\(∀j,j<i->j<(ba nx b j).length)/\i<=(ba nx b i).length/\ZK H H2) (λ_ H2=>match H2 pp with|some (.lst zs)=>Ua.length-zs.length|_=>0) ⟨0,none,[],[],[bv],U,so _ _ hst3,eQ.one (SK.keep hbv3 (F so)),SK.cI hnd3 (λo e=>so _ _ e) (F so),Zd hpo _ _ Za,Za,YO.nil,YO.nil,(λj hj=>absurd hj (nP _)),cD _,s3.trans so⟩ ?_;refine λσ H4=>ε5 λi u7 zs os ws=>θ6 λzq0 O hA4 hnd4 I hpo4=>θ4 λRz Ro hgo hil s4=>?_;subst zq0;have hzl:=rl Rz;have hol:=ol Ro;have hlen:=ug hb hr i;have hnod:=qX (nx:=nx) (b:=b) i;have hinU:=AI hb hr i;refine⟨_,U,pp,_,U,.inl (aF.of I),_,U,st,_,U,.inl (aF.of O),_,_,U,U,_,U,?_⟩;rw[hzl,hA4.1];refine G5 (λhlt=>?_) (λhlt=>?_)
  .have hlt':i<(ba nx b i).length:=by
    have:=dJ hlt;lia
   obtain⟨si,hsi⟩:∃si,(ba nx b i)[i]?=some si:=⟨_,aR hlt'⟩;have hsU:si∈Ua:=hinU _ (bP hsi);obtain⟨r8,o8,rU⟩:=hU si hsU;obtain⟨sv,hsv,hat⟩:=hA4.2 i si hsi;have eR:=Zen (nx:=nx) (b:=b) hsi;have eO:=UO (nx:=nx) (ot:=ot) (b:=b) hsi;have eS:=jY (nx:=nx) (b:=b) hsi;refine⟨λσ' H'=>∃(u7:Option V)(zs' os' B:A1),σ'=[ac pn,some bv,ac f,ac st,ac g,ac pp,ac C,u7]/\H' st=some (.lst B)/\eQ sk H' (ba nx b (i+1)) B/\sk.lE H' g (ba nx b (i+1))/\H' pp=some (.lst zs')/\H' C=some (.lst os')/\YO H' zs' (yO nx b (i+1))/\YO H' os' (wm nx ot b (i+1))/\ZK H H',?_,?_⟩
   .refine λσ' H'=>ε4 λu8 zs' os' B=>θ6 λzq0 g1 gA g2 g3 g4=>θ2 λg5 g6 s5=>?_;subst zq0;have hpre:(ba nx b i).length<=(ba nx b (i+1)).length:=by
     obtain⟨r,e⟩:=Wx (nx si) (ba nx b i);rw[eS,e,aZ];lia
    refine⟨Ua.length-(i+1),?_,?_,i+1,u8,zs',os',B,U,g1,gA,g2,g3,g4,g5,g6,λj hj=>?_,Vc,s5⟩
    .rw[I];show Ua.length-(i+1)<Ua.length-zs.length;lia
    .rw[g3];show _=Ua.length-zs'.length;rw[rl g5]
    .by_cases hji:j=i
     .rw[hji];exact hlt'
     .exact hgo j Vc
   .refine⟨f,τ,U,hc.b7 s4.b7,_,U,_,U,pp,_,U,.inl (aF.of I),st,_,_,sv,U,U,aF.of O,by rw[hzl];exact Yu hsv,xH.refl _,hτ si sv H4 _ hsU hat s4 λtt r1 r2 ws0 H5 htt hr1 hA5 hr2 s5=>?_⟩;refine Zi ?_;generalize hl0:ba nx b i=l0 at *;have hst5:=s5 _ _ O;have hnd5:sk.lE H5 g l0:=SK.cI hnd4 (λo e=>s5 _ _ e) (F s5);have hpp5:=s5 _ _ I;have hpo5:=s5 _ _ hpo4;refine ω (SK.ne hnd4) (ε1 λond4=>θ2 λY nd4T nd4L=>?_);have Ey:∀{r:Av} {ys:A1},Me H4 H5 r ys->r≠st/\r≠g/\r≠pp/\r≠C:=λ{r ys} z=>by
     have lst:∀{q:Av} {o:HO},H4 q=some o->(∀xs,o≠.tup xs)->r≠q:=λ{q o} e ht e2=>by
      subst e2;rcases z with z|⟨_,z⟩
      .rw[s5 _ _ e]at z;exact ht ys (Option.some.inj z)
      .rw[e]at z;cases z
     exact⟨lst O (λ_ z=>nomatch z),lst Y nd4T,lst I (λ_ z=>nomatch z),lst hpo4 λ_ z=>nomatch z⟩
    refine ω (Ey hr1) (θ3 λrst rnd _ _=>?_);refine⟨_,U,.inl ⟨U,_,aF.of hpp5⟩,?_⟩;have hr1':H5 r1=some (.tup ws0)\/H5 r1=some (.lst ws0):=hr1.imp id (λz=>z.1);have w8:ws0.length<=8:=by rw[hA5.1];exact r8
    refine Zk8 (a:=r1) (xs:=ws0) (λR hR=>⟨_,U,tt,_,0,_,U,U,aD.of htt,U,hR⟩) hr1' (λj zs H'=>zs=((nx si).take j).map (λx=>Xh ((ba nx b (i+1)).idxOf x))/\(∃B,H' st=some (.lst B)/\eQ sk H' (((nx si).take j).foldl Y1 l0) B)/\sk.lE H' g (((nx si).take j).foldl Y1 l0)/\(∀b o,H5 b=some o->b≠st->b≠g->H' b=some o)/\∀b,H5 b=none->H' b=none) ⟨U,⟨ws,hst5,hA4.keep (F s5)⟩,hnd5,(λ_ _ e _ _=>e),λ_ e=>e⟩ ?_ ?_ ?_ ?_
    .rintro j zs H6 ⟨rfl,_⟩;rw[aI,cE];exact a8 (Zw Vc)
    .refine λj zs H6=>θ4 λ_ _ _ g3 _=>λo e=>?_;exact g3 _ _ e rst rnd
    .refine λj x zs H6 R hR hx=>θ4 λzq0 zq1 g2 g3 g4=>?_;subst zq0;obtain ⟨B,g1,gA⟩:=zq1;have hj:j<(nx si).length:=by rw[<-hA5.1];exact(bM.mp hx).1
     obtain⟨s',hs'⟩:∃s',(nx si)[j]?=some s':=⟨_,aR hj⟩;have tp6:∀b xs,H5 b=some (.tup xs)->H6 b=some (.tup xs):=λb xs e=>g3 _ _ e (Xp e hst5 nofun) (λz=>by rw[z,s5 _ _ Y]at e;exact nd4T xs (Option.some.inj e));obtain⟨v',hv',hat'⟩:=hA5.2 j s' hs';rw[hx]at hv';cases hv';have hat6:=SK.keep hat' tp6;have e1:((nx si).take (j+1)).foldl Y1 l0=Y1 (((nx si).take j).foldl Y1 l0) s':=by
      rw[aB hs',nN];rfl
     have e2:(ba nx b (i+1)).idxOf s'=(Y1 (((nx si).take j).foldl Y1 l0) s').idxOf s':=by
      have e3:(nx si).foldl Y1 l0=((nx si).drop (j+1)).foldl Y1 (((nx si).take (j+1)).foldl Y1 l0):=by rw[<-nN,oN]
      obtain⟨r,e4⟩:=Wx ((nx si).drop (j+1)) (((nx si).take (j+1)).foldl Y1 l0);rw[eS,e3,e4,e1,kI (Wg.mpr (.inr U))]
     have hnj:(((nx si).take j).foldl Y1 l0).Nodup:=jW _ _ hnod;have hlj:(((nx si).take j).foldl Y1 l0).length<10000000:=by
      have:=Sw ((nx si).take j) l0;rw[cE]at this;lia
     have ew:((nx si).take (j+1)).map (λx=>Xh ((ba nx b (i+1)).idxOf x))=((nx si).take j).map (λx=>Xh ((ba nx b (i+1)).idxOf x))++[Xh ((ba nx b (i+1)).idxOf s')]:=by
      rw[aB hs',dC];rfl
     rw[ew,e1]at hR;rw[e2]at hR;generalize ((nx si).take j).foldl Y1 l0=l' at *;refine Cu ⟨_,U,_,U,_,U,κ,_,sk,x,st,g,s',l',B,U,g1,gA.1,g2,hat6,hnj,hlj,λH7 ws7 q1 q0 q2 q3 q4=>hR _ _ ⟨U,⟨ws7,q1,?_⟩,q2,(λb o e h1 h2=>q3 _ _ (g3 b o e h1 h2) h1 h2),λb e=>q4 _ (g4 b e)⟩⟩;have tp7:∀b xs,H6 b=some (.tup xs)->H7 b=some (.tup xs):=λb xs e=>q3 _ _ e (Xp e g1 nofun) λz=>by
      obtain⟨o,e7,h7,_⟩:=SK.ne g2;rw[z,e7]at e;exact h7 xs (Option.some.inj e)
     rcases q0 with⟨hm,rfl⟩|⟨hm,rfl⟩
     .rw[show Y1 l' s'=l' from aN hm];exact gA.keep tp7
     .rw[show Y1 l' s'=l'++[s']from aL hm];exact(gA.keep tp7).snoc (SK.keep hat6 tp7)
    .refine λzs1 H6=>θ4 λzq0 zq1 g2 g3 g4=>λl hl=>?_;subst zq0;obtain ⟨B,g1,gA⟩:=zq1;rw[hA5.1,dI]at g2 gA ⊢;rw[<-eS]at g2 gA;have tp6:∀{c:Av} {ys:A1},H5 c=some (.tup ys)->H6 c=some (.tup ys):=λ{c ys} e=>g3 _ _ e (Xp e hst5 nofun) (λz=>by rw[z,s5 _ _ Y]at e;exact nd4T ys (Option.some.inj e));have hpp6:=g3 _ _ hpp5 pst pnd;have hpo6:=g3 _ _ hpo5 ost oNd;have htt6:=tp6 htt;have G:H6 r2=some (.tup (ot si))\/H6 r2=some (.lst (ot si)):=by
      obtain⟨z1,z2,_⟩:=Ey hr2;rcases hr2 with z|⟨z,_⟩
      .exact .inl (g3 _ _ z z1 z2)
      .exact .inr (g3 _ _ z z1 z2)
     have ndr2:=Ey hr2;refine⟨l,_,U,.inl ⟨aF.of Za,λq hq=>?_⟩⟩;have sl:=Zd (o:=.lst ((nx si).map λx=>Xh ((ba nx b (i+1)).idxOf x))) hl;have sq:=sl.trans (Zd (o:=.tup ((nx si).map λx=>Xh ((ba nx b (i+1)).idxOf x))) hq);have hqp:q≠pp:=(Zo (sl _ _ hpp6) hq).symm;have hqo:q≠C:=(Zo (sl _ _ hpo6) hq).symm;refine⟨pp,_,_,U,U,sq _ _ hpp6,Yz Vc,?_⟩;have k8:∀c o,H6 c=some o->c≠pp->aC (aC (aC H6 l (.lst ((nx si).map λx=>Xh ((ba nx b (i+1)).idxOf x)))) q (.tup ((nx si).map λx=>Xh ((ba nx b (i+1)).idxOf x)))) pp (.lst (zs++[.ref q])) c=some o:=λc o e hc=>by
      rw[Zk hc];exact sq _ _ e
     have hq8:aC (aC (aC H6 l (.lst ((nx si).map λx=>Xh ((ba nx b (i+1)).idxOf x)))) q (.tup ((nx si).map λx=>Xh ((ba nx b (i+1)).idxOf x)))) pp (.lst (zs++[.ref q])) q=some (.tup ((nx si).map λx=>Xh ((ba nx b (i+1)).idxOf x))):=by
      rw[Zk hqp];exact Za
     have hp8:=Za (H:=aC (aC H6 l (.lst ((nx si).map λx=>Xh ((ba nx b (i+1)).idxOf x)))) q (.tup ((nx si).map λx=>Xh ((ba nx b (i+1)).idxOf x)))) (a:=pp) (o:=.lst (zs++[.ref q]));have d8:sk.lE (aC (aC (aC H6 l (.lst ((nx si).map λx=>Xh ((ba nx b (i+1)).idxOf x)))) q (.tup ((nx si).map λx=>Xh ((ba nx b (i+1)).idxOf x)))) pp (.lst (zs++[.ref q]))) g (ba nx b (i+1)):=SK.off (SK.cI g2 (λo e=>sq _ _ e) (F sq)) (sq _ _ hpp6);generalize aC (aC (aC H6 l (.lst ((nx si).map λx=>Xh ((ba nx b (i+1)).idxOf x)))) q (.tup ((nx si).map λx=>Xh ((ba nx b (i+1)).idxOf x)))) pp (.lst (zs++[.ref q]))=H8 at *;have tp8:∀{c:Av} {ys:A1},H6 c=some (.tup ys)->H8 c=some (.tup ys):=λ{c ys} e=>k8 _ _ e (Xp e hpp6 nofun);have hpo8:=k8 _ _ hpo6 ppo.symm;have last:∀(J:Av)(Z:Hp),Z J=some (.tup (ot si))->ZK H8 Z->Z C=some (.lst os)/\(aC Z C (.lst (os++[.ref J])) st=some (.lst B)/\eQ sk (aC Z C (.lst (os++[.ref J]))) (ba nx b (i+1)) B/\sk.lE (aC Z C (.lst (os++[.ref J]))) g (ba nx b (i+1))/\aC Z C (.lst (os++[.ref J])) pp=some (.lst (zs++[.ref q]))/\aC Z C (.lst (os++[.ref J])) C=some (.lst (os++[.ref J]))/\YO (aC Z C (.lst (os++[.ref J]))) (zs++[.ref q]) (yO nx b (i+1))/\YO (aC Z C (.lst (os++[.ref J]))) (os++[.ref J]) (wm nx ot b (i+1))/\ZK H (aC Z C (.lst (os++[.ref J])))):=by
      intro J Z ha9 s9;have hpo9:=s9 _ _ hpo8;have tp9:∀{c:Av} {ys:A1},Z c=some (.tup ys)->aC Z C (.lst (os++[.ref J])) c=some (.tup ys):=λ{c ys} e=>by rw[Zk (Xp e hpo9 nofun)];exact e
      have tp59:∀b xs,H5 b=some (.tup xs)->aC Z C (.lst (os++[.ref J])) b=some (.tup xs):=λb xs e=>tp9 (s9 _ _ (tp8 (tp6 e)));refine⟨hpo9,?_,gA.keep (λb xs e=>tp9 (s9 _ _ (tp8 e))),SK.off (SK.cI d8 (λo e=>s9 _ _ e) (F s9)) hpo9,?_,Za,?_,?_,λc o' e=>?_⟩
      .rw[Zk ost.symm];exact s9 _ _ (k8 _ _ g1 pst.symm)
      .rw[Zk ppo];exact s9 _ _ hp8
      .rw[eR];exact(xW (λb xs e=>tp59 b xs (s5 _ _ e)) Rz).snoc (tp9 (s9 _ _ hq8))
      .rw[eO];exact(xW (λb xs e=>tp59 b xs (s5 _ _ e)) Ro).snoc (tp9 ha9)
      .have cp:c≠pp:=Zo e hppH;have co:c≠C:=Zo e hpoH;rw[Zk co];exact s9 _ _ (k8 _ _ (g3 _ _ (s5 _ _ (s4 _ _ e)) (Zo e hst) (Zo e hndH)) cp)
     refine⟨_,U,.inl ⟨U,_,aF.of hpo8⟩,_,U,tt,_,1,_,U,U,aD.of (tp8 htt6),U,r2,ot si,U,?_⟩;rcases G with G|G
     .obtain⟨l1,l2⟩:=last r2 H8 (tp8 G) (ZK.refl _);exact .inr ⟨aD.of (tp8 G),C,_,_,U,U,l1,Yz Vc,_,zs++[.ref q],os++[.ref r2],B,U,l2⟩
     .refine .inl ⟨aF.of (k8 _ _ G ndr2.2.2.1),λJ ha9=>?_⟩;obtain⟨l1,l2⟩:=last J (aC H8 J (.tup (ot si))) Za (Zd ha9);exact⟨C,_,_,U,U,l1,Yz Vc,_,zs++[.ref q],os++[.ref J],B,U,l2⟩
  .have hle:(ba nx b i).length=i:=by
    have:¬(i:Int)<((ba nx b i).length:Int):=λz=>hlt (bC z);lia
   refine⟨_,U,_,U,pn,_,U,.inr ⟨aD.of (s4 _ _ hpn),_,U,pp,_,U,.inl ⟨aF.of I,λa1 ha1=>⟨_,U,C,_,U,.inl ⟨aF.of (Zd ha1 _ _ hpo4),λa2 ha2=>⟨DO,λm hm=>⟨yF,λp hp=>?_⟩⟩⟩⟩⟩⟩⟩;have q1:=Zd (o:=.tup zs) ha1;have q2:=Zd (o:=.tup os) ha2;have q3:=Zd (o:=.tup [.ref pn,.int 0,.ref a1,.ref a2]) hm;have q4:=Zd (o:=.tup [.ref st,.ref m]) hp;have qq:=q1.trans (q2.trans (q3.trans q4));refine k p st m (ba nx b i) ws _ ⟨by rw[hle],λj hj=>hgo j (by simp_all)⟩ Za hst (qq _ _ O) (hA4.keep (F qq)) ⟨⟨pn,a1,a2,q4 _ _ Za,qq _ _ (s4 _ _ hpn),⟨zs,(q2.trans (q3.trans q4)) _ _ Za,?_,λj r hj=>?_⟩,⟨os,(q3.trans q4) _ _ Za,?_,λj r hj=>?_⟩⟩⟩ (s4.trans qq)
   .rw[hzl,aI,Xm,hle]
   .rw[<-UP hle hgo]at hj;obtain⟨a,g1,g2⟩:=Rz.2 j r hj;exact⟨a,g1,qq _ _ g2⟩
   .rw[hol,aI,hle]
   .rw[<-Zic hle hgo]at hj;obtain⟨a,g1,g2⟩:=Ro.2 j r hj;exact⟨a,g1,qq _ _ g2⟩
 have fin:∀(g:Av)(H3:Hp),H g=none->g≠st->(∃o,H3=aC (aC H st (.lst [bv])) g o)->sk.lE H3 g [b]->U2 {nx:=λ_ H'=>Q .aX H',rt:=Q} [ac pn,some bv,ac f,ac st,ac g,none,none,none] H3:=by
  intro g H3 hndH hne ho hd3;obtain⟨o,rfl⟩:=ho;have hnd1:aC H st (.lst [bv]) g=none:=by rw[Zk hne];exact hndH
  have s3:=s1.trans (Zd (o:=o) hnd1);exact begun g _ hndH (by rw[Zk hne.symm];exact Za) hd3 (SK.keep hbv λb xs e=>s3 _ _ e) s3
 cases sk with
 |int f9 inj=>
  have hbv:bv=.int (f9 b):=hbv;subst hbv;refine .inr λg hnd=>?_;have snd:st≠g:=Zo Za hnd;refine⟨_,U,Za,[(.inl (f9 b),.int 0)],U,by show 1<=15;decide,Zi ?_⟩;have em:JC [] [((.inl (f9 b):aV),V.int 0)]=nk ([b].map f9):=rfl;rw[em,vW];exact fin g _ (s1.free hnd) snd.symm ⟨_,U⟩ Za
 |key kn=>
  obtain⟨a,rfl,ha⟩:=id hbv;refine .inl λg hnd=>?_;have snd:st≠g:=Zo Za hnd;have sn2:=s1.trans (Zd (o:=.dK []) hnd);refine⟨_,U,κ,_,kn,a,b,U,Za,kn.keep _ _ _ _ (λb xs e=>sn2 _ _ e) ha,λH' n' _ ho=>Zi ?_⟩;obtain⟨o,rfl⟩:=ho;rw[vW]at n' ⊢;exact fin g _ (s1.free hnd) snd.symm ⟨_,U⟩ n'
inductive Wc(w:As)(pw:Av):Prop
 |mk(tw tn tt:Av)(ws:A1)(nm:Ai)(o0 o1:V)(B kc:Nat):vs=[.ref tw,.ref tn,.ref tt]->H tw=am ws->ws.length<=100->H tn=am (nm.map V.str)->nm.Nodup->nm.length<=3->H tt=am [o0,o1]->(∀w∈ws,yN nm w)->Yh ws->WX ws=1->(∀z:Int,V.int z∈ws->0<=z/\z<2^B)->kc=YA ws->(B+1)*2^kc<=1000000->Yd H pw Zz Zv->(∀m (l:List (Int×Ak)) H',bJ (eB nm (YF (2^nm.length) nm) ws (cL ws)) (0,List.replicate kc 0) l->M4 H' m nm 0 (bF (eB nm (YF (2^nm.length) nm) ws (cL ws)) l) (l.map (dM nm (YF (2^nm.length) nm) ws o0 o1))->Yd H' pw Zz Zv->o7 pw H H'->Q (.ref m) H')->Wc w pw
def xt(P:Ao)(w:As)(K:Af)(mg:Ae)(wn:Heap)(g:Av):Sp:=λvs H Q _=>Wc vs H Q w g
theorem WL:bL T.aj P w wn 14 (xt P w K mg wn t.ae):=by
 have D:=XZ P wn T TB;have G_bits_at:=VO P wn T TB;have G_stepped:=Ze8 P wn T TB;have J:=zv P wn T TB;have C:=zd P wn T TB;have I:=yC P wn T TB;have Z:=y6 P wn T TB;refine T.aj.F.IS Yr (λvs H Q E h=>?_) (λA xz s H vs Q E hr h=>?_)
 .obtain⟨_,_,_,_,_,_,_,_,_,rfl,_⟩:=h;rfl
 .obtain⟨tw,tn,tt,g,nm,o0,o1,B,Y,rfl,ht,hl,hn,hnd,hn3,hto,hw,he,hst,hB,hkc,hbig,hT,k⟩:=h;refine⟨_,@mC.out _ _ _ (Zc (ZA 3 Yr.nd (ZR (Zau U) (by rfl) T.Oh Rf (Zg (ZR j6 (by rfl) T.aw Q8 (Zg (Zn T.et Z hr (Zg (Zs Zx (by rfl) T.ag Yn (Zg (qv 1) Zb)) Zb)) Zb)) Zb)))
    (Zc (ZA 4 Yr.nd (Zn T.ee I hr (Zg (qv 1) (Zg (qv 3) Zb))))
    (Zc (ZA 5 Yr.nd (Zn T.cy C hr (Zg (qv 0) Zb)))
    (Zc (A5 (i:=6) (name:= "step_of") (sn:=JR Xy) (body:=XY Xy) (ut:=Zh Xy) (rc:=Zz) (tz:=Zv) Yr.nd U (Or.inl U) T.mh TB.cq TB.B U U U U (S0:=Zh Yw) U Va)
    (Zc (ZA 7 Yr.nd (Zt (Zg Ze (Zg (ZR Z4 (by rfl) T.af ZY (Zg (Yy ({}:Ye (Zh Yw) _ ["words","names","told","letters","columns","last_place","step_of","begin"] "word" [] []) (Xf (qv 0)) (λ_ _ _ _=>(jq (Xn (Zn T.dn J hr (Zg (qv 0) Zb))))) (λ_ _ _ _=>Ze)) Zb)) Zb))))
    (Zf (Zq (Zp Zr (Ss (kl:=11) (i:=6) (name:= "step_of") (sn:=JR Xy) (body:=XY Xy) (ut:=Zh Xy) (tz:=Zv) D (hr.mono Vb) U T.ah.m T.ah.F.kp T.ah.b U (Zg (qv 1) (Zg (qv 7) (Zg (qv 6) Zb))) U U (⟨GI,Va,Va,by rfl⟩:Ov (Zh Yw) _ ["words","names","told","letters","columns","last_place","step_of","begin"] ["state"] ["step","place","reached"] ["words","columns","last_place","letters","told"] [0,4,5,3,2]) (λ_ _ _ _ _ us hl=>match us,hl with|[_],_=>rfl) (λ_ _ _ _ _ _ _ hrl=>(Zc (ZA 1 GI.nd (YI G_stepped (hrl.mono Vb) U T.dm.m T.dm.F.kp T.dm.b .nil qh (Zg (qv 4) (Zg (qv 5) (Zg (Zp (show d5 _ (wR K)from Zr) (qv 0) Ze) (Zg (Zp (show d5 _ (wR K)from Zr) (qv 0) Ze) Zb))))))
    (Zc (ZA 2 GI.nd (Zs (Zfu U) (by rfl) T.Uj AN (Zg (Zl Xd (Zp (show d5 _ (wR K)from Zr) (qv 0) Ze) Ze) (Zg (qv 6) Zb))))
    (Zc (jr (i:=3) GI.nd U U ({}:Ye (Zh Xy) _ ["state","step","place","reached","words","columns","last_place","letters","told"] "letter" ["place","step"] [2,1]) (show QI _ _ _ (Fy K (yG 7))from Xs (qv 7)) (λ_ _ _ _=>YZ) (λ_ _ _ _=>(Zt (Zg (qv 1) (Zg (YI G_bits_at (hrl.mono Vb) U T.dg.m T.dg.F.kp T.dg.b .nil qh (Zg (Zp (show d5 _ (wR K)from Zr) (qv 2) Ze) (Zg (qv 0) Zb))) Zb)))))
    (Zf (Zq (Zt (Zg (qv 3) (Zg (Yy ({}:Ye (Zh Xy) _ ["state","step","place","reached","words","columns","last_place","letters","told"] "letter" ["told","step"] [8,1]) (show QI _ _ _ (Fy K (yG 7))from Xs (qv 7)) (λ_ _ _ _=>YZ) (λ_ _ _ _=>(Zp (show d5 _ (wR K)from Zr) (qv 1) (Zl Wu (Zl vk (Zp (show d5 _ (wR K)from Zr) (qv 2) Ze) (qv 0)) Ze)))) Zb)))))))))) Ze)))))))),?_⟩
  try dsimp only[L2.iN,L2.c8]
  have h8:=p8 hn3;have e2:((2:Int)^nm.length)=((2^nm.length:Nat):Int):=by rw[Int.natCast_pow];rfl
  have hflat:∀w∈g,WO w=true/\((∃y,w=.str y)\/∃z:Int,w=.int z):=λw h=>by
   rcases hw w h with⟨y,rfl,_⟩|⟨y,rfl,_⟩|⟨y,rfl,_⟩|⟨z,rfl,_⟩
   .exact⟨U,.inl ⟨y,U⟩⟩
   .exact⟨U,.inl ⟨y,U⟩⟩
   .exact⟨U,.inl ⟨y,U⟩⟩
   .exact⟨U,.inr ⟨z,U⟩⟩
  refine⟨_,U,tn,_,U,.inr (aD.of hn),nm.length,by rw[aI];rfl,Vc,_,U,λpr hpr=>⟨pr,2^nm.length,U,by rw[Za,e2],Vc,λtl htl=>Zi ?_⟩⟩;have s1:=Zd (o:=.nI 0 ((2:Int)^nm.length)) hpr;have s2:=s1.trans (Zd (o:=.lst ((List.range (2^nm.length)).map λi:Nat=>V.int i)) htl);have htl2:=Za (H:=aC H pr (.nI 0 ((2:Int)^nm.length))) (a:=tl) (o:=.lst ((List.range (2^nm.length)).map λi:Nat=>V.int i));have htlH:H tl=none:=s1.free htl;try dsimp only
  generalize aC (aC H pr (.nI 0 ((2:Int)^nm.length))) tl (.lst ((List.range (2^nm.length)).map λi:Nat=>V.int i))=H2 at *;refine⟨_,U,_,U,tn,tl,nm,2^nm.length,U,s2 _ _ hn,hnd,Vc,htl2,Vc,λdv ul H3 hdv0 hdv hcol s3=>Zi ?_⟩;have s23:=s2.trans s3;generalize YF (2^nm.length) nm=re at *;refine⟨_,U,tw,g,U,s23 _ _ ht,Vc,λw h=>(hflat w h).2,λL H4 hL1 hL2 s4=>Zi ?_⟩;rw[<-OC hL1 hL2]at k;have s24:=s23.trans s4;have hLB:L<=B:=by
   rw[OC hL1 hL2];exact FX hB
  have hdv4:=s4 _ _ hdv;have htl4:=(s3.trans s4) _ _ htl2;refine⟨hT.same s24,λf c' oc ctv doc H5 hf0 hf hc' hoc hT5 o5=>?_⟩;obtain⟨pz,hpz⟩:=(hT.same s24).ex;have o5':∀{b:Av} {o:HO},H4 b=some o->(∀ps,o≠.d4 ps)->H5 b=some o:=λ{b o} e h=>o5 b o e λz=>by
   rw[z,hpz]at e;exact h _ (Option.some.inj e).symm
  have t5:∀{b:Av} {xs:A1},H b=am xs->H5 b=am xs:=λe=>o5' (s24 _ _ e) (λ_ z=>nomatch z);have hdv5:=o5' hdv4 (λ_ z=>nomatch z);have htl5:=o5' htl4 (λ_ z=>nomatch z);refine⟨_,U,tw,U,⟨_,aD.of (t5 ht)⟩,Wv (K:=K) (a:=tw) (xs:=g) (λi zs H'=>zs=List.replicate (YA (g.take i)) (.int 0)/\H'=H5) ⟨U,U⟩ (λi zs H' h=>?_) (λi zs H' h=>by rw[h.2];exact aD.of (t5 ht)) (λi x zs H6 R hR hx h=>?_) (λzs H6 h pl hpl=>?_)⟩
  .rw[h.1,eZ];have:YA (g.take i)<=(g.take i).length:=Cj _ _;rw[cE]at this;exact a8 (Zw Vc)
  .obtain⟨rfl,rfl⟩:=h;refine⟨_,U,x,U,(hflat x (bP hx)).1,_,U,?_⟩;have er:YA (g.take (i+1))=YA (g.take i)+if cG x (allR.map V.str)=true then 1 else 0:=by
    rw[aB hx];unfold YA;rw[tH,aZ,nU];split<;>rfl
   rw[er]at hR;refine G5 (λhb=>?_) (λhb=>?_)
   .rw[aN hb,K4]at hR;exact hR _ _ ⟨U,U⟩
   .rw[aL hb]at hR;exact hR _ _ ⟨U,U⟩
  obtain⟨rfl,rfl⟩:=h;rw[dI,<-hkc];refine⟨pl,_,U,.inl ⟨aF.of Za,λtb htb=>⟨yF,λtg htg=>Zi ?_⟩⟩⟩;have q1:=Zd (o:=.lst (List.replicate Y (.int 0))) hpl;have q2:=Zd (o:=.tup (List.replicate Y (.int 0))) htb;have q3:=Zd (o:=.tup [.int 0,.ref tb]) htg;have s6:=q1.trans (q2.trans q3);have htb6:=q3 _ _ (Za (H:=aC H6 pl (.lst (List.replicate Y (.int 0)))) (a:=tb) (o:=.tup (List.replicate Y (.int 0))));have htg6:=Za (H:=aC (aC H6 pl (.lst (List.replicate Y (.int 0)))) tb (.tup (List.replicate Y (.int 0)))) (a:=tg) (o:=.tup [.int 0,.ref tb]);try dsimp only
  generalize aC (aC (aC H6 pl (.lst (List.replicate Y (.int 0)))) tb (.tup (List.replicate Y (.int 0)))) tg (.tup [.int 0,.ref tb])=H7 at *;refine⟨_,U,_,U,_,U,f,c',oc,ctv,doc,U,s6 _ _ hf,s6 _ _ hc',hoc,λcs H8 hcs0 hcsF o8 hcall=>?_⟩;have hU:∀s∈l9 Y (L+1),(eB nm re g L s).length<=8/\(dM nm re g o0 o1 s).length<=8/\∀x∈eB nm re g L s,x∈l9 Y (L+1):=λs hs=>⟨by unfold eB;rw[aI,dS];exact h8,by unfold dM;rw[aI,dS];exact h8,jd hw hkc hs⟩;have t8:∀{b:Av} {xs:A1},H b=am xs->H8 b=am xs:=λe=>o8 _ _ (s6 _ _ (t5 e));have hUl:(l9 Y (L+1)).length<=1000000:=by
   rw[yb];exact bS (EI _ Vc) hbig
  refine⟨Int×Ak,_,.key ON,tn,f,nm,(0,List.replicate Y 0),.ref tg,eB nm re g L,dM nm re g o0 o1,l9 Y (L+1),_,U,t8 hn,⟨tg,U,tb,o8 _ _ htg6,by rw[o8 _ _ htb6,List.map_replicate]⟩,Gp.mpr ⟨0,Vc,U,X4.mpr ⟨eZ,λx hx=>.inl (C7 hx)⟩⟩,hU,hUl,hn3,hcall,λs sv H9 Q' hs hat s9 hQ=>⟨U,?_⟩,λp sts m l wsl H9 B9 hp hsts0 hsts hA M9 s9=>?_⟩
  .obtain⟨a,rfl,tk,ha,htk⟩:=hat;have hk9:∀{b:Av} {u:HO},H9 b=some u->(∀o,u≠Jn o)->aQ cs H9 b=some u:=λe h=>Wl hcsF s9 e h;have t9:∀{b:Av} {xs:A1},H9 b=am xs->aQ cs H9 b=am xs:=λe=>hk9 e (λ_ z=>nomatch z);refine ω (Gp.mp hs) (ε1 λpn=>θ2 λhp1 hp2 hp3=>?_);obtain⟨sp,ks⟩:=s;have hp2:sp=(pn:Int):=hp2;subst hp2;obtain⟨hkl,hkb⟩:=X4.mp hp3;have hkl:ks.length=Y:=hkl;have ha':=t9 ha;have htk':=t9 htk;have hln:(W6 nm re pn ks g).1.length=1:=by rw[wa g hw,hst]
   have hrm:(W6 nm re pn ks g).2.length=Y:=by rw[wo g hw,hkc]
   obtain⟨o,lt,hstp⟩:∃o lt,W6 nm re pn ks g=([o],lt):=by
    generalize W6 nm re pn ks g=q at hln;obtain⟨q1,q2⟩:=q
    match q1,hln with
    |[o],_=>exact⟨o,q2,U⟩
   have hltl:lt.length=Y:=by rw[hstp]at hrm;exact hrm
   have hsS:CI nm re g ((pn:Int),ks)=([o],lt):=hstp;refine⟨_,U,_,U,_,U,a,_,0,_,U,U,aD.of ha',U,_,U,a,_,1,_,U,U,aD.of ha',U,tw,dv,tk,nm,g,ul,re,pn,ks,o,lt,U,t9 (s9 _ _ (t8 ht)),hl,hk9 (s9 _ _ (o8 _ _ (s6 _ _ hdv5))) (λ_ z=>nomatch z),hcol,htk',hw,he,hstp,by rw[hltl];show Y<=ks.length;lia,λta la H10 hta0 hta hla s10=>Zi ?_⟩;refine⟨_,U,a,_,0,_,U,U,aD.of (s10 _ _ ha'),U,_,_,U,U,_,U,_,_,U,Zi ?_⟩;have em:(if(L:Int)<(pn:Int)+1 then(L:Int)else(pn:Int)+1)=min ((pn:Int)+1) (L:Int):=by split<;>lia
   try dsimp only
   rw[em];have O:H10 tl=ap ((List.range (2^nm.length)).map λi:Nat=>V.int i):=s10 _ _ (hk9 (s9 _ _ (o8 _ _ (s6 _ _ htl5))) (λ_ z=>nomatch z));have hxs:((List.range (2^nm.length)).map λi:Nat=>V.int i).length=2^nm.length:=by rw[aI,dS]
   have hnx:eB nm re g L ((pn:Int),ks)=(List.range (2^nm.length)).map λl=>(min ((pn:Int)+1) (L:Int),lt.map λc=>bt c l):=by
    unfold eB;rw[hsS]
   have hot:dM nm re g o0 o1 ((pn:Int),ks)=(List.range (2^nm.length)).map λl=>if bt o l=1 then o1 else o0:=by
    unfold dM;rw[hsS];rfl
   refine⟨_,U,tl,U,⟨_,aF.of O⟩,XR (K:=K) (a:=tl) (xs:=(List.range (2^nm.length)).map λi:Nat=>V.int i) (λi zs H'=>eQ (.key ON) H' ((eB nm re g L ((pn:Int),ks)).take i) zs/\i<=2^nm.length/\ZK H10 H') ⟨⟨U,λi k hk=>by cases hk⟩,cD _,ZK.refl _⟩ (λi zs H' h=>?_) (λi zs H' h=>aF.of (h.2.2 _ _ O)) (λi x zs H11 R hR hx h=>?_) (λzs H11 h rl hrl=>Zi ?_)⟩
   .rw[h.1.1,cE];exact a8 (Zw Vc)
   .obtain⟨hA,hi,s11⟩:=h;have hil:i<2^nm.length:=by rw[<-hxs];exact(bM.mp hx).1
    rw[ja hil]at hx;cases hx;refine Cu ⟨_,U,_,U,ta,_,1,_,U,U,aD.of (s11 _ _ hta),U,_,U,la,lt,i,U,s11 _ _ hla,?_,Vc,λt5 H12 ht50 ht5 s12=>⟨yF,λq hq=>hR _ _ ⟨?_,hil,s11.trans (s12.trans (Zd hq))⟩⟩⟩
    .have:YA g<=g.length:=Cj _ _;lia
    .have en:(eB nm re g L ((pn:Int),ks))[i]?=some (min ((pn:Int)+1) (L:Int),lt.map λc=>bt c i):=by rw[hnx,ja hil]
     rw[aB en];refine(hA.keep (H':=aC H12 q (.tup [.int (min ((pn:Int)+1) (L:Int)),.ref t5])) λb xs e=>Zd hq _ _ (s12 _ _ e)).snoc ⟨q,U,t5,Za,Zd hq _ _ ht5⟩
   obtain⟨hA,_,s11⟩:=h;rw[hxs,i8 (by rw[hnx,aI,dS];exact aM _)]at hA;have s12:=Zd (o:=.lst zs) hrl;have hrl12:=Za (H:=H11) (a:=rl) (o:=.lst zs);try dsimp only
   generalize aC H11 rl (.lst zs)=H12 at *;have G:=s11.trans s12;have htt12:H12 tt=am [o0,o1]:=G _ _ (s10 _ _ (t9 (s9 _ _ (t8 hto))));refine⟨_,U,_,U,tl,U,⟨_,aF.of (G _ _ O)⟩,dN (xs:=(List.range (2^nm.length)).map λi:Nat=>V.int i) (fI λc=>if bt o c.toNat=1 then o1 else o0) (aF.of (G _ _ O)) (by rw[hxs];exact a8 (Zw Vc)) (λv hv R hR=>?_) (λq hq=>?_)⟩
   .obtain⟨l,_,rfl⟩:=bG.mp hv;refine⟨_,U,_,U,ta,_,0,_,U,U,aD.of (G _ _ hta),U,_,U,_,_,U,U,pP l,_,_,U,U,tt,_,_,fI (λc=>if bt o c.toNat=1 then o1 else o0) (V.int l),U,U,aD.of htt12,?_,hR⟩;rw[iS,dr];show fN [o0,o1] (bt o l)=some (if bt o (l:Int).toNat=1 then o1 else o0);rw[dr];rcases YU o l with e|e<;>rw[e]<;>rfl
   .refine⟨yF,λt0 ht0 hcn=>?_⟩;have ef:((List.range (2^nm.length)).map λi:Nat=>V.int i).map (fI λc=>if bt o c.toNat=1 then o1 else o0)=dM nm re g o0 o1 ((pn:Int),ks):=by
     rw[hot,cR];refine mK λl _=>?_;show(if bt o (l:Int).toNat=1 then o1 else o0)=_;rw[dr]
    rw[ef]at ht0 hcn ⊢;have s13:=Zd (o:=.lst (dM nm re g o0 o1 ((pn:Int),ks))) hq;have s14:=s13.trans (Zd (o:=.tup [.ref rl,.ref q]) ht0);have hsame:=s10.trans (G.trans s14);obtain⟨u1,u2,u3⟩:=Zep hsame hcn;have hrl14:=s14 _ _ hrl12;have hq14:=Zd (o:=.tup [.ref rl,.ref q]) ht0 _ _ (Za (H:=H12) (a:=q) (o:=.lst (dM nm re g o0 o1 ((pn:Int),ks))));exact hQ t0 rl q zs _ (u2 _ _ Za) (.inr ⟨u2 _ _ hrl14,u3 _ _ hrl14 (s10.free (s11.free hrl))⟩) (hA.keep λb xs e=>u2 _ _ ((s12.trans s14) _ _ e)) (.inr ⟨u2 _ _ hq14,u3 _ _ hq14 (s10.free (G.free hq))⟩) u1
  .have keep9:ZK H7 (aQ cs H9):=λb o e=>by
    rw[ZX λm=>by rw[hcs0 b m]at e;cases e];exact s9 _ _ (o8 _ _ e)
   have tk9:∀(b:Av)(xs:A1),H9 b=am xs->aQ cs H9 b=am xs:=λb xs e=>Wl hcsF s9 e (λ_ z=>nomatch z);refine⟨p,_,1,_,U,U,aD.of (tk9 _ _ hp),U,k m l (aQ cs H9) B9 ?_ ((hT5.same s6).same keep9) λb o e hb=>keep9 _ _ (s6 _ _ (o5 _ _ (s24 _ _ e) hb))⟩;refine ω M9.ex (ε3 λpn ps po=>θ3 λh1 h2 h3 h4=>?_);exact⟨⟨pn,ps,po,tk9 _ _ h1,tk9 _ _ h2,vO h3 tk9,vO h4 tk9⟩⟩
inductive X9(pw:Av):Prop
 |mk(m1 m2:Av)(nm:Ai)(b1 b2:Nat)(nx1 nx2:Ad)(ot1 ot2:Ay)(tr:Bool):vs=[.ref m1,.ref m2]->M4 H m1 nm b1 nx1 ot1->M4 H m2 nm b2 nx2 ot2->bD nx1 ot1 nm.length->bD nx2 ot2 nm.length->b1<nx1.length->b2<nx2.length->nx1.length*nx2.length<=1000000->nm.length<=3->nm.Nodup->(∀r∈ot1,∀x∈r,YE tr x)->(∀r∈ot2,∀x∈r,YE tr x)->Yd H pw ZD ZE->(∀p q l ws H',bJ (pN nx1 nx2) (pK b1 b2) l->(∀(ls:Aj)(c:Nat),(∀x∈ls++[c],x<2^nm.length)->Xa (mN (bF (pN nx1 nx2) l)) (mB (l.map (pO ot1 ot2)) (.bl true)) 0 (ls++[c])=false)->H' p=am [.str "same",.ref q]->H' q=am ws->eQ (.key Bk) H' l ws->Yd H' pw ZD ZE->tD pw H H'->Q (.ref p) H')->(∀p d w r ul l H',w<=1000000->bJ (pN nx1 nx2) (pK b1 b2) l->jg (mN (bF (pN nx1 nx2) l)) (mB (l.map (pO ot1 ot2)) (.bl true)) 0 nm.length w r->1<=w->(∀(ls:Aj)(c:Nat),(∀x∈ls++[c],x<2^nm.length)->Xa (mN (bF (pN nx1 nx2) l)) (mB (l.map (pO ot1 ot2)) (.bl true)) 0 (ls++[c])=true->w<=ls.length+1)->H' p=am [.str "parted",.int w,.ref d]->H d=none->H' d=some (.dK ul)->i4 ul nm (λy=>(bA (dY nm y) r:Int))->Yd H' pw ZD ZE->tD pw H H'->Q (.ref p) H')->X9 pw
def GK(K:Af)(g:Av):Sp:=λvs H Q _=>X9 vs H Q g
theorem GL:bL T.cf P w wn 14 (GK K t.aa):=by
 have D:=vj P wn T TB;have g:=J8 P wn T TB;have C:=XZ P wn T TB;have I:=y9 P wn T TB;have G:=xi P wn T TB;refine T.cf.F.IS YC (λvs H Q E h=>?_) (λA xz s H vs Q E hr h=>?_)
 .obtain⟨_,_,_,_,_,_,_,_,_,_,rfl,_⟩:=h;rfl
 .obtain⟨m1,m2,nm,b1,b2,nx1,nx2,ot1,ot2,tr,rfl,M1,M2,R1,R2,hb1,hb2,hN,hn3,hnd,k1,k2,B,kS,kP⟩:=h;refine⟨_,@mC.out _ _ _ (Zc (ZA 2 YC.nd (Zt (Zg (Zp Zr (qv 0) Ze) (Zg (Zp Zr (qv 1) Ze) Zb))))
    (Zc (ZA 3 YC.nd (gK (kl:=11) C (hr.mono Vb) U T.ah.m T.ah.F.kp T.ah.b U (Zp Zr (qv 0) Ze) (qv 2) T.kv TB.cb TB.B U U U U (⟨⟨by rfl,by rfl,by rfl,Va,Va,Va,Va⟩,Va,Va,by rfl⟩:Ii (Zh Xl) _ ["one","other","begins","found","width"] ["pair"] ["one","other"] [0,1]) (λ_ _ _ _ us hl=>match us,hl with|[_],_=>rfl) (λ_ _ _ _ _ _ _ hrl=>(Zt (Zg (YI G (hrl.mono Vb) U T.bf.m T.bf.F.kp T.bf.b .nil qh (Zg (qv 1) (Zg (qv 2) (Zg (qv 0) Zb)))) (Zg (YI I (hrl.mono Vb) U T.bx.m T.bx.F.kp T.bx.b .nil qh (Zg (qv 1) (Zg (qv 2) (Zg (qv 0) Zb)))) Zb))))))
    (Zc (ZA 4 YC.nd (Zn T.bp g hr (Zg (Zp Zr (qv 3) Ze) Zb)))
    (Zc (Yc (Zu Qj (qv 4) Hj Vg)
    (Zf (Zq (Zt (Zg Zj (Zg (ZR Z4 (by rfl) T.af ZY (Zg (Zp Zr (qv 3) Ze) Zb)) Zb))))) Z3)
    (Zf (Zq (Zt (Zg Zj (Zg (qv 4) (Zg (Zn T.fq D hr (Zg (Zp Zr (qv 3) Ze) (Zg (qv 4) (Zg YM Zb)))) Zb)))))))))),?_⟩
  try dsimp only[L2.iN,L2.c8]
  refine ω M1.ex (ε3 λpn1 ps1 po1=>θ3 λh1 hpn1 _ _=>?_);refine ω M2.ex (ε3 λpn2 ps2 po2=>θ3 λh2 hpn2 _ _=>?_);obtain⟨pz,hpz⟩:=B.ex;have tP:∀{b:Av} {xs:A1},H b=am xs->b≠t.aa:=λe=>Xp e hpz nofun;refine⟨_,U,m1,_,1,_,U,U,aD.of h1,U,_,U,m2,_,1,_,U,U,aD.of h2,U,yF,λbg hbg=>Zi ?_⟩;have sb:=Zd (o:=.tup [.int b1,.int b2]) hbg;have hbg1:aC H bg (.tup [.int b1,.int b2]) bg=am [.int b1,.int b2]:=Za;have B1:=B.same sb;have tP1:∀{b:Av} {xs:A1},aC H bg (.tup [.int b1,.int b2]) b=am xs->b≠t.aa:=λe=>Xp e (sb _ _ hpz) nofun;generalize aC H bg (.tup [.int b1,.int b2])=H1 at *;refine⟨_,U,m1,_,0,_,U,U,aD.of (sb _ _ h1),U,_,U,B1,λcs f H2 hcs hfz hf hT2 o2 hc=>?_⟩;have t2:∀(b:Av)(xs:A1),H1 b=am xs->H2 b=am xs:=λb xs e=>o2 _ _ e (tP1 e);have p8:=p8 hn3;have U0:=Nh nx1.length nx2.length;refine⟨Ak,inferInstance,.key Bk,pn1,f,nm,pK b1 b2,.ref bg,pN nx1 nx2,pO ot1 ot2,pU nx1.length nx2.length,_,U,t2 _ _ (sb _ _ hpn1),⟨bg,U,t2 _ _ hbg1⟩,GS.mpr ⟨b1,b2,hb1,hb2,U⟩,(λs hs=>?_),by rw[U0];exact hN,hn3,hc,λs sv J Q' hs hat sH hQ=>⟨U,?_⟩,λp sts fm l Z J B3 hp hsts0 hsts hA M3 s3=>?_⟩
  .obtain⟨i,j,hi,hj,rfl⟩:=GS.mp hs;exact⟨by rw[F5 R1 R2 hi hj];exact p8,by rw[OT R1 R2 hi hj];exact p8,λx hx=>LV R1 R2 hs x hx⟩
  .obtain⟨i,j,hi,hj,rfl⟩:=GS.mp hs;obtain⟨c,rfl,hc3⟩:=id hat;have th:∀(b:Av)(xs:A1),J b=am xs->aQ cs J b=am xs:=λb xs e=>Wl hfz sH e (λo z=>nomatch z);have th1:∀(b:Av)(xs:A1),H b=am xs->aQ cs J b=am xs:=λb xs e=>th _ _ (sH _ _ (t2 _ _ (sb _ _ e)));have hi2:i<ot1.length:=by rw[R1.ol];exact hi
   have hj2:j<ot2.length:=by rw[R2.ol];exact hj
   have l1:=R1.or _ (aA hi2);have l2:=R2.or _ (aA hj2);refine⟨_,U,_,U,_,U,m1,m2,c,nm,nm,b1,b2,nx1,nx2,ot1,ot2,i,j,U,M1.a7 th1,M2.a7 th1,th _ _ hc3,hi,hj,λl zs H4 hl s4 hl4 pr=>?_⟩;refine⟨_,U,_,U,_,U,m1,m2,c,nm,nm,b1,b2,nx1,nx2,ot1,ot2,i,j,tr,U,(M1.a7 th1).same s4,(M2.a7 th1).same s4,s4 _ _ (th _ _ hc3),hi2,hj2,by rw[l1,l2],by rw[l1];lia,k1 _ (aA hi2),k2 _ (aA hj2),λl' H5 hl' O hl5=>⟨yF,λq hq hcn=>?_⟩⟩;have s6:=(s4.trans O).trans (Zd (o:=.tup [.ref l,.ref l']) hq);have s56:=O.trans (Zd (o:=.tup [.ref l,.ref l']) hq);obtain⟨g1,g2,g3⟩:=VL s6 hcn;have hl6:=s56 _ _ hl4;have hl56:=Zd (o:=.tup [.ref l,.ref l']) hq _ _ hl5;refine hQ q l l' zs _ (g2 _ _ Za) (.inr ⟨g2 _ _ hl6,g3 _ _ hl6 hl⟩) ?_ (.inr ⟨g2 _ _ ?_,g3 _ _ hl56 (s4.free hl')⟩) g1
   .show eQ (.key Bk) _ (pN nx1 nx2 (pK i j)) zs;have e:pN nx1 nx2 (pK i j)=(vK (nx1.getD i []) (nx2.getD j [])).map λp=>[p.1,p.2]:=by
     show(vK (nx1.getD (i:Int).toNat []) (nx2.getD (j:Int).toNat [])).map _=_;rw[dr,dr]
    rw[e];exact Zqn pr λb xs e=>g2 _ _ (s56 _ _ e)
   .have e:pO ot1 ot2 (pK i j)=(((ot1.getD i []).zip (ot2.getD j [])).map λq=>!decide (q.1=q.2)).map V.bl:=by
     show(((ot1.getD (i:Int).toNat []).zip (ot2.getD (j:Int).toNat [])).map _).map _=_;rw[dr,dr]
    rw[e];exact hl56
  have t3:∀(b:Av)(xs:A1),J b=am xs->aQ cs J b=am xs:=λb xs e=>Wl hfz s3 e (λo z=>nomatch z);have T3:Yd (aQ cs J) t.aa ZD ZE:=hT2 J s3;have Y:∀b o,H b=some o->b≠t.aa->aQ cs J b=some o:=λb o e hb=>by
   have e1:=sb _ _ e;rw[ZX (λm=>by rw[hcs b m]at e1;cases e1)];exact s3 _ _ (o2 _ _ e1 hb)
  have M3':M4 (aQ cs J) fm nm 0 (bF (pN nx1 nx2) l) (l.map (pO ot1 ot2)):=M3.a7 t3;have hA':eQ (.key Bk) (aQ cs J) l Z:=hA.keep t3;have hp':=t3 _ _ hp;have hsts':aQ cs J sts=ap Z:=Wl hfz s3 hsts (λo z=>nomatch z);try dsimp only
  generalize aQ cs J=H4 at *;have R:=Zlp R1 R2 hb1 hb2 B3;have hll:l.length<=1000000:=by
   have h:=ug (nx:=pN nx1 nx2) (b:=pK b1 b2) (Ua:=pU nx1.length nx2.length) (GS.mpr ⟨b1,b2,hb1,hb2,U⟩) (λs hs=>LV R1 R2 hs) l.length;rw[<-B3.e,U0]at h;lia
  have hrl:(bF (pN nx1 nx2) l).length<=1000000:=by rw[Xm];exact hll
  have hbl:∀r∈l.map (pO ot1 ot2),∀x∈r,∃t,x=V.bl t:=λr hr x hx=>by
   obtain⟨s,_,rfl⟩:=bG.mp hr;obtain⟨q,_,rfl⟩:=bG.mp hx;exact⟨_,U⟩
  refine Zi ⟨_,U,p,_,1,_,U,U,aD.of hp',U,fm,nm,_,_,nm.length,_,U,M3',R,AQ B3,hrl,hbl,λhno H5 O=>?_,λw H5 hw1 hw2 hex hmin O=>?_⟩
  .refine Zi ⟨_,U,U,_,U,?_⟩;rw[bC U];refine Xe ⟨_,U,p,_,0,_,U,U,aD.of (O _ _ hp'),U,sts,Z,U,.inl ⟨aF.of (O _ _ hsts'),λq hq=>⟨yF,λpr hpr=>?_⟩⟩⟩;have sq:=Zd (o:=.tup Z) hq;have s6:=(O.trans sq).trans (Zd (o:=.tup [.str "same",.ref q]) hpr);refine kS pr q l Z _ B3 (λls c h=>by rw[XH];exact hno ls c h) Za (Zd hpr _ _ Za) (hA'.keep λb xs e=>s6 _ _ e) (T3.same s6) (tD.of Y (bQ.of s6))
  .refine Zi ⟨_,U,U,_,U,?_⟩;rw[bO nofun];revert hex;refine ε2 λls c=>θ2 λe1 e2 e3=>?_;refine YJ ⟨_,U,_,U,p,_,1,_,U,U,aD.of (O _ _ hp'),U,_,U,fm,nm,0,_,_,w,.bl true,true,U,M3'.same O,R,R.pos,hrl,hn3,hnd,hw1,Vc,.inl ⟨U,_,U⟩,(λr hr x hx=>by obtain⟨t,rfl⟩:=hbl r hr x hx;exact .inl ⟨U,_,U⟩),⟨ls++[c],by rw[aZ];exact e1,e2,by rw[XH];exact e3⟩,λr d ul H6 fr hd hd6 Tb s6=>⟨AO,λpr hpr=>?_⟩⟩;have s7:=Zd (o:=.tup [.str "parted",.int w,.ref d]) hpr;have s47:=((bQ.of O).trans s6).trans (bQ.of s7);have hdH:H d=none:=by
    cases e:H d with
    |none=>rfl
    |some o=>
     have hdt:d≠t.aa:=λz=>by
      have:=T3.same O;obtain⟨pz5,Ba⟩:=this.ex;rw[z,Ba]at hd;cases hd
     have:=O _ _ (Y d o e hdt);rw[hd]at this;cases this
   exact kP pr d w r ul l _ Vc B3 fr hw1 (λls c h h2=>hmin ls c h (by rw[XH]at h2;exact h2)) Za hdH (s7 _ _ hd6) Tb (Yd.fD T3 s47) (tD.of Y s47)
inductive vU(pw:Av):Prop
 |mk(m:Av)(nm:Ai)(b:Nat)(nx:Ad)(ot:Ay)(tr:Bool):vs=[.ref m]->M4 H m nm b nx ot->Wf nm b nx ot tr->Yd H pw Jf Jg->(∀f (l cs:Aj) H',vM nx b l->cs=mX (cU nx l) (nE (fv ot l)) l.length->oY (cU nx l) cs->Dp (nE (fv ot l)) cs->M4 H' f nm 0 (fB (cU nx l) cs) (nJ (fv ot l) cs)->Yd H' pw Jf Jg->o7 pw H H'->Q (.ref f) H')->vU pw
def TH(K:Af)(g:Av):Sp:=λvs H Q _=>vU vs H Q g
theorem Tj:bL T.ik P w wn 14 (TH K t.aq):=by
 have G:=xl P wn T TB;have I:=uM P wn T TB;have D:=zJ P wn T TB;have C:=XZ P wn T TB;refine T.ik.F.IS WE (λvs H Q E h=>?_) (λA xz s H vs Q E hr h=>?_)
 .obtain⟨_,_,_,_,_,_,rfl,_⟩:=h;rfl
 .obtain⟨m,nm,b,nx,ot,tr,rfl,M,W,B,k⟩:=h;refine⟨_,@mC.out _ _ _ (Zc (ZA 1 WE.nd (Zp Zr (gK (kl:=11) C (hr.mono Vb) U T.ah.m T.ah.F.kp T.ah.b U (Zp Zr (qv 0) Ze) (Zp Zr (qv 0) Ze) T.acm TB.iw TB.B U U U U (⟨⟨by rfl,by rfl,by rfl,Va,Va,Va,Va⟩,Va,Va,by rfl⟩:Ii (Zh jH) _ ["machine","found","steps","out","classes","firsts","least_steps","least_out"] ["state"] ["machine"] [0]) (λ_ _ _ _ us hl=>match us,hl with|[_],_=>rfl) (λ_ _ _ _ _ _ _ hrl=>(Zt (Zg (Zp (show d5 _ (wR K)from Zr) (Zp (show d5 _ (wR K)from Zr) (qv 1) Ze) (qv 0)) (Zg (Zp (show d5 _ (wR K)from Zr) (Zp (show d5 _ (wR K)from Zr) (qv 1) Ze) (qv 0)) Zb))))) Ze))
    (Zc (ZA 2 WE.nd (Zp Zr (qv 1) Ze))
    (Zc (ZA 3 WE.nd (Zp Zr (qv 1) Ze))
    (Zc (ZA 4 WE.nd (Zn T.di D hr (Zg (qv 2) (Zg (qv 3) Zb))))
    (Zc (ZA 5 WE.nd (Zn T.gb I hr (Zg (qv 4) Zb)))
    (Zc (jr (i:=6) WE.nd U U ({}:Ye (Zh jH) _ ["machine","found","steps","out","classes","firsts","least_steps","least_out"] "state" ["classes","steps"] [4,2]) (Xs (qv 5)) (λ_ _ _ _=>YZ) (λ_ _ _ _=>(Zn T.cz G hr (Zg (Zp (show d5 _ (wR K)from Zr) (qv 2) (qv 0)) (Zg (qv 1) Zb)))))
    (Zc (jr (i:=7) WE.nd U U ({}:Ye (Zh jH) _ ["machine","found","steps","out","classes","firsts","least_steps","least_out"] "state" ["out"] [3]) (Xs (qv 5)) (λ_ _ _ _=>YZ) (λ_ _ _ _=>(Zp (show d5 _ (wR K)from Zr) (qv 1) (qv 0))))
    (Zf (Zq (Zt (Zg (Zp Zr (qv 1) Ze) (Zg Ze (Zg (ZR Z4 (by rfl) T.af ZY (Zg (qv 6) Zb)) (Zg (ZR Z4 (by rfl) T.af ZY (Zg (qv 7) Zb)) Zb)))))))))))))),?_⟩
  try dsimp only[L2.iN,L2.c8]
  refine ω M.ex (ε3 λpn ps po=>θ3 λhm hn R O=>?_);obtain⟨pz,hpz⟩:=B.ex;have tP:∀{b:Av} {xs:A1},H b=am xs->b≠t.aq:=λe=>Xp e hpz nofun;refine⟨_,U,m,_,0,_,U,U,aD.of hm,U,_,U,m,_,1,_,U,U,aD.of hm,U,B,λcs f H2 hcs hfz hf hT2 o2 hc=>?_⟩;have t2:∀(b:Av)(xs:A1),H b=am xs->H2 b=am xs:=λb xs e=>o2 _ _ e (tP e);have hL8:=p8 W.n3;refine⟨Nat,inferInstance,.int (λs:Nat=>(s:Int)) (λa b e=>Int.ofNat.inj e),pn,f,nm,b,.int b,(λs=>nx.getD s []),(λs=>ot.getD s []),List.range nx.length,_,U,t2 _ _ hn,U,fV.mpr W.b,(λs hs=>⟨by rw[W.row (fV.mp hs)];exact hL8,by rw[W.or _ (aA (show s<ot.length by rw[W.ol];exact fV.mp hs))];exact hL8,λx hx=>fV.mpr (W.nl _ (aA (fV.mp hs)) x hx)⟩),by rw[dS];exact W.le,W.n3,hc,λs sv H1 Q' hs hat sH hQ=>⟨U,?_⟩,λp sts fm l wsl H3 B3 hp hsts0 hsts hA M3 s3=>?_⟩
  .have hs:=fV.mp hs;have hat:sv=.int s:=hat;subst hat;have th:∀(b:Av)(xs:A1),H b=am xs->aQ cs H1 b=am xs:=λb xs e=>Wl hfz sH (sH _ _ (t2 _ _ e)) (λo z=>nomatch z);refine ω ((M.a7 th).ex) (ε3 λpn' ps' po'=>θ3 λhm' _ R' O'=>?_);refine ω (YN R' (i:=s) (by rw[aI];exact hs)) (ε2 λas1 a1=>θ2 λg1 g2 g3=>?_);refine ω (YN O' (i:=s) (by rw[W.ol];exact hs)) (ε2 λas2 a2=>θ2 λf1 f2 f3=>?_);rw[XT]at g3;refine⟨_,U,m,_,2,_,U,U,aD.of hm',U,_,U,ps',_,_,_,U,U,aD.of g1,g2,_,U,m,_,3,_,U,U,aD.of hm',U,_,U,po',_,_,_,U,U,aD.of f1,f2,yF,λq hq hcn=>?_⟩;obtain⟨sq,hq2⟩:=Zp5 hq hcn;exact hQ q a1 a2 _ _ hq2 (.inl (sq _ _ (hJ g3).2)) ⟨by unfold JE;rw[aI],λi k hk=>⟨Xh k,by unfold JE;rw[aY,hk];rfl,U⟩⟩ (.inl (sq _ _ (hJ f3).2)) sq
  have B3:=Zp8 B3;have M3:M4 H3 fm nm 0 (cU nx l) (fv ot l):=M3;have t3:∀(b:Av)(xs:A1),H3 b=am xs->aQ cs H3 b=am xs:=λb xs e=>Wl hfz s3 e (λo z=>nomatch z);have T3:=hT2 H3 s3;have off3:o7 t.aq H (aQ cs H3):=λb o e hb=>by
   rw[ZX (λm=>by rw[hcs b m]at e;cases e)];exact s3 _ _ (o2 _ _ e hb)
  have M3':M4 (aQ cs H3) fm nm 0 (cU nx l) (fv ot l):=M3.a7 t3;have hp':=t3 _ _ hp;try dsimp only
  generalize aQ cs H3=H4 at *;have W1:=P7 W B3;have hl1:=qr nx l;have hle:=W1.le;have hb1:=W1.b;have C1:=wy B3;refine ω M3'.ex (ε3 λpn4 ps4 po4=>θ3 λhm4 hn4 R4 O4=>?_);refine⟨p,_,1,_,U,U,aD.of hp',U,Zi ?_⟩;refine⟨_,U,fm,_,2,_,U,U,aD.of hm4,U,_,U,fm,_,3,_,U,U,aD.of hm4,U,_,U,_,U,ps4,po4,cU nx l,fv ot l,nE (fv ot l),U,R4,O4,Tg W1,W1.ol,(λrow h=>⟨by rw[W1.nr row h];exact hL8,W1.nl row h⟩),hb1,Vc,λpc g H5 hpc0 hpc hcl hst hnn hcls hcn s5=>?_⟩;have S:oY (cU nx l) g:=⟨hcl,hst⟩;have F:=jf hnn;have hfl:=yj g;rw[hl1]at hcn hle;have hcl':g.length=l.length:=by rw[hcl,hl1]
  refine⟨_,U,pc,g.map λc:Nat=>(c:Int),U,by rw[hpc,cR];rfl,by rw[aI];lia,λpf H6 hpf0 Z s6=>?_⟩;have Z:H6 pf=ap ((XG g).map Xh):=Z;have s56:=s5.trans s6;have fR:∀{i f:Nat},(XG g)[i]?=some f->f<(cU nx l).length:=λ{i f} h=>by
   rw[<-hcl];exact(bM.mp (F.at_ _ _ h).1).1
  have fl:(XG g).length<=1000000:=Vc
  refine Zi ⟨_,U,pf,U,⟨_,aF.of Z⟩,XR (K:=K) (a:=pf) (xs:=(XG g).map Xh) (λi zs H'=>YO H' zs (((fB (cU nx l) g).map JE).take i)/\i<=(XG g).length/\ZK H6 H') ⟨YO.nil,cD _,ZK.refl _⟩ (λi zs H' h=>?_) (λi zs H' h=>aF.of (h.2.2 _ _ Z)) (λi x zs H7 R7 hR hx h=>?_) (λzs H7 h p1 hp1=>?_)⟩
  .rw[h.1.1,cE];exact a8 (Yz Vc)
  .obtain⟨hZ,hi,s7⟩:=h;rw[aY]at hx;obtain⟨f1,J,rfl⟩:=eG.mp hx;have hil:=(bM.mp J).1;have Y:=fR J;have s47:=s56.trans s7;refine ω (YN (R4.same s47) (i:=f1) (by rw[aI];exact Y)) (ε2 λas1 a1=>θ2 λg1 g2 g3=>?_);rw[XT]at g3;have r8:=W1.nr _ (aA Y);refine Cu ⟨_,U,_,U,ps4,_,_,_,U,U,aD.of g1,g2,_,U,a1,pc,(cU nx l).getD f1 [],g.map λc:Nat=>(c:Int),U,g3,?_,(λs hs=>?_),Vc,by rw[aI];lia,λq H8 hq0 hq s8=>hR _ _ ⟨?_,hil,s7.trans s8⟩⟩
   .rw[(s6.trans s7) _ _ hpc,cR];rfl
   .rw[aI,hcl];exact W1.nl _ (aA Y) s hs
   .have e1:((fB (cU nx l) g).map JE)[i]?=some (JE (((cU nx l).getD f1 []).map λx=>g.getD x 0)):=by
     unfold fB;rw[aY,aY,J];rfl
    have e2:(((cU nx l).getD f1 []).map λs=>(g.map λc:Nat=>(c:Int)).getD s 0).map V.int=JE (((cU nx l).getD f1 []).map λx=>g.getD x 0):=by
     unfold JE;rw[cR,cR];refine mK λs _=>?_;exact congrArg V.int (Ux g s)
    rw[e2]at hq;rw[aB e1];exact(hZ.same s8).snoc hq
  obtain⟨hZ,_,s7⟩:=h;have ll:((XG g).map Xh).length=((fB (cU nx l) g).map JE).length:=by
   unfold fB;rw[aI,aI,aI]
  rw[ll,dI]at hZ;have u1:=Zd (o:=.lst zs) hp1;have hp1':aC H7 p1 (.lst zs) p1=ap zs:=Za;have hZ1:=hZ.same u1;have s67:=s7.trans u1;try dsimp only
  generalize aC H7 p1 (.lst zs)=H8 at *;have hpf8:=s67 _ _ Z;refine Zi ⟨_,U,pf,U,⟨_,aF.of hpf8⟩,XR (K:=K) (a:=pf) (xs:=(XG g).map Xh) (λi zs H'=>YO H' zs ((nJ (fv ot l) g).take i)/\i<=(XG g).length/\ZK H8 H') ⟨YO.nil,cD _,ZK.refl _⟩ (λi zs H' h=>?_) (λi zs H' h=>aF.of (h.2.2 _ _ hpf8)) (λi x zs H9 R9 hR hx h=>?_) (λzs2 H9 h p2 hp2=>?_)⟩
  .rw[h.1.1,cE];exact a8 (Yz Vc)
  .obtain⟨hZ,hi,s9⟩:=h;rw[aY]at hx;obtain⟨f1,J,rfl⟩:=eG.mp hx;have hil:=(bM.mp J).1;have Y:=fR J;refine ω (YN (O4.same ((s56.trans s67).trans s9)) (i:=f1) (by rw[W1.ol];exact Y)) (ε2 λas1 a1=>θ2 λg1 g2 g3=>?_);refine Cu ⟨_,U,_,U,po4,_,_,_,U,U,aD.of g1,g2,hR _ _ ⟨?_,hil,s9⟩⟩;have e1:(nJ (fv ot l) g)[i]?=some ((fv ot l).getD f1 []):=by
    unfold nJ;rw[aY,J];rfl
   rw[aB e1];exact hZ.snoc g3
  obtain⟨hO,_,s9⟩:=h;have ll2:((XG g).map Xh).length=(nJ (fv ot l) g).length:=by
   unfold nJ;rw[aI,aI]
  rw[ll2,dI]at hO;have u2:=Zd (o:=.lst zs2) hp2;have s4z:=(s56.trans s67).trans (s9.trans u2);have hm9:=s4z _ _ hm4;refine Zi ⟨_,U,fm,_,0,_,U,U,aD.of hm9,U,_,U,p1,_,U,.inl ⟨aF.of ((s9.trans u2) _ _ hp1'),λa1 ha1=>⟨_,U,p2,_,U,.inl ⟨aF.of (Zd ha1 _ _ Za),λa2 ha2=>⟨DO,λfr Y=>?_⟩⟩⟩⟩⟩;have q1:=Zd (o:=.tup zs) ha1;have q2:=Zd (o:=.tup zs2) ha2;have q3:=Zd (o:=.tup [.ref pn4,.int 0,.ref a1,.ref a2]) Y;have q:=(q1.trans q2).trans q3;have s4q:=s4z.trans q;refine k fr l g _ B3 hcn S hcls ⟨⟨pn4,a1,a2,Za,s4q _ _ hn4,⟨zs,(q2.trans q3) _ _ Za,(hZ1.same ((s9.trans u2).trans q)).1,(hZ1.same ((s9.trans u2).trans q)).2⟩,⟨zs2,q3 _ _ Za,(hO.same (u2.trans q)).1,(hO.same (u2.trans q)).2⟩⟩⟩ (T3.same s4q) (λb o e hb=>s4q _ _ (off3 b o e hb))
inductive G1(w:As)(pw:Av):Prop
 |mk(tw tn:Av)(ws:A1)(nm:Ai)(B kc:Nat):vs=[.ref tw,.ref tn]->H tw=am ws->ws.length<=100->H tn=am (nm.map V.str)->nm.Nodup->nm.length<=3->(∀w∈ws,yN nm w)->Yh ws->WX ws=1->(∀z:Int,V.int z∈ws->0<=z/\z<2^B)->kc=YA ws->(B+1)*2^kc<=1000000->Yd H pw Zz Zv->(∀m (l:List (Int×Ak)) H',bJ (eB nm (YF (2^nm.length) nm) ws (cL ws)) (0,List.replicate kc 0) l->M4 H' m nm 0 (bF (eB nm (YF (2^nm.length) nm) ws (cL ws)) l) (l.map (dM nm (YF (2^nm.length) nm) ws (.int 0) (.int 1)))->Yd H' pw Zz Zv->o7 pw H H'->Q (.ref m) H')->G1 w pw
def wO(P:Ao)(w:As)(K:Af)(mg:Ae)(wn:Heap)(g:Av):Sp:=λvs H Q _=>G1 vs H Q w g
theorem xu:bL T.au P w wn 15 (wO P w K mg wn t.ae):=by
 have g:=WL P wn T TB;refine T.au.go wK ?_;rintro cdv A xz s H _ Q E hr ⟨tw,tn,ws,nm,B,O,rfl,ht,hl,Z,F,G,hw,he,J,hB,I,q,hT,k⟩;refine⟨_,(Zf (Zq (Zn T.aj g hr (Zg (qv 0) (Zg (qv 1) (Zg (Zt (Zg Ze (Zg Ze Zb))) Zb)))))),?_⟩;refine⟨_,U,_,U,Vb,λtt D=>?_⟩;have C:=Zd (o:=.tup [.int 0,.int 1]) D;exact⟨tw,tn,tt,ws,nm,.int 0,.int 1,B,O,U,C _ _ ht,hl,C _ _ Z,F,G,Za,hw,he,J,hB,I,q,hT.same C,λm l H' h1 h2 Y h4=>k m l H' h1 h2 Y λb o e hb=>h4 _ _ (C _ _ e) hb⟩
inductive WM(w:As)(pw:Av):Prop
 |mk(tw tn:Av)(ws:A1)(nm:Ai)(B kc:Nat):vs=[.ref tw,.ref tn]->H tw=am ws->ws.length<=100->H tn=am (nm.map V.str)->nm.Nodup->nm.length<=3->(∀w∈ws,yN nm w)->Yh ws->WX ws=1->(∀z:Int,V.int z∈ws->0<=z/\z<2^B)->kc=YA ws->(B+1)*2^kc<=1000000->Yd H pw Zz Zv->(∀m (l:List (Int×Ak)) H',bJ (eB nm (YF (2^nm.length) nm) ws (cL ws)) (0,List.replicate kc 0) l->M4 H' m nm 0 (bF (eB nm (YF (2^nm.length) nm) ws (cL ws)) l) (l.map (dM nm (YF (2^nm.length) nm) ws (.bl false) (.bl true)))->Yd H' pw Zz Zv->o7 pw H H'->Q (.ref m) H')->WM w pw
def zM(P:Ao)(w:As)(K:Af)(mg:Ae)(wn:Heap)(g:Av):Sp:=λvs H Q _=>WM vs H Q w g
theorem zN:bL T.bz P w wn 15 (zM P w K mg wn t.ae):=by
 refine T.bz.go zF ?_;rintro cdv A xz s H _ Q E hr ⟨tw,tn,ws,nm,B,O,rfl,ht,hl,Z,D,G,hw,he,J,hB,I,g,hT,k⟩;refine⟨_,(Zf (Zq (YI (WL P wn T TB) (hr.mono Vb) U T.aj.m T.aj.F.kp T.aj.b .nil qh (Zg (qv 0) (Zg (qv 1) (Zg (Zt (Zg YM (Zg YM Zb))) Zb)))))),⟨_,U,_,U,Vb,λtt C=>?_⟩⟩;have q:=Zd (o:=.tup [.bl false,.bl true]) C;exact⟨tw,tn,tt,ws,nm,_,_,B,O,U,q _ _ ht,hl,q _ _ Z,D,G,Za,hw,he,J,hB,I,g,hT.same q,λm l H' h1 h2 Y h4=>k m l H' h1 h2 Y λb o e hb=>h4 _ _ (q _ _ e) hb⟩
inductive xw(w:As)(pw pc:Av):Prop
 |mk(t1 t2:Av)(u v:A1):vs=[.ref t1,.ref t2]->H t1=am u->H t2=am v->(∀x∈u++v,gW x)->(u++v).length<=60->(∀ms:Ai,yr u v ms->cH ms false u/\cH ms false v)->11*2^YA u*(11*2^YA v)<=1000000->Yd H pw Zz Zv->Yd H pc ZD ZE->(∀p q ms l1 l2 l ws H',yr u v ms->bJ (bI ms u) (0,List.replicate (YA u) 0) l1->bJ (bI ms v) (0,List.replicate (YA v) 0) l2->bJ (pN (bF (bI ms u) l1) (bF (bI ms v) l2)) (pK 0 0) l->(∀ls:Aj,ls≠[]->(∀x∈ls,x<2^ms.length)->¬rN ms u v ls)->H' p=am [.str "same",.ref q]->H' q=am ws->eQ (.key Bk) H' l ws->Yd H' pw Zz Zv->Yd H' pc ZD ZE->vT pw pc H H'->Q (.ref p) H')->(∀p d w r ul ms l1 l2 H',w<=1000000->bJ (bI ms u) (0,List.replicate (YA u) 0) l1->bJ (bI ms v) (0,List.replicate (YA v) 0) l2->yr u v ms->wD ms u v w r->H' p=am [.str "parted",.int w,.ref d]->H d=none->H' d=some (.dK ul)->i4 ul ms (λy=>(bA (dY ms y) r:Int))->Yd H' pw Zz Zv->Yd H' pc ZD ZE->vT pw pc H H'->Q (.ref p) H')->xw w pw pc
def yE(P:Ao)(w:As)(K:Af)(mg:Ae)(wn:Heap)(g q:Av):Sp:=λvs H Q _=>xw vs H Q w g q
theorem VT:bL T.fe P w wn 16 (yE P w K mg wn t.ae t.aa):=by
 have g:=GL P wn T TB;have C:=xu P wn T TB;have D:=TF P wn T TB;refine T.fe.go y4 ?_;rintro cdv A xz s H _ Q E hr ⟨t1,t2,u,v,rfl,h1,h2,hSI,h60,hPK,hbig,TW,TC,kS,kP⟩;refine⟨_,(Zc (ZA 2 y4.nd (Zn T.ij D hr (Zg (Zl Zm (qv 0) (qv 1)) Zb)))
   (Zf (Zq (Zn T.cf g hr (Zg (Zn T.au C hr (Zg (qv 0) (Zg (qv 2) Zb))) (Zg (Zn T.au C hr (Zg (qv 1) (Zg (qv 2) Zb))) Zb)))))),?_⟩
 have hne:t.aa≠t.ae:=T.bh.symm;refine⟨_,U,_,U,t1,t2,u,v,U,U,h1,h2,a8 (Zw (by rw[aZ]at h60;lia)),λc H1 hc1 s1=>?_⟩;refine⟨c,u++v,U,hc1,hSI,h60,λtn H2 Y htn0 htn s2 hpm hsr=>Zi ?_⟩;have N:yr u v Y:=⟨hpm,hsr⟩;obtain⟨I,O⟩:=hPK Y N;have f1:=I.sg.ty.facts;have f2:=O.sg.ty.facts;have G:=s1.trans s2;refine⟨_,U,_,U,t1,tn,u,Y,10,_,U,G _ _ h1,I.ln,htn,I.nd,I.n3,I.wc,f1.2.1,f1.2.2,I.iz,U,I.big,TW.same G,λm1 l1 H3 B1 M1 TW3 o3=>?_⟩;have TC2:=TC.same G;have TW2:=TW.same G;obtain⟨pz2,lY⟩:=TW2.ex;have TC3:=TC2.other hne ⟨pz2,lY⟩ o3;refine⟨_,U,_,U,t2,tn,v,Y,10,_,U,o3.tup lY (G _ _ h2),O.ln,o3.tup lY htn,O.nd,O.n3,O.wc,f2.2.1,f2.2.2,O.iz,U,O.big,TW3,λm2 l2 H4 B2 M2 TW4 o4=>?_⟩;obtain⟨pz3,iX⟩:=TW3.ex;have TC4:=TC3.other hne ⟨pz3,iX⟩ o4;have R1:=I.runs B1 (.int 0) (.int 1);have R2:=O.runs B2 (.int 0) (.int 1);have hk:∀{ws:A1} {l:List (Int×Ak)},∀r∈l.map (lZ Y ws),∀x∈r,YE false x:=λ{ws l} r hr x hx=>by
  obtain⟨s,_,rfl⟩:=bG.mp hr;obtain⟨c,_,rfl⟩:=bG.mp hx;split
  .exact .inr ⟨U,_,U⟩
  .exact .inr ⟨U,_,U⟩
 have hnn:(bF (bI Y u) l1).length*(bF (bI Y v) l2).length<=1000000:=by
  rw[Xm,Xm];exact bS (FU (I.lF B1) (O.lF B2)) hbig
 have off:∀{J:Hp},tD t.aa H4 J->vT t.ae t.aa H J:=λ{J} o5 b o e hb1 hb2=>o5 b o (o4 _ _ (o3 _ _ (G _ _ e) hb1) hb1) hb2;have tw5:∀{J:Hp},tD t.aa H4 J->Yd J t.ae Zz Zv:=λ{J} o5=>by
  obtain⟨pz4,mZ⟩:=TC4.ex;have at5:∀{b:Av} {o:HO},H4 b=some o->b≠t.aa->(∀ul,o≠.dK ul)->J b=some o:=λ{b o} e hb hn=>by
   rcases o5 b o e hb with z|⟨ul,_,z,_⟩
   .exact z
   .exact absurd z (hn ul)
  rcases TW4 with h|⟨c',oc,g1,Z,g3⟩
  .exact .inl (at5 h hne.symm λ_ z=>nomatch z)
  .exact .inr ⟨c',oc,at5 g1 hne.symm (λ_ z=>nomatch z),at5 Z (λz=>by rw[z,mZ]at Z;cases Z) (λ_ z=>nomatch z),g3⟩
 obtain⟨pz3,iX⟩:=TW3.ex;refine⟨m1,m2,Y,0,0,_,_,_,_,false,U,M1.a7 (λb xs e=>o4.tup iX e),M2,R1,R2,R1.pos,R2.pos,hnn,I.n3,I.nd,hk,hk,TC4,λp q l ws J B hno g1 Z g3 g4 g5=>?_,λp d w r ul l J hwm B F hw hm g1 Z g3 g4 g5 g6=>?_⟩
 .refine kS p q Y l1 l2 l ws J N B1 B2 B (λls hl hls hd=>?_) g1 Z g3 (tw5 g5) g4 (off g5);obtain⟨t0,c,rfl⟩:=wC hl;have:=(yt I O B1 B2 B hls).mpr hd;rw[hno t0 c hls]at this;cases this
 .have hdH:H d=none:=by
   cases e:H d with
   |none=>rfl
   |some o=>
    have n1:d≠t.ae:=λz=>by
     obtain⟨pz4,mZ⟩:=TW4.ex;rw[z,mZ]at Z;cases Z
    have:=o4 _ _ (o3 _ _ (G _ _ e) n1) n1;rw[Z]at this;cases this
  exact kP p d w r ul Y l1 l2 J hwm B1 B2 N (TV I O B1 B2 B hw F hm) g1 hdH g3 g4 (tw5 g6) g5 (off g6)
inductive Pw(K:Af)(pw pc pl:Av):Prop
 |mk(a:Av)(ns:Ak):vs=[.ref a]->aF K H a (ns.map V.int)->ns.length<=63->Yd H pw Zz Zv->Yd H pc ZD ZE->Yd H pl Jf Jg->(∀H',Q (.bl true) H')->Pw K pw pc pl
def i5(K:Af)(g q pl:Av):Sp:=λvs H Q _=>Pw vs H Q K g q pl
theorem Bl:bL T.OX P w wn 17 (i5 K t.ae t.aa t.aq):=by
 have G_compared:=VT P wn T TB;have D:=va P wn T TB;have G_law_shown:=uR P wn T TB;have G_least:=Tj P wn T TB;have Y:=zN P wn T TB;have J:=qd P wn T TB;have O:=xu P wn T TB;have G_law_lets_by:=ve P wn T TB;have G_law_is_paper:=yD P wn T TB;have G_law_names_in:=yB P wn T TB;have G_law_two_writings:=qw P wn T TB;have G_law_names:=uQ P wn T TB;refine T.OX.go Wa ?_;rintro cdv A xz s H _ Q E hr ⟨a,ns,rfl,hS,h63,TW,TC,TL,k⟩;refine⟨_,(Zc (ZA 1 Wa.nd (Zn T.ib G_law_names hr (Zg (Zn T.av D hr (Zg (qv 0) (Zg Ze Zb))) (Zg (Zl Yl (Zn T.av D hr (Zg (qv 0) (Zg Ze Zb))) Ze) Zb))))
   (Zc (Rk (Zn T.ck G_law_two_writings hr (Zg (Zn T.av D hr (Zg (qv 0) (Zg Ze Zb))) (Zg (qv 1) Zb))) (ql U (YV 2 Wa.nd) (YV 3 Wa.nd)))
   (Zc (ZA 4 Wa.nd (Zn T.dz G_law_names_in hr (Zg (Zl Zm (qv 2) (qv 3)) (Zg (qv 1) Zb))))
   (Zc (ZA 5 Wa.nd (Zn T.fe G_compared hr (Zg (qv 2) (Zg (qv 3) Zb))))
   (Zc (Yc (x9 (q8 (JS (Xn (Zs XJ (by rfl) T.ai Yj (Zg (qv 5) (Zg (WQ (v:=.ty "tuple") (by rfl) T.af ZY U) Zb))))) (q8 (Zu CZ (Zs Zx (by rfl) T.ag Yn (Zg (qv 5) Zb)) Ze (ZS _)) (q8 (Zu CZ (Zp Zr (qv 5) Ze) Zj (ZS _)) (jo (JS (Xn (Zn T.eh G_law_is_paper hr (Zg (Zp Zr (qv 5) Ze) Zb)))))))))
   (Zf (Zq YM)) Z3)
   (Zc (ZA 6 Wa.nd (Zn T.au O hr (Zg (qv 2) (Zg (qv 4) Zb))))
   (Zc (ZA 7 Wa.nd (Zn T.au O hr (Zg (qv 3) (Zg (qv 4) Zb))))
   (Zc (Yc (x9 (q8 (JS (Xn (Zn T.fi G_law_lets_by hr (Zg (qv 6) (Zg (qv 7) (Zg (Zp Zr (qv 5) Ze) Zb)))))) (jo (Zu qK (Zn T.ak J hr (Zg (qv 6) (Zg (qv 7) (Zg (Zp Zr (qv 5) Ze) Zb)))) YM Vg))))
   (Zf (Zq YM)) Z3)
   (Zc (ZA 8 Wa.nd (ZR Z4 (by rfl) T.af ZY (Zg (Yy ({}:Ye (Zh HW) _ ["script","all_names","one","other","names","found","left","right","lacking","turned_over","sign","low","number","width","parted"] "pair" ["left","right"] [6,7]) (Xf (Zp Zr (qv 5) Ze)) (λ_ _ _ _=>(jq (Zu (show b8 _ (compareOp .NotEq) (AK K true)from kz (qC hr)) (qv 0) (Zt (Zg (Zp (show d5 _ (wR K)from Zr) (qv 1) Ze) (Zg (Zp (show d5 _ (wR K)from Zr) (qv 2) Ze) Zb))) (ZS _)))) (λ_ _ _ _=>(qv 0))) Zb)))
   (Zc (Yc (Zu qK (Zn T.ak J hr (Zg (qv 6) (Zg (qv 7) (Zg (qv 8) Zb)))) YM Vg)
   (Zf (Zq YM)) Z3)
   (Zc (ZA 9 Wa.nd (Zn T.au O hr (Zg (Zl Zm (Zt (Zg Zj Zb)) (qv 3)) (Zg (qv 4) Zb))))
   (Zc (Yc (Zu qK (Zn T.ak J hr (Zg (qv 6) (Zg (qv 9) (Zg (Zp Zr (qv 5) Ze) Zb)))) YM Vg)
   (Zf (Zq YM)) Z3)
   (Zc (ZA 10 Wa.nd (Zn T.bz Y hr (Zg (Zl Zm (Zt (Zg Zj Zb)) (qv 2)) (Zg (qv 4) Zb))))
   (Zc (ZA 11 Wa.nd (Zn T.bz Y hr (Zg (Zl Zm (Zl Zm (Zt (Zg Zj Zb)) (qv 2)) (Zt (Zg Ze Zb))) (Zg (qv 4) Zb))))
   (Zc (Yc (x9 (q8 (JS (Xn (Zn T.cj G_law_shown hr (Zg (qv 10) (Zg (qv 11) Zb))))) (q8 (JS (Xn (Zn T.cj G_law_shown hr (Zg (qv 6) (Zg (Zn T.ik G_least hr (Zg (qv 6) Zb)) Zb))))) (jo (JS (Xn (Zn T.cj G_law_shown hr (Zg (Zn T.ik G_least hr (Zg (qv 11) Zb)) (Zg (qv 11) Zb)))))))))
   (Zf (Zq YM)) Z3)
   (Zc (ZA 12 Wa.nd (Zl Xd Ze (Zl Yl (Zl XI (Zs QP (by rfl) T.Qk Q6 (Zg (Zn T.av D hr (Zg (qv 0) (Zg Ze Zb))) Zb)) Ze) Ze)))
   (Zc (ZA 13 Wa.nd Ze)
   (Zc (q9 dG (Zu Xq (Zl Yl (qv 12) (Zl Cw Ze (qv 13))) Ze (ZS _))
   (Zf (ZA 13 Wa.nd (Zl Xd (qv 13) Ze))))
   (Zc (ZA 14 Wa.nd (Zn T.fe G_compared hr (Zg (qv 2) (Zg (Zl Zm (Zl Zm (Zt (Zg Zj Zb)) (qv 3)) (Zt (Zg (qv 12) Zb))) Zb))))
   (Zf (Zq (gm (Zs XJ (by rfl) T.ai Yj (Zg (qv 14) (Zg (WQ (v:=.ty "tuple") (by rfl) T.af ZY U) Zb))) (gm (Xr Xq (Zs Zx (by rfl) T.ag Yn (Zg (qv 14) Zb)) Ze (ZS _)) (gk (Xr (UM (qC hr)) (YY (pD.or BO Zoc) (qv 14) WS (Xb Ze)) (Zt (Zg Zj (Zg (qv 13) Zb))) (ZS _)))))))))))))))))))))))))),?_⟩
 try dsimp only[L2.iN,L2.c8]
 have n1:t.aa≠t.ae:=T.bh.symm;have n2:t.aq≠t.ae:=T.iq.symm;have n3:t.aa≠t.aq:=T.il;have Z0:i6 K t.ae t.aa t.aq H a ns:=⟨hS,TW,TC,TL⟩;refine⟨_,U,a,ns,1,U,Z0.S,λc1=>⟨_,U,a,ns,0,U,Z0.S,λc0=>⟨_,_,U,U,(by show(0:Int)<4;decide),c1,(c0%4).toNat,by show[V.int c1,V.int (c0%4)]=_;rw[Int.toNat_of_nonneg Vc],Vc,λtn ys H1 htn0 htn hl hnd hnm hso s1=>Zi ?_⟩⟩⟩;have N:mT ys:=⟨Vc,hnd,hnm,hso⟩;have l3:=N.n3;have Z1:=Z0.same s1;refine⟨_,U,a,ns,2,U,Z1.S,λc2=>⟨_,U,c2,tn,ys,U,htn,l3,N.kp,λtp t1 t2 u v H2 P1 P2 ER htp G I s2=>⟨tp,_,U,aD.of htp,U,_,_,U,Zi ⟨_,_,U,Zi ⟨U,?_⟩⟩⟩⟩⟩;have S1:=P1.sm;have S2:=P2.sm;have lu:=P1.ln;have lv:=P2.ln;have Z2:=Z1.same s2;have htn2:=s2 _ _ htn;have si:∀x∈u++v,gW x:=λx h=>(dH.mp h).elim (S1.si N x) (S2.si N x);refine⟨_,U,_,U,t1,t2,_,_,U,U,G,I,a8 (Zw Vc),λtc H5 hc5 s5=>⟨_,U,tc,tn,u++v,ys,U,hc5,si,s5 _ _ htn2,l3,λtq H6 hq6 s6=>Zi ?_⟩⟩;have s56:=s5.trans s6;have Z6:=Z2.same s56;have G:=s56 _ _ G;have I:=s56 _ _ I;have M:=N.sub (HV:(nC ys (u++v)).Sublist ys);have K1:=(S1.to λw h=>iQ _ h:Sm (nC ys (u++v)) u).nW M;have K2:=(S2.to λw h=>dW _ h:Sm (nC ys (u++v)) v).nW M;have cmp:∀{x y:Av} {p q:A1} {Ha:Hp} {Qc:VK} {Ec:XK},Ha x=some (.tup p)->Ha y=some (.tup q)->Sm ys p->Sm ys q->i6 K t.ae t.aa t.aq Ha a ns->(∀f Hb,IZ Hb f (nC ys (p++q)) p q->i6 K t.ae t.aa t.aq Hb a ns->nO Ha Hb->Qc (.ref f) Hb)->yE P w K mg wn t.ae t.aa [.ref x,.ref y] Ha Qc Ec:=by
  intro x y p q Ha Qc Ec hx hy Sp Sq Z kc;have Nn:=N.sub (HV:(nC ys (p++q)).Sublist ys);have Sp':Sm (nC ys (p++q)) p:=Sp.to λw h=>iQ _ h;have Sq':Sm (nC ys (p++q)) q:=Sq.to λw h=>dW _ h;have c1:2^YA p<=2^5:=pY Vb Sp.rm;have c2:2^YA q<=2^5:=pY Vb Sq.rm;refine⟨x,y,p,q,U,hx,hy,λz h=>(dH.mp h).elim (Sp.si N z) (Sq.si N z),by rw[aZ];have:=Sp.ln;have:=Sq.ln;lia,λms h=>by rw[yu N Sp Sq h];exact⟨Sp'.nW Nn,Sq'.nW Nn⟩,bS (FU (Li 11 c1) (Li 11 c2)) Vb,Z.W,Z.C,λf q' ms l1 l2 l ws Hb h B1 B2 C no e1 e2 e3 e4 e5 e6=>?_,λf d w r ul ms l1 l2 Hb hw B1 B2 h F e1 e2 e3 e4 e5 e6 e7=>?_⟩
  .obtain rfl:=yu N Sp Sq h;exact kc f Hb ⟨l1,l2,⟨B1,B2⟩,.inl ⟨q',l,ws,e1,e2,Zqo e3 (QH Nn Sp' Sq' ⟨B1,B2⟩ C).2,C,no⟩⟩ (Z.cmp n3 n2 e6 e4 e5).1 (Z.cmp n3 n2 e6 e4 e5).2
  .obtain rfl:=yu N Sp Sq h;exact kc f Hb ⟨l1,l2,⟨B1,B2⟩,.inr ⟨d,w,r,ul,e1,e3,e4,F,hw⟩⟩ (Z.cmp n3 n2 e7 e5 e6).1 (Z.cmp n3 n2 e7 e5 e6).2
 refine⟨_,U,_,U,?_⟩;unfold nL;refine cmp G I S1 S2 Z6 λf H7 VD Z7 k7=>Zi ?_;obtain⟨l1,l2,B,⟨q,l,ws,hf,hq,PR,C,no⟩|⟨_,_,_,_,_,_,_,F,_⟩⟩:=VD
 case inr=>exact absurd F.df (ER.LG _ _ (λz=>by have:=F.w1;have e:=F.len;rw[z]at e;have:0=_:=e;lia) F.lt)
 have LP:=SH K1 K2 B.b1 B.b2 C no;have mP:=(QH M (S1.to λw h=>iQ _ h) (S2.to λw h=>dW _ h) B C).1;generalize BJ l=ps at *;refine⟨_,U,_,_,_,_,U,.tup hf,Jp,true,U,YJ ⟨_,U,f,_,U,.inr (aD.of hf),U,_,U,YJ ⟨_,U,f,_,0,_,U,U,aD.of hf,U,U,_,U,YJ ⟨_,U,f,_,1,_,U,U,aD.of hf,U,q,ps,ws,U,hq,PR,⟨_,U,YJ ?_⟩⟩⟩⟩⟩;have f1:=K1.sg.ty.facts;have f2:=K2.sg.ty.facts;refine⟨_,U,_,U,t1,tq,u,_,10,_,U,k7 _ _ G,K1.ln,k7 _ _ hq6,M.nd,M.n3,K1.wc,f1.2.1,f1.2.2,K1.iz,U,K1.big,Z7.W,λm1 la H8 B1 M1 T8 o8=>Zi ?_⟩;obtain⟨Z8,k8⟩:=Z7.Es n1 n2 o8 T8;cases B.b1.uniq B1;have k78:nO H6 H8:=λb xs e=>k8 _ _ (k7 _ _ e);refine⟨_,U,_,U,t2,tq,v,_,10,_,U,k78 _ _ I,K2.ln,k78 _ _ hq6,M.nd,M.n3,K2.wc,f2.2.1,f2.2.2,K2.iz,U,K2.big,Z8.W,λm2 lb H9 B2 M2 T9 o9=>Zi ?_⟩;obtain⟨Z9,k9⟩:=Z8.Es n1 n2 o9 T9;cases B.b2.uniq B2;have k69:nO H6 H9:=λb xs e=>k9 _ _ (k78 _ _ e);have W1:=K1.wf (o0:=.int 0) (o1:=.int 1) B1 (.inl ⟨U,U,U⟩);have W2:=K2.wf (o0:=.int 0) (o1:=.int 1) B2 (.inl ⟨U,U,U⟩);have G:=k69 _ _ G;have I:=k69 _ _ I;have htq:=k69 _ _ hq6;have M1:=M1.a7 k9;have hf:=k9 _ _ (k8 _ _ hf);have hq:=k9 _ _ (k8 _ _ hq);have PR:=PR.a7 λb xs e=>k9 _ _ (k8 _ _ e);refine⟨_,U,_,U,_,U,f,_,1,_,U,U,aD.of hf,U,m1,m2,q,_,_,0,0,_,_,_,_,false,ps,ws,U,M1,M2,W1,W2,hq,PR,mP,λr HA hr sA=>⟨r,U,?_⟩⟩;rw[hr.mpr LP];refine YJ ⟨_,U,_,U,_,U,f,_,1,_,U,U,aD.of (sA _ _ hf),U,m1,m2,q,_,_,0,0,_,_,_,_,false,ps,ws,U,M1.same sA,M2.same sA,W1,W2,sA _ _ hq,PR.same sA,mP,λr HB hr sB=>⟨r,true,U,U,?_⟩⟩;rw[hr.mpr LP];refine⟨_,U,YJ ?_⟩;have hqB:=(sA.trans sB) _ _ hq;have sAB:=sA.trans sB;have Z:=Z9.same sAB;have G:=sAB _ _ G;have I:=sAB _ _ I;have htq:=sAB _ _ htq;have M1:=M1.same sAB;have M2:=M2.same sAB;have hf:=sAB _ _ hf;have PR:=PR.same sAB;obtain⟨pn1,ps1,po1,g1,_⟩:=id M1.ex;obtain⟨pn2,ps2,po2,g2,_⟩:=id M2.ex;refine⟨_,U,f,_,1,_,U,U,aD.of hf,U,q,U,⟨_,aD.of hqB⟩,Wv (K:=K) (a:=q) (xs:=ws) (λi zs H'=>∃rs:List (Int×Int),rs.length<=i/\i<=ws.length/\cS H' rs zs/\(∀p∈rs,p≠(0,0))/\ZK HB H') ⟨[],aM _,cD _,.nil,(λ_ z=>nomatch z),ZK.refl _⟩ (λi zs H'=>ε1 λrs=>θ3 λe1 e2 e3 _=>?_) (λi zs H'=>ε1 λ_=>θ4 λ_ _ _ _ s=>aD.of (s _ _ hqB)) ?_ ?_⟩
 .rw[e3.1];exact a8 (Yz (by have:=PR.1;lia))
 .rintro i x zs HC R hR hx ⟨rs,e1,e2,e3,e4,sC⟩;obtain⟨p,b,hp,rfl,hb⟩:=PR.at hx;refine⟨_,U,_,U,m1,_,1,_,U,U,aD.of (sC _ _ g1),U,_,U,m2,_,1,_,U,U,aD.of (sC _ _ g2),U,yF,λt ht=>⟨b,t,[.int p.1,.int p.2],[.int 0,.int 0],U,U,aD.of (Zd ht _ _ (sC _ _ hb)),aD.of Za,U,U,_,U,?_⟩⟩;have s7:=sC.trans (Zd (o:=.tup [V.int ((0:Nat):Int),V.int ((0:Nat):Int)]) ht);have e3:=e3.same (Zd (o:=.tup [V.int ((0:Nat):Int),V.int ((0:Nat):Int)]) ht);have hi:i<ws.length:=(bM.mp hx).1;show if(!(decide (p.1=0)&&(decide (p.2=0)&&true)))=true then _ else _
  by_cases hz:p=(0,0)
  .subst hz;exact YJ (hR _ _ ⟨rs,Vc,hi,e3,e4,s7⟩)
  .rw[show(!(decide (p.1=0)&&(decide (p.2=0)&&true)))=true by
    obtain⟨x,y⟩:=p;simp only[Prod.mk.injEq]at hz
    by_cases h:x=0<;>simp_all]
   exact Xe ⟨_,U,hR _ _ ⟨rs++[p],by rw[aZ];exact D7 e1,hi,e3.app (cS.one (s7 _ _ hb)),(λx hx=>(dH.mp hx).elim (e4 x) λz=>b9.mp z ▸ hz),s7⟩⟩
 rintro zs HC ⟨rs,e1,_,e3,e4,sC⟩ l hl;refine⟨l,_,U,.inl ⟨aF.of Za,λc hc=>Zi ?_⟩⟩;have s7:=(Zd (o:=.lst zs) hl).trans (Zd (o:=.tup zs) hc);have c7:=Za (H:=aC HC l (.lst zs)) (a:=c) (o:=.tup zs);generalize aC (aC HC l (.lst zs)) c (.tup zs)=HD at *;have sD:=sC.trans s7;refine⟨_,U,_,U,_,U,m1,m2,c,_,_,0,0,_,_,_,_,false,rs,zs,U,M1.same sD,M2.same sD,W1,W2,c7,e3.same s7,(by have:=PR.1;lia),λr HE hr sE=>⟨r,false,U,U,_,U,?_⟩⟩;rw[Hf.mpr λz=>e4 _ (hr.mp z).2.1 rfl];refine YJ ?_;have s:=sD.trans sE;have Z:=Z.same s;have G:=s _ _ G;have I:=s _ _ I;have htq:=s _ _ htq;have M1:=M1.same s;have hf:=s _ _ hf;have hqB:=s _ _ hqB;have PR:=PR.same s;have K3:=(S2.to λw h=>dW _ h:Sm (nC ys (u++v)) v).not M;have f3:=K3.sg.ty.facts;refine⟨vV,λq1 hq1=>⟨_,U,q1,t2,_,_,U,U,Za,Zd hq1 _ _ I,a8 (Zw (by show 1+v.length<=1000;lia)),λq2 HF hF sF=>⟨_,U,?_⟩⟩⟩;have s:=(Zd (o:=.tup [V.str "not"]) hq1).trans sF;have ZF:=Z.same s;have hF:HF q2=some (.tup (.str "not" :: v)):=hF;refine⟨q2,tq,_,_,10,_,U,hF,K3.ln,s _ _ htq,M.nd,M.n3,K3.wc,f3.2.1,f3.2.2,K3.iz,U,K3.big,ZF.W,λm3 l3 HG B3 M3 TG oG=>Zi ?_⟩;obtain⟨ZG,kG⟩:=ZF.Es n1 n2 oG TG;have kk:nO HE HG:=λb xs e=>kG _ _ (s _ _ e);have W3:=K3.wf (o0:=.int 0) (o1:=.int 1) B3 (.inl ⟨U,U,U⟩);have G:=kk _ _ G;have I:=kk _ _ I;have htq:=kk _ _ htq;have hf:=kk _ _ hf;have hqB:=kk _ _ hqB;have PR:=PR.a7 kk;have M1:=M1.a7 kk;refine⟨_,U,_,U,_,U,f,_,1,_,U,U,aD.of hf,U,m1,m3,q,_,_,0,0,_,_,_,_,false,ps,ws,U,M1,M3,W1,W3,hqB,PR,mP,λr HH hr sH=>⟨r,false,U,U,_,U,?_⟩⟩;rw[Hf.mpr λz=>UR K1 K2 K3 ER B1 B3 (hr.mp z)];refine YJ ?_;have Z:=ZG.same sH;have G:=sH _ _ G;have I:=sH _ _ I;have htq:=sH _ _ htq;have M1:=M1.same sH;obtain⟨C1,C2,sm⟩:=UD K1 Vc (by have:=S1.rm;lia);have j1:=C1.sg.ty.facts;have j2:=C2.sg.ty.facts;refine⟨vV,λq1 hq1=>⟨_,U,q1,t1,_,_,U,U,Za,Zd hq1 _ _ G,a8 (Zw (by show 1+u.length<=1000;lia)),λq2 HI hI sI=>⟨_,U,?_⟩⟩⟩;have s:=(Zd (o:=.tup [V.str "sign"]) hq1).trans sI;have ZI:=Z.same s;have hI:HI q2=some (.tup (.str "sign" :: u)):=hI;refine⟨q2,tq,_,_,10,_,U,hI,C1.ln,s _ _ htq,M.nd,M.n3,C1.wc,j1.2.1,j1.2.2,C1.iz,U,C1.big,ZI.W,λm4 l4 HJ B4 M4' TJ oJ=>Zi ?_⟩;obtain⟨ZJ,kJ⟩:=ZI.Es n1 n2 oJ TJ;have kk:nO HH HJ:=λb xs e=>kJ _ _ (s _ _ e);have W4:=C1.wf (o0:=.bl false) (o1:=.bl true) B4 (.inr ⟨U,U,U⟩);have G:=kk _ _ G;have I:=kk _ _ I;have htq:=kk _ _ htq;have M1:=M1.a7 kk;have rm:=S1.rm;have bg:∀{x y:Nat},x<=704->y<=704->x*y<=1000000:=λh g=>bS (FU h g) Vb;have x1:=K1.st B1 Vc;have x4:=C1.st B4 (by have:=wx (.str "sign") u;lia);refine⟨vV,λq1 hq1=>⟨_,U,q1,t1,_,_,U,U,Za,Zd hq1 _ _ G,a8 (Zw (by show 1+u.length<=1000;lia)),λq2 HK hK sK=>⟨vV,λq3 hq3=>⟨q2,q3,_,_,U,U,Zd hq3 _ _ hK,Za,a8 (Zw (by rw[aZ];show 1+u.length+1<=1000;lia)),λq4 HL hL sL=>⟨_,U,?_⟩⟩⟩⟩⟩;have s:=((Zd (o:=.tup [V.str "beneath"]) hq1).trans sK).trans ((Zd (o:=.tup [V.int 0]) hq3).trans sL)
 have ZL:=ZJ.same s;have hL:HL q4=some (.tup (.str "beneath" :: (u++[.int 0]))):=hL;refine⟨q4,tq,_,_,10,_,U,hL,C2.ln,s _ _ htq,M.nd,M.n3,C2.wc,j2.2.1,j2.2.2,C2.iz,U,C2.big,ZL.W,λm5 l5 HM B5 M5 TM oM=>Zi ?_⟩;obtain⟨ZM,kM⟩:=ZL.Es n1 n2 oM TM;have kk:nO HJ HM:=λb xs e=>kM _ _ (s _ _ e);have W5:=C2.wf (o0:=.bl false) (o1:=.bl true) B5 (.inr ⟨U,U,U⟩);have x5:=C2.st B5 (by have:=wx (.str "beneath") (u++[.int 0]);rw[GG,show YA [V.int 0]=0 from by decide +kernel]at this;lia);have G:=kk _ _ G;have I:=kk _ _ I;have M1:=M1.a7 kk;have M4':=M4'.a7 kk;refine⟨_,U,_,U,m4,m5,_,0,0,_,_,_,_,true,_,U,M4',M5,W4,W5,BN C1 C2 B4 B5 _ _ sm,bg x4 x5,λHN sN=>⟨true,U,YJ ?_⟩⟩;have ZN:=ZM.same sN;refine⟨_,U,_,U,m1,_,0,_,_,false,U,M1.same sN,W1,ZN.L,λg1 lf cs HO hB hcs St hcl Mf TO oO=>?_⟩;have Lf:sG _ 0 _ _ false lf cs:=⟨W1,hB,hcs,St,hcl⟩;obtain⟨ZO,kO⟩:=ZN.Om n3 n2 oO TO;refine⟨m1,g1,_,0,0,_,_,_,_,false,_,U,(M1.same sN).a7 kO,Mf,W1,Lf.W2,Lf.al.OW,bg x1 (bS Lf.mP x1),λHP sP=>⟨true,U,YJ ?_⟩⟩;have kk:nO HM HP:=λb xs e=>sP _ _ (kO _ _ (sN _ _ e));have ZP:=ZO.same sP;refine⟨_,U,m5,_,0,_,_,true,U,M5.a7 kk,W5,ZP.L,λg2 lg ds HQ hB hcs St hcl Mg TQ oQ=>⟨_,U,?_⟩⟩;have Lg:sG _ 0 _ _ true lg ds:=⟨W5,hB,hcs,St,hcl⟩;obtain⟨ZQ',kQ⟩:=ZP.Om n3 n2 oQ TQ;refine⟨g2,m5,_,0,0,_,_,_,_,true,_,U,Mg,(M5.a7 kk).a7 kQ,Lg.W2,W5,Lg.al.OW.symm,bg (bS Lg.mP x5) x5,λHR sR=>⟨true,U,YJ ?_⟩⟩;have k2:nO HM HR:=λb xs e=>sR _ _ (kQ _ _ (kk _ _ e));have Z:=ZQ'.same sR;have G:=k2 _ _ G;have I:=k2 _ _ I;refine⟨_,U,a,ns,0,U,Z.S,λd0=>⟨_,U,_,_,U,U,.of Vb Vb,_,_,U,U,(by show(0:Int)<999;decide),_,_,U,U,Zi ?_⟩⟩
 try dsimp only
 obtain⟨z,hz,z0,z1⟩:∃z:Int,1+(if d0<0 then -d0 else d0)/4%999=z/\1<=z/\z<1000:=⟨_,U,Vc,Vc⟩;rw[hz];refine Zi ?_;refine⟨λm σ H5=>∃j:Nat,m=10-j/\σ=[some (.ref a),some (.ref tn),some (.ref t1),some (.ref t2),some (.ref tq),some (.ref f),some (.ref m1),some (.ref m2),some (.ref c),some (.ref m3),some (.ref m4),some (.ref m5),some (.int z),some (.int ((j:Int)+1)),none]/\H5=HR/\j<=10/\z%2^j=0,⟨10,0,U,U,U,cD _,Dh z⟩,?_⟩;rintro m σ H5 ⟨j,rfl,rfl,rfl,j10,hj⟩;have ez:(1:Int)*2^((j:Int)+1).toNat=2^(j+1):=by rw[Int.one_mul];rfl
 refine⟨_,U,_,U,_,_,U,U,⟨Vc,Vc,Vb⟩,_,_,U,U,(by show(0:Int)<1*2^((j:Int)+1).toNat;rw[ez];exact qS _),U,_,U,G5 (λh=>?_) (λh=>?_)⟩
 all_goals rw[ez,lN,V.int.injEq]at h
 .have j9:j<10:=Nat.lt_of_not_le λc=>by
   obtain rfl:j=10:=Vc
   lia
  exact⟨_,λ_ _ h=>h,_,U,_,_,U,U,Zi ⟨10-(j+1),Vc,j+1,U,U,U,j9,h⟩⟩
 refine⟨_,U,vV,λq1 hq1=>⟨_,U,q1,t2,_,_,U,U,Za,Zd hq1 _ _ I,a8 (Zw (by show 1+v.length<=1000;lia)),λq2 HS hS sS=>⟨_,U,vV,λq3 hq3=>⟨q2,q3,_,_,U,U,Zd hq3 _ _ hS,Za,a8 (Zw (by rw[aZ];show 1+v.length+1<=1000;lia)),λq4 HT hT sT=>?_⟩⟩⟩⟩;have s:=((Zd (o:=.tup [V.str "odd"]) hq1).trans sS).trans ((Zd (o:=.tup [V.int z]) hq3).trans sT);have hT:HT q4=some (.tup (.str "odd" :: (v++[.int z]))):=hT;try unfold nL
 refine cmp (s _ _ G) hT S1 (P2.odd N Vc z1) (Z.same s) λp2 HU VD ZU kU=>Zi ?_;have K2':=(S2.to λw h=>dW _ (cA _ (iQ _ h)):Sm (nC ys (u++.str "odd" :: (v++[.int z]))) v).nW (N.sub HV);obtain⟨l1',l2',B',⟨_,_,_,_,_,_,_,no⟩|⟨d,w',r,ul,hp,_,_,F,_⟩⟩:=VD
 .have hl:List.replicate (j+1) 0≠[]:=nofun
  refine absurd ((Lz K2' ER hl).mpr ?_) (no _ hl λx hx=>by rw[C7 hx];exact KO _);rw[eZ];exact(OB hj h).1
 obtain rfl:=CA K2' ER hj h F;refine⟨_,U,_,_,_,_,U,.tup hp,Jp,true,U,Xe ⟨_,U,p2,_,U,.inr (aD.of hp),U,true,U,Xe ⟨_,U,2,U,.inl ⟨p2,_,U,aD.of hp,(by decide:¬(_root_.HT.bW 3 0 none=0/\_root_.HT.bW 3 3 (some 2)=3)),λc1 hc1=>?_⟩⟩⟩⟩;rw[show zR [V.str "parted",.int ((j+1:Nat):Int),.ref d] none (some 2)=[V.str "parted",.int ((j+1:Nat):Int)]from ud _ 2];refine⟨_,U,yF,λc2 hc2=>⟨c1,c2,[V.str "parted",.int ((j+1:Nat):Int)],[V.str "parted",.int ((j+1:Nat):Int)],U,U,aD.of (Zd hc2 _ _ Za),aD.of Za,U,U,?_⟩⟩;rw[Sb U];exact k _
end
def oF(K:Af)(f:Av):Obj:=(K.lookup f).getD default
def fx(K:Af)(f:Av):An:=match (oF K f).data with
 |.func g=>g
 |_=>default
abbrev O5(K:Af)(x:Str)(st:Ax)(f:Av):An:=PySem.W.fnOf x x (JR st) (XY st) (Zh st) .none (fx K f).kwdefaults (fx K f).doc (fx K f).pyModule (fx K f).annotations (fx K f).code (fx K f).closureTuple
abbrev MV(K:Af)(x:Str)(st:Ax)(f:Av):Prop:=(PySem.W.nsIn K mainGlobals x,K.lookup f,PySem.W.codeIn K (fx K f).code x,PySem.W.keepIn K (.ref f))=(some (some (.ref f)),some ⟨(oF K f).cls,(oF K f).dict,.func (O5 K x st f),(oF K f).slots⟩,true,true)
theorem Pf{st:Ax}(e:MV K x st f):fx K f=O5 K x st f:=
 congrArg (λo:Option Obj=>match (o.getD default).data with|.func g=>g|_=>default) (congrArg (λz=>z.2.1) e)
def de{C:Heap}{mg:Ae}{st:Ax}{ps:Ai}(X:K.In C)(G:C.Ns mainGlobals mg)(e:MV K x st f)
  (h:∀(kV q I:Au)(D:Option Av)(B ct:Au)(g:Ag),g.length=ps.length->bindArgs (PySem.W.fnOf x x (JR st) (XY st) (Zh st) .none kV q I D B ct) ⟨g,[]⟩=pure (ps.zip g):=by first|(show∀_ _ _ _ _ _ g,List.length g=1->_;exactλ_ _ _ _ _ _=>L2.MD λ_=>U)|(show∀_ _ _ _ _ _ g,List.length g=2->_;exactλ_ _ _ _ _ _=>L2.lF λ_ _=>U)|(show∀_ _ _ _ _ _ g,List.length g=3->_;exactλ_ _ _ _ _ _=>L2.ME λ_ _ _=>U)|(show∀_ _ _ _ _ _ g,List.length g=4->_;exactλ_ _ _ _ _ _=>L2.K0 λ_ _ _ _=>U)|(show∀_ _ _ _ _ _ g,List.length g=5->_;exactλ_ _ _ _ _ _=>L2.Lk λ_ _ _ _ _=>U)):Df K mg x st ps f (fx K f):=by
 have F:=tV (st:=st) (congrArg (λz=>z.2.1) e) (congrArg (λz=>z.2.2.1) e) (congrArg (λz=>z.2.2.2) e);exact Eq.mp (congrArg (Df K mg x st ps f) (Pf e).symm) ⟨F,PySem.W.mg_of X G (congrArg (·.1) e),F.binds h⟩
def MT(P:Params):List (Str×Int)->List (Nat×Nat)->List DictEntry
 |x::l,t::r=>⟨PyData.keyHash P x.1,.str x.1 t.1,.int x.2 t.2⟩::MT P l r
 |_,_=>[]
theorem Qg(P:Params):∀(l:List (Str×Int))(r:List (Nat×Nat)),l.length=r.length->i9 P (MT P l r) l
 |[],[],_=>.nil
 |_::l,_::r,h=>.cons (Qg P l r (Nat.succ.inj h))
theorem Mp{mg:Ae}{l:List (Str×Int)}(X:K.In h)(G:h.Ns mainGlobals mg)(r:List (Nat×Nat))(n:Nat)
  (e:(PySem.W.nsIn K mainGlobals x,K.lookup a)=(some (some (.ref a)),some ⟨.type "dict",none,.dict (Array.mk (MT w.params l r)) n,#[]⟩)) (B:l.length=r.length) (g:(l.map (·.1)).Nodup) (q:(a == sysModules)=false):Kg K w mg x a l:=
 ⟨PySem.W.mg_of X G (congrArg (·.1) e),⟨⟨_,_,congrArg (·.2) e,Qg _ l r B⟩,g,q⟩⟩
def sV:Nat->List Str->List Au
 |_,[]=>[]
 |t,x::l=>.str x t::sV (t+1) l
theorem Py:∀(l:Ai)(t:Nat),aJ (l.map V.str) (sV t l)
 |[],_=>.nil
 |_::l,t=>.cons ⟨_,U⟩ (Py l (t+1))
theorem Ui{mg:Ae}{l:Ai}(X:K.In h)(G:h.Ns mainGlobals mg)(t:Nat)
  (e:(PySem.W.nsIn K mainGlobals x,K.lookup a)=(some (some (.ref a)),some ⟨.type "tuple",none,.seq (Array.mk (sV t l)) 0,#[]⟩)) (g:(sV t l).length<=sizeLine):Kt K mg x a l:=
 ⟨PySem.W.mg_of X G (congrArg (·.1) e),λ_=>.inr ⟨_,_,_,congrArg (·.2) e,U,U,g,Py l t⟩⟩
def KK(w:As):Af:=L2.k5 (Hw.K w.params)
set_option maxHeartbeats 0 in
theorem all_mk {l:W.OpenLaw} {w:As} {h:Heap} {mg:Ae} {fa:Av} (X:(KK w).In h) (G:h.Ns mainGlobals mg) (hfa:mg "law" = some (.ref fa)):
  ∃fd:An,(∀(s:Ar)(v:Au),BindsTo s fd ⟨[v],[]⟩ [("script",v)])/\∀wn:Heap,(KK w).In wn->wn.Ns mainGlobals mg->(∀q∈([(234,232),(263,259),(297,295)]:List (Av×Av)),W.CodeHd wn q.1 q.2)->kC mg wn->uS l.prog w (KK w) mg wn j3 17 fa fd ["script"] (i5 (KK w) 232 259 295):=by
 cases hfa.symm.trans (W.mg_of X G (show W.nsIn (KK w) mainGlobals "law" = some (some (.ref 429)) by kernel_rfl));have T:Txt (KK w) w mg ⟨21,fx (KK w) 21,28,fx (KK w) 28,60,fx (KK w) 60,84,fx (KK w) 84,89,fx (KK w) 89,101,fx (KK w) 101,113,fx (KK w) 113,123,fx (KK w) 123,130,fx (KK w) 130,137,fx (KK w) 137,144,fx (KK w) 144,156,fx (KK w) 156,176,fx (KK w) 176,202,fx (KK w) 202,216,fx (KK w) 216,240,fx (KK w) 240,245,fx (KK w) 245,271,fx (KK w) 271,276,fx (KK w) 276,283,fx (KK w) 283,308,fx (KK w) 308,313,fx (KK w) 313,320,fx (KK w) 320,327,fx (KK w) 327,334,fx (KK w) 334,341,fx (KK w) 341,353,fx (KK w) 353,360,fx (KK w) 360,365,fx (KK w) 365,379,fx (KK w) 379,386,fx (KK w) 386,400,fx (KK w) 400,412,fx (KK w) 412,419,fx (KK w) 419,65,fx (KK w) 65,94,fx (KK w) 94,151,fx (KK w) 151,163,fx (KK w) 163,181,fx (KK w) 181,195,fx (KK w) 195,209,fx (KK w) 209,293,fx (KK w) 293,303,fx (KK w) 303,346,fx (KK w) 346,372,fx (KK w) 372,407,fx (KK w) 407,77,fx (KK w) 77,168,fx (KK w) 168,250,fx (KK w) 250,288,fx (KK w) 288,393,fx (KK w) 393,70,fx (KK w) 70,188,fx (KK w) 188,424,fx (KK w) 424,106,fx (KK w) 106,235,fx (KK w) 235,264,fx (KK w) 264,298,fx (KK w) 298,223,fx (KK w) 223,230,fx (KK w) 230,257,fx (KK w) 257,429,fx (KK w) 429,234,232,263,259,297,295,114,115,116,407,409,169⟩:=by
  constructor
  .exact Mp X G [(344,345),(346,347),(348,349),(350,351),(352,353),(354,355),(356,357),(358,359),(360,361),(362,363)] 10 Vf U Va U
  .exact Mp X G [(375,376),(377,378),(379,380),(381,382),(383,384)] 5 Vf U Va U
  .exact Mp X G [(391,392),(393,394),(395,396),(397,398),(399,400)] 5 Vf U Va U
  .exact W.mg_of X G Vf
  .exact W.mg_of X G Vf
  .exact Ui X G 469 Vf (by show _<=_;decide)
  all_goals first|exact de X G Vf|exact W.mg_none_of X G Vf|exact Nat.ne_of_beq_eq_false U|kernel_rfl
 exact⟨_,λs v=>Pf (show MV (KK w) "law" HW 429 by kernel_rfl) ▸ .of_eq U,λwn hKb _ hC hB=>Bl _ _ T ⟨hC (234,232) Ve,hC (263,259) Ve,hC (297,295) Ve,hB⟩⟩
end Lw
end
open PySem PySem.W PyProof.Rows
set_option maxRecDepth 100000 in
set_option maxHeartbeats 0 in
theorem PySem.Challenge.cw_everywidth_k23_whole_same_by_papers_holds : PySem.Challenge.rw_everywidth_k23_whole_same_by_papers.Holds := by
 w_on;refine holds_law Hw.ws λsaid=>?_
 refine holds_openX Hw.left (λs e=>xl_of s (lH.mp e).1) XL.keeps
  (by rfl) (by rfl) (by rfl)
  (λs e=>recFacts_of (lH.mp e).2) (by rfl)
  (by first|assumption|decide +kernel) (by decide +kernel) ⟨U,U,U,U,U,by decide +kernel⟩ ?hw ?_
 (case hw=>w_witness2)
 refine L2.BZ (λ_=>by kernel_rfl) ?_
 exact L2.nZ (K:=λP=>L2.k5 (Hw.K P)) (n:=63) (k:=17) (x:= "script") (CX:=λ_=>L2.j3) (sp:=λw=>Lw.i5 (Lw.KK w) 232 259 295) U (by decide) U ⟨U,by decide,by decide⟩ (λw h Y=>L2.BP (by kernel_rfl) Y) (λw mean mg mb h T X=>IE.mpr ⟨PySem.W.tab_of (x:=PySem.Str.ofString "machine_telling") (c:=234) (P:=232) T X U (by kernel_rfl),IE.mpr ⟨PySem.W.tab_of (x:=PySem.Str.ofString "machines_compared") (c:=263) (P:=259) T X U (by kernel_rfl),IE.mpr ⟨PySem.W.tab_of (x:=PySem.Str.ofString "least") (c:=297) (P:=295) T X U (by kernel_rfl),List.forall_mem_nil _⟩⟩⟩) (λw=>L2.AV _) (λw mg fa h X G e=>Lw.all_mk X G e) (λ_ _ a ns hl hT hS=>⟨a,ns,U,hS,hl,.inl (hT (234,232) (by simp)),.inl (hT (263,259) (by simp)),.inl (hT (297,295) (by simp)),λ_=>U⟩) λ_ _ _ _ _ z=>z
#print axioms PySem.Challenge.cw_everywidth_k23_whole_same_by_papers_holds
