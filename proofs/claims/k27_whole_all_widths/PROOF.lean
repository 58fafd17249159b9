import PyProof.Rows.All
import Wide.All
import OpenK.AllK
import Wide.FinOn
import Lean
import PyProof.EqAt
import PyProof.EqKinds
import PyProof.TupleCall
import PyProof.NeKinds
import KE.KRevSl
import KE.KRevIter
import PyProof.FactsAll.tuple
import PyProof.Rows.SortWalk
import PyProof.Rows.StrJoin2
import PyProof.StrBlockH
import PyProof.StrWalks
import PyProof.StrCalls2
import PyProof.ConsumeWalk
import KE.KIntText
import PyProof.Rows.SortStr
import PyProof.EnumStmt
import PyProof.WalksMore
import PyProof.ZipIter
import KE.KEqDict
import PyProof.DictWalks
import KE.KLam
import PyProof.Rows.SortShellK
import PyProof.AttrMissHeap
import KE.KDictOf
import PyProof.CollectWalk
import PyProof.ListNew
import KE.KSortTup
import PyProof.Rows.TupDisplay
import OpenK.KOwn
import PyProof.Rows.TopTwo
import PyProof.Rows.CatchOwn
import PyProof.RulesDel
import PyProof.RulesAs
import KE.KIsNot
import PyProof.ExcAttrAll.ValueError
import KE.KIsAll
import PyProof.StrReplace2
import PyProof.ReprStr
import PyProof.FString
import PyProof.StrLawsChain
import PyProof.SetRoads
import PyProof.StrLawsRepr
import PyProof.ReprHeads
import PyProof.ReprLen
import PyProof.FactsAll.bool
import KE.KNest
import PyProof.Rows.RuleM_int
import PyProof.Rows.CallKwBuiltin
import KE.KMinKey
import PyProof.ListRange
import PyProof.TupleOfSeq
import PyProof.TupleOfStr
import KE.KDictLaws
import KE.KPairComp
import KE.KDictSum
import PyProof.StrBlock2
import PyProof.Rows.StrJoinRep
import PyProof.DictRoadsH
import PySem.Challenge.RW_everywidth_k27_whole_all_widths
set_option compiler.extract_closed false
set_option tactic.hygienic false
theorem Wm{p:Prop}[Decidable p](h:p:=by decide +kernel):p:=h
theorem Va{p:Prop}[Decidable p](h:p:=by decide):p:=h
theorem Vb{p:Prop}(h:p:=by lia):p:=h
theorem Vc{p:Prop}(h:p:=by grind):p:=h
theorem Vd{p:Prop}(h:p:=by simp):p:=h
theorem Ve{p:Prop}(h:p:=by kernel_rfl):p:=h
theorem Vf{p:Prop}(h:p:=by with_unfolding_all rfl):p:=h
theorem ω{A G:Prop}(h:A)(k:A->G):G:=k h
section
variable{a b c d e f g h i:Sort _}{G:Prop}
theorem ε1{P:a->Prop}(K:∀x,P x->G):(∃x,P x)->G:=λh=>h.elim K
theorem ε2{P:a->b->Prop}(K:∀x y,P x y->G):(∃x y,P x y)->G:=ε1 λ_=>ε1 (K _)
theorem ε3{P:a->b->c->Prop}(K:∀x y z,P x y z->G):(∃x y z,P x y z)->G:=ε2 λ_ _=>ε1 (K _ _)
theorem ε4{P:a->b->c->d->Prop}(K:∀x y z w,P x y z w->G):(∃x y z w,P x y z w)->G:=ε3 λ_ _ _=>ε1 (K _ _ _)
theorem ε5{P:a->b->c->d->e->Prop}(K:∀x y z w u,P x y z w u->G):(∃x y z w u,P x y z w u)->G:=ε4 λ_ _ _ _=>ε1 (K _ _ _ _)
theorem ε6{P:a->b->c->d->e->f->Prop}(K:∀x y z w u v,P x y z w u v->G):(∃x y z w u v,P x y z w u v)->G:=ε5 λ_ _ _ _ _=>ε1 (K _ _ _ _ _)
theorem ε7{P:a->b->c->d->e->f->g->Prop}(K:∀x y z w u v s,P x y z w u v s->G):(∃x y z w u v s,P x y z w u v s)->G:=ε6 λ_ _ _ _ _ _=>ε1 (K _ _ _ _ _ _)
theorem ε8{P:a->b->c->d->e->f->g->h->Prop}(K:∀x y z w u v s t,P x y z w u v s t->G):(∃x y z w u v s t,P x y z w u v s t)->G:=ε7 λ_ _ _ _ _ _ _=>ε1 (K _ _ _ _ _ _ _)
theorem ε9{P:a->b->c->d->e->f->g->h->i->Prop}(K:∀x y z w u v s t r,P x y z w u v s t r->G):(∃x y z w u v s t r,P x y z w u v s t r)->G:=ε8 λ_ _ _ _ _ _ _ _=>ε1 (K _ _ _ _ _ _ _ _)
theorem ι2{P:a->b->Prop}(x:a)(y:b)(h:P x y):∃x y,P x y:=⟨_,_,h⟩
theorem ι3{P:a->b->c->Prop}(x:a)(y:b)(z:c)(h:P x y z):∃x y z,P x y z:=⟨_,_,_,h⟩
theorem ι4{P:a->b->c->d->Prop}(x:a)(y:b)(z:c)(w:d)(h:P x y z w):∃x y z w,P x y z w:=⟨_,_,_,_,h⟩
theorem ι5{P:a->b->c->d->e->Prop}(x:a)(y:b)(z:c)(w:d)(u:e)(h:P x y z w u):∃x y z w u,P x y z w u:=⟨_,_,_,_,_,h⟩
theorem ι6{P:a->b->c->d->e->f->Prop}(x:a)(y:b)(z:c)(w:d)(u:e)(v:f)(h:P x y z w u v):∃x y z w u v,P x y z w u v:=⟨_,_,_,_,_,_,h⟩
theorem ι7{P:a->b->c->d->e->f->g->Prop}(x:a)(y:b)(z:c)(w:d)(u:e)(v:f)(s:g)(h:P x y z w u v s):∃x y z w u v s,P x y z w u v s:=⟨_,_,_,_,_,_,_,h⟩
theorem ι9{P:a->b->c->d->e->f->g->h->i->Prop}(x:a)(y:b)(z:c)(w:d)(u:e)(v:f)(s:g)(t:h)(r:i)(h:P x y z w u v s t r):∃x y z w u v s t r,P x y z w u v s t r:=⟨_,_,_,_,_,_,_,_,_,h⟩
end
section
variable{a b c d e f g h i j k G:Prop}
theorem θ1(K:a->b->G):a/\b->G:=λh=>K h.1 h.2
theorem θ2(K:a->b->c->G):a/\b/\c->G:=λh=>θ1 (K h.1) h.2
theorem θ3(K:a->b->c->d->G):a/\b/\c/\d->G:=λh=>θ2 (K h.1) h.2
theorem θ4(K:a->b->c->d->e->G):a/\b/\c/\d/\e->G:=λh=>θ3 (K h.1) h.2
theorem θ5(K:a->b->c->d->e->f->G):a/\b/\c/\d/\e/\f->G:=λh=>θ4 (K h.1) h.2
theorem θ6(K:a->b->c->d->e->f->g->G):a/\b/\c/\d/\e/\f/\g->G:=λh=>θ5 (K h.1) h.2
theorem θ7(K:a->b->c->d->e->f->g->h->G):a/\b/\c/\d/\e/\f/\g/\h->G:=λh=>θ6 (K h.1) h.2
theorem θ8(K:a->b->c->d->e->f->g->h->i->G):a/\b/\c/\d/\e/\f/\g/\h/\i->G:=λh=>θ7 (K h.1) h.2
theorem θ9(K:a->b->c->d->e->f->g->h->i->j->G):a/\b/\c/\d/\e/\f/\g/\h/\i/\j->G:=λh=>θ8 (K h.1) h.2
theorem θ10(K:a->b->c->d->e->f->g->h->i->j->k->G):a/\b/\c/\d/\e/\f/\g/\h/\i/\j/\k->G:=λh=>θ9 (K h.1) h.2
end
theorem U{α:Sort u}{a:α}:a=a:=rfl
noncomputable section
set_option Elab.async false
set_option linter.all false
set_option maxRecDepth 100000
set_option maxHeartbeats 0
namespace Hw
open PySem PySem.W
theorem ws:PySem.Challenge.rw_everywidth_k27_whole_all_widths.wellSaid=true:=by kernel_rfl
def p:Program:=PySem.Challenge.rw_everywidth_k27_whole_all_widths.row.toRowW.prog
def B:List Stmt:=behindTheImports p
def PH:List Stmt→Nat→Option Stmt
  |[],_=>none
  |x::_,0=>some x
  |_::r,n+1=>PH r n
def fx:Option Stmt→Arguments×List Stmt×Scope×Str×Nat
  |some (.FunctionDef n a b _ _ _ s _ _ x)=>(a,b,s,n,x.line)
  |_=>default
def fd(i:Nat):=fx (PH B i)
def vs(s:String)(t:Nat):Value:=.str (Str.ofString s) t
def en(P:Params)(s:String)(t:Nat)(v:Value):DictEntry:=⟨PyData.keyHash P (Str.ofString s),.str (Str.ofString s) t,v⟩
def tu (l:List Value):Obj:=⟨.type "tuple",none,.seq (Array.mk l) 0,#[]⟩
def t0:Obj:=tu []
def fi(l:List Value):Obj:=⟨.none,none,.fields (Array.mk l),#[]⟩
def f0:Obj:=fi []
def vk:Nat→List String→List Value
  |_,[]=>[]
  |t,s::r=>vs s t::vk (t+1) r
def vt(t:Nat)(l:List String):Obj:=tu (vk t l)
abbrev Fd:=Arguments×List Stmt×Scope×Str×Nat
def rO(x:Fd):Obj:=⟨.none,none,.func ⟨x.2.2.2.1,x.2.2.2.1,x.1,.stmts x.2.1,x.2.2.1,0,[],.none,.none,.none,.none,none,.none,.none,0⟩,#[]⟩
def fO (x:Fd) (m:Value) (c:Nat):Obj:=⟨.type "function",none,.func ⟨x.2.2.2.1,x.2.2.2.1,x.1,.stmts x.2.1,x.2.2.1,3,[],.none,.none,.none,m,none,.ref c,.none,0⟩,#[]⟩
def fl:String:= "/claim/cut.py"
def r(i:Nat):Obj:=rO (fd i)
def f(i:Nat)(m:Value)(c:Nat):Obj:=fO (fd i) m c
def ci(n:Nat):Value:=.int n 0
def c (i t x v:Nat):Obj:=let y:=(fd i).2.2.2;⟨.type "code",none,.fields #[.str y.1 t,.str y.1 (t+1),vs fl (t+2),ci y.2,ci (fd i).1.args.length,ci 0,ci 0,ci 3,.ref x,.bool true,ci 181,.ref (x+1),.none,if v == 0 then .none else .ref (x+2),if v == 0 then .none else .ref (x+3),.ref (if v == 0 then x+2 else x+4),ci (t+3+v),ci y.2,vs fl (t+4+v)],#[]⟩
def e(P:Params)(i t a:Nat):DictEntry:=let y:=(fd i).2.2.2.1;⟨PyData.keyHash P y,.str y t,.ref a⟩
def bt(P:Params):List DictEntry:=match (boot_o_3 P).data with
  |.dict e _=>e.toList.tail
  |_=>[]
def m0:Value:=vs "everywidth.bits" 187
def m1:Value:=vs "everywidth.machines.found" 207
def m2:Value:=vs "everywidth.machines.least" 224
def m3:Value:=vs "everywidth.vocabulary" 260
def m4:Value:=vs "everywidth.rows" 377
def m5:Value:=vs "everywidth.machines.columns" 385
def m6:Value:=vs "everywidth.machines.made" 462
def m7:Value:=vs "everywidth.sums.texts" 490
def m8:Value:=vs "everywidth.claims.widths" 498
def m9:Value:=vs "law_everywidth_k27_whole_all_widths" 564
def mc (n:String)(t l x k:Nat):Obj:=⟨.type "code",none,.fields #[vs n t,vs n (t+1),vs fl (t+2),ci l,ci 0,ci 0,ci 0,ci 0,.ref x,.bool false,ci 181,.ref (x+1),.none,.none,.none,.none,ci k,ci l,vs fl (k+1)],#[]⟩
def fr (c d:Nat)(v:Value):Obj:=⟨.type "frame",none,.plain,#[some (.ref c),some (.ref 3),some (.ref d),none,some v,none,some (.ref 0)]⟩
def bf (a b:Value):Obj:=⟨.type "builtin_function_or_method",none,.fields #[a,b],#[]⟩
def dc (l:List DictEntry)(n:Nat):Obj:=⟨.type "dict",none,.dict ⟨l⟩ n,#[]⟩
def es (P:Params):List DictEntry:=[e P 1 197 21,e P 2 206 28,e P 4 214 33,e P 5 223 40,e P 7 231 45,e P 8 237 50,e P 9 243 55,e P 10 249 60,e P 11 259 67,en P "SUM_PARTS" 292 (.ref 68),en P "SUMS_IN_CLAIM" 308 (.ref 69),en P "CLAIMS_IN_CLAIM" 324 (.ref 70),en P "LETTERS" 326 (vs "abcdefghijklmnopqrstuvwxyz" 325),en P "LONGEST_NAME" 328 (.int 8 327),e P 18 335 77,e P 19 342 84,e P 20 349 91,e P 21 356 98,e P 22 363 105,e P 23 369 110,e P 24 376 117,e P 26 384 122,en P "REMEMBERING" 396 (.ref 123),e P 29 403 130,e P 30 409 135,e P 31 424 142,e P 32 434 149,e P 33 443 156,e P 34 453 163,e P 35 461 170,e P 37 471 177,e P 38 477 182,e P 39 483 187,e P 40 489 192,e P 42 497 197,e P 44 507 204,e P 45 514 211,e P 46 521 218,e P 47 527 223,e P 48 533 228,e P 49 544 235,e P 50 555 242,e P 51 563 249,e P 53 579 256,e P 54 590 263,e P 55 601 270,e P 56 608 277,e P 57 620 284,e P 58 634 291,e P 59 652 298,e P 60 658 303,e P 61 672 310,e P 62 681 317,e P 63 692 324,e P 64 701 331,e P 65 717 338,e P 66 728 345,e P 67 744 352,e P 68 750 357,e P 69 761 364,e P 70 767 369,e P 71 783 376]
def vl:List (Nat×Nat):=[(2,20),(7,27),(13,32),(23,39),(29,44),(38,49),(45,54),(48,59),(50,66),(62,76),(64,83),(66,90),(68,97),(70,104),(72,109),(74,116),(79,121),(83,129),(85,134),(90,141),(106,148),(117,155),(119,162),(133,169),(150,176),(152,181),(164,186),(166,191),(169,196),(172,203),(175,210),(177,217),(179,222),(181,227),(193,234),(199,241),(206,248),(212,255),(224,262),(231,269),(236,276),(248,283),(261,290),(273,297),(286,302),(290,309),(301,316),(315,323),(336,330),(344,337),(366,344),(376,351),(387,356),(411,363),(422,368),(429,375)]
def d(i x t:Nat)(l:List String)(m:Value):List Obj:=match l with
  |[]=>[t0,f0,r i,c i t x 0,f i m (x+3)]
  |l=>[t0,f0,vt (t+3) l,t0,r i,c i t x l.length,f i m (x+5)]
def nz:Nat→List Obj→PySem.W.Frag
  |_,[]=>[]
  |n,x::l=>(n,x)::nz (n+1) l
def md (P:Params) (m:String) (t e k:Nat):Obj:=⟨.type "dict",none,.dict (Array.mk (en P "__name__" 165 (vs m t)::bt P++(es P).take e)) k,#[]⟩
def tl:List (Nat×Nat)→List Value
  |[]=>[]
  |x::r=>.int x.1 0::.int 0 0::.ref x.2::tl r
def tb(c:Nat):Obj:=fi (tl (vl.take c))
def ob (P:Params):List Obj:=[boot_o_0 P,boot_o_1 P,boot_o_2 P,md P "law_everywidth_k27_whole_all_widths" 564 62 71,boot_o_4 P,boot_o_5 P,boot_o_6 P,boot_o_7 P,boot_o_8 P,boot_o_9 P,boot_o_10 P,t0,tb 56,mc "<module>" 182 1 11 185,fr 13 3 (vs "__main__" 164)]++(d 1 15 189 ["width","many","bit_number"] m0++(d 2 22 198 ["bits","number","bit"] m0++(d 4 29 209 [] m1++(d 5 34 215 ["state","states","numbers"] m1++(d 7 41 226 [] m2++(d 8 46 232 [] m2++(d 9 51 238 [] m2++(d 10 56 244 [] m2++(d 11 61 250 ["classes","firsts","state","number"] m2++([dc [en P "not" 262 (.int 1 263),en P "neg" 264 (.int 1 265),en P "twice" 266 (.int 1 267),en P "low" 268 (.int 1 269),en P "and" 270 (.int 2 271),en P "or" 272 (.int 2 273),en P "odd" 274 (.int 2 275),en P "add" 276 (.int 2 277),en P "sub" 278 (.int 2 279),en P "pick" 280 (.int 3 281)] 10,dc [en P "same" 293 (.int 2 294),en P "under" 295 (.int 2 296),en P "beneath" 297 (.int 2 298),en P "sign" 299 (.int 1 300),en P "nought" 301 (.int 1 302)] 5,dc [en P "both" 309 (.int 2 310),en P "either" 311 (.int 2 312),en P "so" 313 (.int 2 314),en P "never" 315 (.int 1 316),en P "yes" 317 (.int 0 318)] 5]++(d 18 71 329 ["text"] m3++(d 19 78 336 ["text"] m3++(d 20 85 343 ["word"] m3++(d 21 92 350 ["word"] m3++(d 22 99 357 ["word"] m3++(d 23 106 364 [] m3++(d 24 111 370 ["text"] m3++(d 26 118 379 [] m4++([vt 387 ["neg","twice","low","add","sub","same","under","beneath","nought"]]++(d 29 124 397 ["word"] m5++(d 30 131 404 [] m5++(d 31 136 410 ["words","columns","place","kept","stack","later","word","parts","held"] m5++(d 32 143 425 ["word","parts","held","one"] m5++(d 33 150 435 ["one","other","held"] m5++(d 34 157 444 ["word","parts","held","then"] m5++(d 35 164 454 ["word","parts"] m5++(d 37 171 464 ["claim","names"] m6++(d 38 178 472 [] m6++(d 39 183 478 [] m6++(d 40 188 484 [] m6++(d 42 193 492 [] m7++(d 44 198 500 ["claim","told"] m8++(d 45 205 508 ["claim"] m8++(d 46 212 515 ["claim"] m8++(d 47 219 522 [] m8++(d 48 224 528 [] m8++(d 49 229 534 ["states","steps","reached","state","led_to"] m8++(d 50 236 545 ["tail","ring","length","kept","begin"] m8++(d 51 243 556 ["ring","length"] m8++(d 53 250 566 ["script","k","cells","size","cell","turn","step","seed"] m9++(d 54 257 580 ["number","letters","some","name","k"] m9++(d 55 264 591 ["script","start","many","found","k"] m9++(d 56 271 602 ["word"] m9++(d 57 278 609 ["number","room","left","some","word","judged"] m9++(d 58 285 621 ["number","room","left","names","top","some","word","hard"] m9++(d 59 292 635 ["script","start","names","most","left","top","claim","words","parts","room","number","word"] m9++(d 60 299 653 [] m9++(d 61 304 659 ["names","full","found","name","wider","values","word","more"] m9++(d 62 311 673 ["word","was","one"] m9++(d 63 318 682 ["word","was","one","other","less"] m9++(d 64 325 693 ["words","found","word"] m9++(d 65 332 702 ["words","held","bits","pile","kept","word","was","told","one","other"] m9++(d 66 339 718 ["number","name","alone","ahead_of","some"] m9++(d 67 346 729 ["script","start","names","number","word","asked","alone","rule_of","other","whole"] m9++(d 68 353 745 [] m9++(d 69 358 751 ["truths","back","tail","ring","size"] m9++(d 70 365 762 [] m9++(d 71 370 768 ["script","first","names","most","left","top","words","due","alls","somes"] m9))))))))))))))))))))))))))))))))))))))))))))))))))))))))))
def K(P:Params):PySem.W.Frag:=nz 0 (ob P)
def od:Bool→List Obj→List Obj
  |_,[]=>[]
  |true,x::r=>x::od false r
  |false,_::r=>od true r
def tL:Nat→List Obj→BT
  |0,_=>.nil
  |_,[]=>.nil
  |k+1,x::r=>.node x (tL k (od true r)) (tL k (od false r))
def tn(P:Params)(n:Nat):BT:=tL 12 ((ob P).take n)
abbrev SS(T:BT)(n k:Nat)(o:OsState):SharedT:=⟨T,n,{},Array.mk [],{},k,o⟩
def ev:Env:={scope:=p.main.scope,locals:=mainNs,globals:=mainNs,cells:=[],code:=(.ref 13),frame:=some 14}
def c0:Code:=.body B ev
abbrev an:Option Value:=some (.ref 6)
abbrev z0:Pos:=⟨0,0,0,0⟩
abbrev q0:List Frame:=[topFrame z0]
def sg(a b:Nat):List Stmt:=(B.drop a).take b
def pc(a b:Nat)(x:Pos):Thread:=piecesOf (sg a b) ev c0 x q0
def R(w:World)(o:OsState)(n:Nat)(S:Params→BT)(a k:Nat)(t:Thread)(S':Params→BT)(a' k':Nat)(y:Pos):Prop:=segRunT treeTable p w 11 an 1 n (SS (S w.params) a k o) t=some (.next,SS (S' w.params) a' k' o,c0,y)
variable (w:World)(o:OsState)
def S0(P:Params):BT:=((tn P 15).set 3 λ_=>boot_o_3 P).set 12 λ_=>tb 0
def S1 (P:Params):BT:=((tn P 68).set 3 λ_=>md P "everywidth.vocabulary" 260 9 18).set 12 λ_=>tb 9
def S2 (P:Params):BT:=((tn P 78).set 3 λ_=>md P "everywidth.vocabulary" 260 15 24).set 12 λ_=>tb 10
def S3 (P:Params):BT:=((tn P 157).set 3 λ_=>md P "everywidth.machines.columns" 385 28 37).set 12 λ_=>tb 22
def S4 (P:Params):BT:=((tn P 236).set 3 λ_=>md P "everywidth.claims.widths" 498 41 50).set 12 λ_=>tb 35
def S5 (P:Params):BT:=((tn P 311).set 3 λ_=>md P "law_everywidth_k27_whole_all_widths" 564 52 61).set 12 λ_=>tb 46
def S6(P:Params):BT:=tn P 377
def H1(P:Params):Heap:=⟨Array.mk (ob P),{}⟩
theorem pre:topGo treeTable p w 11 an 12 ⟨boot_heap w.params,Array.mk [],boot_drawn,boot_toks,o⟩ (topStub p)=some ((SS (S0 w.params) 15 187 o).abs,⟨denote treeTable c0,c0,z0,q0⟩):=by
  rw[Fast.te15667345088766844465,Fast.te14364793385576792824,Fast.te11892475500146522536];kernel_rfl
theorem R5:segRunT treeTable p w 11 an 1 1 (SS (S0 w.params) 15 187 o) (blockOf B ev c0 z0 q0)=some (.next,SS (S0 w.params) 15 187 o,c0,z0):=by
  rw[Fast.te10110043849684766642,Fast.te14364793385576792824];kernel_rfl
theorem g1:R w o 292 S0 15 187 (pc 0 13 z0) S1 68 262 ⟨56,0,56,8⟩:=by
  unfold R;rw[Fast.te10110043849684766642,Fast.te14364793385576792824];kernel_rfl
theorem T6:R (w.withFollow "special-get-raises" false) o 378 S1 68 262 (pc 13 6 ⟨56,0,56,8⟩) S2 78 336 ⟨62,0,63,28⟩:=by
  unfold R;rw[Fast.te10110043849684766642,Fast.te14364793385576792824];kernel_rfl
theorem Tn:R (w.withFollow "special-get-raises" true) o 378 S1 68 262 (pc 13 6 ⟨56,0,56,8⟩) S2 78 336 ⟨62,0,63,28⟩:=by
  unfold R;rw[Fast.te10110043849684766642,Fast.te14364793385576792824];kernel_rfl
theorem g2 (w:World):∀o:OsState,R w o 378 S1 68 262 (pc 13 6 ⟨56,0,56,8⟩) S2 78 336 ⟨62,0,63,28⟩:=byRow2 "special-get-raises" (P:=λw=>∀o:OsState,R w o 378 S1 68 262 (pc 13 6 ⟨56,0,56,8⟩) S2 78 336 ⟨62,0,63,28⟩) T6 Tn w
theorem g3:R w o 390 S2 78 336 (pc 19 15 ⟨62,0,63,28⟩) S3 157 444 ⟨117,0,118,47⟩:=by
  unfold R;rw[Fast.te10110043849684766642,Fast.te14364793385576792824];kernel_rfl
theorem g4:R w o 397 S3 157 444 (pc 34 16 ⟨117,0,118,47⟩) S4 236 545 ⟨193,0,198,33⟩:=by
  unfold R;rw[Fast.te10110043849684766642,Fast.te14364793385576792824];kernel_rfl
theorem g5:R w o 376 S4 236 545 (pc 50 12 ⟨193,0,198,33⟩) S5 311 673 ⟨290,0,300,16⟩:=by
  unfold R;rw[Fast.te10110043849684766642,Fast.te14364793385576792824];kernel_rfl
theorem g6:R w o 328 S5 311 673 (pc 62 10 ⟨290,0,300,16⟩) S6 377 784 ⟨429,0,450,91⟩:=by
  unfold R;rw[Fast.te10110043849684766642,Fast.te14364793385576792824];kernel_rfl
theorem fn:topRun treeTable p w 11 an 2 (SS (S6 w.params) 377 784 o).abs ⟨doneF .next,c0,⟨429,0,450,91⟩,q0⟩=some ⟨H1 w.params,Array.mk [],{},784,o⟩:=by
  rw[Fast.te14082659384304107361,Fast.te14364793385576792824];kernel_rfl
theorem sp:B=sg 0 13++(sg 13 6++(sg 19 15++(sg 34 16++(sg 50 12++(sg 62 10++[]))))):=by kernel_rfl
theorem bl{w:World}{N:Nat}{s s' r:Shared}{b:List Stmt}{x y:Pos}{n:Nat}(e:B=b)(h:segRun treeTable p w 11 an 1 n s (blockOf B ev c0 x q0)=some (.next,s',c0,y))(k:topRun treeTable p w 11 an N s' (restOf b ev c0 y q0)=some r):topRun treeTable p w 11 an (n+N) s ⟨denote treeTable c0,c0,x,q0⟩=some r:=
  piece_block h (by rw[e];exact k)
theorem rn:topRun treeTable p w 11 an (12+(1+(292+(378+(390+(397+(376+(328+(2))))))))) ⟨boot_heap w.params,Array.mk [],boot_drawn,boot_toks,o⟩ (topStub p)=some ⟨H1 w.params,Array.mk [],{},784,o⟩:=
  go_top (pre w o) (bl sp (segRun_of (R5 w o)) (piece_app (segRun_of (g1 w o)) (piece_app (segRun_of (g2 w o)) (piece_app (segRun_of (g3 w o)) (piece_app (segRun_of (g4 w o)) (piece_app (segRun_of (g5 w o)) (piece_app (segRun_of (g6 w o)) (fn w o))))))))
def rg(l:List Stmt):List (Nat×Nat)→List Stmt
  |[]=>[]
  |x::r=>(l.drop x.1).take x.2++rg l r
def vw:Program:={p with main:={p.main with body:=rg p.main.body [(1,2),(4,2),(7,5),(13,12),(26,1),(28,8),(37,4),(42,1),(44,8),(53,19)]}}
def lo:List Str:=[Str.ofString "SUM_PARTS",Str.ofString "SUMS_IN_CLAIM",Str.ofString "CLAIMS_IN_CLAIM"]
def xt(s:Shared):Bool:=xlAt vw [] s&&recOk PySem.Challenge.rw_everywidth_k27_whole_all_widths.row.toRowW.records s
def as:List Addr:=List.range 377
theorem sz:((boot_heap w.params).isNs mainGlobals&&(Array.mk []:Array GenState).size == 0,(boot_heap w.params).objs.size,(boot_heap w.params).nsMap mainGlobals "__annotations__")=(true,11,an):=by
  rw[Fast.te8920871248978507458];kernel_rfl
abbrev sh(w:World)(o:OsState):Shared:=⟨H1 w.params,Array.mk [],{},784,o⟩
theorem l1:(staticsOk (importedModules p.main.body) (boot_heap w.params) (H1 w.params)&&namesBound p (H1 w.params)&&gensDone (sh w o)&&laidKept (boot_heap w.params) (H1 w.params))=true:=by
  rw[Fast.te5923862056798008813];kernel_rfl
theorem l2:openSeen vw lo (importedModules p.main.body) xt true (sh w o)=openGood vw lo:=by
  rw[Fast.te4187177175401517315,Fast.te5923862056798008813];kernel_rfl
theorem l3:X.obsZ as (sh w o)=X.valZ K 377 784 w:=by kernel_rfl
theorem left:LeftO p vw lo xt (X.obsZ as) (X.valZ K 377 784) 4436:=
  LeftO.of_pieces (boot_open (by kernel_rfl) (by kernel_rfl) (λ_=>by kernel_rfl)) sz rn (by kernel_rfl) λw=>funext λo=>looks_pair (l1 w o) (looks_pair (l2 w o) (l3 w o))
end Hw
end
set_option Elab.async false
set_option linter.all false
set_option maxRecDepth 100000
noncomputable section
def ab:=@PySem.wpAny_bind
def aF:=@List.length_map
def aQ:=@List.getElem?_eq_getElem
def aW:=@PySem.Heap.get?_push_of_some
def bO:=@List.getD_eq_getElem?_getD
def aJ:=@PySem.wpAny_pure
def bA:=@List.length_append
def bW:=@List.getElem?_eq_some_iff
def aN:=@Nat.le_refl
def bG:=@List.getElem?_map
def bM:=@List.mem_cons_self
def aZ:=@decide_eq_true
def bF:=@decide_eq_false
def bX:=@PySem.Heap.get?_push_size
def b8:=@List.mem_cons_of_mem
def bU:=@List.filter_cons
def bB:=@List.mem_map
def bJ:=@List.mem_cons
def cA:=@List.mem_singleton
def c9:=@PySem.F.plainAttrs_list
def bH:=@PySem.Heap.lt_size
def bI:=@List.map_map
def aG:=@if_neg
def cY:=@List.mem_of_getElem?
def dU:=@List.getElem?_append_right
def b0:=@List.map_append
def bL:=@Nat.le_of_lt
def cQ:=@List.length_cons
def aK:=@if_pos
def eA:=@Option.map_eq_some_iff
def c8:=@List.length_take
def fP:=@PySem.F.slot_list_append
def fS:=@PySem.F.type_list_append
def cT:=@List.mem_append
def eJ:=@List.length_replicate
def dB:=@of_decide_eq_true
def iX:=@List.getElem?_append_left
def cC:=@Nat.le_trans
def cI:=@Nat.ne_of_lt
def eH:=@Bool.false_ne_true
def fE:=@List.map_congr_left
def dY:=@List.length_range
def eB:=@List.size_toArray
def dQ:=@PySem.wpAny_call_entry
def dR:=@List.take_length
def dJ:=@PySem.PassesOwn.never
def dZ:=@List.getElem_mem
def cM:=@Nat.zero_le
def iE:=@Nat.lt_of_lt_of_le
def dW:=@List.append_nil
def lK:=@List.mem_append_right
def lG:=@PySem.Heap.get?_update_self
def nS:=@List.idxOf_lt_length_of_mem
def fG:=@List.not_mem_nil
def fX:=@List.length_drop
def iW:=@PySem.Obj.data_mapFields
def iI:=@PySem.wpAny_newObj_type
def pI:=@List.eq_nil_of_length_eq_zero
def lE:=@Array.length_toList
def e8:=@List.mem_range
def i4:=@List.append_assoc
def fZ:=@List.nodup_cons
def lS:=@PySem.Heap.SameBut.update
def lI:=@List.getElem?_take
def fL:=@List.nodup_nil
def nU:=@PySem.Heap.get?_update_other
def lJ:=@Int.toNat_natCast
def fV:=@PySem.wpAny_holding
def fW:=@List.map_cons
def l7:=@Int.emod_lt_of_pos
def dP:=@PySem.wpAny_field
def lC:=@List.any_eq_true
def iC:=@Nat.lt_irrefl
def rS:=@Array.getElem?_eq_getElem
def lQ:=@Bool.and_eq_true
def nC:=@PySem.wpAny_setField_rec
def oa:=@List.mem_map_of_mem
def lL:=@Int.emod_nonneg
def i7:=@PySem.Heap.size_push
def mK:=@List.all_eq_true
def pF:=@List.getElem?_eq_none
def pC:=@List.mem_iff_getElem?
def pQ:=@PySem.F.slot_list_pop
def pV:=@PySem.F.type_list_pop
def oJ:=@PySem.mem_of_lookup
def fK:=@PySem.wpAny_of_eq
def lH:=@PySem.wpAny_seqItems
def rD:=@List.take_of_length_le
def nP:=@Nat.mod_eq_of_lt
def oW:=@List.filter_append
def sL:=@PySem.Obj.isFreed_of_fields
def mV:=@Bool.eq_iff_iff
def nY:=@beq_self_eq_true
def nL:=@List.length_nil
def oE:=@List.reverse_cons
def Bd:=@List.drop_eq_getElem_cons
def oD:=@List.mem_filter
def DA:=@PyProof.Rows.callWith_type1
def tE:=@List.take_append_drop
def oH:=@PySem.wpAny_isInstance
def nN:=@PySem.wpAny_setField
def pJ:=@Nat.lt_succ_of_lt
def EN:=@PyProof.Rows.slot_tuple_getitem
def Dn:=@Nat.mod_two_eq_zero_or_one
def tD:=@Nat.pow_le_pow_right
def tQ:=@List.dropLast_concat
def sM:=@PySem.Calls.spliced_cons
def rX:=@of_decide_eq_false
def rY:=@decide_eq_true_iff
def oU:=@PySem.W.kia_one
def nK:=@List.all_cons
def pE:=@Nat.lt_succ_self
def nE:=@PySem.wpAny_attempt
def tZ:=@List.length_reverse
def r9:=@List.foldl_append
def rK:=@List.ext_getElem?
def mO:=@Int.ediv_one
def F1:=@PySem.F.slot_dict_keyiterator_next
def sS:=@PySem.wpAny_Call_Name_kw
def pU:=@List.foldl_cons
def nR:=@List.map_take
def C3:=@Int.ediv_ediv_of_nonneg
def j1:=@PySem.wpAny_mono
def sN:=@List.lookup_cons
def u0:=@PySem.wpAny_truthy_bool
def sY:=@List.flatMap_cons
def oM:=@List.map_drop
def rH:=@PySem.codeAny_builtin
def sP:=@Nat.min_eq_left
def Hs:=@PySem.wpAny_typeNameOfWhole_keyiter
def tK:=@List.drop_length
def C0:=@PySem.lookup_relabel_local
def mN:=@PySem.wpAny_rule
def Bu:=@List.nodup_append
def tW:=@PySem.wpAny_specialOf
def Dv:=@beq_eq_false_iff_ne
def tM:=@List.range_succ
def Fx:=@PySem.Calls.callWith_builtin
def Et:=@Int.ediv_eq_zero_of_lt
def eN:=@Ne.symm
def Hn:=@PySem.F.slot_tuple_iterator_next
def z4:=@decide_eq_decide
def BR:=@Int.natCast_emod
def Eb:=@Array.getElem?_toList
def pN:=@Int.pow_zero
def pM:=@Nat.sub_self
def IL:=@PySem.Calls.call_function_entry
def Er:=@List.mem_append_left
def El:=@List.getElem?_of_mem
def BY:=@PySem.wpAny_passesOwn
def BN:=@List.of_mem_zip
def Dp:=@PySem.Calls.spliced_nil
def Dt:=@PySem.Obj.cls_mapFields
def C8:=@PySem.wpAny_setState_of
def AL:=@Nat.not_lt_zero
def rZ:=@Nat.ne_of_gt
def rL:=@Nat.add_comm
def Fm:=@List.filterMap_cons
def pR:=@Nat.le_succ
def sX:=@PySem.plainId_quiet
def FY:=@PySem.wpAny_setEntries_of
def FR:=@Int.toNat_of_nonneg
def oI:=@Nat.mod_lt
def IY:=@List.length_pos_of_mem
def Kb:=@PySem.F.plain_max_loop
def Ek:=@Nat.lt_of_le_of_lt
def ET:=@Bool.false_eq_true
def Fs:=@PySem.wpAny_forIn_array'
def EJ:=@Int.natCast_nonneg
def Il:=@PySem.F.slot_enumerate_next
def tV:=@PySem.F.called_set
def sI:=@PySem.sizeLine_eq
def tN:=@Nat.zero_add
def IB:=@Int.emod_add_mul_ediv
def HN:=@List.length_filter_le
def Cq:=@PySem.Paired.length
def Fi:=@PySem.wpAny_pyIter_list
def Fe:=@PySem.wpAny_pyIter_slot
def Eg:=@List.pairwise_map
def l8:=@or_false
def EU:=@PySem.wpAny_dictEntries
def M8:=@Int.add_mul_emod_self_left
def HW:=@PySem.Calls.evalArgs_plain
def Ic:=@Nat.mul_le_mul_right
def F7:=@List.replicate_succ'
def C2:=@PySem.isSubtype_stop
def Dy:=@PySem.wpAny_fieldsOf
def tT:=@PySem.wpAny_letGo
def tH:=@Int.pow_pos
def BJ:=@PySem.codeAny_mono
def LQ:=@PySem.F.args_tuple_add_2
def KL:=@List.length_erase_of_mem
def Ki:=@List.eq_of_mem_replicate
def L6:=@PySem.F.entry_tuple_add
def Ew:=@Option.map_some
def Kd:=@PySem.tupleKind_room_in1
def EI:=@PySem.wpAny_updateSeq
def EZ:=@PySem.F.slot_zip_next
def DL:=@List.length_zip
def Dz:=@Nat.add_assoc
def Ig:=@List.getElem?_drop
def Iz:=@Nat.mod_eq_sub_mod
def Ld:=@PySem.F.slot_tuple_add
def MT:=@PySem.wpAny_Call_method_late
def L5:=@PySem.wpAny_Assign_Subscript
def Kj:=@PySem.F.entry_max_loop
def Cc:=@PySem.wpAny_mkInt
def Hg:=@Option.isSome_map
def Ka:=@bne_self_eq_false
def CH:=@List.map_id
def Hr:=@Int.emod_eq_of_lt
def IJ:=@Decidable.not_not
def EW:=@Bool.and_false
def E4:=@PySem.wpAny_newTuple
def Eu:=@PySem.wpAny_tryCatch
def DT:=@List.drop_zero
def Dx:=@Nat.min_self
def MF:=@PySem.wpAny_notOrdered_dict
def OQ:=@PySem.F.args_dict_keyiterator_next_1
def C9:=@Nat.lt_or_ge
def Dq:=@Nat.sub_zero
def KA:=@Int.add_mul_ediv_left
def DC:=@Nat.pow_succ
def LF:=@List.eq_nil_or_concat
def IU:=@Nat.le_add_right
def NG:=@PySem.F.entry_dict_keyiterator_next
def Ks:=@PySem.Around.frames_deeper
def LW:=@PySem.Around.under_plainId
def Ky:=@PySem.wpAny_updateSeq_pair
def LI:=@Bool.and_eq_true_iff
def Mf:=@List.mem_erase_of_ne
def KH:=@List.reverse_reverse
def Ng:=@List.mem_of_mem_take
def FV:=@List.any_cons
def DP:=@PySem.wpAny_handled
def PR:=@PySem.F.args_tuple_iterator_next_1
def DF:=@PySem.wpAny_newList
def DJ:=@List.map_id''
def Lr:=@PySem.Value.isStrOf_shape
def Iv:=@PySem.wpAny_execs_nil
def IX:=@PySem.SeqAt.EqAt.same
def OF:=@PySem.F.entry_tuple_iterator_next
def Iq:=@PyProof.Rows.entry_list_sort
def Lu:=@PySem.W.pyHash_slot
def MS:=@PySem.W.kdu_collect
def M0:=@List.getElem?_range
def HM:=@Nat.div_add_mod
def Na:=@List.mem_filterMap
def Kx:=@PySem.W.callWith_K
def KR:=@PySem.SeqAt.EqAt.of_refs
def FD:=@Int.pow_succ
def E3:=@Int.ne_of_gt
def D9:=@Int.le_of_lt
def FK:=@Nat.zero_mul
def D4:=@Nat.succ_mul
def Fp:=@Nat.add_zero
def HS:=@PyProof.Rows.slot_list_sort
def Hh:=@PyProof.Rows.args_list_sort
def Ia:=@PyProof.Rows.sortedHeap_old
def Hf:=@List.take_zero
def LU:=@PySem.slot_list_getitem
def Dw:=@PySem.call_meets
def Kp:=@Array.toList_push
def LA:=@PySem.fits_of_scanBound
def Kv:=@List.take_add_one
def K5:=@PySem.wpAny_setEpoch_of
def MD:=@PySem.SeqAt.RcAt.tuples
def Mu:=@Int.add_emod_emod
def Nf:=@Nat.add_mod_right
def DH:=@PySem.wpAny_throw
def Kf:=@Bool.and_true
def Ho:=@PyProof.Rows.sortedHeap_at
def Hc:=@PySem.wpAny_onRaise
def KW:=@PySem.wpAny_pyHash_int
def LH:=@PySem.wpAny_eqBool_int
def Kz:=@PySem.noFill_tuple_add
def LM:=@Nat.le_of_not_lt
def LZ:=@List.getElem_zip
def Lx:=@PySem.wpAny_askSetting
def Mi:=@List.ext_getElem
def LC:=@List.getElem_map
def LY:=@List.mem_flatMap
def Lc:=@List.flatMap_nil
def Kr:=@Nat.succ_le_succ
def Hi:=@Nat.mul_comm
def HJ:=@Nat.le_of_eq
def IM:=@PyProof.Rows.plain_sorted
def IK:=@PyProof.Rows.entry_sorted
def Ii:=@PyProof.Rows.args_sorted1
def MB:=@PySem.wpAny_dictEpoch
def K8:=@PySem.F.slot_tuple_eq
def Lg:=@List.find?_cons
def ID:=@List.map_nil
def Ln:=@List.idxOf_cons
def HX:=@Int.mul_comm
def Ie:=@Int.emod_one
def IQ:=@Int.zero_add
def Mq:=@Nat.le_antisymm
def Ku:=@Int.natCast_add
def HH:=@exists_congr
def FI:=@Nat.not_lt
def DS:=@PyProof.Rows.size_push'
def Iu:=@PySem.seqIndex_of
def IW:=@PyProof.Rows.kind_sorted
def Dk:=@Prod.ext
variable {i n L:Nat}
variable {a f:PySem.Addr}
variable {N:List PySem.Str}
variable {x I:PySem.Str}
variable {e o:PySem.Expr}
variable {p y:PySem.Pos}
variable {S:List Nat}
variable {j:Bool}
variable {u:PySem.Value}
variable {K:PySem.W.Frag}
variable {Q:PySem.Value->PySem.Shared->Prop}
variable {s:PySem.Shared}
variable {h:PySem.Heap}
variable {z:Int}
variable {g:Type}
variable {m:List Bool}
variable {R:List (List Nat)}
variable {P:PySem.Program}
variable {w:PySem.World}
variable {B:List Int}
variable {C:List (PySem.Addr×PySem.Obj)}
variable {D:List PySem.Addr}
variable {E:List PySem.Expr}
variable {G:List PySem.Value}
variable {O:Array PySem.Value}
section
open PySem
abbrev Aa:=Option Value->Shared->Prop
abbrev Ab:=Value->Shared->Prop
abbrev Ac:=List (Addr×Obj)
abbrev Ad:=List (List Nat)
abbrev Ae:=Str->Option Value
abbrev Af:=PySem.W.Frag
abbrev Ag:=List Value
abbrev Ah:=Array Value
abbrev Ai:=List Str
abbrev Aj:=List Nat
abbrev Ak:=List Int
abbrev Am:=List Bool
abbrev An:=List Expr
abbrev Ao:=FuncData
abbrev Aq:=Program
abbrev Ar:=Around
abbrev As:=Shared
abbrev Au:=World
abbrev Av:=Value
abbrev Aw:=Addr
abbrev Ax:=Expr
abbrev Ay:=Stmt
abbrev A9{q:Type}(p:Program)(w:World):=@wpAny q (model p w)
end
open PySem PySem.Spec PyProof.Rows
namespace L2
def uU:0<=sizeLine:=Va
def CV:1<=sizeLine:=Va
def GF:2<=sizeLine:=Va
def vZ:3<=sizeLine:=Va
def IV:4<=sizeLine:=Va
def EE:5<=sizeLine:=Va
def Cd:6<=sizeLine:=Va
def KJ:7<=sizeLine:=Va
def L8:8<=sizeLine:=Va
def FX:10<=sizeLine:=Va
def F5:11<=sizeLine:=Va
def Fv:16<=sizeLine:=Va
abbrev aX:=Sum Int Str
def zk:aX->Value->Bool
 |.inl k,v=>Value.isInt k v
 |.inr x,v=>Value.isStrOf x v
def MW(w:Au):aX->Int
 |.inl k=>hashInt k
 |.inr x=>hashStr w x
theorem Yx:∀{k:aX} {v:Av},zk k v=true->(∃i t,k=Sum.inl i/\v=Value.int i t)\/(∃x t,k=Sum.inr x/\v=Value.str x t)
 |.inl i,v,h=>by
  obtain⟨t,e⟩:=Value.isInt_shape h;exact .inl ⟨i,t,U,e⟩
 |.inr x,v,h=>by
  obtain⟨t,e⟩:=Lr h;exact .inr ⟨x,t,U,e⟩
def Sh(i:Int)(t:Tok):zk (.inl i) (.int i t)=true:=by simp[zk,Value.isInt]
def VZ(x:Str)(t:Tok):zk (.inr x) (.str x t)=true:=by simp[zk,Value.isStrOf]
def CL(a b:Int):decide ((Sum.inl a:aX)=Sum.inl b)=(a == b):=Vc
def Bx(a b:Str):decide ((Sum.inr a:aX)=Sum.inr b)=decide (a=b):=(by simp_all)
def CY(a:Int)(b:Str):decide ((Sum.inl a:aX)=Sum.inr b)=false:=Vc
def Cw(a:Str)(b:Int):decide ((Sum.inr a:aX)=Sum.inl b)=false:=Vc
def Yt(ww:Aq)(w:Au):PySem.KeyKind ww w aX where
 is:=zk
 hash:=MW w
 inj:=λv a b C r=>by
  rcases Yx C with⟨i,t,rfl,rfl⟩|⟨x,t,rfl,rfl⟩
  .rcases Yx r with⟨j,u,rfl,e⟩|⟨y,u,rfl,e⟩
   .injection e with e1 _;rw[e1]
   .exact nomatch e
  .rcases Yx r with⟨j,u,rfl,e⟩|⟨y,u,rfl,e⟩
   .exact nomatch e
   .injection e with e1 _;rw[e1]
 byValue:=λk v h=>by
  rcases Yx h with⟨i,t,rfl,rfl⟩|⟨x,t,rfl,rfl⟩<;>rfl
 pyHash:=λq h=>by
  rcases Yx q with⟨i,t,rfl,rfl⟩|⟨x,t,rfl,rfl⟩
  .exact KW h
  .exact wpAny_pyHash_str h
 eqBool:=λB q h=>by
  rcases Yx B with⟨i,t,rfl,rfl⟩|⟨x,t,rfl,rfl⟩
  .rcases Yx q with⟨j,u,rfl,rfl⟩|⟨y,u,rfl,rfl⟩
   .rw[CL]at h;exact LH h
   .rw[CY]at h;exact SeqAt.EqAt.int_str i t y u _ _ _ _ h
  .rcases Yx q with⟨j,u,rfl,rfl⟩|⟨y,u,rfl,rfl⟩
   .rw[Cw]at h;exact SeqAt.EqAt.str_int x t j u _ _ _ _ h
   .rw[Bx]at h;exact wpAny_eqBool_str h
 «strs»:=λk x t v h=>by
  rcases Yx h with⟨i,u,rfl,e⟩|⟨y,u,rfl,e⟩
  .exact nomatch e
  .injection e with e1 _;subst e1;cases v<;>rfl
def Vw(ww:Aq)(w:Au)(k:aX)(v:Av):(Yt ww w).is k v=zk k v:=rfl
def gB(ww:Aq)(w:Au)(i:Int)(t:Tok):(Yt ww w).is (.inl i) (.int i t)=true:=Sh i t
def Gz(ww:Aq)(w:Au)(x:Str)(t:Tok):(Yt ww w).is (.inr x) (.str x t)=true:=VZ x t
inductive V where
 |bN|bl (b:Bool)|int (i:Int)|str (x:Str)|oP (b:Array UInt8)|Du (b:UInt64)|ref (a:Aw)|ty (n:String)
 deriving DecidableEq
def aI:V->Value->Prop
 |.bN,u=>u=Value.none
 |.bl b,u=>u=Value.bool b
 |.int i,u=>∃t,u=Value.int i t
 |.str x,u=>∃t,u=Value.str x t
 |.oP b,u=>∃t,u=Value.bytes b t
 |.Du b,u=>∃t,u=Value.float b t
 |.ref a,u=>u=Value.ref a
 |.ty n,u=>u=Value.type n
abbrev aH:List V->List Av->Prop:=Paired aI
def aH.length{q:Ag}(r:aH xs q):xs.length=q.length:=Cq r
theorem aH.get:∀{xs:List V} {q:Ag} {i:Nat} {x:V},aH xs q->xs[i]?=some x->∃u,q[i]?=some u/\aI x u
 |_,_,_,_,.nil,e=>by simp at e
 |_,_,0,_,.cons r _,e=>(by simp_all)
 |_,_,i+1,x,.cons _ t,e=>by
  obtain⟨u,h1,h2⟩:=aH.get t (by simpa using e);exact⟨u,(by simp_all),h2⟩
theorem aH.set{x:V}{u:Av}(r:aI x u):∀{xs:List V} {B:Ag} (i:Nat),aH xs B->aH (xs.set i x) (B.set i u)
 |_,_,_,.nil=>.nil
 |_,_,0,.cons _ t=>.cons r t
 |_,_,i+1,.cons q t=>.cons q (aH.set r i t)
theorem aH.append:∀{xs ys:List V} {q B:Ag},aH xs q->aH ys B->aH (xs++ys) (q++B)
 |_,_,_,_,.nil,s=>s
 |_,_,_,_,.cons r t,s=>.cons r (aH.append t s)
theorem aH.take:∀{xs:List V} {q:Ag} (n:Nat),aH xs q->aH (xs.take n) (q.take n)
 |_,_,0,_=>.nil
 |_,_,_+1,.nil=>.nil
 |_,_,n+1,.cons r t=>.cons r (aH.take n t)
theorem aH.drop:∀{xs:List V} {q:Ag} (n:Nat),aH xs q->aH (xs.drop n) (q.drop n)
 |_,_,0,r=>r
 |_,_,_+1,.nil=>.nil
 |_,_,n+1,.cons _ t=>aH.drop n t
def nI:Option V->Option Av->Prop
 |some v,some u=>aI v u
 |none,none=>True
 |_,_=>False
def KV:List (g×V)->List (g×Av)->Prop:=Paired λ(p:g×V) (q:g×Av)=>p.1=q.1/\aI p.2 q.2
def kV:aX->V
 |.inl i=>.int i
 |.inr x=>.str x
inductive HO where
 |lst (xs:List V)
 |tup (xs:List V)
 |dK (wl:List (aX×V))|dT (wl:List (List aX×V))
 |set (S:Int->Bool) (n:Nat)
 |ins (C dx:Aw) (fs:List (Str×V))
 |own (x:Aw)
 |xd (fs:List (Str×V))
 |met (f x:Aw)
 |tF (lo hi:Int)
 |iL (o:Obj) (u:HO)
 |dO (ps:Ah)
 |ext (φ:Heap->Prop)
abbrev Hp:=Aw->Option HO
abbrev ac(a:Aw):Option V:=some (.ref a)
abbrev ad(a:Int):Option V:=some (.int a)
abbrev am(a:List V):Option HO:=some (.tup a)
abbrev ap(a:List V):Option HO:=some (.lst a)
def aA(H:Hp)(a:Aw)(o:HO):Hp:=λb=>if b=a then some o else H b
def Zb{o:HO}:aA H a o a=some o:=by unfold aA;rw[aK U]
def Zk{b:Aw}{o:HO}(h:b≠a):aA H a o b=H b:=by unfold aA;rw[aG h]
def yM{o u:HO}:aA (aA H a o) a u=aA H a u:=by
 funext b;unfold aA;split<;>rfl
def Yg{H:Hp}{b:Aw}{o u:HO}(h:H a=some o)(h':H b=some u)(d:o≠u):a≠b:=Vc
def Zo{H:Hp}{b:Aw}{o:HO}(h:H a=some o)(h':H b=none):a≠b:=Vc
def nM (h:Heap) (a:Aw) (xs:Ah):Prop:=∃o,h.get? a=some o/\o.cls=.type "tuple" /\ (∃n,o.data=.seq xs n)/\o.dict=none
def nM.tup{a:Aw}{xs:Ah}(p:nM h a xs):IsTup h a xs:=let⟨o,e,c,d,_⟩:=p;⟨o,e,c,d⟩
def nM.new (h:Heap) (xs:Ah):nM (h.push {cls:=.type "tuple",data:=.seq xs}) h.objs.size xs:=⟨_,bX _ U,U,⟨_,U⟩,U⟩
def nM.lt{a:Aw}{xs:Ah}(p:nM h a xs):a<h.objs.size:=p.tup.lt
section
variable (P:Aq)(w:Au)
def XJ(H:Hp)(h:Heap)(a:Aw):HO->Prop
 |.lst xs=>xs.length<=sizeLine/\∃(r:Ag)(n:Nat),aH xs r/\h.get? a=some {cls:=.type "list",data:=.seq r.toArray n}
 |.tup xs=>xs.length<=sizeLine/\∃r:Ag,aH xs r/\nM h a r.toArray
 |.dK wl=>wl.length<=sizeLine/\(a == sysModules)=false/\∃vs,KV wl vs/\h.DictOf (Yt P w) a vs
 |.dT wl=>wl.length<=sizeLine/\(a == sysModules)=false/\∃xs:List (List aX×Aw×Av),
   Paired (λ(p:List aX×V) (q:List aX×Aw×Av)=>p.1=q.1/\H q.2.1=am (p.1.map kV)/\aI p.2 q.2.2) wl xs /\
   ∃o es ep,h.get? a=some o/\o.ExactDict/\o.data=.dict es ep/\es.toList=xs.map (entryOfKey (tupleKind (Yt P w)))/\(xs.map (·.1)).Nodup
 |.set S n=>h.SetOf (intKind P w) a S n
 |.ins C dx fs=>H dx=some (.own a)/\fs.length<=1000/\dx≠a/\h.get? a=some (PySem.W.instObj C dx) /\
   ∃mA,h.Ns1 dx mA/\(∀f,nI (fs.lookup f) (mA f))/\PySem.Within mA (fs.map (·.1))
 |.own _=>∃o,h.get? a=some o
 |.xd fs=>∃mA,h.Ns1 a mA/\∀f,nI (fs.lookup f) (mA f)
 |.tF lo hi=>∃t u v,h.get? a=some {cls:=.type "range",data:=.fields #[.int lo t,.int hi u,.int 1 v]}
 |.iL o u=>h.get? a=some o/\XJ H h a u
 |.dO ps=>h.get? a=some {cls:=.none,data:=.fields ps}
 |.met f x=>h.get? a=some (PySem.W.methodObj (.ref f) (.ref x))
 |.ext φ=>φ h/\(∃o,h.get? a=some o)/\∀h1 h2:Heap,φ h1->(∀o,h1.get? a=some o->h2.get? a=some o)->φ h2
def cO(H:Hp)(h:Heap):Prop:=∀a o,H a=some o->XJ P w H h a o
end
section
variable {P:Aq}{w:Au}{H H':Hp}{h h':Heap}{a:Aw}{o:HO}
def XJ.lt(x:XJ P w H h a o):a<h.objs.size:=by
 cases o with
 |lst xs=>obtain⟨_,_,_,_,e⟩:=x;exact bH e
 |tup xs=>obtain⟨_,_,_,p⟩:=x;exact p.lt
 |dK wl=>revert x;refine θ2 λ_ _=>ε1 λ_=>θ1 λ_=>ε3 λo _ _=>θ1 λe _=>?_;exact bH e
 |dT wl=>revert x;refine θ2 λ_ _=>ε1 λ_=>θ1 λ_=>ε3 λo _ _=>θ1 λe _=>?_;exact bH e
 |set S n=>revert x;refine ε4 λo _ _ _=>θ1 λe _=>?_;exact bH e
 |ins C dx fs=>revert x;refine θ4 λ_ _ _ e _=>?_;exact bH e
 |own y=>obtain⟨_,e⟩:=x;exact bH e
 |xd fs=>obtain⟨_,⟨_,_,_,e,_⟩,_⟩:=x;exact bH e
 |tF lo hi=>obtain⟨_,_,_,e⟩:=x;exact bH e
 |iL ob u=>obtain⟨e,_⟩:=x;exact bH e
 |dO ps=>exact bH (x)
 |met f y=>exact bH (x)
 |ext φ=>obtain⟨_,⟨_,e⟩,_⟩:=x;exact bH e
theorem Paired.rN{F G:α->β->Prop}:∀{q:List α} {B:List β},Paired F q B->(∀a b,F a b->G a b)->Paired G q B
 |_,_,.nil,_=>.nil
 |_,_,.cons r t,f=>.cons (f _ _ r) (Paired.rN t f)
theorem XJ.cW(x:XJ P w H h a o)(k:∀b u,(b=a\/H b=some (.own a))->h.get? b=some u->h'.get? b=some u)
  (F:∀b,H b=some (.own a)->H' b=some (.own a)) (G:∀b xs,H b=am xs->H' b=am xs):XJ P w H' h' a o:=by
 induction o with
 |lst xs=>obtain⟨z,B,n,r,e⟩:=x;exact⟨z,B,n,r,k _ _ (.inl U) e⟩
 |tup xs=>obtain⟨z,B,r,ob,e,c⟩:=x;exact⟨z,B,r,ob,k _ _ (.inl U) e,c⟩
 |dK wl=>revert x;refine θ2 λz y=>ε1 λvs=>θ1 λr=>ε3 λob es ep=>θ1 λe c=>?_;exact⟨z,y,vs,r,ob,es,ep,k _ _ (.inl U) e,c⟩
 |dT wl=>
  revert x;refine θ2 λz y=>ε1 λxs=>θ1 λr=>ε3 λob es ep=>θ1 λe c=>?_;exact⟨z,y,xs,Paired.rN r λp q z=>⟨z.1,G _ _ z.2.1,z.2.2⟩,ob,es,ep,k _ _ (.inl U) e,c⟩
 |set S n=>revert x;refine ε4 λob es ep t=>θ1 λe c=>?_;exact ι4 ob es ep t ⟨k _ _ (.inl U) e,c⟩
 |ins C dx fs=>
  obtain⟨d,z,ne,e,mA,⟨od,es,ep,e2,c⟩,r⟩:=x;exact⟨F _ d,z,ne,k _ _ (.inl U) e,mA,⟨od,es,ep,k _ _ (.inr d) e2,c⟩,r⟩
 |own y=>obtain⟨ob,e⟩:=x;exact⟨ob,k _ _ (.inl U) e⟩
 |xd fs=>obtain⟨mA,⟨od,es,ep,e,c⟩,r⟩:=x;exact⟨mA,⟨od,es,ep,k _ _ (.inl U) e,c⟩,r⟩
 |tF lo hi=>obtain⟨t,u,v,e⟩:=x;exact ι3 t u v (k _ _ (.inl U) e)
 |iL ob u D=>obtain⟨e,q⟩:=x;exact⟨k _ _ (.inl U) e,D q⟩
 |dO ps=>
  have e:=x;exact k a _ (.inl U) e
 |met f y=>
  have e:=x;exact k a _ (.inl U) e
 |ext φ=>obtain⟨p,⟨o,e⟩,st⟩:=x;exact⟨st _ _ p λo q=>k _ _ (.inl U) q,⟨o,k _ _ (.inl U) e⟩,st⟩
def cO.lt(x:cO P w H h)(e:H a=some o):a<h.objs.size:=(x a o e).lt
def cO.fresh(x:cO P w H h)(e:h.objs.size<=a):H a=none:=by
 cases q:H a with
 |none=>rfl
 |some u=>exact absurd (iE (x.lt q) e) (iC _)
theorem cO.kept(x:cO P w H h)(k:∀b u,h.get? b=some u->h'.get? b=some u):cO P w H h':=λa o e=>
 (x a o e).cW (λb u _ q=>k b u q) (λ_ q=>q) λ_ _ q=>q
theorem cO.laid(x:cO P w H h)(k:∀b u,h.get? b=some u->h'.get? b=some u)(C:h.objs.size<=a)(new:XJ P w (aA H a o) h' a o):cO P w (aA H a o) h':=λb u e=>by
 have r:=x.fresh C
 by_cases B:b=a
 .subst B;rw[Zb]at e;cases e;exact new
 .rw[Zk B]at e;exact(x b u e).cW (λc v _ q=>k c v q) (λc q=>by rw[Zk (Zo q r)];exact q) λc xs q=>by rw[Zk (Zo q r)];exact q
end
def Rd(H:Hp)(a:Aw)(u:HO):Prop:=H a=some u\/∃o,H a=some (.iL o u)
def Rd.ok{u:HO}(r:Rd H a u)(x:cO P w H h):XJ P w H h a u:=by
 rcases r with r|⟨o,r⟩
 .exact x a u r
 .obtain⟨_,q⟩:=x a _ r;exact q
def tI:Option HO->Prop
 |some (.lst _)=>True
 |some (.dK _)=>True
 |some (.dT _)=>True
 |some (.set _ _)=>True
 |some (.ins _ _ _)=>True
 |some (.ext _)=>True
 |_=>False
section
variable {P:Aq}{w:Au}{H:Hp}{h h':Heap}{x e:Aw}{o':HO}
def cO.write(ok:cO P w H h)(C:tI (H x))(L:e=x\/H e=some (.own x))(k:∀b u,b≠e->h.get? b=some u->h'.get? b=some u)(D:∃u,h'.get? e=some u)
  (new:XJ P w (aA H x o') h' x o'):cO P w (aA H x o') h':=λb u q=>by
 have B:∀c y,H c=some (.own y)->c≠x:=λc y r z=>by subst z;rw[r]at C;exact C
 by_cases G:b=x
 .subst G;rw[Zb]at q;cases q;exact new
 .rw[Zk G]at q
  by_cases F:b=e
  .have q':H b=some (.own x):=Vc
   rw[q]at q';cases q';obtain⟨v,J⟩:=D;exact⟨v,Vc⟩
  .refine(ok b u q).cW (λc v I r=>k c v ?_ r) (λc r=>by rw[Zk (B c b r)];exact r) λc xs r=>by rw[Zk ((λc xs r z=>by subst z;rw[r]at C;exact C) c xs r)];exact r
   rcases I with rfl|I
   .exact F
   .grind
end
structure Un(fs ex:List Aw)(H H':Hp)(h h':Heap):Prop where
 keep:∀b o,h.get? b=some o->H b=none->b∉fs->b∉ex->h'.get? b=some o
 slot:∀b o,h.get? b=some o->H b=none->b∈fs->b∉ex->∃sl,h'.get? b=some {o with slots:=sl}
 free:∀b o,h.get? b=some o->H b=none->b∉ex->H' b=none
 there:∀b o,h.get? b=some o->b∉ex->∃o',h'.get? b=some o'
 cB:∀b xs,H b=am xs->H' b=am xs
 dI:∀b o u,H b=some (.iL o u)->H' b=some (.iL o u)
 fN:∀b ps,H b=some (.dO ps)->∃more,H' b=some (.dO (ps++more))
section
variable {fs fs' ex ex':List Aw}{H H1 H2:Hp}{h h1 h2 h':Heap}{a x e:Aw}{o:HO}
def Un.any(u:Un fs ex H H1 h h1){b:Aw}{ob:Obj}(q:h.get? b=some ob)(n:H b=none)(r:b∉ex):∃C,h1.get? b=some {ob with slots:=C}:=by
 by_cases B:b∈fs
 .exact u.slot b ob q n B r
 .exact⟨_,u.keep b ob q n B r⟩
theorem Un.kept(k:∀b u,h.get? b=some u->h'.get? b=some u):Un fs ex H H h h':=
 ⟨λb ob q _ _ _=>k b ob q,λb ob q _ _ _=>⟨_,k b ob q⟩,λ_ _ _ n _=>n,λb ob q _=>⟨ob,k b ob q⟩,λ_ _ q=>q,λ_ _ _ q=>q,λ_ ps q=>⟨#[],Vc⟩⟩
def Un.refl:Un fs ex H H h h:=Un.kept λ_ _ q=>q
theorem Un.laid(k:∀b u,h.get? b=some u->h'.get? b=some u)(B:h.objs.size<=a)(r:H a=none):Un fs ex H (aA H a o) h h' where
 keep:=λb u q _ _ _=>k b u q
 slot:=λb u q _ _ _=>⟨u.slots,k b u q⟩
 free:=λb u q n _=>by rw[Zk (cI (iE (bH q) B))];exact n
 there:=λb u q _=>⟨u,k b u q⟩
 cB:=λb xs q=>by rw[Zk (Zo q r)];exact q
 dI:=λb u xs q=>by rw[Zk (Zo q r)];exact q
 fN:=λb ps q=>⟨#[],by rw[Zk (Zo q r),q];simp⟩
def Un.write(F:tI (H x))(I:e=x\/H e=some (.own x))(k:∀b u,b≠e->h.get? b=some u->h'.get? b=some u)(B:∃u,h'.get? e=some u):Un fs ex H (aA H x o) h h':=by
 have G:∀b,H b=none->b≠x:=λb n z=>by subst z;rw[n]at F;exact F
 have D:∀b,H b=none->b≠e:=λb n z=>by
  grind
 have C:∀b u,H b=some u->¬tI (some u)->b≠x:=λb u q nm z=>Vc
 refine⟨λb u q n _ _=>k b u (D b n) q,λb u q n _ _=>⟨u.slots,k b u (D b n) q⟩,λb u q n _=>by rw[Zk (G b n)];exact n,λb u q _=>?_,
  λb xs q=>by rw[Zk (C b _ q λz=>z)];exact q,λb u xs q=>by rw[Zk (C b _ q λz=>z)];exact q,λb ps q=>⟨#[],by rw[Zk (C b _ q λz=>z),q];simp⟩⟩
 by_cases r:b=e
 .subst r;exact B
 .exact⟨u,k b u r q⟩
end
def Uu(h:Heap)(H:Hp):List Aw:=(List.range h.objs.size).filter λa=>(H a).isSome
def sR(h:Heap)(H:Hp):Heap:=PySem.W.hideAll h (Uu h H)
theorem RX{b:Aw}{o:Obj}(e:h.get? b=some o)(n:H b=none):(sR h H).get? b=some o:=
 PySem.W.hideAll_get _ e λr=>by
  have q:=(oD.mp r).2;rw[n]at q;simp at q
def Ti{b:Aw}{o:Obj}(e:(sR h H).get? b=some o):h.get? b=some o/\H b=none:=by
 have r:=PySem.W.of_hideAll _ e;refine⟨r,?_⟩;cases q:H b with
 |none=>rfl
 |some x=>
  have z:(sR h H).get? b=none:=PySem.W.hideAll_none _ (oD.mpr ⟨e8.mpr (bH r),by simp[q]⟩);rw[z]at e;cases e
structure Mod(K:Af)(mg:Ae)(base:Heap):Prop where
 Fb:K.In base
 glob:base.Ns mainGlobals mg
 blt:∃mb,base.Ns builtinsNs mb/\∀x:Str,x ≠ "__name__" ->mb x=bootBuiltins x
 nolimit:base.NoLimit
set_option genInjectivity false in
set_option genSizeOfSpec false in
structure Cx where
 prog:Aq
 w:Au
 K:Af
 mg:Ae
 base:Heap
 A:Ar
 N:Ai
 s₀:As
 H₀:Hp
 env:Env
 outer:List Env
 stack:List Env
 ex:List Aw
 fn:Str->Bool
 calm:Bool
 pn:Ac
 xe:Ab
abbrev Ba{q:Type}(X:Cx):=@wpAny q (model X.prog X.w) X.A
def mT(l:List Env):List Aw:=l.filterMap (·.frame)
abbrev Cx.fs(X:Cx):List Aw:=mT X.outer
def IH(q:Scope)(x:Str):Prop:=q.names.lookup x=some .local\/q.names.lookup x=some .cell\/q.names.lookup x=some .free
def o6(q:Scope)(x:Str):Prop:=q.names.lookup x=some .local\/q.names.lookup x=some .cell
def Look(env:Env)(h:Heap)(m:Ae)(x:Str)(u:Av):Prop:=
 (env.kindOf x=some .local/\m x=some u)\/((env.kindOf x=some .cell\/env.kindOf x=some .free)/\∃c,env.cells.lookup x=some c/\h.IsCell c (some u))
set_option genInjectivity false in
set_option genSizeOfSpec false in
structure Cx.Ok(X:Cx):Prop where
 mod:Mod X.K X.mg X.base
 kind:X.env.scope.kind=.function
 glob:X.env.globals=mainGlobals
 blt:X.env.builtins=builtinsNs
 above:X.s₀.heap.objs.size<=X.env.locals
 inj:∀x y c,X.env.cells.lookup x=some c->X.env.cells.lookup y=some c->x=y
 has:∀x,(X.env.kindOf x=some .cell\/X.env.kindOf x=some .free)->∃c,X.env.cells.lookup x=some c
 CK:∀x c,X.fn x=true->X.env.cells.lookup x=some c->X.s₀.heap.objs.size<=c
 hd:X.calm=true->X.A.handled=none
 frames:X.A.frames=some X.stack
 oO:X.stack=X.outer\/(X.stack=X.env::X.outer/\X.env.frame=some X.env.locals)
 Ee:∀b∈X.ex,b≠X.env.locals/\∀x c,X.env.cells.lookup x=some c->c≠b
 bs:∀b o,X.base.get? b=some o->X.s₀.heap.get? b=some o/\X.H₀ b=none
 nH:X.base.objs.size<=X.s₀.heap.objs.size
 nF:∀b o,X.base.get? b=some o->b∉X.ex
 nJ:∀b∈X.ex,b∉X.fs
 cR:X.s₀.heap.FunFrames X.base X.outer
 oT:∀b∈X.fs,X.H₀ b=none
structure aD(X:Cx)(zn:Ac)(σ:List (Option V))(H:Hp)(s:As):Prop where
 ok:X.Ok
 os:s.os=X.s₀.os
 bare:AllBare s.gens
 base:Un X.fs X.ex X.H₀ H X.s₀.heap s.heap
 loc:∃m,s.heap.Ns X.env.locals m/\∀(i:Nat)(x:Str)(v:V),X.N[i]?=some x->σ[i]?=some (some v)->IH X.env.scope x->∃u,aI v u/\Look X.env s.heap m x u
 cell:∀x c,X.env.cells.lookup x=some c->∃v,s.heap.IsCell c v
 free:H X.env.locals=none
 cL:∀x c,X.env.cells.lookup x=some c->H c=none
 pin:∀p∈X.pn++zn,s.heap.get? p.1=some p.2/\H p.1=none/\p.1≠X.env.locals/\p.1∉X.fs/\∀v,p.2.data≠.cell v
 aM:cO X.prog X.w H s.heap
 len:σ.length=X.N.length
section
variable {X:Cx}{zn:Ac}{σ:List (Option V)}{H H':Hp}{s:As}{h':Heap}
theorem Cx.Ok.Ms(ok:X.Ok){b:Aw}{o:Obj}(e:X.base.get? b=some o):b∉X.fs:=λq=>by
 have:=(ok.cR.mem q).1;rw[e]at this;cases this
theorem aD.bs(I:aD X zn σ H s):∀b o,X.base.get? b=some o->s.heap.get? b=some o/\H b=none:=λb o e=>
 ⟨I.base.keep b o (I.ok.bs b o e).1 (I.ok.bs b o e).2 (I.ok.Ms e) (I.ok.nF b o e),I.base.free b o (I.ok.bs b o e).1 (I.ok.bs b o e).2 (I.ok.nF b o e)⟩
def aD.bk(I:aD X zn σ H s):∀b o,X.base.get? b=some o->s.heap.get? b=some o:=λb o e=>(I.bs b o e).1
def aD.mod(I:aD X zn σ H s):Mod X.K X.mg X.base:=I.ok.mod
def aD.fT(I:aD X zn σ H s):X.K.In s.heap:=I.ok.mod.Fb.keeps I.bk
def aD.lt(I:aD X zn σ H s):X.env.locals<s.heap.objs.size:=let⟨_,hn,_⟩:=I.loc;hn.lt
def aD.sz(I:aD X zn σ H s):X.s₀.heap.objs.size<=s.heap.objs.size:=cC I.ok.above (bL I.lt)
theorem aD.M1(I:aD X zn σ H s)(h:s.heap.objs.size<=a):a∉X.fs:=λr=>by
 obtain⟨_,o,q,_⟩:=I.ok.cR.mem r;exact absurd (iE (bH q) (cC I.sz h)) (iC _)
theorem aD.Bw(I:aD X zn σ H s):∀x c,X.env.cells.lookup x=some c->c≠X.env.locals:=λx c e z=>by
 obtain⟨v,o,C,B⟩:=I.cell x c e;obtain⟨m,⟨o',es,ep,r,q,_⟩,_⟩:=I.loc;rw[z,r]at C;cases C;rw[q]at B;cases B
theorem aD.cR(I:aD X zn σ H s):s.heap.FunFrames X.base X.outer:=by
 have all:∀(l:List Env),(∀b∈mT l,b∈X.fs)->X.s₀.heap.FunFrames X.base l->s.heap.FunFrames X.base l:=by
  intro l
  induction l with
  |nil=>intro _ _;trivial
  |cons env r G=>
   rintro hs ⟨J,⟨L,o,q,O,F,D⟩,Ua⟩;have C:=hs L (by unfold mT;rw[Fm,q];exact bM);obtain⟨Y,e⟩:=I.base.slot L o F (I.ok.oT L C) C λz=>I.ok.nJ L z C;exact⟨J,⟨L,_,q,O,e,D⟩,G (λb B=>hs b (by unfold mT;rw[Fm,q];exact b8 _ B)) Ua⟩
 exact all X.outer (λ_ B=>B) I.ok.cR
def aD.stack(I:aD X zn σ H s):s.heap.FunFrames X.base X.stack:=by
 rcases I.ok.oO with e|⟨e,q⟩
 .rw[e];exact I.cR
 .rw[e];obtain⟨m,r,_⟩:=I.loc;refine .cons (by rw[I.ok.kind];decide) q r (Heap.get?_none_of_le (cC I.ok.nH I.ok.above)) I.cR
theorem aD.iQ(I:aD X zn σ H s):∀b∈mT X.stack,b∈X.env.locals::X.fs:=λb q=>by
 rcases I.ok.oO with e|⟨e,r⟩
 .grind
 .rw[e]at q;unfold mT at q;rw[Fm,r]at q;exact q
theorem aD.mD(I:aD X zn σ H s):∀b∈mT X.stack,H b=none:=λb q=>by
 rcases bJ.mp (I.iQ b q)with e|q
 .rw[e];exact I.free
 .obtain⟨_,o,r,_⟩:=I.ok.cR.mem q;exact I.base.free b o r (I.ok.oT b q) λz=>I.ok.nJ b z q
def aD.step{d':Drawn}{ch:List Aw}(I:aD X zn σ H s)
  (C:∀b∈ch,(b∈X.ex\/X.s₀.heap.objs.size<=b)/\b≠X.env.locals/\(∀x c,X.env.cells.lookup x=some c->c≠b)/\∀p∈X.pn++zn,p.1≠b)
  (keep:∀b o,b≠X.env.locals->b∉X.fs->b∉ch->s.heap.get? b=some o->H b=none->h'.get? b=some o)
  (J:∀b o,b≠X.env.locals->b∈X.fs->b∉ch->s.heap.get? b=some o->H b=none->∃sl,h'.get? b=some {o with slots:=sl}) (free:∀b o,b∉ch->s.heap.get? b=some o->H b=none->H' b=none)
  (L:∀b o,b∉ch->s.heap.get? b=some o->∃o',h'.get? b=some o')
  (cB:∀b xs,H b=am xs->H' b=am xs) (dI:∀b o u,H b=some (.iL o u)->H' b=some (.iL o u)) (Y:∀b ps,H b=some (.dO ps)->∃Ua,H' b=some (.dO (ps++Ua)))
  (ns:∀m,s.heap.Ns X.env.locals m->h'.Ns X.env.locals m) (aM:cO X.prog X.w H' h') (hg:AllBare g'):
  aD X zn σ H' {s with heap:=h',gens:=g',drawn:=d',toks:=t'}:=by
 have Z:∀b o,X.s₀.heap.get? b=some o->b≠X.env.locals:=λb o e=>cI (iE (bH e) I.ok.above);have G:∀b o,X.s₀.heap.get? b=some o->b∉X.ex->b∉ch:=λb o e B O=>by
  rcases(C b O).1 with z|z
  .exact B z
  .exact absurd (iE (bH e) z) (iC _)
 have D:∀x c,X.env.cells.lookup x=some c->∀v,s.heap.IsCell c v->h'.IsCell c v:=λx c e v ⟨o,T,hd⟩=>by
  have F:=λz=>(C c z).2.2.1 x c e U
  by_cases hc:c∈X.fs
  .obtain⟨sl,q⟩:=J c o (I.Bw x c e) hc F T (I.cL x c e);exact⟨_,q,hd⟩
  .exact⟨o,keep c o (I.Bw x c e) hc F T (I.cL x c e),hd⟩
 refine⟨I.ok,I.os,hg,⟨λb o e n O B=>(keep b o (Z b o e) O (G b o e B) (I.base.keep b o e n O B) (I.base.free b o e n B)),λb o e n O B=>?_,λb o e n B=>?_,λb o e B=>?_,λb xs e=>cB b xs (I.base.cB b xs e),λb o xs e=>dI b o xs (I.base.dI b o xs e),λb ps e=>?_⟩,?_,λx c e=>?_,?_,λx c e=>?_,λp hp=>?_,aM,I.len⟩
 .obtain⟨sl,e1⟩:=I.base.slot b o e n O B;obtain⟨sl',e2⟩:=J b _ (Z b o e) O (G b o e B) e1 (I.base.free b o e n B);exact⟨sl',e2⟩
 .obtain⟨o',e1⟩:=I.base.there b o e B;exact free b o' (G b o e B) e1 (I.base.free b o e n B)
 .obtain⟨o',e1⟩:=I.base.there b o e B;exact L b o' (G b o e B) e1
 .obtain⟨m1,e1⟩:=I.base.fN b ps e;obtain⟨m2,e2⟩:=Y b _ e1;exact⟨m1++m2,Vc⟩
 .obtain⟨m,hn,hl⟩:=I.loc;refine⟨m,ns m hn,λi x v e1 e2 e3=>?_⟩;obtain⟨u,r,l⟩:=hl i x v e1 e2 e3;refine⟨u,r,?_⟩;rcases l with l|⟨k,c,e,z⟩
  .exact .inl l
  .exact .inr ⟨k,c,e,D x c e _ z⟩
 .obtain⟨v,z⟩:=I.cell x c e;exact⟨v,D x c e v z⟩
 .obtain⟨m,⟨o,_,_,T,_⟩,_⟩:=I.loc;exact free _ o (λz=>(C _ z).2.1 rfl) T I.free
 .obtain⟨v,o,T,hd⟩:=I.cell x c e;exact free c o (λz=>(C c z).2.2.1 x c e U) T (I.cL x c e)
 .refine ω (I.pin p hp) (θ4 λe n ne nf d=>?_);have F:=λz=>(C p.1 z).2.2.2 p hp rfl;exact⟨keep p.1 p.2 ne nf F e n,free p.1 p.2 F e n,ne,nf,d⟩
def aD.un(I:aD X zn σ H s)(u:Un X.fs [] H H' s.heap h')(D:cO X.prog X.w H' h'):aD X zn σ H' {s with heap:=h',toks:=t'}:=by
 obtain⟨m,⟨o,es,ep,G,r⟩,_⟩:=id I.loc;obtain⟨T,O⟩:=u.any G I.free Vd;exact I.step (ch:=[]) (λ_ z=>nomatch z) (λb o _ B _ e n=>u.keep b o e n B Vd) (λb o _ B _ e n=>u.slot b o e n B Vd) (λb o _ e n=>u.free b o e n Vd) (λb o _ e=>u.there b o e Vd) u.cB u.dI u.fN (λUa L=>by
  obtain⟨o',F,C,q,J⟩:=L;rw[G]at q;cases q;exact ι3 _ F C ⟨O,J⟩) D I.bare
def aD.call{O:Array GenState}{t':Nat}{d':Drawn}{ch:List Aw}(I:aD X zn σ H s)(u:Un (mT X.stack) ch H H' s.heap h')(F:cO X.prog X.w H' h')(Z:AllBare O)
  (C:∀b∈ch,(b∈X.ex\/X.s₀.heap.objs.size<=b)/\b≠X.env.locals/\(∀x c,X.env.cells.lookup x=some c->c≠b)/\∀p∈X.pn++zn,p.1≠b):
  aD X zn σ H' {s with heap:=h',gens:=O,drawn:=d',toks:=t'}:=by
 obtain⟨m,⟨o,es,ep,L,r⟩,_⟩:=id I.loc;obtain⟨sl,J⟩:=u.any L I.free λz=>(C _ z).2.1 rfl;exact I.step C (λb o J Ua q e n=>u.keep b o e n (λz=>(bJ.mp (I.iQ b z)).elim J Ua) q) (λb o _ _ q e n=>u.any e n q) (λb o q e n=>u.free b o e n q) (λb o q e=>u.there b o e q) u.cB u.dI u.fN (λm' T=>by
  obtain⟨o',G,D,B,Y⟩:=T;rw[L]at B;cases B;exact ι3 _ G D ⟨J,Y⟩) F Z
def aD.turned{it:Aw}(I:aD X zn σ H s)(k:∀b o,b≠it->s.heap.get? b=some o->h'.get? b=some o)(O:H it=none)(G:it≠X.env.locals)
  (h1:it∈X.ex\/X.s₀.heap.objs.size<=it) (h2:∀x c,X.env.cells.lookup x=some c->c≠it) (L:∀p∈X.pn++zn,p.1≠it):aD X zn σ H {s with heap:=h',toks:=t'}:=by
 have C:∀b u,H b=some u->b≠it:=λb u e z=>Vb
 refine I.step (ch:=[it]) (λb J=>?_) (λb o _ _ B e _=>k b o (λz=>B (by simp[z])) e) (λb o _ _ B e _=>⟨o.slots,k b o (λz=>B (by simp[z])) e⟩) (λ_ _ _ _ n=>n)
  (λb o B e=>⟨o,k b o (λz=>B (by simp[z])) e⟩) (λ_ _ e=>e) (λ_ _ _ e=>e) (λb ps e=>⟨#[],Vc⟩) (λm F=>?_) (λb u e=>?_) I.bare
 .grind
 .obtain⟨o,es,ep,D,r⟩:=F;exact ι3 o es ep ⟨k _ o (eN G) D,r⟩
 .refine(I.aM b u e).cW (λc v B q=>k c v ?_ q) (λ_ q=>q) λ_ _ q=>q
  rcases B with z|z
  .rw[z];exact C b u e
  .exact C c _ z
def aD.tok(I:aD X zn σ H s)(t:Nat):aD X zn σ H {s with toks:=t}:=I.un Un.refl I.aM
def aD.kept(I:aD X zn σ H s)(k:∀b u,s.heap.get? b=some u->h'.get? b=some u):aD X zn σ H {s with heap:=h',toks:=t'}:=I.un (Un.kept k) (I.aM.kept k)
theorem aD.laid{a:Aw}{o:HO}{t':Nat}(I:aD X zn σ H s)(k:∀b u,s.heap.get? b=some u->h'.get? b=some u)(q:s.heap.objs.size<=a)(new:XJ X.prog X.w (aA H a o) h' a o):
  aD X zn σ (aA H a o) {s with heap:=h',toks:=t'}:=I.un (Un.laid k q (I.aM.fresh q)) (I.aM.laid k q new)
theorem aD.write{x e:Aw}{o:HO}{t':Nat}(I:aD X zn σ H s)(B:tI (H x))(r:e=x\/H e=some (.own x))(k:∀b u,b≠e->s.heap.get? b=some u->h'.get? b=some u)(q:∃u,h'.get? e=some u)
  (new:XJ X.prog X.w (aA H x o) h' x o):aD X zn σ (aA H x o) {s with heap:=h',toks:=t'}:=I.un (Un.write B r k q) (I.aM.write B r k q new)
theorem aD.dD(I:aD X zn σ H s)(h:∀p∈C,s.heap.get? p.1=some p.2/\H p.1=none/\p.1≠X.env.locals/\p.1∉X.fs/\∀v,p.2.data≠.cell v):aD X C σ H s:=
 ⟨I.ok,I.os,I.bare,I.base,I.loc,I.cell,I.free,I.cL,λp q=>(cT.mp q).elim (λz=>I.pin p (Er _ z)) (h p),I.aM,I.len⟩
def uV(q:N.Nodup){j:Nat}(a:N[i]?=some x)(b:N[j]?=some x):i=j:=by
 obtain⟨h1,e1⟩:=bW.mp a;obtain⟨h2,e2⟩:=bW.mp b;exact(List.getElem_inj q).mp (e1.trans e2.symm)
theorem VH{M:Model}{A:Ar}{E:Ab}{v:V}{Q:Unit->Shared->Prop}(I:aD X zn σ H s)(hN:X.N.Nodup)(hi:X.N[i]?=some x)(D:o6 X.env.scope x)(r:aI v u)
  (h:∀s',aD X zn (σ.set i (some v)) H s'->(∃a,Heap.SameBut a s.heap s'.heap/\(a=X.env.locals\/X.env.cells.lookup x=some a))->Q () s') (hf:X.fn x=true\/X.env.scope.names.lookup x=some .local:=by first|exact .inl U|exact .inr U|assumption):wpAny M A (storeName X.env x u) Q E s:=by
 obtain⟨m,hn,hl⟩:=id I.loc;have G:i<σ.length:=by rw[I.len];exact(bW.mp hi).1
 have Bw:=I.Bw;have B:∀{a:Aw} {h':Heap},(∃o,s.heap.get? a=some o/\H a=none)->Heap.SameBut a s.heap h'->cO X.prog X.w H h':=λ{a h'} ha hs b ob e=>by
  obtain⟨_,_,F⟩:=ha;refine(I.aM b ob e).cW (λc Z C q=>(hs.2 c ?_).trans q) (λ_ q=>q) λ_ _ q=>q;rintro rfl;rcases C with rfl|C
  .rw[F]at e;cases e
  .rw[F]at C;cases C
 rcases D with J|J
 .refine wpAny_storeName_local J hn (λh' hn' hs=>?_) (by rw[I.ok.kind];rfl);obtain⟨oL,_,_,hoL,_⟩:=id hn;refine h _ ⟨I.ok,I.os,I.bare,⟨λb o e n T D=>((hs.2 b (cI (iE (bH e) I.ok.above))).trans (I.base.keep b o e n T D)),λb o e n T D=>?_,I.base.free,λb o e D=>?_,I.base.cB,I.base.dI,I.base.fN⟩,⟨_,hn',λj y v' e1 e2 e3=>?_⟩,λy c e=>?_,I.free,I.cL,λp hp=>?_,B ⟨oL,hoL,I.free⟩ hs,by simpa using I.len⟩ ⟨_,hs,.inl U⟩
  .obtain⟨sl,e1⟩:=I.base.slot b o e n T D;exact⟨sl,(hs.2 b (cI (iE (bH e) I.ok.above))).trans e1⟩
  .obtain⟨o',e1⟩:=I.base.there b o e D;exact⟨o',(hs.2 b (cI (iE (bH e) I.ok.above))).trans e1⟩
  .by_cases O:j=i
   .subst O;rw[hi]at e1;cases e1;rw[List.getElem?_set_self G]at e2;cases e2;exact⟨u,r,.inl ⟨J,Vd⟩⟩
   .rw[List.getElem?_set_ne (eN O)]at e2;obtain⟨u',r',q⟩:=hl j y v' e1 e2 e3;refine⟨u',r',?_⟩;rcases q with⟨k,e⟩|⟨k,c,e,z⟩
    .refine .inl ⟨k,?_⟩;have:y≠x:=λe=>O (uV hN e1 (e ▸ hi));simp[this,e]
    .exact .inr ⟨k,c,e,z.sameBut hs (Bw y c e)⟩
  .obtain⟨Z,z⟩:=I.cell y c e;exact⟨Z,z.sameBut hs (Bw y c e)⟩
  .refine ω (I.pin p hp) (θ4 λe n ne nf d=>?_);exact⟨(hs.2 p.1 ne).trans e,n,ne,nf,d⟩
 .have L:X.fn x=true:=by
   rcases hf with z|z
   .exact z
   .rw[z]at J;cases J
  obtain⟨c,C⟩:=I.ok.has x (.inl J);obtain⟨Z,z⟩:=I.cell x c C;refine wpAny_storeName_cell I.ok.kind J C z (λh' Y hs=>?_);obtain⟨oc,hoc,hocd⟩:=id z;refine h _ ⟨I.ok,I.os,I.bare,⟨λb o e n T D=>((hs.2 b (cI (iE (bH e) (I.ok.CK x c L C)))).trans (I.base.keep b o e n T D)),λb o e n T D=>?_,I.base.free,λb o e D=>?_,I.base.cB,I.base.dI,I.base.fN⟩,⟨m,hn.sameBut hs (eN (Bw x c C)),λj y v' e1 e2 e3=>?_⟩,λy c' e=>?_,I.free,I.cL,λp hp=>?_,B ⟨oc,hoc,I.cL x c C⟩ hs,by simpa using I.len⟩ ⟨c,hs,.inr C⟩
  .obtain⟨sl,e1⟩:=I.base.slot b o e n T D;exact⟨sl,(hs.2 b (cI (iE (bH e) (I.ok.CK x c L C)))).trans e1⟩
  .obtain⟨o',e1⟩:=I.base.there b o e D;exact⟨o',(hs.2 b (cI (iE (bH e) (I.ok.CK x c L C)))).trans e1⟩
  .by_cases O:j=i
   .subst O;rw[hi]at e1;cases e1;rw[List.getElem?_set_self G]at e2;cases e2;exact⟨u,r,.inr ⟨.inl J,c,C,Y⟩⟩
   .rw[List.getElem?_set_ne (eN O)]at e2;obtain⟨u',r',q⟩:=hl j y v' e1 e2 e3;refine⟨u',r',?_⟩;rcases q with q|⟨k,c',e,z'⟩
    .exact .inl q
    .refine .inr ⟨k,c',e,z'.sameBut hs ?_⟩;rintro rfl;exact O (uV hN e1 (I.ok.inj _ _ _ e C ▸ hi))
  .by_cases Ua:c'=c
   .subst Ua;exact⟨_,Y⟩
   .obtain⟨w2,z2⟩:=I.cell y c' e;exact⟨w2,z2.sameBut hs Ua⟩
  .refine ω (I.pin p hp) (θ4 λe n ne nf d=>?_);refine⟨(hs.2 p.1 ?_).trans e,n,ne,nf,d⟩;intro q;rw[q]at e;exact d Z Vc
theorem JQ{M:Model}{A:Ar}{E:Ab}{v:V}{Q:Unit->Shared->Prop}(I:aD X zn σ H s)(C:X.N.Nodup)(hi:X.N[i]?=some x)(B:o6 X.env.scope x)(r:aI v u)
  (h:∀s',aD X zn (σ.set i (some v)) H s'->Q () s') (q:X.fn x=true\/X.env.scope.names.lookup x=some .local:=by first|exact .inl U|exact .inr U|assumption):wpAny M A (storeName X.env x u) Q E s:=
 VH I C hi B r (λs' D _=>h s' D) q
def aD.tR{ch:List Aw}(I:aD X zn σ H s)(B:s'.os=s.os)(u:Un (mT X.stack) ch H H' s.heap s'.heap)(r:cO X.prog X.w H' s'.heap)(C:AllBare s'.gens)
  (q:∀b∈ch,(b∈X.ex\/X.s₀.heap.objs.size<=b)/\b≠X.env.locals/\(∀x c,X.env.cells.lookup x=some c->c≠b)/\∀p∈X.pn++zn,p.1≠b):aD X zn σ H' s':=by
 obtain⟨h',D,F,t',o'⟩:=s';subst B;exact I.call u r C q
end
abbrev XK:=Av->Option Aw->Hp->Prop
abbrev St:=List (Option V)
abbrev Az:=List (List V)
abbrev A0:=List (aX×V)
abbrev A7:=St->Hp->Prop
abbrev A8:=List V
abbrev VK:=V->Hp->Prop
abbrev TE:=St->Hp->VK->Prop
abbrev TT:=St->Hp->(Bool->Hp->Prop)->Prop
abbrev TA:=St->Hp->(A8->Hp->Prop)->Prop
structure Ends where
 nx:A7
 rt:VK
 bk:A7:=λ_ _=>False
 ct:A7:=λ_ _=>False
abbrev TS:=Ends->St->Hp->Prop
inductive Ep(X:Cx)(zn:Ac)(σ:St)(Q:VK)(u:Av)(s':As):Prop
 |mk (v H':_):(aD X zn σ H' s')->(aI v u)->(Q v H')->Ep X zn σ Q u s'
def EP(X:Cx)(zn:Ac)(σ:St)(Q:VK)(u:Av)(s':As):Prop:=Ep X zn σ Q u s'
inductive F3(X:Cx)(zn:Ac)(σ:St)(Q:Bool->Hp->Prop)(b:Bool)(s':As):Prop
 |mk (H':_):(aD X zn σ H' s')->(Q b H')->F3 X zn σ Q b s'
def TP(X:Cx)(zn:Ac)(σ:St)(Q:Bool->Hp->Prop)(b:Bool)(s':As):Prop:=F3 X zn σ Q b s'
inductive F2(X:Cx)(zn:Ac)(σ:St)(Q:A8->Hp->Prop)(us:Ag)(s':As):Prop
 |mk (vs H':_):(aD X zn σ H' s')->(aH vs us)->(Q vs H')->F2 X zn σ Q us s'
def AP(X:Cx)(zn:Ac)(σ:St)(Q:A8->Hp->Prop)(q:Ag)(s':As):Prop:=F2 X zn σ Q q s'
def SP(X:Cx)(zn:Ac)(D:Ends)(f:Flow)(s':As):Prop:=
 match f with
 |.next=>∃q H',aD X zn q H' s'/\D.nx q H'
 |.brk=>∃q H',aD X zn q H' s'/\D.bk q H'
 |.cont=>∃q H',aD X zn q H' s'/\D.ct q H'
 |.ret u=>∃v q H',aD X zn q H' s'/\aI v u/\D.rt v H'
def PE(X:Cx)(e:Ax)(t:TE):Prop:=
 ∀(zn:Ac)(s:As)(σ:St)(H:Hp)(Q:VK),aD X zn σ H s->t σ H Q->Ba X (eval e X.env) (EP X zn σ Q) X.xe s
def PT(X:Cx)(e:Ax)(t:TT):Prop:=
 ∀(zn:Ac)(s:As)(σ:St)(H:Hp)(Q:Bool->Hp->Prop),aD X zn σ H s->t σ H Q->Ba X (isTrue e X.env (eval e X.env)) (TP X zn σ Q) X.xe s
def PW(X:Cx)(e:Ax)(t:TT):Prop:=
 ∀(q:Sem Av)(zn:Ac)(s:As)(σ:St)(H:Hp)(Q:Bool->Hp->Prop),aD X zn σ H s->t σ H Q->Ba X (isTrue e X.env q) (TP X zn σ Q) X.xe s
def PW.pt(h:PW X e t):PT X e t:=h _
def PA(X:Cx)(es:An)(t:TA):Prop:=
 ∀(pos:Pos)(zn:Ac)(s:As)(σ:St)(H:Hp)(Q:A8->Hp->Prop),aD X zn σ H s->t σ H Q->Ba X (spliced (backTo pos (starEach es X.env))) (AP X zn σ Q) X.xe s
def PS(X:Cx)(st:Ay)(t:TS):Prop:=
 ∀(zn:Ac)(s:As)(σ:St)(H:Hp)(D:Ends),aD X zn σ H s->t D σ H->Ba X (exec st X.env) (SP X zn D) X.xe s
def pZ(X:Cx)(st:List Ay)(t:TS):Prop:=
 ∀(zn:Ac)(s:As)(σ:St)(H:Hp)(D:Ends),aD X zn σ H s->t D σ H->Ba X (execs st X.env) (SP X zn D) X.xe s
def aR{t:Sem g}{Q q:g->Shared->Prop}{M:Model}{A:Ar}{E:Ab}(h:wpAny M A t Q E s)(r:∀a s,Q a s->q a s):wpAny M A t q E s:=j1 h r λ_ _ x=>x
section
variable {X:Cx}
inductive QH(i:Nat)(σ:St)(H:Hp)(Q:VK):Prop
 |mk (v:_):(σ[i]?=some (some v))->(Q v H)->QH i σ H Q
def rR(i:Nat):TE:=λσ H Q=>QH i σ H Q
def tC(v:V):TE:=λ_ H Q=>Q v H
def RQ    (L:X.N[i]?=some x) (G:IH X.env.scope x) (C:(x == ("__debug__" : Str))=false:=by decide) (D:(x == ("__classdict__" : Str))=false:=by decide):PE X (.Name x p) (rR i):=by
 rintro zn s σ H Q I ⟨v,e,h⟩;obtain⟨m,J,O⟩:=I.loc;obtain⟨u,r,l⟩:=O i x v L e G;have fin:EP X zn σ Q u s:=⟨v,H,I,r,h⟩;rcases l with⟨B,T⟩|⟨B,c,F,q⟩
 .exact wpAny_Name (wpAny_loadName_local I.ok.kind B J T fin) C
 .rcases B with B|B
  .exact wpAny_Name (wpAny_loadName_cell I.ok.kind B F q fin) C
  .exact wpAny_Name (wpAny_loadName_free I.ok.kind B F q fin D) C
def Gl(X:Cx)(x:Str):Prop:=X.env.kindOf x=some .globalImplicit
def yN{E:Ab}{σ:St}{H:Hp}(I:aD X C σ H s)(r:Gl X x)(B:X.mg x=some u)(h:Q u s)
  (q:(x == ("__debug__" : Str))=false:=by decide):Ba X (eval (.Name x p) X.env) Q E s:=
 Calls.Name_function_global I.ok.kind r (Calls.loadGlobal_global (by rw[I.ok.glob];exact I.mod.glob.keeps I.bk) B h) q
def GG{E:Ab}{σ:St}{H:Hp}(I:aD X C σ H s)(D:Gl X x)(F:X.mg x=none)(B:bootBuiltins x=some u)(h:Q u s)
  (r:x ≠ "__name__" :=by decide) (q:(x == ("__debug__" : Str))=false:=by decide):Ba X (eval (.Name x p) X.env) Q E s:=by
 obtain⟨G,h1,h2⟩:=I.mod.blt;exact Calls.Name_function_global I.ok.kind D (Calls.loadGlobal_builtin (by rw[I.ok.glob];exact I.mod.glob.keeps I.bk) F (by rw[I.ok.blt];exact h1.keeps I.bk) ((h2 x r).trans B) h) q
variable {a b:Ax}{ta tb:TE}{pos:Pos}
inductive FE(Q:Bool->Hp->Prop)(x:V)(H1:Hp):Prop
 |mk (c:_):(x=.bl c)->(Q c H1)->FE Q x H1
def tB(t:TE):TT:=λσ H Q=>t σ H λx H1=>FE Q x H1
variable {tA tB':TT}{pi:An}
def L0(t u:TT):TT:=λσ H Q=>t σ H λc H1=>if c=true then u σ H1 Q else Q false H1
def SO(t u:TT):TT:=λσ H Q=>t σ H λc H1=>if c=true then Q true H1 else u σ H1 Q
def M7(t:TT):TT:=λσ H Q=>t σ H λc H1=>Q (!c) H1
inductive NP(tb:TE)(σ:St)(Q:VK)(x:V)(H1:Hp):Prop
 |mk (c:_):(x=.bl c)->(if c=true then tb σ H1 Q else Q (.bl false) H1)->NP tb σ Q x H1
def Ej(ta tb:TE):TE:=λσ H Q=>ta σ H λx H1=>NP tb σ Q x H1
inductive PK(tb:TE)(σ:St)(Q:VK)(x:V)(H1:Hp):Prop
 |mk (c:_):(x=.bl c)->(if c=true then Q (.bl true) H1 else tb σ H1 Q)->PK tb σ Q x H1
def Io(ta tb:TE):TE:=λσ H Q=>ta σ H λx H1=>PK tb σ Q x H1
inductive NR(Q:VK)(x:V)(H1:Hp):Prop
 |mk (c:_):(x=.bl c)->(Q (.bl (!c)) H1)->NR Q x H1
def DQ(ta:TE):TE:=λσ H Q=>ta σ H λx H1=>NR Q x H1
end
def aB(K:Af)(H:Hp)(a:Aw)(xs:A8):Prop:=
 Rd H a (.lst xs) \/
  ∃(o:Obj)(q:Ah)(n:Nat),K.lookup a=some o/\o.cls=.type "list" /\ o.dict=none/\o.data=.seq q n/\q.size<=sizeLine/\aH xs q.toList
def aL(K:Af)(H:Hp)(a:Aw)(xs:A8):Prop:=
 Rd H a (.tup xs) \/
  ∃(o:Obj)(q:Ah)(n:Nat),K.lookup a=some o/\o.cls=.type "tuple" /\ o.data=.seq q n/\q.size<=sizeLine/\aH xs q.toList
def MY:Av->Option V
 |.none=>some .bN
 |.bool b=>some (.bl b)
 |.int i _=>ad i
 |.str x _=>some (.str x)
 |.bytes b _=>some (.oP b)
 |.float b _=>some (.Du b)
 |.ref a=>ac a
 |.type n=>some (.ty n)
 |_=>none
def aI.abs{x:V}(r:aI x u):MY u=some x:=by
 cases x with
 |bN=>cases r;rfl
 |bl _=>cases r;rfl
 |int _=>obtain⟨t,rfl⟩:=r;rfl
 |str _=>obtain⟨t,rfl⟩:=r;rfl
 |oP _=>obtain⟨t,rfl⟩:=r;rfl
 |Du _=>obtain⟨t,rfl⟩:=r;rfl
 |ref _=>cases r;rfl
 |ty _=>cases r;rfl
def aI.inj{x y:V}{u:Av}(r:aI x u)(q:aI y u):x=y:=Option.some.inj (r.abs.symm.trans q.abs)
theorem aH.inj:∀{xs ys:A8} {q:Ag},aH xs q->aH ys q->xs=ys
 |_,_,_,.nil,.nil=>rfl
 |_,_,_,.cons r t,.cons B t'=>by rw[r.inj B,aH.inj t t']
section
variable {X:Cx}{zn:Ac}{σ:St}{H:Hp}{s:As}{a:Aw}{xs ys:A8}
def aB.of(h:H a=ap xs):aB K H a xs:=.inl (.inl h)
def aL.of(h:H a=am xs):aL K H a xs:=.inl (.inl h)
def aD.list(I:aD X zn σ H s)(h:aB X.K H a xs):∃q:Ag,aH xs q/\PlainL s.heap a q.toArray/\xs.length<=sizeLine:=by
 rcases h with h|⟨o,q,n,C,D,B,hs,F,r⟩
 .obtain⟨z,q,n,r,e⟩:=h.ok I.aM;exact⟨q,r,ι2 _ n ⟨e,U,U,U⟩,z⟩
 .refine⟨_,r,ι2 o n ⟨I.fT a o C,D,B,by simpa using hs⟩,?_⟩;have e:=r.length;simp at e;lia
def aD.tuple(I:aD X zn σ H s)(h:aL X.K H a xs):∃q:Ag,aH xs q/\IsTup s.heap a q.toArray/\xs.length<=sizeLine:=by
 rcases h with h|⟨o,q,n,B,C,hs,D,r⟩
 .obtain⟨z,q,r,p⟩:=h.ok I.aM;exact⟨q,r,p.tup,z⟩
 .refine⟨_,r,⟨o,I.fT a o B,C,n,by simpa using hs⟩,?_⟩;have e:=r.length;simp at e;lia
def aD.j2(I:aD X zn σ H s)(h:aB X.K H a xs)(h':aB X.K H a ys):xs=ys:=by
 obtain⟨B,r,⟨o,n,e,_,_,d⟩,_⟩:=I.list h;obtain⟨q,F,⟨o',n',C,_,_,D⟩,_⟩:=I.list h';rw[e]at C;cases C;rw[d]at D;injection D with G _;have:B=q:=Vc
 subst this;exact r.inj F
def aD.dM(I:aD X zn σ H s)(h:aL X.K H a xs)(h':aL X.K H a ys):xs=ys:=by
 obtain⟨B,r,⟨o,e,_,n,d⟩,_⟩:=I.tuple h;obtain⟨q,F,⟨o',C,_,n',D⟩,_⟩:=I.tuple h';rw[e]at C;cases C;rw[d]at D;injection D with G _;have:B=q:=Vc
 subst this;exact r.inj F
end
abbrev Cx.fQ(X:Cx)(E:Ab):Cx:={X with xe:=E}
abbrev Cx.tX(X:Cx):Cx:=X.fQ λ_ _=>False
theorem Cx.Ok.fQ{X:Cx}(ok:X.Ok)(E:Ab):(X.fQ E).Ok:=
 ⟨ok.mod,ok.kind,ok.glob,ok.blt,ok.above,ok.inj,ok.has,ok.CK,ok.hd,ok.frames,ok.oO,ok.Ee,ok.bs,ok.nH,ok.nF,ok.nJ,ok.cR,ok.oT⟩
theorem Cx.Ok.cU{X:Cx}{E:Ab}(ok:(X.fQ E).Ok):X.Ok:=
 ⟨ok.mod,ok.kind,ok.glob,ok.blt,ok.above,ok.inj,ok.has,ok.CK,ok.hd,ok.frames,ok.oO,ok.Ee,ok.bs,ok.nH,ok.nF,ok.nJ,ok.cR,ok.oT⟩
section
variable {X:Cx}{zn:Ac}{σ:St}{H:Hp}{s:As}{E:Ab}
def aD.fQ(I:aD X zn σ H s)(E:Ab):aD (X.fQ E) zn σ H s:=⟨I.ok.fQ E,I.os,I.bare,I.base,I.loc,I.cell,I.free,I.cL,I.pin,I.aM,I.len⟩
def aD.cU(I:aD (X.fQ E) zn σ H s):aD X zn σ H s:=⟨I.ok.cU,I.os,I.bare,I.base,I.loc,I.cell,I.free,I.cL,I.pin,I.aM,I.len⟩
def SP.cU{D:Ends}{f:Flow}{s':As}(h:SP (X.fQ E) zn D f s'):SP X zn D f s':=by
 cases f with
 |next=>obtain⟨B,H',I,q⟩:=h;exact⟨B,H',I.cU,q⟩
 |brk=>obtain⟨B,H',I,q⟩:=h;exact⟨B,H',I.cU,q⟩
 |cont=>obtain⟨B,H',I,q⟩:=h;exact⟨B,H',I.cU,q⟩
 |ret u=>revert h;refine ε3 λv B H'=>θ2 λI r q=>?_;exact ι3 v B H' ⟨I.cU,r,q⟩
theorem pZ.tX{st:List Ay}{t:TS}(h:pZ X.tX st t):pZ X st t:=λzn s σ H D I hw=>
 j1 (h zn s σ H D (I.fQ _) hw) (λ_ _ q=>q.cU) λ_ _ z=>False.elim z
end
section
variable {X:Cx}{st:Ay}{pi:List Ay}{t u:TS}{e:Ax}{te:TE}{pos:Pos}
def E1:TS:=λD σ H=>D.nx σ H
def ZR(t u:TS):TS:=λD σ H=>t {D with nx:=u D} σ H
def CQ:TS:=λD σ H=>D.bk σ H
def aD.quiet{σ:St}{H:Hp}(I:aD X C σ H s):interactive X.env=false:=by simp[interactive,I.ok.kind]
def Fh(te:TE):TS:=λD σ H=>te σ H λ_ H1=>D.nx σ H1
def MK(te:TE):TS:=λD σ H=>te σ H D.rt
def C4(c:TT)(t u:TS):TS:=λD σ H=>c σ H λb H1=>if b=true then t D σ H1 else u D σ H1
end
abbrev TG:=V->St->Hp->(A7)->Prop
abbrev sJ:=A8->St->Hp->(A7)->Prop
def PG(X:Cx)(q:Ax)(t:TG):Prop:=
 ∀(zn:Ac)(s:As)(σ:St)(H:Hp)(v:V)(u:Av)(Q:A7),aD X zn σ H s->aI v u->t v σ H Q->
  Ba X (assign q X.env u) (λ_ s'=>∃r H',aD X zn r H' s'/\Q r H') X.xe s
def He(X:Cx)(ts:An)(t:sJ):Prop:=
 ∀(zn:Ac)(s:As)(σ:St)(H:Hp)(vs:A8)(r:Ag)(Q:A7),aD X zn σ H s->aH vs r->t vs σ H Q->
  Ba X (assignInOrder ((assignEach ts X.env).map (·.2)) r) (λ_ s'=>∃q H',aD X zn q H' s'/\Q q H') X.xe s
abbrev CB:=V->V->V->Hp->(Hp->Prop)->Prop
def FP(X:Cx)(t:CB):Prop:=
 ∀(zn:Ac)(s:As)(σ:St)(H:Hp)(o i v:V)(r q u:Av)(Q:Hp->Prop),aD X zn σ H s->aI o r->aI i q->aI v u->t o i v H Q->
  Ba X (setItem r q u) (λ_ s'=>∃H',aD X zn σ H' s'/\Q H') X.xe s
abbrev FL:=V->V->Hp->VK->Prop
def MZ(X:Cx)(q:Operator)(t:FL):Prop:=
 ∀(zn:Ac)(s:As)(σ:St)(H:Hp)(x y:V)(v u:Av)(Q:VK),aD X zn σ H s->aI x v->aI y u->t x y H Q->
  Ba X (inplaceOp q v u) (EP X zn σ Q) X.xe s
section
variable {X:Cx}{pos:Pos}
def Js(i:Nat):TG:=λv σ H Q=>Q (σ.set i (some v)) H
theorem yO(C:X.N.Nodup)(hi:X.N[i]?=some x)(B:o6 X.env.scope x)(q:X.fn x=true\/X.env.scope.names.lookup x=some .local:=by first|exact .inl U|exact .inr U|assumption):PG X (.Name x pos) (Js i):=λzn s σ H v u Q I r h=>by
 exact wpAny_assign_Name (JQ I C hi B r (λs' D=>⟨_,H,D,h⟩) q)
inductive Rb(vs:A8)(σ:St)(H:Hp)(Q:A7):Prop
 |mk  : (vs=[])->(Q σ H)->Rb vs σ H Q
def E2  : sJ:=λvs σ H Q=>Rb vs σ H Q
inductive Pf(t:TG)(u:sJ)(vs:A8)(σ:St)(H:Hp)(Q:A7):Prop
 |mk (v r:_):(vs=v::r)->(t v σ H λσ' H'=>u r σ' H' Q)->Pf t u vs σ H Q
def yP(t:TG)(u:sJ):sJ:=λvs σ H Q=>Pf t u vs σ H Q
def Qf:He X [] E2:=by
 rintro zn s σ H vs q Q I r ⟨e,h⟩;subst e;cases r;exact assignInOrder_nil ⟨σ,H,I,h⟩
def xS{u:sJ}(h1:PG X e t)(h2:He X E u)
  (hs:(assignEach (e::E) X.env).map (·.2)=assign e X.env::(assignEach E X.env).map (·.2):=by rfl):He X (e::E) (yP t u):=by
 rintro zn s σ H vs J Q I r ⟨v,G,e1,h⟩;subst e1;cases r with
 |cons r F=>
  rw[hs];refine assignInOrder_cons (aR (h1 zn s σ H _ _ _ I r h) λ_ B=>ε2 λq H1=>θ1 λD C=>(h2 zn B q H1 _ _ Q D F C))
inductive Qo(K:Af)(n:Nat)(t:sJ)(v:V)(σ:St)(H:Hp)(Q:A7):Prop
 |mk (a xs:_):(v=.ref a)->(aL K H a xs)->(xs.length=n)->(t xs σ H Q)->Qo K n t v σ H Q
def D3(K:Af)(n:Nat)(t:sJ):TG:=λv σ H Q=>Qo K n t v σ H Q
def NI{k:Nat}{t:sJ}(G:X.calm=true)(h:He X E t)
  (F:(assignEach E X.env).length=n:=by rfl) (aV:(assignEach E X.env).findIdx? (·.1)=none:=by rfl):PG X (.Tuple E k pos) (D3 X.K n t):=by
 rintro zn s σ H v u Q I r ⟨a,xs,e1,L,J,hw⟩;subst e1;cases r;obtain⟨q,B,C,O⟩:=I.tuple L;refine assign_Tuple_tuple (I.ok.hd G) C (by simp[F,<-J,B.length]) aV λh' D=>(h zn _ σ H xs _ Q (I.kept λb o e=>D b o (cI (bH e)) e) Vc hw)
def Lm(to r:TE)(t:CB):TG:=λv σ H Q=>to σ H λo H1=>r σ H1 λi H2=>t o i v H2 λq=>Q σ q
def DB(te:TE)(g:TG):TS:=λD σ H=>te σ H λx H1=>g x σ H1 D.nx
theorem BB(J:X.N.Nodup)(hi:X.N[i]?=some x)(G:o6 X.env.scope x)(L:PE X e te)(hs:swapsWith e (some (.Name x p)) pos.line X.env=pure false:=by rfl)(q:X.fn x=true\/X.env.scope.names.lookup x=some .local:=by first|exact .inl U|exact .inr U|assumption):
  PS X (.Assign [.Name x p] e pos) (DB te (Js i)):=by
 intro zn s σ H D I h;refine wpAny_Assign_Name (aR (L zn s σ H _ I h) λv O ⟨y,H1,B,C,r⟩=>(JQ B J hi G C (λT F=>⟨_,H1,F,r⟩) q)) hs
inductive Rh(i:Nat)(te:TE)(ti:FL)(D:Ends)(σ:St)(H:Hp):Prop
 |mk (x:_):(σ[i]?=some (some x))->(te σ H λy H1=>ti x y H1 λz H2=>D.nx (σ.set i (some z)) H2)->Rh i te ti D σ H
def MU(i:Nat)(te:TE)(q:FL):TS:=λD σ H=>Rh i te q D σ H
inductive OP(f:Int->Int->Int)(x:V)(y:V)(H:Hp)(Q:VK):Prop
 |mk (i j:_):(x=.int i)->(y=.int j)->(Q (.int (f i j)) H)->OP f x y H Q
def Oe(f:Int->Int->Int):FL:=λx y H Q=>OP f x y H Q
def Cp:MZ X .Add (Oe λi j=>i+j):=by
 rintro zn s σ H x y v u Q I B r ⟨i,j,e1,e2,q⟩;subst e1;subst e2;obtain⟨t,rfl⟩:=B;obtain⟨t',rfl⟩:=r;exact iadd_int ⟨.int _,H,I.tok _,⟨_,U⟩,q⟩
def Cm:MZ X .Sub (Oe λi j=>i-j):=by
 rintro zn s σ H x y v u Q I B r ⟨i,j,e1,e2,q⟩;subst e1;subst e2;obtain⟨t,rfl⟩:=B;obtain⟨t',rfl⟩:=r;exact isub_int ⟨.int _,H,I.tok _,⟨_,U⟩,q⟩
def NF(c:TT)(tb:TS):TS:=λD σ H=>∃W:Nat->St->Hp->Prop,(∃m,W m σ H)/\∀m σ H,W m σ H->
 c σ H λb H1=>if b=true then∃N:A7,(∀q H',N q H'->∃r,r<m/\W r q H')/\tb {D with nx:=N,ct:=N,bk:=D.nx} σ H1 else D.nx σ H1
end
structure It where
 go:Nat->Hp->Prop
 AM:Nat->Hp->V->Hp->Prop
 stop:Nat->Hp->Prop
def gz(X:Cx)(zn:Ac)(H:Hp)(b:Aw):Prop:=
 H b=none/\b≠X.env.locals/\b∉X.fs/\(b∈X.ex\/X.s₀.heap.objs.size<=b)/\(∀x c,X.env.cells.lookup x=some c->c≠b)/\∀p∈X.pn++zn,p.1≠b
def aD.iU{σ:St}{H H':Hp}{b:Aw}(I:aD X C σ H s)(r:s.heap.objs.size<=b)(B:H' b=none):gz X C H' b:=by
 refine⟨B,rZ (iE I.lt r),I.M1 r,.inr (cC I.sz r),λx c e z=>?_,λp D z=>(absurd (iE (bH (I.pin p D).1) Vc) (iC _))⟩
 .obtain⟨v,q⟩:=I.cell x c e;exact absurd (iE q.lt Vc) (iC _)
structure iM(P:Aq)(w:Au)(K:Af)(tg:Ax)(J:It)(fp:List Aw)(it:Aw)(tn:Nat->Heap->Prop):Prop where
 mem:it∈fp
 obj:∀i h,tn i h->∀b∈fp,∃o,h.get? b=some o/\∀v,o.data≠.cell v
 keep:∀i h h',tn i h->(∀b∈fp,∀o,h.get? b=some o->h'.get? b=some o)->tn i h'
 item:∀(X:Cx),X.prog=P->X.w=w->X.K=K->X.calm=true->∀(i:Nat)(zn:Ac)(s:As)(σ:St)(H:Hp)(E:Ab),aD X zn σ H s->(∀b∈fp,gz X zn H b)->tn i s.heap->J.go i H->
  wpAny (model P w) X.A (pyNext (.ref it)) (λr s1=>∃u,r=some u /\
   wpAny (model P w) X.A (letOwnedTupleGo tg (.ref it) u) (λ_ s2=>∃x H',aD X zn σ H' s2/\aI x u/\J.AM i H x H'/\tn (i+1) s2.heap/\∀b∈fp,H' b=none) E s1) E s
 done:∀(X:Cx),X.prog=P->X.w=w->X.K=K->X.calm=true->∀(i:Nat)(zn:Ac)(s:As)(σ:St)(H:Hp)(E:Ab),aD X zn σ H s->(∀b∈fp,gz X zn H b)->tn i s.heap->J.stop i H->
  wpAny (model P w) X.A (pyNext (.ref it)) (λr s1=>r=none/\aD X zn σ H s1) E s
 self:∀(A:Ar)(i:Nat)(s:As)(Q:Ab)(E:Ab),tn i s.heap->Q (.ref it) s->wpAny (model P w) A (pyIter (.ref it)) Q E s
abbrev TI:=St->Hp->(It->Hp->Prop)->Prop
def LR(X:Cx)(zn:Ac)(σ:St)(tg:Ax)(R:It->Hp->Prop)(q:Av)(B:As):Prop:=
 ∃(it:Aw)(fp:List Aw)(r:Nat->Heap->Prop)(J:It)(H':Hp),q=.ref it/\aD X zn σ H' B/\iM X.prog X.w X.K tg J fp it r/\r 0 B.heap/\(∀b∈fp,gz X zn H' b)/\R J H'
def PI(X:Cx)(tg iter:Ax)(wi:TI):Prop:=
 ∀(zn:Ac)(s:As)(σ:St)(H:Hp)(R:It->Hp->Prop),aD X zn σ H s->wi σ H R->
  Ba X (eval iter X.env) (λv q=>Ba X (pyIter v) (LR X zn σ tg R) X.xe q) X.xe s
def Dg{M:Model}{A:Ar}{E:Ab}{it:Aw}{o:Obj}{n:String}{vs:Ah}{Q:Unit->Shared->Prop}(C:s.heap.get? it=some o)(B:o.cls=.type n)(r:o.data=.fields vs)
    (D:["enumerate","zip","dict_itemiterator","dict_reverseitemiterator","odict_iterator","itertools.zip_longest","itertools.pairwise"].contains n=false) (q:Q () s):wpAny M A (letOwnedTupleGo e (.ref it) u) Q E s:=by
  cases e<;>first
    |exact aJ q
    | (cases u <;> first
        |exact aJ q
        | (refine ab (wpAny_load C ?_)
           rw[B,r];show wpAny M A (if(["enumerate","zip","dict_itemiterator","dict_reverseitemiterator","odict_iterator","itertools.zip_longest","itertools.pairwise"].contains n&&vs[0]? == some _)=true then _ else _) Q E s;rw[aG Vc];exact aJ q))
def AI(K:Af)(a:Aw):It:=
 ⟨λi H=>∃xs x,aB K H a xs/\xs[i]?=some x,λi H x H'=>H'=H/\∀xs,aB K H a xs->xs[i]?=some x,λi H=>∃xs,aB K H a xs/\xs.length<=i⟩
def CD(K:Af)(a:Aw):It:=
 ⟨λi H=>∃xs x,aL K H a xs/\xs[i]?=some x,λi H x H'=>H'=H/\∀xs,aL K H a xs->xs[i]?=some x,λi H=>∃xs,aL K H a xs/\xs.length<=i⟩
def Dd(lo:Int)(n:Nat):It:=⟨λi _=>i<n,λi H x H'=>H'=H/\x=.int (lo+i),λi _=>n<=i⟩
def Us(a it:Aw):iM P w K tg (AI K a) [it] it (λi h=>h.IsListIter it a i)where
 mem:=Vd
 obj:=λi h st b q=>by
  have e:=by simpa using q
  subst e;obtain⟨o,e,c,d⟩:=st;exact⟨o,e,λv z=>Vc⟩
 keep:=λi h h' st k=>st.at λo e=>k it Vd o e
 item:=by
  intro X T hw L hc i zn s σ H E I B st Z;subst T hw L;revert Z;refine ε2 λxs x=>θ1 λC Y=>?_;refine ω (I.list C) (ε1 λF=>θ2 λJ p hz=>?_);obtain⟨u,hu,ru⟩:=J.get Y;refine ω (B it Vd) (θ5 λG f1 f2 D Ua O=>?_);refine wpAny_pyNext_list_item st p.isList (x:=u) (by simp_all) λh' r sb=>?_;obtain⟨o,e,c,d⟩:=id r;exact⟨u,U,Dg e c d Va (ι2 x H ⟨I.turned (λb o q e=>(sb.2 b q).trans e) G f1 D Ua O,ru,⟨U,λys hy=>by rw[I.j2 hy C];exact Y⟩,r,λb q=>(B b q).1⟩)⟩
 done:=by
  intro X T hw L hc i zn s σ H E I B st Z;subst T hw L;obtain⟨xs,C,Y⟩:=Z;obtain⟨F,J,p,hz⟩:=I.list C;refine ω (B it Vd) (θ5 λG f1 f2 D Ua O=>?_);have hl:=J.length;exact wpAny_pyNext_list_end (I.ok.hd hc) st p.isList (by simp;simp_all) λh' eb=>⟨U,I.turned (λb o q e=>eb b o q e) G f1 D Ua O⟩
 self:=λ_ _ _ _ _ st h=>wpAny_pyIter_listiter st h
def Tg(a it:Aw):iM P w K tg (CD K a) [it] it (λi h=>h.IsTupleIter it a i)where
 mem:=Vd
 obj:=λi h st b q=>by
  have e:=by simpa using q
  subst e;obtain⟨o,e,c,d⟩:=st;exact⟨o,e,λv z=>Vc⟩
 keep:=λi h h' st k=>st.at λo e=>k it Vd o e
 item:=by
  intro X T hw L hc i zn s σ H E I B st Z;subst T hw L;revert Z;refine ε2 λxs x=>θ1 λC Y=>?_;refine ω (I.tuple C) (ε1 λF=>θ2 λJ p hz=>?_);obtain⟨u,hu,ru⟩:=J.get Y;refine ω (B it Vd) (θ5 λG f1 f2 D Ua O=>?_);refine wpAny_pyNext_tuple_item st (p) (x:=u) Vc λh' r sb=>?_;obtain⟨o,e,c,d⟩:=id r;exact⟨u,U,Dg e c d Va (ι2 x H ⟨I.turned (λb o q e=>(sb.2 b q).trans e) G f1 D Ua O,ru,⟨U,λys hy=>by rw[I.dM hy C];exact Y⟩,r,λb q=>(B b q).1⟩)⟩
 done:=by
  intro X T hw L hc i zn s σ H E I B st Z;subst T hw L;obtain⟨xs,C,Y⟩:=Z;obtain⟨F,J,p,hz⟩:=I.tuple C;refine ω (B it Vd) (θ5 λG f1 f2 D Ua O=>?_);have hl:=J.length;exact wpAny_pyNext_tuple_end (I.ok.hd hc) st (p) (by simp;lia) λh' eb=>⟨U,I.turned (λb o q e=>eb b o q e) G f1 D Ua O⟩
 self:=λ_ _ _ _ _ st h=>wpAny_pyIter_tupleiter st h
def R0(it:Aw)(lo:Int)(n:Nat):iM P w K tg (Dd lo n) [it] it (λi h=>IsRangeIter h it (lo+(i:Nat)*1) ((n:Int)-(i:Nat)) 1)where
 mem:=Vd
 obj:=λi h st b r=>by
  simp_all
 keep:=λi h h' st k=>k it Vd _ st
 item:=by
  intro X J hw F O i zn s σ H E I B st T;subst J hw F;refine ω (B it Vd) (θ5 λD Ua Y C L G=>?_);refine(Walks.range (I.ok.hd O) it lo 1 n).item i s _ _ T st λv h' tk hv q kk=>?_;obtain⟨t,rfl⟩:=hv;refine⟨_,U,Dg q U U Va ⟨.int _,H,I.turned (λb o r e=>kk b o Vc e) D Ua C L G,⟨t,?_⟩,⟨U,U⟩,q,λb r=>(B b r).1⟩⟩;rw[Int.mul_one]
 done:=by
  intro X J hw F O i zn s σ H E I B st T;subst J hw F;obtain⟨D,Ua,Y,C,L,G⟩:=B it Vd;exact wpAny_pyNext_range_end (I.ok.hd O) st (by have:n<=i:=T;lia) λh' Z=>⟨U,I.turned (λb o r e=>Z b o r e) D Ua C L G⟩
 self:=λ_ _ _ _ _ st h=>wpAny_pyIter_rangeiter st h
section
variable {X:Cx}{tg:Ax}
inductive ON(K:Af)(R:It->Hp->Prop)(x:V)(H1:Hp):Prop
 |mk (a:_):(x=.ref a)->((∃xs,aB K H1 a xs))->(R (AI K a) H1)->ON K R x H1
def II(K:Af)(tl:TE):TI:=λσ H R=>tl σ H λx H1=>ON K R x H1
inductive NM(K:Af)(R:It->Hp->Prop)(x:V)(H1:Hp):Prop
 |mk (a:_):(x=.ref a)->((∃xs,aL K H1 a xs))->(R (CD K a) H1)->NM K R x H1
def FQ(K:Af)(tl:TE):TI:=λσ H R=>tl σ H λx H1=>NM K R x H1
def uW{σ:St}{H:Hp}{R:It->Hp->Prop}{E:Ab}{lo:Int}{t u v:Tok}{tk:Nat}(I:aD X C σ H s)(h1:-(2^62)<=lo)(h2:lo<2^62)(B:-(2^62)<=z)(D:z<2^62)
  (q:R (Dd lo (z-lo).toNat) H):Ba X (pyIter (.ref s.heap.objs.size)) (LR X C σ tg R) E {s with heap:=s.heap.push {cls:=.type "range",data:=.fields #[.int lo t,.int z u,.int 1 v]},toks:=tk}:=by
 refine wpAny_pyIter_range (IsRange.new ..) (small_one h1 h2 B D) ?_;have r:aD X C σ H {s with heap:=s.heap.push {cls:=.type "range",data:=.fields #[.int lo t,.int z u,.int 1 v]},toks:=tk}:=I.kept λb o e=>aW _ e;refine ι5 _ _ _ _ H ⟨U,
  r.kept λb o e=>aW _ e,R0 _ lo _,?_,λb F=>?_,q⟩
 .have e1:lo+((0:Nat))*1=lo:=Vd
  have e2:(((z-lo).toNat))-((0:Nat))=Builtin.Range.rangeSize lo z 1:=by rw[rangeSize_one];split<;>grind
  rw[e1,e2];exact bX _ U
 .have e:b=(s.heap.push {cls:=.type "range",data:=.fields #[.int lo t,.int z u,.int 1 v]}).objs.size:=(by simp_all)
  subst e;exact r.iU (aN _) (r.aM.fresh (aN _))
inductive RM(R:It->Hp->Prop)(vs:A8)(H1:Hp):Prop
 |mk (j:Int):(vs=[.int j])->(-(2^62)<=j)->(j<2^62)->(R (Dd 0 j.toNat) H1)->RM R vs H1
def Mw(ta:TA):TI:=λσ H R=>ta σ H λvs H1=>RM R vs H1
inductive OW(R:It->Hp->Prop)(vs:A8)(H1:Hp):Prop
 |mk (i j:Int):(vs=[.int i,.int j])->((-(2^62)<=i/\i<2^62/\-(2^62)<=j/\j<2^62))->(R (Dd i (j-i).toNat) H1)->OW R vs H1
def Qx(ta:TA):TI:=λσ H R=>ta σ H λvs H1=>OW R vs H1
def Ur {a:Ax} {ta:TA}  (J:Gl X "range") (O:X.mg "range" = none) (G:PA X [a] ta) (hs:starEach [a] X.env=[(false,eval a X.env)]:=by rfl):PI X tg (.Call (.Name "range" p) [a] [] y) (Mw ta):=λzn s σ H R I h=>by
 refine Call_ (GG I J O boot_range (DA (aR (G y zn s σ H _ I h) λUa T ⟨vs,H1,C,F,B⟩=>?_) hs U));obtain⟨j,e,B,D,q⟩:=B;subst e;cases F with
 |cons r L=>
  cases L;obtain⟨t,rfl⟩:=r;exact call_range_1 (uW C Vb Vb B D Vc)
def V9 {a b:Ax} {ta:TA}  (Y:Gl X "range") (Z:X.mg "range" = none) (Ua:PA X [a,b] ta) (hs:starEach [a,b] X.env=[(false,eval a X.env),(false,eval b X.env)]:=by rfl) (C:starEach [b] X.env=[(false,eval b X.env)]:=by rfl):
  PI X tg (.Call (.Name "range" p) [a,b] [] y) (Qx ta):=by
 intro zn s σ H R I h;refine Call_ (GG I Y Z boot_range (DA (aR (Ua y zn s σ H _ I h) λus s1 ⟨vs,H1,F,J,B⟩=>?_) Vc (by rw[C];rfl)));obtain⟨i,j,e,⟨B,G,O,L⟩,q⟩:=B;subst e;cases J with
 |cons r D=>
  cases D with
  |cons T D=>
   cases D;obtain⟨t,rfl⟩:=r;obtain⟨t',rfl⟩:=T;exact call_range_2 (uW F B G O L q)
abbrev tO(J:It)(g:TG)(tb:TS)(D:Ends)(σ:St)(H:Hp):Prop:=∃W:Nat->Nat->St->Hp->Prop,(∃m,W 0 m σ H)/\∀i m σ H,W i m σ H->
 (J.stop i H/\D.nx σ H)\/(J.go i H/\∃N:A7,(∀q H',N q H'->∃B,B<m/\W (i+1) B q H')/\∀x H',J.AM i H x H'->g x σ H' λr H2=>tb {D with nx:=N,ct:=N,bk:=D.nx} r H2)
def Cg(wi:TI)(g:TG)(tb:TS):TS:=λD σ H=>wi σ H λJ H1=>tO J g tb D σ H1
def yb{J:It}{g:TG}{tb:TS}{D:Ends}{σ:St}{H:Hp}(n:Nat)(r:Nat->St->Hp->Prop)(G:r 0 σ H)
  (hs:∀i σ H,i<n->r i σ H->J.go i H/\∀x H',J.AM i H x H'->g x σ H' λB H2=>tb {D with nx:=r (i+1),ct:=r (i+1),bk:=D.nx} B H2)
  (I:∀σ H,r n σ H->J.stop n H/\D.nx σ H):tO J g tb D σ H:=by
 refine⟨λi m σ H=>m=n-i/\i<=n/\r i σ H,⟨n,Vd,cM _,G⟩,?_⟩;rintro i m σ H ⟨rfl,hi,p⟩
 by_cases q:i<n
 .exact .inr ⟨(hs i σ H q p).1,_,λC H' F=>⟨_,Vc,U,q,F⟩,(hs i σ H q p).2⟩
 .grind
def uX(fp:List Aw)(h:Heap):Ac:=fp.filterMap λb=>(h.get? b).map λo=>(b,o)
def JR{b:Aw}{o:Obj}(q:b∈D)(e:h.get? b=some o):(b,o)∈uX D h:=Na.mpr ⟨b,q,by rw[e];rfl⟩
def UL{p:Aw×Obj}(C:p∈uX D h):p.1∈D/\h.get? p.1=some p.2:=by
 obtain⟨b,B,e⟩:=Na.mp C;cases q:h.get? b with
 |none=>rw[q]at e;cases e
 |some o=>
  rw[q]at e;have r:=Option.some.inj e;subst r;exact⟨B,q⟩
theorem aD.pinned{σ:St}{H:Hp}(I:aD X C σ H s)(B:∀b∈D,gz X C H b)(F:∀b∈D,∃o,s.heap.get? b=some o/\∀v,o.data≠.cell v):aD X (C++uX D s.heap) σ H s:=
 I.dD λp J=>(cT.mp J).elim (λz=>I.pin p (lK _ z)) λz=>by
  obtain⟨q,e⟩:=UL z;refine ω (B p.1 q) (θ3 λG O L _=>?_);obtain⟨o,r,d⟩:=F p.1 q;rw[e]at r;cases r;exact⟨e,G,O,L,d⟩
def aD.cX{σ:St}{H:Hp}(I:aD X (C++pl) σ H s):aD X C σ H s:=I.dD λp q=>I.pin p (lK _ (Er _ q))
def AJ{iter:Ax}{body:List Ay}{wi:TI}{g:TG}{tb:TS}(hp:PassesOwn (model X.prog X.w) X.A X.env X.xe)(hc:X.calm=true)(hi:PI X tg iter wi)(hg:PG X tg g)(C:pZ X body tb)
  (hs:∀x,foldedSetIterable iter X.env x=pure x:=by intro _;rfl):PS X (.For tg iter body [] p) (Cg wi g tb):=by
 intro zn s σ H D I h;refine wpAny_For (aR (hi zn s σ H _ I h) λv s1 h1=>aR h1 λitv s2 h2=>?_) hs;revert h2;refine ε5 λit fp tn J H2=>θ5 λe I2 T st2 f2=>ε1 λW=>θ1 λzq0 Z=>?_;obtain ⟨m0,w0⟩:=zq0;subst e;have O:∀{H':Hp},(∀b∈fp,H' b=none)->∀b∈fp,gz X zn H' b:=λhn b C=>⟨hn b C,(f2 b C).2⟩;refine codeAny_forLoop_any (λn s'=>∃i G H',aD X zn G H' s'/\tn i s'.heap/\(∀b∈fp,H' b=none)/\W i n G H') ?_ m0 (ι3 0 σ H2 ⟨I2,st2,λb C=>(f2 b C).1,w0⟩);refine λn s3=>ε3 λi F H3=>θ3 λI3 st3 fr3 w3=>?_;rcases Z i n F H3 w3 with⟨stop,qn⟩|⟨go,N,hN,step⟩
 .refine BY hp (aR (T.done X U U U hc i zn s3 F H3 X.xe I3 (O fr3) st3 stop) λr s4 ⟨hr,I4⟩=>?_);subst hr;exact Iv ⟨F,H3,I4,qn⟩
 .refine BY hp (aR (T.item X U U U hc i zn s3 F H3 X.xe I3 (O fr3) st3 go) λr s4 ⟨u,hr,h4⟩=>?_);subst hr;refine BY hp (aR h4 λ_ s5=>ε2 λx H5=>θ4 λI5 r5 y5 Y fr5=>(BY hp (aR (hg _ s5 F H5 x u _ (I5.pinned (O fr5) (T.obj _ _ Y)) r5 (step x H5 y5)) λ_ s6=>ε2 λσ6 H6=>θ1 λI6 q6=>(BY hp (aR (C _ s6 σ6 H6 _ I6 q6) λf s7 Ua=>?_)))));have again:∀{q:St} {L:Hp},aD X _ q L s7->N q L->∃m,m<n/\∃i G H',aD X zn G H' s7/\tn i s7.heap/\(∀b∈fp,H' b=none)/\W i m G H':=λ{q L} B n7=>by
   obtain⟨m',hm,w7⟩:=hN q L n7;refine⟨m',hm,i+1,q,L,B.cX,T.keep _ _ _ Y λb C o e=>(B.pin (b,o) (lK _ (lK _ (JR C e)))).1,λb C=>?_,w7⟩;obtain⟨o,e,d⟩:=T.obj _ _ Y b C;exact(B.pin (b,o) (lK _ (lK _ (JR C e)))).2.1
  cases f with
  |next=>obtain⟨q,L,B,n7⟩:=Ua;exact again B n7
  |cont=>obtain⟨q,L,B,n7⟩:=Ua;exact again B n7
  |brk=>obtain⟨q,L,B,Ua⟩:=Ua;exact⟨q,L,B.cX,Ua⟩
  |ret v=>revert Ua;refine ε3 λx7 q L=>θ2 λB r7 Ua=>?_;exact⟨x7,q,L,B.cX,r7,Ua⟩
end
theorem xT{xs:A8}{g:TG}{tb:TS}{D:Ends}{σ:St}{H:Hp}(q:Nat->St->Hp->Prop)(F:q 0 σ H)(r:∀i σ H,i<=xs.length->q i σ H->aB K H a xs)
  (hs:∀i x σ H,xs[i]?=some x->q i σ H->g x σ H λB H2=>tb {D with nx:=q (i+1),ct:=q (i+1),bk:=D.nx} B H2) (C:∀σ H,q xs.length σ H->D.nx σ H):
  tO (AI K a) g tb D σ H:=
 yb _ q F (λi σ H hi p=>⟨⟨xs,xs[i],r i σ H (bL hi) p,aQ hi⟩,λx H' ⟨e,y⟩=>e ▸ hs i x σ H (y xs (r i σ H (bL hi) p)) p⟩) λσ H p=>⟨⟨xs,r _ σ H (aN _) p,aN _⟩,C σ H p⟩
theorem yQ{xs:A8}{g:TG}{tb:TS}{D:Ends}{σ:St}{H:Hp}(q:Nat->St->Hp->Prop)(F:q 0 σ H)(r:∀i σ H,i<=xs.length->q i σ H->aL K H a xs)
  (hs:∀i x σ H,xs[i]?=some x->q i σ H->g x σ H λB H2=>tb {D with nx:=q (i+1),ct:=q (i+1),bk:=D.nx} B H2) (C:∀σ H,q xs.length σ H->D.nx σ H):
  tO (CD K a) g tb D σ H:=
 yb _ q F (λi σ H hi p=>⟨⟨xs,xs[i],r i σ H (bL hi) p,aQ hi⟩,λx H' ⟨e,y⟩=>e ▸ hs i x σ H (y xs (r i σ H (bL hi) p)) p⟩) λσ H p=>⟨⟨xs,r _ σ H (aN _) p,aN _⟩,C σ H p⟩
theorem Wq{lo:Int}{g:TG}{tb:TS}{D:Ends}{σ:St}{H:Hp}(q:Nat->St->Hp->Prop)(C:q 0 σ H)
  (hs:∀i σ H,i<n->q i σ H->g (.int (lo+i)) σ H λr H2=>tb {D with nx:=q (i+1),ct:=q (i+1),bk:=D.nx} r H2) (B:∀σ H,q n σ H->D.nx σ H):
  tO (Dd lo n) g tb D σ H:=
 yb n q C (λi σ H hi p=>⟨hi,λx H' ⟨e,y⟩=>Vc⟩) λσ H p=>⟨aN _,B σ H p⟩
abbrev R2:=V->V->Hp->VK->Prop
def bZ(X:Cx)(f:Av->Value->Sem Av)(r:R2):Prop:=
 ∀(zn:Ac)(s:As)(σ:St)(H:Hp)(x y:V)(v u:Av)(Q:VK),aD X zn σ H s->aI x v->aI y u->r x y H Q->
  Ba X (f v u) (EP X zn σ Q) X.xe s
def IP(X:Cx)(f:Av->Sem Av)(r:V->Hp->VK->Prop):Prop:=
 ∀(zn:Ac)(s:As)(σ:St)(H:Hp)(x:V)(v:Av)(Q:VK),aD X zn σ H s->aI x v->r x H Q->
  Ba X (f v) (EP X zn σ Q) X.xe s
def YX(X:Cx)(f:Av)(r:A8->Hp->VK->Prop):Prop:=
 ∀(zn:Ac)(s:As)(σ:St)(H:Hp)(xs:A8)(q:Ag)(Q:VK),aD X zn σ H s->aH xs q->r xs H Q->
  Ba X (call f q) (EP X zn σ Q) X.xe s
def Hl(r:R2)(ta tb:TE):TE:=λσ H Q=>ta σ H λx H1=>tb σ H1 λy H2=>r x y H2 Q
def tUn(r:V->Hp->VK->Prop)(ta:TE):TE:=λσ H Q=>ta σ H λx H1=>r x H1 Q
inductive EF(C:Int->Int->Prop)(g:Int->Int->V)(x:V)(y:V)(H:Hp)(Q:VK):Prop
 |mk (i j:_):(x=.int i)->(y=.int j)->(C i j)->(Q (g i j) H)->EF C g x y H Q
def rI(C:Int->Int->Prop)(g:Int->Int->V):R2:=λx y H Q=>EF C g x y H Q
inductive Ou(g:Int->Int->V)(x:V)(y:V)(H:Hp)(Q:VK):Prop
 |mk (i j:_):(x=.int i)->(y=.int j)->(Q (g i j) H)->Ou g x y H Q
def oY(g:Int->Int->V):R2:=λx y H Q=>Ou g x y H Q
inductive EA(g:Int->V)(x:V)(H:Hp)(Q:VK):Prop
 |mk (i:_):(x=.int i)->(Q (g i) H)->EA g x H Q
def rU(g:Int->V):V->Hp->VK->Prop:=λx H Q=>EA g x H Q
section
variable {X:Cx}{a b c:Ax}{ta tb tc:TE}{pos:Pos}
def Ct(Y:PE X a ta)(F:PE X b tb){σ:St}{H:Hp}{R:V->V->Hp->Prop}(I:aD X C σ H s)
  (h:ta σ H λx H1=>tb σ H1 λy H2=>R x y H2)  {f:Av->Value->Sem Av}
  (D:∀v u r x y H2,aD X C σ H2 r->aI x v->aI y u->R x y H2->Ba X (f v u) Q X.xe r):
  Ba X (eval a X.env) (λv q=>Ba X (eval b X.env) (λu s₂=>Ba X (f v u) Q X.xe s₂) X.xe q) X.xe s:=by
 refine aR (Y C s σ H _ I h) λv B ⟨x,H1,L,T,G⟩=>(aR (F C B σ H1 _ L G) λu r ⟨y,H2,Ua,J,O⟩=>(D v u r x y H2 Ua T J O))
def E9{f:Av->Value->Sem Av}{C:Int->Int->Prop}{g:Int->Int->Int}
  (rule:∀(i j:Int)(t u:Tok)(s:As)(Q:Ab)(E:Ab),C i j->Q (.int (g i j) s.toks) {s with toks:=s.toks+1}->Ba X (f (.int i t) (.int j u)) Q E s):
  bZ X f (rI C λi j=>.int (g i j)):=by
 rintro zn s σ H x y v u Q I r B ⟨i,j,rfl,rfl,D,q⟩;obtain⟨t,rfl⟩:=r;obtain⟨t',rfl⟩:=B;exact rule i j t t' s _ _ D ⟨.int _,H,I.tok _,⟨_,U⟩,q⟩
def DN{f:Av->Value->Sem Av}{g:Int->Int->Int}
  (rule:∀(i j:Int)(t u:Tok)(s:As)(Q:Ab)(E:Ab),Q (.int (g i j) s.toks) {s with toks:=s.toks+1}->Ba X (f (.int i t) (.int j u)) Q E s):
  bZ X f (oY λi j=>.int (g i j)):=by
 rintro zn s σ H x y v u Q I r B ⟨i,j,rfl,rfl,q⟩;obtain⟨t,rfl⟩:=r;obtain⟨t',rfl⟩:=B;exact rule i j t t' s _ _ ⟨.int _,H,I.tok _,⟨_,U⟩,q⟩
def HL{f:Av->Value->Sem Av}{g:Int->Int->Bool}
  (rule:∀(i j:Int)(t u:Tok)(s:As)(Q:Ab)(E:Ab),Q (.bool (g i j)) s->Ba X (f (.int i t) (.int j u)) Q E s):
  bZ X f (oY λi j=>.bl (g i j)):=by
 rintro zn s σ H x y v u Q I r B ⟨i,j,rfl,rfl,q⟩;obtain⟨t,rfl⟩:=r;obtain⟨t',rfl⟩:=B;exact rule i j t t' s _ _ ⟨.bl _,H,I,U,q⟩
def M5(i j:Int):Prop:=0<=j/\j<=1000000/\i.natAbs<2^64
def Bf(i j:Int):Prop:=(-(2^64)<i/\i<2^64)\/(-(2^64)<j/\j<2^64)
def Bf.ok{i j:Int}(h:Bf i j):IntMulOk i j:=by
 rcases h with⟨h1,h2⟩|⟨h1,h2⟩
 .exact .of_left (intBits_le_64 h1 h2)
 .exact .of_right (intBits_le_64 h1 h2)
def Y3:bZ X (binaryOp .Add) (oY λi j=>.int (i+j)):=DN λ_ _ _ _ _ _ _ q=>add_int q
def YY:bZ X (binaryOp .Sub) (oY λi j=>.int (i-j)):=DN λ_ _ _ _ _ _ _ q=>sub_int q
def ZL:bZ X (binaryOp .Mod) (rI (λ_ j=>0<j) λi j=>.int (i%j)):=E9 λi j _ _ _ _ _ r q=>mod_int' Vb Vc
def Bn:bZ X (binaryOp .Pow) (rI M5 λi j=>.int (i^j.toNat)):=E9 λ_ _ _ _ _ _ _ r q=>pow_int_small r.1 r.2.1 r.2.2 q
theorem uY:bZ X (binaryOp .RShift) (rI (λ_ j=>0<=j) λi j=>.int (i/2^j.toNat)):=E9 λi j _ _ _ _ _ r q=>
 rshift_int r Vc
def WS:bZ X (binaryOp .BitAnd) (oY λi j=>.int (Builtin.bitAnd i j)):=DN λ_ _ _ _ _ _ _ q=>and_int q
def ke:bZ X (binaryOp .BitOr) (oY λi j=>.int (Builtin.bitOr i j)):=DN λ_ _ _ _ _ _ _ q=>or_int q
def yc:bZ X (binaryOp .BitXor) (oY λi j=>.int (Builtin.bitXor i j)):=DN λ_ _ _ _ _ _ _ q=>xor_int q
def PU{f:Av->Sem Av}{g:Int->Int}
  (rule:∀(i:Int)(t:Tok)(s:As)(Q:Ab)(E:Ab),Q (.int (g i) s.toks) {s with toks:=s.toks+1}->Ba X (f (.int i t)) Q E s):
  IP X f (rU λi=>.int (g i)):=by
 rintro zn s σ H x v Q I r ⟨i,rfl,q⟩;obtain⟨t,rfl⟩:=r;exact rule i t s _ _ ⟨.int (g i),H,I.tok _,⟨_,U⟩,q⟩
def Jt:IP X (unaryOp .USub) (rU λi=>.int (-i)):=PU λ_ _ _ _ _ q=>neg_int q
def zm:IP X (unaryOp .Invert) (rU λi=>.int (Builtin.bitNot i)):=PU λ_ _ _ _ _ q=>invert_int q
end
def AH:V->V->Bool
 |.bN,.bN=>true|.bN,.int _=>true|.int _,.bN=>true|.bN,.bl _=>true|.bl _,.bN=>true|.bN,.str _=>true|.str _,.bN=>true
 |.int _,.int _=>true|.bl _,.bl _=>true|.str _,.str _=>true|.oP _,.oP _=>true
 |.int _,.str _=>true|.str _,.int _=>true|.bl _,.str _=>true|.str _,.bl _=>true
 |_,_=>false
inductive Pj(x:V)(y:V)(H:Hp)(Q:VK):Prop
 |mk  : (AH x y=true)->(Q (.bl (decide (x=y))) H)->Pj x y H Q
def rEq  : R2:=λx y H Q=>Pj x y H Q
inductive OE(x:V)(y:V)(H:Hp)(Q:VK):Prop
 |mk  : (AH x y=true)->(Q (.bl (!decide (x=y))) H)->OE x y H Q
def VD  : R2:=λx y H Q=>OE x y H Q
def PD{i j:Int}:decide (V.int i=V.int j)=(i == j):=Vc
def O5{i:Bool}:decide (V.bl i=V.bl j)=(i == j):=Vc
def Qv{i j:Str}:decide (V.str i=V.str j)=(i == j):=Vc
def Om{i j:Array UInt8}:decide (V.oP i=V.oP j)=(i.toList == j.toList):=by
 rw[mV];cases i;cases j;simp
section
variable {X:Cx}{a b c:Ax}{ta tb tc:TE}{pos:Pos}
def ZQ{σ:St}{H:Hp}{Q:VK}{k:Bool}(I:aD X C σ H s)(q:Q (.bl k) H)(e:k=j):EP X C σ Q (.bool j) s:=by
 subst e;exact⟨.bl k,H,I,U,q⟩
def Yh:bZ X (compareOp .Eq) rEq:=by
 rintro zn s σ H x y v u Q I B r ⟨hs,q⟩;cases x with
 |bN=>
  cases B;cases y with
  |bN=>cases r;exact PySem.EqNone.eq_none_none (ZQ I q Vd)
  |bl j=>cases r;exact PySem.EqNone.eq_none_bool (ZQ I q Vd)
  |int j=>obtain⟨t',rfl⟩:=r;exact PySem.EqNone.eq_none_int (ZQ I q Vd)
  |str j=>obtain⟨t',rfl⟩:=r;exact PySem.EqNone.eq_none_str (ZQ I q Vd)
  |_=>exact absurd (hs) eH
 |bl i=>
  cases B;cases y with
  |bN=>cases r;exact PySem.EqNone.eq_bool_none (ZQ I q Vd)
  |bl j=>cases r;exact eq_bool (ZQ I q O5)
  |str j=>obtain⟨t',rfl⟩:=r;exact PySem.EqMixed.eq_bool_str (ZQ I q Vd)
  |_=>exact absurd (hs) eH
 |int i=>
  obtain⟨t,rfl⟩:=B;cases y with
  |bN=>cases r;exact PySem.EqNone.eq_int_none (ZQ I q Vd)
  |int j=>obtain⟨t',rfl⟩:=r;exact eq_int (ZQ I q PD)
  |str j=>obtain⟨t',rfl⟩:=r;exact PySem.EqMixed.eq_int_str (ZQ I q Vd)
  |_=>exact absurd (hs) eH
 |str i=>
  obtain⟨t,rfl⟩:=B;cases y with
  |bN=>cases r;exact PySem.EqNone.eq_str_none (ZQ I q Vd)
  |bl j=>cases r;exact PySem.EqMixed.eq_str_bool (ZQ I q Vd)
  |int j=>obtain⟨t',rfl⟩:=r;exact PySem.EqMixed.eq_str_int (ZQ I q Vd)
  |str j=>obtain⟨t',rfl⟩:=r;exact eq_str (ZQ I q Qv)
  |_=>exact absurd (hs) eH
 |oP i=>
  obtain⟨t,rfl⟩:=B;cases y with
  |oP j=>obtain⟨t',rfl⟩:=r;exact PySem.W.eq_bytes (ZQ I q Om)
  |_=>exact absurd (hs) eH
 |_=>cases y<;>exact absurd (hs) eH
def HP:bZ X (compareOp .NotEq) VD:=by
 rintro zn s σ H x y v u Q I B r ⟨hs,q⟩;cases x with
 |bN=>
  cases B;cases y with
  |bN=>cases r;exact PySem.EqNone.ne_none_none (ZQ I q Vd)
  |bl j=>cases r;exact PySem.EqNone.ne_none_bool (ZQ I q Vd)
  |int j=>obtain⟨t',rfl⟩:=r;exact PySem.EqNone.ne_none_int (ZQ I q Vd)
  |str j=>obtain⟨t',rfl⟩:=r;exact PySem.EqNone.ne_none_str (ZQ I q Vd)
  |_=>exact absurd (hs) eH
 |bl i=>
  cases B;cases y with
  |bN=>cases r;exact PySem.EqNone.ne_bool_none (ZQ I q Vd)
  |bl j=>cases r;exact ne_bool (ZQ I q (congrArg not O5))
  |str j=>obtain⟨t',rfl⟩:=r;exact PySem.EqMixed.ne_bool_str (ZQ I q Vd)
  |_=>exact absurd (hs) eH
 |int i=>
  obtain⟨t,rfl⟩:=B;cases y with
  |bN=>cases r;exact PySem.EqNone.ne_int_none (ZQ I q Vd)
  |int j=>obtain⟨t',rfl⟩:=r;exact ne_int (ZQ I q (congrArg not PD))
  |str j=>obtain⟨t',rfl⟩:=r;exact PySem.EqMixed.ne_int_str (ZQ I q Vd)
  |_=>exact absurd (hs) eH
 |str i=>
  obtain⟨t,rfl⟩:=B;cases y with
  |bN=>cases r;exact PySem.EqNone.ne_str_none (ZQ I q Vd)
  |bl j=>cases r;exact PySem.EqMixed.ne_str_bool (ZQ I q Vd)
  |int j=>obtain⟨t',rfl⟩:=r;exact PySem.EqMixed.ne_str_int (ZQ I q Vd)
  |str j=>obtain⟨t',rfl⟩:=r;exact ne_str (ZQ I q (congrArg not Qv))
  |_=>exact absurd (hs) eH
 |oP i=>
  obtain⟨t,rfl⟩:=B;cases y with
  |oP j=>obtain⟨t',rfl⟩:=r;exact PySem.W.ne_bytes (ZQ I q (congrArg not Om))
  |_=>exact absurd (hs) eH
 |_=>cases y<;>exact absurd (hs) eH
def Dh:bZ X (compareOp .Lt) (oY λi j=>.bl (decide (i<j))):=HL λ_ _ _ _ _ _ _ q=>lt_int q
def NS:bZ X (compareOp .LtE) (oY λi j=>.bl (decide (i<=j))):=HL λ_ _ _ _ _ _ _ q=>le_int q
def kf:bZ X (compareOp .Gt) (oY λi j=>.bl (decide (j<i))):=HL λ_ _ _ _ _ _ _ q=>gt_int q
def Ft:bZ X (compareOp .GtE) (oY λi j=>.bl (decide (j<=i))):=HL λ_ _ _ _ _ _ _ q=>ge_int q
def Zd6:bZ X (compareOp .In) (λx y H Q=>∃i j,x=.str i/\y=.str j/\Q (.bl (!(Builtin.Str.occurrences j i 0 j.length 1).isEmpty)) H):=by
 rintro zn s σ H x y v u Q I r B ⟨i,j,rfl,rfl,q⟩;obtain⟨t,rfl⟩:=r;obtain⟨t',rfl⟩:=B;exact in_str (ZQ I q U)
def Cr:bZ X (compareOp .Is) (λx y H Q=>y=.bN/\Q (.bl (decide (x=.bN))) H):=by
 rintro zn s σ H x y v u Q I r B ⟨rfl,q⟩;cases B;refine is_none_gen (ZQ I q ?_);cases x<;>first
  |(cases r;rfl)
  |(obtain⟨t,rfl⟩:=r;rfl)
def bZ.or{f:Av->Value->Sem Av}{r D:R2}(h:bZ X f r)(h':bZ X f D):bZ X f (λx y H Q=>r x y H Q\/D x y H Q):=λzn s σ H x y v u Q I B C q=>by
 rcases q with q|q
 .exact h zn s σ H x y v u Q I B C q
 .exact h' zn s σ H x y v u Q I B C q
def Zz(b:Ax){q:CmpOp}(h:q≠.In:=by decide)(h2:q≠.NotIn:=by decide):behindInMarks q b=false:=by
 have e1:(q == CmpOp.In)=false:=Vc
 have e2:(q == CmpOp.NotIn)=false:=Vc
 cases b<;>simp[behindInMarks,e1,e2]
inductive OU(Q:Bool->Hp->Prop)(x:V)(H':Hp):Prop
 |mk (k:_):(x=.bl k)->(Q k H')->OU Q x H'
def EB(t:TE):TT:=λσ H Q=>t σ H λx H'=>OU Q x H'
def xq:(sizeLine:Nat)<2^63:=Va
def Zcf:bZ X (binaryOp .Add) (λx y H Q=>∃i j,x=.str i/\y=.str j/\i.length+j.length<=sizeLine/\Q (.str (i++j)) H):=by
 rintro zn s σ H x y v u Q I r B ⟨i,j,rfl,rfl,C,q⟩;obtain⟨t,rfl⟩:=r;obtain⟨t',rfl⟩:=B;exact add_str (λt' tk=>⟨.str _,H,I.tok _,⟨_,U⟩,q⟩) C
def bS{x:V}(r:aH [x] G):∃u,G=[u]/\aI x u:=by
 cases r with
 |cons q B=>cases B;exact⟨_,U,q⟩
def oZ{x y:V}(r:aH [x,y] G):∃u q,G=[u,q]/\aI x u/\aI y q:=by
 cases r with
 |cons F D=>
  cases D with
  |cons C B=>cases B;exact⟨_,_,U,F,C⟩
def zo (C:X.calm=true):YX X (.builtin "max") (λxs H Q=>∃i j,xs=[.int i,.int j]/\Q (.int (if j>i then j else i)) H):=by
 rintro zn s σ H xs F Q I r ⟨i,j,rfl,q⟩;obtain⟨u,D,rfl,⟨t,rfl⟩,⟨t',rfl⟩⟩:=oZ r;refine max_two_ints (I.ok.hd C) λh' tk k=>⟨_,H,I.kept k,?_,q⟩
 by_cases B:j>i
 .rw[aK B,aK B];exact⟨_,U⟩
 .rw[aG B,aG B];exact⟨_,U⟩
def zp (C:X.calm=true):YX X (.builtin "min") (λxs H Q=>∃i j,xs=[.int i,.int j]/\Q (.int (if j<i then j else i)) H):=by
 rintro zn s σ H xs F Q I r ⟨i,j,rfl,q⟩;obtain⟨u,D,rfl,⟨t,rfl⟩,⟨t',rfl⟩⟩:=oZ r;refine min_two_ints (I.ok.hd C) λh' tk k=>⟨_,H,I.kept k,?_,q⟩
 by_cases B:j<i
 .rw[aK B,aK B];exact⟨_,U⟩
 .rw[aG B,aG B];exact⟨_,U⟩
def Wr:YX X (.type "int") (λxs H Q=>(∃i,xs=[.int i]/\Q (.int i) H)\/∃k,xs=[.bl k]/\Q (.int (if k then 1 else 0)) H):=λzn s σ H xs C Q I r h=>by
 rcases h with⟨i,rfl,q⟩|⟨k,rfl,q⟩
 .obtain⟨u,rfl,t,rfl⟩:=bS r;exact call_int_int ⟨.int i,H,I,⟨_,U⟩,q⟩
 .obtain⟨u,rfl,B⟩:=bS r;cases B;exact call_int_bool ⟨.int _,H,I.tok _,⟨_,U⟩,q⟩
end
structure CJ(h:Heap)(x dx C:Aw)(mA:Ae):Prop where
 obj:h.get? x=some (PySem.W.instObj C dx)
 ns:h.Ns1 dx mA
 ne:dx≠x
theorem VN{mA:Ae}(n:h.Ns1 f mA):∃od,h.get? f=some od/\∀name,PySem.W.lookIn name od=some (mA name):=by
 revert n;refine ε3 λo es ep=>θ4 λF B G _ D=>?_;refine⟨o,F,λname=>?_⟩;have e:=D name;unfold nsFind findBy at e;rw[<-Array.find?_toList]at e;unfold PySem.W.lookIn;rw[B];dsimp only;split
 .grind
 .rename_i q;rw[q]at e;have a:es.toList.any (·.refKey)=false:=by
   rw[List.any_eq_false];intro y C;obtain⟨z,t,r⟩:=G y (Array.mem_toList_iff.mp C);simp[DictEntry.refKey,r]
  rw[aG Vc];exact congrArg some e
theorem CJ.look{x:Aw}{mA:Ae}(I:CJ h x a f mA):∃od,PySem.W.InstAt h x (PySem.W.instObj f a) f (some od)/\∀name,PySem.W.lookIn name od=some (mA name):=
 let⟨od,ho,hl⟩:=VN I.ns
 ⟨od,⟨I.obj,U,U,ho⟩,hl⟩
def nI.some_of{o:Option Av}(r:nI (some v) o):∃u,o=some u/\aI v u:=by
 cases o with
 |none=>exact(r).elim
 |some u=>exact⟨u,U,r⟩
section
variable {P:Aq}{w:Au}{H H':Hp}{h h':Heap}{a C dx:Aw}{fs fs':List (Str×V)}
def Zmy(B:cO P w H h)(e:H a=some (.ins C dx fs)):∃mA,CJ h a dx C mA/\(∀f,nI (fs.lookup f) (mA f))/\PySem.Within mA (fs.map (·.1))/\fs.length<=1000/\H dx=some (.own a):=by
 refine ω ((B a _ e)) (θ4 λd z ne ob=>ε1 λmA=>θ2 λn r q=>?_);exact⟨mA,⟨ob,n,ne⟩,r,q,z,d⟩
end
structure Le(K:Af)(C:Aw):Prop where
 pg:PySem.W.plainGet K C Str.empty=true
 hd:PySem.W.hasDictIn K C=true
 po:PySem.W.plainOver K C=true
 sa:PySem.W.findIn K (.ref C) "__setattr__" = some (some (.builtin "object.__setattr__"))
def Le.get(c:Le K a)(f:Str):PySem.W.plainGet K a f=true:=c.pg
section
variable {X:Cx}{zn:Ac}{σ:St}{H:Hp}{s:As}{A:Ar}{E:Ab}{Q:Ab}{c:Av}{b:Bool}
inductive nA(K:Af)(H:Hp):V->Value->Prop where
 |bN:nA K H .bN (.type "NoneType")
 |bl (x:Bool):nA K H (.bl x) (.type "bool")
 |int (i:Int):nA K H (.int i) (.type "int")
 |str (x:Str):nA K H (.str x) (.type "str")
 |Du (x:UInt64):nA K H (.Du x) (.type "float")
 |lst {a:Aw} {xs:A8} (e:H a=ap xs):nA K H (.ref a) (.type "list")
 |iL {a:Aw} {o:Obj} {xs:A8} (e:H a=some (.iL o (.lst xs))):nA K H (.ref a) (.type "list")
 |tup {a:Aw} {xs:A8} (e:H a=am xs):nA K H (.ref a) (.type "tuple")
 |dK {a:Aw} {wl:A0} (e:H a=some (.dK wl)):nA K H (.ref a) (.type "dict")
 |dT {a:Aw} {wl:List (List aX×V)} (e:H a=some (.dT wl)):nA K H (.ref a) (.type "dict")
 |ins {a C dx:Aw} {fs:List (Str×V)} (e:H a=some (.ins C dx fs)) (cl:Le K C) (ha:PySem.W.findIn K (.ref C) "__class__" = some (some (.builtin "object.__class__")))
   (hn:PySem.W.specialIn K (.builtin "object.__class__") "__get__" = some (some (.builtin "getset_descriptor.__get__"))) (htk:PySem.W.takesIn K (.builtin "object.__class__")=some true)
   (hm:PySem.W.mroIn K C (.type "object")=some true):nA K H (.ref a) (.ref C)
def Tp{x:V}{t:Av}(I:aD X zn σ H s)(r:aI x u)(ty:nA X.K H x t)(e:PySem.W.kitOne X.K t c=some b)(h:∀tk,Q (.bool b) {s with toks:=tk}):
  A9 X.prog X.w A (call (.builtin "isinstance") [u,c]) Q E s:=by
 cases ty with
 |bN=>cases(r);exact oU PySem.W.kitx_none I.fT True.intro e nofun h
 |bl y=>cases(r);exact oU PySem.W.kitx_bool I.fT True.intro e nofun h
 |int i=>obtain⟨t,q⟩:=(r);cases q;exact oU PySem.W.kitx_int I.fT True.intro e nofun h
 |str y=>obtain⟨t,q⟩:=(r);cases q;exact oU PySem.W.kitx_str I.fT True.intro e nofun h
 |Du y=>obtain⟨t,q⟩:=(r);cases q;exact oU PySem.W.kitx_float I.fT True.intro e nofun h
 | @lst a xs B=>
  cases(r);obtain⟨_,_,n,_,h1⟩:=(I.aM a _ B);exact oU PySem.W.kitx_list I.fT ⟨_,h1,U⟩ e nofun h
 | @iL a ob xs B=>
  cases(r);obtain⟨_,_,_,n,_,h1⟩:=(I.aM a _ B);exact oU PySem.W.kitx_list I.fT ⟨_,h1,U⟩ e nofun h
 | @tup a xs B=>
  cases(r);obtain⟨_,_,_,p⟩:=(I.aM a _ B);obtain⟨o,h1,h2,_⟩:=p;exact oU PySem.W.kitx_tuple I.fT ⟨o,h1,h2⟩ e nofun h
 | @dK a wl B=>
  cases(r);obtain⟨_,_,vs,_,p⟩:=(I.aM a _ B);revert p;refine ε3 λo es ep=>θ2 λh1 h2 _=>?_;exact oU PySem.W.kitx_dict I.fT ⟨o,h1,h2.1⟩ e nofun h
 | @dT a wl B=>
  cases(r);refine ω ((I.aM a _ B)) (θ2 λ_ _=>ε1 λxs=>θ1 λ_=>ε3 λo es ep=>θ2 λh1 h2 _=>?_);exact oU PySem.W.kitx_dict I.fT ⟨o,h1,h2.1⟩ e nofun h
 | @ins a C dx fs B cl L G D F=>
  cases(r);obtain⟨mA,O,_⟩:=Zmy I.aM B;obtain⟨od,J,_⟩:=O.look;exact oU (PySem.W.kitx_own (cl.get _) cl.hd L G D F) I.fT J e nofun h
end
structure Jk(k:Nat)(A:Ar):Prop where
 hd:A.handled=none
 dp:A.depth+3*k+5<recursionLimit
 un:A.units+16*k+200<cLine
def Jk.mono{j k:Nat}{A:Ar}(r:Jk k A)(h:j<=k):Jk j A:=⟨r.hd,by have:=r.dp;lia,by have:=r.un;lia⟩
theorem Jk.deeper(r:Jk (k+1) A)(env:Env):Jk k (A.deeper env):=
 ⟨r.hd,by have:=r.dp;show A.depth+1+3*k+5<_;lia,by have:=r.un;show A.units+3+16*k+200<_;lia⟩
def Jk.depth(r:Jk k A):A.depth<recursionLimit:=by have:=r.dp;lia
def Jk.units(r:Jk k A):A.units+64<cLine:=by have:=r.un;lia
def Jk.Cz(r:Jk k A):A.units<cLine:=by have:=r.un;lia
def BP:TA:=λ_ H Q=>Q [] H
def DW(ta:TE)(q:TA):TA:=λσ H Q=>ta σ H λx H1=>q σ H1 λxs H2=>Q (x::xs) H2
section
variable {X:Cx}{e:Ax}{es:An}{te:TE}{t:TA}{pos:Pos}
inductive Rf(Q:VK)(xs:A8)(H1:Hp):Prop
 |mk  : (xs.length<=sizeLine)->(∀p,H1 p=none->Q (.ref p) (aA H1 p (.tup xs)))->Rf Q xs H1
def Mh(t:TA):TE:=λσ H Q=>t σ H λxs H1=>Rf Q xs H1
inductive Rv(Q:VK)(xs:A8)(H1:Hp):Prop
 |mk  : (xs.length<=sizeLine)->(∀p,H1 p=none->Q (.ref p) (aA H1 p (.lst xs)))->Rv Q xs H1
def Kl(t:TA):TE:=λσ H Q=>t σ H λxs H1=>Rv Q xs H1
end
abbrev Sp:=A8->Hp->VK->XK->Prop
abbrev mR:=List Env->Hp->Shared->XK->Value->Shared->Prop
structure De(P:Aq)(w:Au)(K:Af)(mg:Ae)(base:Heap)(A:Ar)(outer:List Env)(s:As)(H:Hp):Prop where
 frames:A.frames=some outer
 mod:Mod K mg base
 bs:∀b o,base.get? b=some o->s.heap.get? b=some o/\H b=none
 nH:base.objs.size<=s.heap.objs.size
 cR:s.heap.FunFrames base outer
 oT:∀b∈mT outer,H b=none
 aM:cO P w H s.heap
 bare:AllBare s.gens
def CE(xz:List Env)(P:Aq)(w:Au)(H:Hp)(s:As)(Q:VK)(u:Av)(s':As):Prop:=
 ∃v H',s'.os=s.os/\AllBare s'.gens/\Un (mT xz) [] H H' s.heap s'.heap/\cO P w H' s'.heap/\aI v u/\Q v H'
def CR(CX:mR)(xz:List Env)(P:Aq)(w:Au)(H:Hp)(s:As)(Q:VK)(E:XK)(r:Result)(s':As):Prop:=
 match r with
 |.ok (.ret u)=>CE xz P w H s Q u s'
 |.ok _=>False
 |.error e=>CX xz H s E e s'
structure g7(P:Aq)(w:Au)(K:Af)(mg:Ae)(base:Heap)(CX:mR)(k:Nat)(f:Aw)(fd:Ao)(ps:Ai)(sp:Sp):Prop where
 len:∀vs H Q E,sp vs H Q E->vs.length=ps.length
 run:∀(A:Ar)(outer:List Env)(s:As)(H:Hp)(args:Args)(us:Ag)(vs:A8)(Q:VK)(E:XK),Jk k A->De P w K mg base A outer s H->BindsTo s fd args (ps.zip us)->aH vs us->sp vs H Q E->
  codeAny (model P w) A (.call (.ref f) args) (CR CX outer P w H s Q E) s
section
variable {X:Cx}{zn:Ac}{σ:St}{H:Hp}{s s':As}
theorem aD.AE(I:aD X zn σ H s):De X.prog X.w X.K X.mg X.base X.A X.stack s H:=
 ⟨I.ok.frames,I.ok.mod,I.bs,cC I.ok.nH I.sz,I.stack,I.mD,I.aM,I.bare⟩
def aD.after{Q:VK}(I:aD X zn σ H s)(h:CE X.stack X.prog X.w H s Q u s'):EP X zn σ Q u s':=by
 revert h;refine ε2 λv H'=>θ5 λos B un D r q=>?_;obtain⟨hh,g,d,t,C⟩:=s';obtain rfl:C=s.os:=os;exact⟨v,H',I.call un D B (λb z=>absurd z Vd),r,q⟩
end
def Hm(sp:Sp)(dvs:A8)(E:XK)(t:TA):TE:=λσ H Q=>t σ H λvs H1=>sp (vs++dvs) H1 Q E
def c5(K:Af)(fd:Ao)(ps:Ai)(ds:Ag):Prop:=
 ∀(s:As)(q:Ag),K.In s.heap->(q++ds).length=ps.length->BindsTo s fd ⟨q,[]⟩ (ps.zip (q++ds))
theorem c5.all{fd:Ao}(h:∀q:Ag,q.length=N.length->bindArgs fd ⟨q,[]⟩=pure (N.zip q)):c5 K fd N []:=λs q _ r=>by
 rw[dW]at r ⊢;exact .of_eq (h q r)
def fv(CX:mR)(X:Cx)(E:XK):Prop:=∀(zn:Ac)(σ:St)(H:Hp)(s:As)(e:Av)(s':As),aD X zn σ H s->CX X.stack H s E e s'->X.xe e s'
section
variable {X:Cx}{CX:mR}{k:Nat}{f C:Aw}{fd:Ao}{ps:Ai}{sp:Sp}{dvs:A8}{ds:Ag}{E:XK}{x m:Str}{p pos apos:Pos}{e o:Ax}{es:An}{ta:TE}{t:TA}
def Bq{σ:St}{H:Hp}{Q:VK}{vs:A8}(F:g7 X.prog X.w X.K X.mg X.base CX k f fd ps sp)(O:Jk k X.A)(D:c5 X.K fd ps ds)(C:aH dvs ds)(L:fv CX X E)
  (I:aD X zn σ H s) (r:aH vs G) (h:sp (vs++dvs) H Q E):Ba X (call (.ref f) G) (EP X zn σ Q) X.xe s:=by
 have B:=r.append C;refine wpAny_call (BJ (F.run X.A X.stack s H _ _ _ Q E O I.AE (D s G I.fT (by rw[<-B.length];exact F.len _ _ _ _ h)) B h) λr s' q=>?_);cases r with
 |error e=>exact L zn σ H s e s' I q
 |ok J=>
  cases J with
  |ret u=>exact I.after q
  |next=>exact False.elim q
  |brk=>exact False.elim q
  |cont=>exact False.elim q
def Uw(F:g7 X.prog X.w X.K X.mg X.base CX k f fd ps sp)(Ua:Jk k X.A)(Y:Gl X x)(hm:X.mg x=some (.ref f))(O:PySem.W.keepIn X.K (.ref f)=true)(J:c5 X.K fd ps ds)(G:aH dvs ds)(L:fv CX X E)
  (T:PA X (e::es) t) (B:(x == ("__debug__" : Str))=false:=by decide) (Z:starEach (e::es) X.env=(false,eval e X.env)::starEach es X.env:=by rfl) (C:(backTo pos (starEach es X.env)).any (·.1)=false:=by rfl):
  PE X (.Call (.Name x p) (e::es) [] pos) (Hm sp dvs E t):=by
 intro zn s σ H Q I h;refine sS (yN I Y hm (Kx I.ok.mod.Fb O (aR (T pos zn s σ H _ I h) λus s1 ⟨vs,H1,D,r,q⟩=>⟨D.fT,(Bq F Ua J G L D r q)⟩) Z C) B)
end
structure Zv(N P:Ai)(sc:Scope):Prop where
 kind:sc.kind=.function:=by rfl
 co:sc.isCoroutine=false:=by rfl
 gen:sc.isGenerator=false:=by rfl
 nd:N.Nodup:=by decide +kernel
 pre:N.take P.length=P:=by rfl
 par:∀x∈P,sc.names.lookup x=some .local\/sc.names.lookup x=some .cell:=by decide +kernel
 BO:∀y∈sc.names,y.2≠.free:=by decide +kernel
theorem kg{kindOf:Str->Option NameKind}{x:Str}:∀{binds:List (Str×Av)} {m:Ae},(∀v,(x,v)∉binds)->bindL kindOf binds m x=m x
 |[],_,_=>rfl
 |(n,v)::r,m,h=>by
  unfold bindL;rw[kg λw hw=>h w (b8 _ hw)];split
  .grind
  .rfl
theorem kh{kindOf:Str->Option NameKind}{x:Str}:∀{binds:List (Str×Av)} {m:Ae},(∀v,(x,v)∉binds)->bindC kindOf binds m x=m x
 |[],_,_=>rfl
 |(n,v)::r,m,h=>by
  unfold bindC;rw[kh λw hw=>h w (b8 _ hw)];split
  .rfl
  .grind
theorem kj{kindOf:Str->Option NameKind}{x:Str}{v:Av}:∀{P:Ai} {vs:Ag} {i:Nat} {m:Ae},P.Nodup->P[i]?=some x->vs[i]?=some v->kindOf x=some .local->
  bindL kindOf (P.zip vs) m x=some v
 |[],_,_,_,_,h,_,_=>by simp at h
 |_::_,[],_,_,_,_,h,_=>by simp at h
 |p::P,w::vs,0,m,r,h1,h2,q=>by
  simp at h1 h2;subst h1;subst h2;show bindL kindOf ((p,w)::P.zip vs) m p=_;unfold bindL;rw[kg λv B=>(fZ.mp r).1 (BN B).1,aK q];simp
 |p::P,w::vs,i+1,m,r,h1,h2,q=>by
  unfold bindL;exact kj (i:=i) (fZ.mp r).2 (by simp_all) (by simp_all) q
theorem km{kindOf:Str->Option NameKind}{x:Str}{v:Av}:∀{P:Ai} {vs:Ag} {i:Nat} {m:Ae},P.Nodup->P[i]?=some x->vs[i]?=some v->kindOf x≠some .local->
  bindC kindOf (P.zip vs) m x=some v
 |[],_,_,_,_,h,_,_=>by simp at h
 |_::_,[],_,_,_,_,h,_=>by simp at h
 |p::P,w::vs,0,m,r,h1,h2,q=>by
  simp at h1 h2;subst h1;subst h2;show bindC kindOf ((p,w)::P.zip vs) m p=_;unfold bindC;rw[kh λv B=>(fZ.mp r).1 (BN B).1,aG q];simp
 |p::P,w::vs,i+1,m,r,h1,h2,q=>by
  unfold bindC;exact km (i:=i) (fZ.mp r).2 Vc Vc q
def start(N:Ai)(vs:A8):St:=vs.map some++List.replicate (N.length-vs.length) none
def pX(CX:mR)(P:Aq)(w:Au)(K:Af)(mg:Ae)(wv:Heap)(N:Ai)(ut:Str)(wn:Scope)(f:Aw)(r:Av)(A:Ar)(xz:List Env)(s:As)(H:Hp)(E:XK):Cx where
 prog:=P
 w:=w
 K:=K
 mg:=mg
 base:=wv
 A:=A.deeper (envOfC ut wn s.heap.objs.size f r)
 N:=N
 s₀:=s
 H₀:=H
 env:=envOfC ut wn s.heap.objs.size f r
 outer:=xz
 stack:=envOfC ut wn s.heap.objs.size f r::xz
 ex:=[]
 calm:=true
 fn:=λ_=>true
 pn:=[]
 xe:=λe s'=>wpAny (model P w) (A.deeper (envOfC ut wn s.heap.objs.size f r)) (leaving (envOfC ut wn s.heap.objs.size f r) e) (λ_ q=>CX xz H s E e q) (λB q=>CX xz H s E B q) s'
def xU{q:Scope}(h:q.names.lookup x=some .cell):∃c,(cellsFrom n q.names []).lookup x=some c:=Option.isSome_iff_exists.mp (PySem.W.cellsFrom_some _ n [] (.inl h))
theorem Zeb{CX:mR}{mg:Ae}{wv:Heap}{ps:Ai}{ut:Str}{wn:Scope}{J:Av}{A:Ar}{xz:List Env}{O:As}{H:Hp}{E:XK}{vs:A8}
  (S:Zv N ps wn) (Ua:A.handled=none) (B:De P w K mg wv A xz s H) (hl:vs.length=ps.length) (r:aH vs G)
  (x:InCallC s s.heap.objs.size (bindL (envOfC ut wn s.heap.objs.size f J).kindOf (ps.zip G) λ_=>none) (cellsFrom (s.heap.objs.size+1) wn.names []) (bindC (envOfC ut wn s.heap.objs.size f J).kindOf (ps.zip G) λ_=>none) O):
  aD (pX CX P w K mg wv N ut wn f J A xz s H E) [] (start N vs) H O:=by
 have Y:ps.length<=N.length:=by have:=congrArg List.length S.pre;rw[c8]at this;lia
 obtain⟨h1,tk,rfl,T⟩:=x.done;have C:∀b,b∉(pX CX P w K mg wv N ut wn f J A xz s H E).ex:=λb z=>absurd (show b∈([])from z) Vd;refine⟨⟨B.mod,S.kind,U,U,aN _,λy z c h1 h2=>(name_of_addr x.apart (oJ h1) (oJ h2)),λy I=>?_,λy c _ h=>(bL (x.above y c (oJ h))),λ_=>Ua,Ks B.frames,.inr ⟨U,U⟩,λb z=>absurd z (C b),B.bs,B.nH,λb _ _=>C b,λb z=>absurd z (C b),B.cR,B.oT⟩,
  rfl,B.bare,Un.kept T,⟨_,x.toInCall.ns,λi y v h1 h2 h3=>?_⟩,λy c h=>⟨_,x.cell y c h⟩,B.aM.fresh (aN _),λy c h=>(B.aM.fresh (bL (x.above y c (oJ h)))),λp D=>absurd (show p∈([])from D) Vd,B.aM.kept T,?_⟩
 .rcases I with I|I
  .exact xU I
  .exact absurd U (S.BO _ (oJ I))
 .have hi:i<vs.length:=by
   unfold start at h2
   by_cases hi:i<vs.length
   .exact hi
   .grind
  have ha:vs[i]?=some v:=by
   unfold start at h2;rw[iX (by simp_all),bG]at h2;cases e:vs[i]? with
   |none=>rw[e]at h2;cases h2
   |some a=>rw[e]at h2;cases h2;rfl
  obtain⟨u,L,Z⟩:=r.get ha;have D:ps[i]?=some y:=by
   rw[<-S.pre,List.getElem?_take_of_lt (by simp_all)];exact h1
  have F:ps.Nodup:=by rw[<-S.pre];exact S.nd.sublist (List.take_sublist _ _)
  refine⟨u,Z,?_⟩;rcases S.par y (cY D)with k|k
  .exact .inl ⟨k,kj F D L k⟩
  .obtain⟨c,e⟩:=xU k;refine .inr ⟨.inl k,c,e,?_⟩;have q:=x.cell y c e;rw[km F D L (by show wn.names.lookup y≠_;rw[k];decide)]at q;exact q
 .unfold start;show _=N.length;rw[bA,aF,eJ];simp_all
def Qj{CX:mR}{mg:Ae}{k:Nat}{name ut:Str}{tz:Arguments}{body:List Ay}{wn:Scope}{dV kV L pm B ct oc:Av}{an od:Option Aw}
  {T:Array (Option Av)} {ps:Ai} {sp:Sp} (lk:K.lookup f=some ⟨oc,od,.func (PySem.W.fnOf name ut tz body wn dV kV L pm an B ct),T⟩) (Y:PySem.W.codeIn K B ut=true) (S:Zv N ps wn)
  (len:∀vs H Q E,sp vs H Q E->vs.length=ps.length)
  (F:∀(A:Ar)(xz:List Env)(s:As)(H:Hp)(vs:A8)(Q:VK)(E:XK),Jk k (A.deeper (envOfC ut wn s.heap.objs.size f B))->sp vs H Q E->
   ∃t,pZ (pX CX P w K mg h N ut wn f B A xz s H E) body t/\t {nx:=λ_ H'=>Q .bN H',rt:=Q} (start N vs) H):
  g7 P w K mg h CX (k+1) f (PySem.W.fnOf name ut tz body wn dV kV L pm an B ct) ps sp:=by
 refine⟨len,λA xz s H args us vs Q E Ua G hb r I=>?_⟩;have KX:=G.mod.Fb.keeps λb o e=>(G.bs b o e).1;have Z:=G.mod.nolimit.keeps λb o e=>(G.bs b o e).1;have D:∀y∈ps.zip us,wn.names.lookup y.1=some .local\/(wn.names.lookup y.1=some .cell/\((cellsFrom (s.heap.objs.size+1) _ []).lookup y.1).isSome=true):=λ⟨n,v⟩ hy=>by
  rcases S.par n (BN hy).1 with q|q
  .exact .inl q
  .exact .inr ⟨q,PySem.W.cellsFrom_some _ _ _ (.inl q)⟩
 refine codeAny_call_function Ua.depth (KX _ _ lk) U S.co S.gen U (PySem.W.codeRec_of KX Y) (hb _ _ _ _ (wpAny_newFunctionEnv_cells S.kind D λenv he s1 x=>?_));subst he;refine⟨Z.keeps x.toInCall.keep,codeAny_func ?_⟩;obtain⟨t,ht,hq⟩:=F A xz s H vs Q E (Ua.deeper _) I;refine j1 (ht [] s1 _ H _ (Zeb S Ua.hd G (len _ _ _ _ I) r x) hq) (λfl s' hs=>?_) λe s' hs=>hs;have fin:∀{C:St} {H':Hp} {v:V} {u:Av},aD (pX CX P w K mg h N ut wn f B A xz s H E) [] C H' s'->aI v u->Q v H'->CE xz P w H s Q u s':=
  λ{C H' v u} J O q=>ι2 v H' ⟨J.os,J.bare,J.base,J.aM,O,q⟩
 cases fl with
 |ret u=>
  revert hs;refine ε3 λv C H'=>θ2 λJ O q=>?_;exact fin J O q
 |next=>
  obtain⟨C,H',J,q⟩:=hs;exact fin (v:=V.bN) J U q
 |brk=>
  obtain⟨_,_,_,q⟩:=hs;exact False.elim q
 |cont=>
  obtain⟨_,_,_,q⟩:=hs;exact False.elim q
section
variable {X:Cx}{x:Str}{p pos:Pos}{e:Ax}{es:An}{t:TA}{id T:String}{r:A8->Hp->VK->Prop}
def D7(r:A8->Hp->VK->Prop)(t:TA):TE:=λσ H Q=>t σ H λvs H1=>r vs H1 Q
end
end L2
variable {X:L2.Cx}
variable {H q:L2.Hp}
variable {r Y:List L2.V}
variable {b:L2.Cx}
variable {c:L2.St}
variable {d J:L2.TE}
variable {v:L2.V}
variable {A:L2.TS}
variable {M:L2.TT}
variable {Ua:L2.Ends}
variable {Z:L2.VK}
namespace HT
open PySem PyProof.Rows
section
variable {ww:Aq}{w:Au}{A:Ar}{E:Ab}{s:As}
def rG{b:Aw}{vs:Ag}(Ua:IsTup s.heap a vs.toArray)(T:IsTup s.heap b G.toArray)(Z:vs≠[])
  (h1:G=[]->Q (.ref a) s) (h2:G≠[]->Q (.ref s.heap.objs.size) {s with heap:=s.heap.push {cls:=.type "tuple",data:=.seq (vs++G).toArray}})
  (hsz:vs.length+G.length<=sizeLine):A9 ww w A (binaryOp .Add (.ref a) (.ref b)) Q E s:=by
 obtain⟨⟨cls,dd,data,J⟩,C,Y,n,O⟩:=id Ua;obtain⟨⟨L,B,data2,r⟩,q,D,I,F⟩:=id T;subst Y O D F;have e:vs.toArray++G.toArray=(vs++G).toArray:=Vd
 by_cases hw:G=[]
 .exact concat_meets ⟨_,C,U⟩ ⟨_,q,U⟩ Kz seq_tuple_add Ld L6 (LQ _ _)
   (tuple_addW1 a b _ _ n I dd B J r (by simp_all) (by simp[hw])) ⟨C,q,h1 hw⟩
 .refine concat_meets ⟨_,C,U⟩ ⟨_,q,U⟩ Kz seq_tuple_add Ld L6 (LQ _ _)
   (tuple_addW2 a b _ _ n I dd B J r Vc Vc (by omega)) ⟨C,q,?_⟩
  rw[e];exact h2 hw
def iJ(n d:Nat):Option Int->Nat
 |none=>d
 |some v=>if v<0 then(v+(n:Int)).toNat else min v.toNat n
def i9(n d:Nat):iJ n d none=d:=rfl
def mG(n d k:Nat):iJ n d (some (k:Int))=min k n:=by
 show(if k<0 then((k:Int)+n).toNat else min _ n)=min k n;rw[aG Vb,lJ]
end
end HT
namespace L2
abbrev TO:=St->Hp->(Option Int->Hp->Prop)->Prop
def PO(X:Cx)(e:Option Ax)(t:TO):Prop:=
 ∀(zn:Ac)(s:As)(σ:St)(H:Hp)(Q:Option Int->Hp->Prop),aD X zn σ H s->t σ H Q->
  Ba X (evalPart e X.env) (λu s'=>∃o H',aD X zn σ H' s'/\IsPart u o/\Q o H') X.xe s
def Zm0:TO:=λ_ H Q=>Q none H
inductive Qr(Q:Option Int->Hp->Prop)(x:V)(H1:Hp):Prop
 |mk (i:_):(x=.int i)->(Q (some i) H1)->Qr Q x H1
def F4(t:TE):TO:=λσ H Q=>t σ H λx H1=>Qr Q x H1
theorem fB{ns:Ak}:∀{q:Ag},aH (ns.map V.int) q->IntsAre q ns:=by
 induction ns with
 |nil=>intro q r;cases r;exact .nil
 |cons n ns D=>
  intro q r;cases r with
  |cons C B=>
   obtain⟨t,e⟩:=C;subst e;exact .cons n t (D B)
section
variable {X:Cx}{e:Ax}{te:TE}{lo hi:Option Ax}{tl th:TO}{pos p2:Pos}
def OL(X:Cx)(r:V->Option Int->Option Int->Hp->VK->Prop):Prop:=
 ∀(zn:Ac)(s:As)(σ:St)(H:Hp)(x:V)(v q C:Av)(lo hi:Option Int)(B:Aw)(Q:VK),aD X zn σ H s->aI x v->s.heap.IsSliceOf B q C .none->IsPart q lo->IsPart C hi->r x lo hi H Q->
  ∃T id,typeLookup (.type T) "__getitem__" = pure (some (.builtin id))/\s.TypeIs v T/\Ba X (getItem v (.ref B)) (EP X zn σ Q) X.xe s
def UK(r:V->Option Int->Option Int->Hp->VK->Prop)(te:TE)(tl th:TO):TE:=λσ H Q=>te σ H λx H1=>tl σ H1 λl H2=>th σ H2 λu q=>r x l u q Q
def pT(xs:A8)(lo hi:Option Int):A8:=(xs.drop (HT.iJ xs.length 0 lo)).take (HT.iJ xs.length xs.length hi-HT.iJ xs.length 0 lo)
def aH.iO{xs:A8}(r:aH xs G):G=[]↔xs=[]:=by
 cases r with
 |nil=>simp
 |cons _ _=>simp
end
def pP(n:Nat)(i:Int):Option Nat:=if 0<=i then(if i<n then some i.toNat else none)else if -(n:Int)<=i then some (i+n).toNat else none
def dA(xs:List g)(i:Int):Option g:=(pP xs.length i).bind λj=>xs[j]?
def OD{i:Int}{j:Nat}(h:pP n i=some j):seqIndex? i n=some j/\j<n/\-(n:Int)<=i/\i<n:=by
 unfold pP at h
 by_cases q:0<=i
 .rw[aK q]at h
  by_cases h1:i<n
  .rw[aK h1]at h;have e:=Option.some.inj h;exact⟨by rw[Iu q h1,e],Vb,Vb,h1⟩
  .rw[aG h1]at h;cases h
 .rw[aG q]at h
  by_cases h1:-n<=i
  .rw[aK h1]at h;have e:=Option.some.inj h;exact⟨by rw[seqIndex_neg (by simp_all) h1,e],Vb,h1,Vb⟩
  .rw[aG h1]at h;cases h
def gC{i:Int}{v:g}(h:dA xs i=some v):∃j,seqIndex? i xs.length=some j/\xs[j]?=some v/\j<xs.length/\-(xs.length:Int)<=i/\i<xs.length:=by
 unfold dA at h;cases e:pP _ i with
 |none=>rw[e]at h;cases h
 |some j=>
  rw[e]at h;refine ω (OD e) (θ3 λh1 h2 r q=>?_);exact⟨j,h1,h,h2,r,q⟩
def Y7{j:Nat}{v:g}(h:xs[j]?=some v):dA xs (j:Int)=some v:=by
 have q:=(bW.mp h).1;have e:pP xs.length j=some j:=by
  unfold pP;rw[aK Vb,aK Vb];simp
 unfold dA;rw[e];exact h
def Su(xs:List g)(v:g):dA (xs++[v]) (-1)=some v:=by
 have q:(xs++[v]).length=xs.length+1:=Vd
 have e:pP (xs++[v]).length (-1)=some xs.length:=by
  unfold pP;rw[aG Va,aK Vb];congr 1;grind
 unfold dA;rw[e];simp
def Zm1(b:Ax):Prop:=∀o i,subscripted b false o i=operate [o,i] (getItem o i)
def i0(X:Cx)(r:R2):Prop:=
 ∀(value q:Ax)(zn:Ac)(s:As)(σ:St)(H:Hp)(x y:V)(v u:Av)(Q:VK),aD X zn σ H s->aI x v->aI y u->r x y H Q->
  subscripted q false v u=operate [v,u] (getItem v u)->Ba X (subscriptTail value q v u) (EP X zn σ Q) X.xe s
def En(X:Cx)(id:String)(r:V->List V->Hp->VK->Prop):Prop:=
 ∀(zn:Ac)(s:As)(σ:St)(H:Hp)(x:V)(xs:A8)(v:Av)(q:Ag)(Q:VK),aD X zn σ H s->aI x v->aH xs q->r x xs H Q->
  Ba X (call (.builtin id) (v::q)) (EP X zn σ Q) X.xe s
section
variable {X:Cx}{a b:Ax}{ta tb:TE}{pos:Pos}
inductive Q8(K:Af)(x:V)(y:V)(H:Hp)(Q:VK):Prop
 |mk (p xs i v:_):(x=.ref p)->(y=.int i)->(aB K H p xs)->(dA xs i=some v)->(Q v H)->Q8 K x y H Q
def AY(K:Af):R2:=λx y H Q=>Q8 K x y H Q
inductive RJ(K:Af)(x:V)(y:V)(H:Hp)(Q:VK):Prop
 |mk (p xs i v:_):(x=.ref p)->(y=.int i)->(aL K H p xs)->(dA xs i=some v)->(Q v H)->RJ K x y H Q
def mZ(K:Af):R2:=λx y H Q=>RJ K x y H Q
inductive RG(x:V)(y:V)(H:Hp)(Q:VK):Prop
 |mk (z i c:_):(x=.str z)->(y=.int i)->(z.length<=sizeLine)->(dA z.cps.toList i=some c)->(Q (.str ⟨#[c]⟩) H)->RG x y H Q
def Li  : R2:=λx y H Q=>RG x y H Q
def Zr:i0 X (AY X.K):=λvalue C zn s σ H x y v u Q I L O h hs=>by
 obtain⟨p,xs,i,z,rfl,rfl,Z,Ua,q⟩:=h;cases L;obtain⟨t,rfl⟩:=O;obtain⟨B,r,pl,hz⟩:=I.list Z;refine ω (gC Ua) (ε1 λj=>θ4 λh1 h2 h3 T G=>?_);obtain⟨w,ew,D⟩:=r.get h2;have Y:=r.length;have hn:=xq;have fin:EP X zn σ Q w s:=⟨z,H,I,D,q⟩
 by_cases F:0<=i
 .have J:=by
   rw[Iu F G]at h1;exact Option.some.inj h1
  exact item_listR pl.isList F Vb (by simp_all) fin hs
 .have J:(i+B.toArray.size).toNat=j:=by
   rw[seqIndex_neg Vb T]at h1;rw[eB,<-Y];exact Option.some.inj h1
  exact subscriptTail_builtinR pl.isList.typeIs LU.lookup
   (wpAny_getItem_list_neg pl.isList Vb (by simp_all) Vb (by simp_all) ⟨U,fin⟩) hs
def ZT:i0 X (mZ X.K):=λvalue B zn s σ H x y v u Q I F G h hs=>by
 obtain⟨p,xs,i,z,rfl,rfl,L,J,q⟩:=h;cases F;obtain⟨t,rfl⟩:=G;obtain⟨D,r,pl,Ua⟩:=I.tuple L;refine ω (gC J) (ε1 λj=>θ4 λh1 h2 Y Z O=>?_);obtain⟨w,T,C⟩:=r.get h2;have hl:=r.length;have hn:=xq;have fin:EP X zn σ Q w s:=⟨z,H,I,C,q⟩;exact subscriptTail_builtinR pl.typeIs slot_tuple_getitem.lookup
  (getItem_tuple (j:=j) pl Vb Vb Vc Vc ⟨U,fin⟩) hs
def CU:i0 X Li:=λvalue r zn s σ H x y v u Q I C D h hs=>by
 obtain⟨z,i,c,rfl,rfl,T,J,q⟩:=h;obtain⟨t,rfl⟩:=C;obtain⟨t',rfl⟩:=D;refine ω (gC J) (ε1 λj=>θ4 λh1 h2 L F B=>?_);have G:z.cps.toList.length=z.length:=by simp[Str.length]
 rw[G]at h1 F B;have O:=xq;exact tail_any (typeIs_str s z t) slot_str_getitem.lookup (getItem_str (by
  lia) Vc ⟨.str _,H,I.tok _,⟨_,U⟩,q⟩) hs
def V0 (q:Ag) (n j:Nat) (u:Av):Obj.mapSeq (·.setIfInBounds j u) {cls:=.type "list",data:=.seq q.toArray n}={cls:=.type "list",data:=.seq (q.set j u).toArray n}:=by
 simp[Obj.mapSeq]
def aD.lst{σ:St}{H:Hp}{s:As}{p:Aw}{xs:A8}(I:aD X zn σ H s)(h:H p=ap xs):
  ∃(q:Ag)(n:Nat),aH xs q/\s.heap.get? p=some {cls:=.type "list",data:=.seq q.toArray n}/\xs.length<=sizeLine:=by
 obtain⟨z,q,n,r,e⟩:=I.aM p _ h;exact⟨q,n,r,e,z⟩
def aD.B5{p:Aw}{xs ys:A8}{B:Ag}{n':Nat}{f:Obj->Obj}(I:aD X C c H s)(h:H p=ap xs)
  (J:s.heap.get? p=some {cls:=.type "list",data:=.seq G.toArray n}) (D:f {cls:=.type "list",data:=.seq G.toArray n}={cls:=.type "list",data:=.seq B.toArray n'}) (r:aH ys B) (L:ys.length<=sizeLine) (t:Nat):
  aD X C c (aA H p (.lst ys)) {s with heap:=s.heap.update p f,toks:=t}:=by
 have e:(s.heap.update p f).get? p=some {cls:=.type "list",data:=.seq B.toArray n'}:=by
  rw[lG f J (by rw[D]<;>rfl),D]
 refine I.write (by rw[h];trivial) (.inl U) (λb u F q=>(nU _ _ (eN F)).trans q) ⟨_,e⟩ ⟨L,B,n',r,e⟩
inductive QB(o:V)(i:V)(v:V)(H:Hp)(Q:(Hp->Prop)):Prop
 |mk (p xs k j:_):(o=.ref p)->(i=.int k)->(H p=ap xs)->(pP xs.length k=some j)->(Q (aA H p (.lst (xs.set j v))))->QB o i v H Q
def D8  : V->V->V->Hp->(Hp->Prop)->Prop:=λo i v H Q=>QB o i v H Q
def fA:FP X D8:=by
 rintro zn s σ H o i v ov iv u Q I T G L ⟨p,xs,k,j,rfl,rfl,D,O,q⟩;cases T;obtain⟨t,rfl⟩:=G;obtain⟨B,n,r,C,hz⟩:=I.lst D;refine ω (OD O) (θ3 λh1 h2 Ua Y=>?_);have Z:=r.length;have hn:=xq;have I':=
  I.B5 D C (V0 B n j u) (r.set L j) (by simp_all) s.toks
 by_cases F:0<=k
 .have J:=by
   rw[Iu F Y]at h1;exact Option.some.inj h1
  exact PySem.W.ki_setAt C F Vb (by simp_all) Vc
 .have J:(k+B.toArray.size).toNat=j:=by
   rw[seqIndex_neg Vb Ua]at h1;rw[eB,<-Z];exact Option.some.inj h1
  exact PySem.W.ki_setBack C Vb (by simp_all) Vb Vc
def ko(lo hi:Option Int)(n:Nat):(sliceBounds lo hi none n).1=((HT.iJ n 0 lo:Nat):Int)/\(sliceBounds lo hi none n).2.1=((HT.iJ n n hi:Nat):Int)/\(sliceBounds lo hi none n).2.2=1:=by
 refine⟨?_,?_,U⟩
 .cases lo with
  |none=>simp[sliceBounds,HT.iJ]
  |some i=>
   simp[sliceBounds,HT.iJ]
   by_cases h:i<0
   .skip<;>grind
   .skip<;>grind
 .cases hi with
  |none=>simp[sliceBounds,HT.iJ]
  |some i=>
   simp[sliceBounds,HT.iJ]
   by_cases h:i<0
   .skip<;>lia
   .skip<;>lia
def yR(q:Ag)(lo hi:Option Int):slicePick q.toArray lo hi none=((q.drop (HT.iJ q.length 0 lo)).take (HT.iJ q.length q.length hi-HT.iJ q.length 0 lo)).toArray:=by
 obtain⟨h1,h2,r⟩:=ko lo hi _;unfold slicePick;rw[h1,h2,r];simp only[sliceRange_one,pick_run]<;>rfl
inductive Pt(K:Af)(x:V)(lo:Option Int)(hi:Option Int)(H:Hp)(Q:VK):Prop
 |mk (a xs:_):(x=.ref a)->(aB K H a xs)->(∀p,H p=none->Q (.ref p) (aA H p (.lst (pT xs lo hi))))->Pt K x lo hi H Q
def Nc(K:Af):V->Option Int->Option Int->Hp->VK->Prop:=λx lo hi H Q=>Pt K x lo hi H Q
def YZ:OL X (Nc X.K):=by
 rintro zn s σ H x v Ua T lo hi O Q I D hs pl G ⟨a,xs,rfl,J,q⟩;cases D;obtain⟨F,r,C,L⟩:=I.list J;have B:=r.length;refine⟨"list",_,LU.lookup,C.isList.typeIs,(wpAny_getItem_list_slice C.isList hs pl G .none Vd ?_ (by simp_all))⟩;rw[yR,<-B];refine⟨.ref _,_,I.laid (λb ob q=>aW _ q) (aN _) ?_,U,q _ (I.aM.fresh (aN _))⟩;exact⟨cC (by
    unfold pT;rw[c8,fX];lia) L,_,0,(r.drop _).take _,bX _ U⟩
def XM:V->Bool
 |.bN=>true
 |.bl _=>true
 |.int _=>true
 |.str _=>true
 |_=>false
def iR:V->V->Bool
 |.bN,.bN=>true
 |.bl a,.bl b=>a == b
 |.bl a,.int b=>(if a then 1 else 0) == b
 |.int a,.bl b=>a == (if b then 1 else 0)
 |.int a,.int b=>a == b
 |.str a,.str b=>a == b
 |_,_=>false
def uZ{A:Ar}{y x:V}{v:Av}(r:aI y u)(q:aI x v)(B:XM y=true)(fx:XM x=true):SeqAt.EqAt A s u v (iR y x):=by
 cases y with
 |bN=>
  cases r;cases x with
  |bN=>cases q;exact IX _
  |bl b=>cases q;exact SeqAt.EqAt.none_bool b
  |int b=>obtain⟨t,rfl⟩:=q;exact SeqAt.EqAt.none_int b t
  |str b=>obtain⟨t,rfl⟩:=q;exact SeqAt.EqAt.none_str b t
  |_=>exact absurd (fx) eH
 |bl a=>
  cases r;cases x with
  |bN=>cases q;exact SeqAt.EqAt.bool_none a
  |bl b=>cases q;exact SeqAt.EqAt.bool_bool a b
  |int b=>obtain⟨t,rfl⟩:=q;exact SeqAt.EqAt.bool_int a b t
  |str b=>obtain⟨t,rfl⟩:=q;exact SeqAt.EqAt.bool_str a b t
  |_=>exact absurd (fx) eH
 |int a=>
  obtain⟨t',rfl⟩:=r;cases x with
  |bN=>cases q;exact SeqAt.EqAt.int_none a t'
  |bl b=>cases q;exact SeqAt.EqAt.int_bool a t' b
  |int b=>obtain⟨t,rfl⟩:=q;exact SeqAt.EqAt.int_int a t' b t
  |str b=>obtain⟨t,rfl⟩:=q;exact SeqAt.EqAt.int_str a t' b t
  |_=>exact absurd (fx) eH
 |str a=>
  obtain⟨t',rfl⟩:=r;cases x with
  |bN=>cases q;exact SeqAt.EqAt.str_none a t'
  |bl b=>cases q;exact SeqAt.EqAt.str_bool a t' b
  |int b=>obtain⟨t,rfl⟩:=q;exact SeqAt.EqAt.str_int a t' b t
  |str b=>obtain⟨t,rfl⟩:=q;exact SeqAt.EqAt.str_str a t' b t
  |_=>exact absurd (fx) eH
 |_=>exact absurd (B) eH
def tJ(x:V)(u:Av):Bool:=match u with
 |.none=>iR .bN x
 |.bool b=>iR (.bl b) x
 |.int i _=>iR (.int i) x
 |.str z _=>iR (.str z) x
 |_=>false
def KG{x y:V}(r:aI y u)(f:XM y=true):tJ x u=iR y x:=by
 cases y with
 |bN=>cases r;rfl
 |bl b=>cases r;rfl
 |int i=>obtain⟨t,rfl⟩:=r;rfl
 |str z=>obtain⟨t,rfl⟩:=r;rfl
 |_=>exact absurd (f) eH
theorem zq{x:V}:∀{xs:A8} {q:Ag},aH xs q->xs.all XM=true->q.any (tJ x)=xs.any λy=>iR y x
 |_,_,.nil,_=>rfl
 |y::xs,u::q,.cons r t,f=>by
  rw[nK,lQ]at f;rw[FV,FV,KG r f.1,zq t f.2]
theorem JS{A:Ar}{s:As}{x:V}{v:Av}(C:aI x v)(fx:XM x=true):∀{xs:A8} {B:Ag},aH xs B->xs.all XM=true->∀u∈B,SeqAt.EqAt A s u v (tJ x u)
 |_,_,.nil,_=>λu q=>by cases q
 |y::xs,u::B,.cons r t,f=>λD q=>by
  rw[nK,lQ]at f;rcases bJ.mp q with rfl|q
  .rw[KG r f.1];exact uZ r C f.1 fx
  .exact JS C fx t f.2 D q
def bP(x:V)(xs:A8):Bool:=xs.any λy=>iR y x
inductive Qs(K:Af)(neg:Bool)(x:V)(y:V)(H:Hp)(Q:VK):Prop
 |mk (p xs:_):(y=.ref p)->((aB K H p xs\/aL K H p xs))->(XM x=true)->(xs.all XM=true)->(Q (.bl (if neg then !bP x xs else bP x xs)) H)->Qs K neg x y H Q
def Hu(K:Af)(neg:Bool):R2:=λx y H Q=>Qs K neg x y H Q
def ZW:bZ X (compareOp .In) (Hu X.K false):=by
 rintro zn s σ H x y v u Q I D F ⟨p,xs,rfl,C,fx,fs,q⟩;cases F;rcases C with C|C
 .obtain⟨B,r,pl,G⟩:=I.list C;refine SeqAt.in_listAt _ pl.isList (λw hw=>JS D fx r fs w Vc) ⟨.bl _,H,I,U,?_⟩;rw[show B.toArray.any _=B.any (tJ x) by simp,zq r fs];exact q
 .obtain⟨B,r,pl,G⟩:=I.tuple C;refine SeqAt.in_tupleAt _ pl (λw hw=>JS D fx r fs w Vc) ⟨.bl _,H,I,U,?_⟩;rw[show B.toArray.any _=B.any (tJ x) by simp,zq r fs];exact q
def kq:bZ X (compareOp .NotIn) (Hu X.K true):=by
 rintro zn s σ H x y v u Q I D F ⟨p,xs,rfl,C,fx,fs,q⟩;cases F;rcases C with C|C
 .obtain⟨B,r,pl,G⟩:=I.list C;refine SeqAt.notIn_listAt _ pl.isList (λw hw=>JS D fx r fs w Vc) ⟨.bl _,H,I,U,?_⟩;rw[show B.toArray.any _=B.any (tJ x) by simp,zq r fs];exact q
 .obtain⟨B,r,pl,G⟩:=I.tuple C;refine SeqAt.notIn_tupleAt _ pl (λw hw=>JS D fx r fs w Vc) ⟨.bl _,H,I,U,?_⟩;rw[show B.toArray.any _=B.any (tJ x) by simp,zq r fs];exact q
def Zq:YX X (.builtin "len") (λxs H Q=>∃p ys,xs=[.ref p]/\(aB X.K H p ys\/aL X.K H p ys)/\Q (.int ys.length) H):=by
 rintro zn s σ H xs L Q I r ⟨p,ys,rfl,C,q⟩;obtain⟨u,rfl,G⟩:=bS r;cases G;have O:=xq;rcases C with C|C
 .obtain⟨D,F,pl,J⟩:=I.list C;have B:=F.length;exact Calls.call_len_list pl.isList Vc ⟨.int _,H,I.tok _,⟨s.toks+1,Vc⟩,q⟩
 .obtain⟨D,F,pl,J⟩:=I.tuple C;have B:=F.length;exact len_tuple pl Vc ⟨.int _,H,I.tok _,⟨s.toks+1,Vc⟩,q⟩
def kr:YX X (.builtin "len") (λxs H Q=>∃z,xs=[.str z]/\z.length<=sizeLine/\Q (.int z.length) H):=by
 rintro zn s σ H xs C Q I r ⟨z,rfl,D,q⟩;obtain⟨u,rfl,t,rfl⟩:=bS r;have B:=xq;exact len_str Vb ⟨.int _,H,I.tok _,⟨_,U⟩,q⟩
def ku:YX X (.type "list") (λxs H Q=>∃p ys,xs=[.ref p]/\(aB X.K H p ys\/aL X.K H p ys)/\∀l,H l=none->Q (.ref l) (aA H l (.lst ys))):=by
 refine λzn s σ H xs Ua Q I r=>ε2 λp ys=>θ2 λzq0 G q=>?_;subst zq0;obtain⟨u,rfl,T⟩:=bS r;cases T;have fin:∀(B:Ag),aH ys B->ys.length<=sizeLine->∀(h':Heap)(c':Nat),(∀b o',s.heap.get? b=some o'->h'.get? b=some o')->
   h'.get? _=some _->EP X zn σ Q _ _:=λB C F h' c' kp e=>
  ⟨.ref _,_,I.laid (t':=s.toks) kp (aN _) (show XJ X.prog X.w _ h' _ (.lst ys)from⟨F,B,c',C,e⟩),U,q _ (I.aM.fresh (aN _))⟩
 rcases G with G|G
 .obtain⟨B,C,pl,F⟩:=I.list G;have D:=C.length;obtain⟨o,L,O,n,J⟩:=pl.isList;exact call_list_seq p (.inl U) L O J (λh' c' kp e=>fin B C F h' c' kp e) Vc
 .obtain⟨B,C,pl,F⟩:=I.tuple G;have D:=C.length;obtain⟨o,L,O,n,J⟩:=pl;exact call_list_seq p (.inr U) L O J (λh' c' kp e=>fin B C F h' c' kp e) Vc
def Z1:YX X (.type "tuple") (λxs H Q=>∃p ys,xs=[.ref p]/\((aB X.K H p ys/\∀l,H l=none->Q (.ref l) (aA H l (.tup ys)))\/(aL X.K H p ys/\Q (.ref p) H))):=by
 rintro zn s σ H xs T Q I r ⟨p,ys,rfl,h⟩;obtain⟨u,rfl,L⟩:=bS r;cases L;rcases h with⟨D,q⟩|⟨D,q⟩
 .obtain⟨B,C,pl,J⟩:=I.list D;have F:=C.length;refine call_tuple_list pl.isList (λh' kp=>?_) Vc;have G:=I.kept (t':=s.toks) kp;have O:=
   G.laid (t':=s.toks) (λb o e=>aW _ e) (aN _) (show XJ X.prog X.w _ _ _ (.tup ys)from⟨J,B,C,nM.new _ _⟩)
  exact⟨.ref _,_,O,U,q _ (G.aM.fresh (aN _))⟩
 .obtain⟨B,C,pl,J⟩:=I.tuple D;exact call_tuple_same pl ⟨.ref p,H,I,U,q⟩
def ML(K:Af)(T:String)(x:V)(H:Hp):Prop:=match x with
 |.str _=>T = "str"
 |.int _=>T = "int"
 |.ref p=>(T = "list" /\ ∃xs,aB K H p xs)\/(T = "tuple" /\ ∃o,K.lookup p=some o/\o.cls=.type "tuple" /\ o.dict=none) \/
   (T = "dict" /\ ((∃wl,H p=some (.dK wl))\/∃wl,H p=some (.dT wl)))\/(T = "set" /\ ∃S n,H p=some (.set S n))
 |_=>False
def Nx{σ:St}{T:String}{x:V}{v:Av}(I:aD X C σ H s)(r:aI x v)(ty:ML X.K T x H):
  s.TypeIs v T/\∀a,v=.ref a->∃ob,s.heap.get? a=some ob/\ob.dict=none:=by
 cases x with
 |str z=>
  obtain⟨t,rfl⟩:=r;cases(ty);exact⟨typeIs_str s z t,λ_ e=>nomatch e⟩
 |int i=>
  obtain⟨t,rfl⟩:=r;cases(ty);exact⟨typeIs_int s i t,λ_ e=>nomatch e⟩
 |ref p=>
  cases r;rcases ty with⟨rfl,xs,F⟩|⟨rfl,o,q,G,B⟩|⟨rfl,q⟩|⟨rfl,S,n,q⟩
  .obtain⟨D,_,pl,_⟩:=I.list F;refine⟨pl.isList.typeIs,λa e=>?_⟩;cases e;revert pl;refine ε2 λo n=>θ3 λe c B _=>?_;exact⟨o,e,B⟩
  .refine⟨⟨o,I.fT p o q,G⟩,λa e=>?_⟩;cases e;exact⟨o,I.fT _ o q,B⟩
  .have z:∃o,s.heap.get? p=some o/\o.ExactDict:=by
    rcases q with⟨wl,q⟩|⟨wl,q⟩
    .refine ω (I.aM p _ q) (θ2 λ_ _=>ε1 λ_=>θ1 λ_=>ε3 λo _ _=>θ2 λe ex _=>?_);exact⟨o,e,ex⟩
    .refine ω (I.aM p _ q) (θ2 λ_ _=>ε1 λ_=>θ1 λ_=>ε3 λo _ _=>θ2 λe ex _=>?_);exact⟨o,e,ex⟩
   obtain⟨o,e,ex⟩:=z;refine⟨⟨o,e,ex.1⟩,λa e2=>?_⟩;cases e2;exact⟨o,e,ex.2.1⟩
  .refine ω (I.aM p _ q) (ε4 λo _ _ _=>θ2 λe ex _=>?_);refine⟨⟨o,e,ex.1⟩,λa e2=>?_⟩;cases e2;exact⟨o,e,ex.2.1⟩
 |_=>exact False.elim ty
inductive O0(K:Af)(T:String)(r:V->List V->Hp->VK->Prop)(Q:VK)(x:V)(H1:Hp):Prop
 |mk  : (ML K T x H1)->(r x [] H1 Q)->O0 K T r Q x H1
def BV(K:Af)(T:String)(r:V->List V->Hp->VK->Prop)(to:TE):TE:=λσ H Q=>to σ H λx H1=>O0 K T r Q x H1
inductive Nr(K:Af)(T:String)(r:V->List V->Hp->VK->Prop)(t:TA)(σ:St)(Q:VK)(x:V)(H1:Hp):Prop
 |mk  : (ML K T x H1)->(t σ H1 λxs H2=>r x xs H2 Q)->Nr K T r t σ Q x H1
def Nu(K:Af)(T:String)(r:V->List V->Hp->VK->Prop)(to:TE)(t:TA):TE:=λσ H Q=>to σ H λx H1=>Nr K T r t σ Q x H1
variable {o e:Ax}{es:An}{to:TE}{t:TA}{name:Str}{apos pu:Pos}{T id:String}{r:V->List V->Hp->VK->Prop}
def Fj (pa:PlainAttrs T) (F:Slot T name id) (G:typeOf (.builtin id)=pure (.type "method_descriptor")) (hm:En X id r) (ho:PE X o to) (ha:PA X (e::es) t)
  (B:attributeBase o name X.env (eval o X.env)=eval o X.env:=by rfl)
  (D:((backTo pu (starEach (e::es) X.env)).all (λx=>!x.1)&&(backToKw pu (keywordEach [] X.env)).all (λx=>x.1.isSome)
   && decide ((e::es).length+([]:List Keyword).length+(if([]:List Keyword).isEmpty then 0 else 1)<30))=true:=by rfl)
  (C:(apos.endLine == pu.line)=true:=by rfl) (hs:starEach (e::es) X.env=(false,eval e X.env)::starEach es X.env:=by rfl) (q:(backTo pu (starEach es X.env)).any (·.1)=false:=by rfl):
  PE X (.Call (.Attribute o name apos) (e::es) [] pu) (Nu X.K T r to t):=by
 intro zn s σ H Q I h;refine MT B D C U (aR (ho zn s σ H _ I h) λv Ua ⟨x,H1,J,L,ty,Y⟩=>?_);obtain⟨h1,h2⟩:=Nx J L ty;refine ι2 T id ⟨pa,F,G,h1,h2,?_⟩;have O:=ha pu zn Ua σ H1 _ J Y;rw[hs]at O ⊢;refine Fx (by show(false||(backTo pu (starEach es X.env)).any (·.1))=false;rw[q]<;>rfl) (HW ?_);exact aR O λus s2 ⟨vs,H2,I2,Z,q2⟩=>hm zn s2 σ H2 x vs v us Q I2 L Z q2
end
def EM(X:Cx)(id:String)(r:V->List V->Hp->VK->Prop):Prop:=
 ∀(zn:Ac)(s:As)(σ:St)(H:Hp)(x:V)(xs:A8)(v:Av)(q:Ag)(Q:VK),aD X zn σ H s->aI x v->aH xs q->r x xs H Q->
  Ba X (call (.builtin id) (v::q)) (EP X zn σ Q) X.xe s
theorem aH.one:∀{x:V} {q:Ag},aH [x] q->∃u,q=[u]/\aI x u
 |_,_,.cons r .nil=>⟨_,U,r⟩
theorem aH.zero:∀{q:Ag},aH [] q->q=[]
 |_,.nil=>rfl
theorem aH.dropLast{xs:A8}{B:Ag}(h:aH xs B):aH xs.dropLast B.dropLast:=by
 induction h with
 |nil=>exact .nil
 |cons r t C=>
  cases t with
  |nil=>exact .nil
  |cons q t'=>exact .cons r C
theorem aH.reverse{xs:A8}{q:Ag}(h:aH xs q):aH xs.reverse q.reverse:=by
 induction h with
 |nil=>exact .nil
 |cons r t B=>rw[oE,oE];exact aH.append B (.cons r .nil)
theorem aH.rep{xs:A8}{q:Ag}(h:aH xs q):∀k:Nat,aH (List.replicate k xs).flatten (List.replicate k q).flatten
 |0=>.nil
 |k+1=>aH.append h (aH.rep h k)
def iB(q:Ag):∀(k:Nat)(acc:Ag),
  List.foldl (λr x2=>r++x2) acc.toArray (List.replicate k q.toArray)=(acc++(List.replicate k q).flatten).toArray
 |0,acc=>Vd
 |k+1,acc=>by
  have e:acc.toArray++q.toArray=(acc++q).toArray:=Vd
  have e2:(acc++q)++(List.replicate k q).flatten=acc++(List.replicate (k+1) q).flatten:=by
   grind
  rw[<-e2,<-iB q k _,<-e,List.replicate_succ,pU]
section
variable {X:Cx}{zn:Ac}{σ:St}{H:Hp}{s:As}{l b:Aw}{xs ys zs:A8}
def aD.BQ{r:Ag}{f:Ah->Array Av}{t':Nat}(I:aD X zn σ H s)(B:H l=ap xs)
  (e:s.heap.get? l=some {cls:=.type "list",data:=.seq G.toArray n}) (C:f G.toArray=r.toArray) (J:aH ys r) (L:ys.length<=sizeLine):
  aD X zn σ (aA H l (.lst ys)) {s with heap:=s.heap.update l (Obj.mapSeq f),toks:=t'}:=by
 have q:=PySem.IsL.update e f;rw[C]at q;refine I.write (by rw[B];exact trivial) (.inl U) (λb' u D F=>(nU s.heap _ (eN D)).trans F) ⟨_,q⟩ ⟨L,r,_,J,q⟩
theorem aD.D0(I:aD X zn σ H s)(r:aH ys G)(B:ys.length<=sizeLine):
  aD X zn σ (aA H s.heap.objs.size (.lst ys)) {s with heap:=s.heap.push {cls:=.type "list",data:=.seq G.toArray},toks:=t'}:=
 I.laid (λ_ _ q=>aW _ q) (aN _) ⟨B,G,0,r,bX _ U⟩
def aD.fresh(I:aD X zn σ H s):H s.heap.objs.size=none:=I.aM.fresh (aN _)
def aD.lU (I:aD X zn σ H s) (B:H l=ap xs):xs.length<=sizeLine/\∃(q:Ag)(n:Nat),aH xs q/\xs.length=q.length/\s.heap.get? l=some {cls:=.type "list",data:=.seq q.toArray n}:=by
 obtain⟨z,q,n,r,e⟩:=I.aM l _ B;exact⟨z,q,n,r,r.length,e⟩
def QR(h:n<=sizeLine):Builtin.List.listTooLong n=false:=bF Vb
end
inductive kx(x:V)(vs:A8)(H:Hp)(Q:VK):Prop
 |mk (l xs y:_):(x=.ref l)->(vs=[y])->(H l=ap xs)->(xs.length<sizeLine)->(Q .bN (aA H l (.lst (xs++[y]))))->kx x vs H Q
def Zm2  : V->List V->Hp->VK->Prop:=λx vs H Q=>kx x vs H Q
def ZM:EM X "list.append" Zm2:=by
 rintro zn s σ H x vs v O Q I C G ⟨l,xs,y,rfl,rfl,B,T,q⟩;cases C;obtain⟨u,rfl,J⟩:=G.one;obtain⟨z,D,n,r,L,e⟩:=I.lU B;refine Dw F.slot_list_append ⟨_,e,U⟩ F.entry_list_append (F.args_list_append_2 _ _) (PySem.list_append l _ n u (by simp_all)) ⟨e,⟨.bN,_,I.BQ B e Vd (r.append (.cons J .nil)) ?_,U,q⟩⟩;rw[bA,List.length_singleton];lia
inductive kz(x:V)(vs:A8)(H:Hp)(Q:VK):Prop
 |mk (l b xs zs:_):(x=.ref l)->(vs=[.ref b])->(H l=ap xs)->(H b=ap zs)->(xs.length+zs.length<=sizeLine)->(Q .bN (aA H l (.lst (xs++zs))))->kz x vs H Q
def Zm3  : V->List V->Hp->VK->Prop:=λx vs H Q=>kz x vs H Q
def UP:EM X "list.extend" Zm3:=by
 rintro zn s σ H x vs v us Q I Y T ⟨l,b,xs,zs,rfl,rfl,G,J,hz,q⟩;cases Y;obtain⟨u,rfl,Ua⟩:=T.one;cases Ua;refine ω (I.lU G) (θ1 λz=>ε2 λC n=>θ2 λr hl e=>?_);obtain⟨z2,B,O,Z,L,e2⟩:=I.lU J;have hsz:C.toArray.size+B.toArray.size<=sizeLine:=(by simp_all)
 have D:¬(!C.toArray.isEmpty&&Builtin.List.listTooLong (C.toArray.size+B.toArray.size))=true:=by
  rw[QR hsz,EW];exact eH
 refine Dw F.slot_list_extend ⟨_,e,U⟩ F.entry_list_extend (F.args_list_extend_2 _ _)
  (AutoSeq1.list_extend_list_list_0 l _ n b _ O D (by simp_all) Vb) ⟨e,e2,⟨.bN,_,I.BQ G e Vd (r.append Z) ?_,U,q⟩⟩
 rw[bA];omega
inductive RF(x:V)(vs:A8)(H:Hp)(Q:VK):Prop
 |mk (l xs y:_):(x=.ref l)->(vs=[])->(H l=ap xs)->(xs[xs.length-1]?=some y)->(Q y (aA H l (.lst xs.dropLast)))->RF x vs H Q
def Ed  : V->List V->Hp->VK->Prop:=λx vs H Q=>RF x vs H Q
def Gd:EM X "list.pop" Ed:=by
 rintro zn s σ H x vs v Z Q I J L ⟨l,xs,y,rfl,rfl,G,T,q⟩;cases J;have D:=L.zero;subst D;obtain⟨z,B,n,r,Y,e⟩:=I.lU G;obtain⟨u,Ua,O⟩:=r.get T;have C:B.toArray[B.toArray.size-1]?=some u:=by
  simp_all
 refine Dw F.slot_list_pop ⟨_,e,U⟩ F.entry_list_pop (F.args_list_pop_1 _) (MeetsSeq.list_pop_last l _ n u C (by simp_all)) ⟨e,⟨y,_,I.BQ G e ?_ r.dropLast ?_,O,q⟩⟩
 .simp_all
 .rw[List.length_dropLast];grind
inductive QJ(x:V)(y:V)(H:Hp)(Q:VK):Prop
 |mk (l b xs zs:_):(x=.ref l)->(y=.ref b)->(H l=ap xs)->(H b=ap zs)->(xs.length+zs.length<=sizeLine)->(∀p,H p=none->Q (.ref p) (aA H p (.lst (xs++zs))))->QJ x y H Q
def Mt  : R2:=λx y H Q=>QJ x y H Q
def k4:bZ X (binaryOp .Add) Mt:=by
 rintro zn s σ H x y v u Q I D J ⟨l,b,xs,zs,rfl,rfl,L,T,hz,q⟩;cases D;cases J;obtain⟨z,C,n,r,Z,e⟩:=I.lU L;obtain⟨Y,B,Ua,G,F,e2⟩:=I.lU T;refine PySem.P.add_list e e2 ?_ Vc;have O:C.toArray++B.toArray=(C++B).toArray:=Vd
 rw[O];exact⟨.ref _,_,I.D0 (r.append G) Vc,U,q _ I.fresh⟩
inductive OI(x:V)(y:V)(H:Hp)(Q:VK):Prop
 |mk (l k xs:_):(x=.ref l)->(y=.int k)->(H l=ap xs)->(-(2^63)<=k)->(k<2^63)->(xs.length*k.toNat<=sizeLine)->(∀p,H p=none->Q (.ref p) (aA H p (.lst (List.replicate k.toNat xs).flatten)))->OI x y H Q
def LO  : R2:=λx y H Q=>OI x y H Q
def len_rep(xs:List g)(k:Nat):(List.replicate k xs).flatten.length=k*xs.length:=Vd
def Bp:bZ X (binaryOp .Mult) LO:=by
 rintro zn s σ H x y v u Q I rx T ⟨l,k,xs,rfl,rfl,Ua,h1,h2,Z,q⟩;cases rx;obtain⟨t,rfl⟩:=T;obtain⟨z,B,n,r,hl,e⟩:=I.lU Ua;have L:B.toArray.size*k.toNat<=sizeLine:=(by simp_all)
 have D:¬B.toArray.size*k.toNat>(2^63-1)/8:=by
  have:sizeLine<=(2^63-1)/8:=Va
  lia
 have G:¬(!Builtin.List.listFitsIndex k)=true:=by
  rw[fitsIndex_both h1 h2];exact eH
 have C:¬Builtin.List.listTooLong (B.toArray.size*k.toNat)=true:=by
  rw[QR L];exact eH
 have J:List.foldl (λO x2=>O++x2) #[] (List.replicate (if B.toArray.isEmpty=true then 0 else k.toNat) B.toArray)=(List.replicate k.toNat B).flatten.toArray:=by
  have Y:∀m,List.foldl _ #[] _=(List.replicate m B).flatten.toArray:=λm=>by
   have:=iB B m [];exact this
  rw[Y];cases B with
  |nil=>simp
  |cons a r'=>rw[aG Vd]
 refine wpAny_binaryOp_repeat_ref Va ⟨_,e,U⟩ (λs'=>typeIs_int s' k t) noFill_list_mul F.fills_int_mul F.slot_int_rmul repeat_list F.slot_int_index.lookup
  (Dw F.slot_int_rmul (typeIs_int s k t) F.entry_int_rmul (F.args_int_rmul_2 _ _) (int___rmul___int_list k t l _ n)
   ⟨e,U,⟨_,e,U⟩,Dw F.slot_list_mul ⟨_,e,U⟩ F.entry_list_mul (F.args_list_mul_2 _ _) (AutoListH.list___mul___list_int_3 l _ n k t G D C) ⟨e,?_⟩⟩)
 rw[J];exact⟨.ref _,_,I.D0 (r.rep k.toNat) (by rw[len_rep,Hi];exact Z),U,q _ I.fresh⟩
end L2
namespace Att
open PySem PySem.W PySem.Calls PyProof.Rows
theorem zr{P:Params}:∀(ns:Ak)(vs:Ag),WellAll P h vs (ns.map WData.int)->IntsAre vs ns:=λns=>by
 induction ns with
 |nil=>
  intro vs w;cases w;exact .nil
 |cons n ns q=>
  intro vs w;cases w with
  |cons a b=>
   cases a;exact .cons _ _ (q _ b)
def TH{l:OpenLaw}(Y:l.most=some n){P:Params}{args:List WData}
  (B:l.row.toRowW.claim.pre args=true) (I:WellAll P h G args):
  ∃a vs ns,G=[Value.ref a]/\args=[WData.list (ns.map WData.int)]/\h.get? a=some {cls:=.type "list",data:=.seq vs.toArray}/\IntsAre vs ns/\ns.length<=n:=by
 obtain⟨d,r,rfl,h1,h2⟩:=hasAllW_cons (pre_splitW B).1;obtain rfl:=hasAllW_nil h2;obtain⟨xs,rfl,L⟩:=hasW_list h1;obtain⟨ns,rfl⟩:=items_int L;have C:ns.length<=n:=by
  have F:=by
   have F:=(holds_andW (pre_splitW B).2).1;rw[Y]at F;exact F
  have J:=condW_of F (w_not (w_lt w_lit (w_len_list (w_arg U))));refine LM λq=>?_
  first
   |(exact absurd J _)
   |(simp at J;lia)
 cases I with
 |cons T Ua=>
  cases Ua;cases T with
  |list O D=>exact ι3 _ _ ns ⟨U,U,O,zr ns _ D,C⟩
theorem Zei(l:OpenLaw)(args:List WData):l.row.toRowW.claim.post args (.bool true) args=true:=
 postW_of
  (by first|rfl|decide|skip)
  (w_eq_bool (w_res U) w_lit) U
def i8{l:OpenLaw}{XP:(Ae)->Heap->Prop}{YP:Au->Heap->Prop}{d:DefRec}
  (hn:l.most=some n) (O:d.params.defaults=[])
  (call:∀(w:Au)(s₀ q:As)(mg T:Ae)(J:Aw)(o:Obj)(Z L B:Av)(a:Aw)(vs:Ag)(ns:Ak),
   Ground P N [] XP w s₀ mg T q.heap->YP w q.heap->
   q.heap.get? J=some o->o.data=.func (docDef d.name d.params d.body d.scope Z L B)->q.heap.CodeRec L d.name->mg d.name=some (.ref J)->
   q.heap.get? a=some {cls:=.type "list",data:=.seq vs.toArray}->IntsAre vs ns->ns.length<=n->q.gens=#[]->
   codeAny (model l.prog w) callerA (.call (.ref J) ⟨[.ref a],[]⟩) (λr s'=>r=.ok (.ret (.bool true))/\OldK q.heap s'.heap/\s'.os=q.os/\AllBare s'.gens) q):
  WalkO P N XP YP l.row.toRowW d [] (λf vs=>PySem.call f vs):=by
 intro w s₀ q mg T G Y J o Z L B dV kV ho hd Ua hD hmg hg args vals as F hlay hrd hwl hlo;obtain rfl:dV=.none:=Dflts.none hD O;obtain rfl:kV=.none:=Dflts.noKw hD;refine ω (TH hn F hwl) (ε3 λa vs ns=>θ4 λzq0 zq1 I C D=>?_);subst zq0;subst zq1;refine enter_call (BJ (call w s₀ q mg T J o Z L B a vs ns G Y ho (fd_plain hd) Ua hmg I C D hg) λr s' hq=>?_);obtain⟨rfl,h2,h3,h4⟩:=hq;exact⟨.inl (ι3 _ _ [] ⟨U,λ_=>U,.bool true,Zei l _,λ_=>⟨List.Pairwise.nil,λ_ hm=>(nomatch hm)⟩⟩),h2,h3,h4⟩
end Att
namespace L2
theorem zt:∀{vs:Ag} {ns:Ak},IntsAre vs ns->aH (ns.map V.int) vs
 |_,_,.nil=>.nil
 |_,_,.cons n t h=>.cons ⟨t,U⟩ (zt h)
def Ju(s:Ay):Arguments:=match s with
 |.FunctionDef _ a _ _ _ _ _ _ _ _=>a
 |_=>{posonlyargs:=[],args:=[],vararg:=none,kwonlyargs:=[],kw_defaults:=[],kwarg:=none,defaults:=[]}
def Xr(s:Ay):List Ay:=match s with
 |.FunctionDef _ _ b _ _ _ _ _ _ _=>b
 |_=>[]
def Zj(s:Ay):Scope:=match s with
 |.FunctionDef _ _ _ _ _ _ q _ _ _=>q
 |_=>{kind:=.function,names:=[],isGenerator:=false,isCoroutine:=false}
abbrev lR:mR:=λ_ _ _ _ _ _=>False
abbrev E0:XK:=λ_ _ _=>False
def Jl:fv lR b E0:=λ_ _ _ _ _ _ _ h=>h.elim
structure tS(K:Af)(x ut:Str)(st:Ay)(f:Aw)(fd:Ao):Prop where
 ex:∃(oc:Av)(od:Option Aw)(kV doc pm:Av)(an:Option Aw)(cdv ct:Av)(osl:Array (Option Av)),
  fd=PySem.W.fnOf x ut (Ju st) (Xr st) (Zj st) .none kV doc pm an cdv ct/\K.lookup f=some ⟨oc,od,.func fd,osl⟩/\PySem.W.codeIn K cdv ut=true
 kp:PySem.W.keepIn K (.ref f)=true
section
variable {P:Aq}{w:Au}{K:Af}{mg:Ae}{wv:Heap}
theorem tS.ok{st:Ay}{fd:Ao}{ps:Ai}{k:Nat}{sp:Sp}(F:tS K x ut st f fd)(S:Zv N ps (Zj st))(len:∀vs H Q E,sp vs H Q E->vs.length=ps.length)
  (B:∀(r:Av)(A:Ar)(xz:List Env)(s:As)(H:Hp)(vs:A8)(Q:VK)(E:XK),Jk k (A.deeper (envOfC ut (Zj st) s.heap.objs.size f r))->sp vs H Q E->
   ∃t,pZ (pX lR P w K mg wv N ut (Zj st) f r A xz s H E).tX (Xr st) t/\t {nx:=λ_ H'=>Q .bN H',rt:=Q} (start N vs) H):g7 P w K mg wv lR (k+1) f fd ps sp:=by
 refine ω F.ex (ε9 λoc od kV I O T r ct J=>θ2 λzq0 G D=>?_);subst zq0;refine Qj G D S len λA xz s H vs Q E L C=>?_;obtain⟨t,h,q⟩:=B r A xz s H vs Q E L C;exact⟨t,h.tX,q⟩
def tS.binds{st:Ay}{fd:Ao}(F:tS K x ut st f fd)
  (h:∀(kV r B:Av)(C:Option Aw)(q ct:Av)(D:Ag),D.length=N.length->bindArgs (PySem.W.fnOf x ut (Ju st) (Xr st) (Zj st) .none kV r B C q ct) ⟨D,[]⟩=pure (N.zip D)):c5 K fd N []:=by
 refine ω F.ex (ε9 λoc od kV r B C q ct G=>θ2 λzq0 J I=>?_);subst zq0;exact .all (h kV r B C q ct)
theorem CP{ut:Str}{st:Ay}{od D:Option Aw}{B:Array (Option Av)}{kV r C q ct:Av}(l:K.lookup f=some ⟨u,od,.func (PySem.W.fnOf x ut (Ju st) (Xr st) (Zj st) .none kV r C D q ct),B⟩)
  (c:PySem.W.codeIn K q ut=true) (k:PySem.W.keepIn K (.ref f)=true):tS K x ut st f (PySem.W.fnOf x ut (Ju st) (Xr st) (Zj st) .none kV r C D q ct):=⟨ι9 u od kV r C D q ct B ⟨U,l,c⟩,k⟩
end
def jA{A:Ar}{k:Nat}(q:Jk k A):A.units+1<cLine:=Ek Vb q.units
def Zw(h:n<=1000):n<sizeLine:=Ek h Va
def ZI{A B:Prop}(h:B):if false=true then A else B:=Vc
def Yl{A B:Prop}(h:A):if true=true then A else B:=h
def jB{c A B:Prop}[Decidable c](h1:c->A)(h2:¬c->B):if c then A else B:=Vc
def Z8(H H':Hp):Prop:=∀b o,H b=some o->H' b=some o
def Z8.refl(H:Hp):Z8 H H:=λ_ _ h=>h
def Z8.trans(a:Z8 H q)(b:Z8 q H2):Z8 H H2:=λc o h=>b c o (a c o h)
def Z8.free(e:Z8 H H'){l:Aw}(h:H' l=Option.none):H l=Option.none:=by
 cases q:H l with
 |none=>rfl
 |some o=>
  rw[e l o q]at h;cases h
def L4(i j:Int):Prop:=0<j/\j.natAbs.log2<9000
theorem ZE:bZ X (binaryOp .FloorDiv) (rI L4 λi j=>.int (i/j)):=E9 λi j _ _ _ _ _ r q=>by
 have h1:=r.1;exact floordiv_int Vb Vc (.inl (PyProof.noPylong_of_log2 r.2))
def L4.of{i j:Int}(h1:0<j)(h2:j<2^250):L4 i j:=by
 refine⟨h1,?_⟩;have q:j.natAbs<2^250:=Vc
 have:=(Nat.log2_lt Vc).mpr q;lia
def MX(i j:Int):Prop:=(i.natAbs<2^250/\j.natAbs<2^250)\/Bf i j
def MX.ok{i j:Int}(h:MX i j):IntMulOk i j:=by
 rcases h with⟨h1,h2⟩|h
 .refine IntMulOk.of_bits (cC (PyProof.Rows.intBits_le h1) Va) (cC (PyProof.Rows.intBits_le h2) Va)
 .exact h.ok
def Xa:bZ X (binaryOp .Mult) (rI MX λi j=>.int (i*j)):=E9 λ_ _ _ _ _ _ _ r q=>mul_int q r.ok
inductive OO(K:Af)(xs:A8)(H:Hp)(Q:VK):Prop
 |mk (x T t b:_):(xs=[x,.ty T])->(nA K H x t)->(PySem.W.kitOne K t (.type T)=some b)->(Q (.bl b) H)->OO K xs H Q
def DO(K:Af):A8->Hp->VK->Prop:=λxs H Q=>OO K xs H Q
def Xx:YX X (.builtin "isinstance") (DO X.K):=by
 rintro zn s σ H xs D Q I r ⟨x,T,t,b,rfl,ty,e,q⟩;obtain⟨u,C,rfl,B,rt⟩:=oZ r;cases rt;exact Tp I B ty e λtk=>⟨.bl b,H,I.tok tk,U,q⟩
def Yi:Ax->Bool
 |.Starred _ _=>false
 |_=>true
def Z0{pi:An}{env:Env}(h:Yi e=true):starEach (e::pi) env=(false,eval e env)::starEach pi env:=by
 cases e<;>first
  |rfl
  |cases h
theorem Xk:∀{es:An},es.all Yi=true->(backTo pos (starEach es env)).any (·.1)=false
 |[],_=>rfl
 |e::es,h=>by
  rw[nK,lQ]at h;rw[Z0 h.1];show(false||(backTo pos _).any _)=false;rw[Xk h.2];rfl
theorem cH:∀{es:An},es.all Yi=true->(backTo pos (starEach es env)).all (λx=>!x.1)=true
 |[],_=>rfl
 |e::es,h=>by
  rw[nK,lQ]at h;rw[Z0 h.1];show(true&&(backTo pos _).all _)=true;rw[cH h.2];rfl
section
variable {X:Cx}{CX:mR}{k:Nat}{f C:Aw}{fd:Ao}{ps:Ai}{sp:Sp}{dvs:A8}{ds:Ag}{E:XK}{x m:Str}{p pos apos:Pos}{e o:Ax}{es:An}{ta te:TE}{t:TA}{id T:String}{r:A8->Hp->VK->Prop}
def MH(L:PE X e te)(O:PA X es t)(J:Yi e=true:=by rfl):PA X (e::es) (DW te t):=λpos zn s σ H Q I h=>by
 rw[(Z0 J)];refine sM (aR (L zn s σ H _ I h) λu q ⟨x,H1,C,F,r⟩=>(aR (O pos zn q σ H1 _ C r) λUa T ⟨xs,H2,G,B,D⟩=>⟨x::xs,H2,G,.cons F B,D⟩))
def Zit(F:g7 X.prog X.w X.K X.mg X.base CX k f fd ps sp)(L:Jk k X.A)(J:Gl X x)(O:X.mg x=some (.ref f))(D:PySem.W.keepIn X.K (.ref f)=true)(G:c5 X.K fd ps ds)(B:aH dvs ds)(C:fv CX X E)
  (I:PA X (e::es) t) (q:(x == ("__debug__" : Str))=false:=by decide) (r:(e::es).all Yi=true:=by rfl):PE X (.Call (.Name x p) (e::es) [] pos) (Hm sp dvs E t):=by
 rw[nK,lQ]at r;exact Uw F L J O D G B C I q (Z0 r.1) (Xk r.2)
def Zej (O:YX X (.builtin id) r) (Ua:Gl X x) (Z:X.mg x=none) (G:bootBuiltins x=some (.builtin id)) (T:PA X (e::es) t) (L:x ≠ "__name__" :=by decide) (q:(x == ("__debug__" : Str))=false:=by decide)
  (B:(e::es).all Yi=true:=by rfl):PE X (.Call (.Name x p) (e::es) [] pos) (D7 r t):=by
 rw[nK,lQ]at B;intro zn s σ H Q I h;refine sS (GG I Ua Z G (PyProof.Rows.callWith_builtin1 (aR (T pos zn s σ H _ I h) λY C ⟨vs,H1,F,J,D⟩=>O zn C σ H1 vs Y Q F J D) (Z0 B.1) (Xk B.2)) L q)
def Vv (O:YX X (.type T) r) (Y:Gl X x) (hm:X.mg x=none) (G:bootBuiltins x=some (.type T)) (Ua:PA X (e::es) t) (L:x ≠ "__name__" :=by decide) (q:(x == ("__debug__" : Str))=false:=by decide)
  (B:(e::es).all Yi=true:=by rfl):PE X (.Call (.Name x p) (e::es) [] pos) (D7 r t):=by
 rw[nK,lQ]at B;intro zn s σ H Q I h;refine sS (GG I Y hm G (DA (aR (Ua pos zn s σ H _ I h) λZ C ⟨vs,H1,F,J,D⟩=>O zn C σ H1 vs Z Q F J D) (Z0 B.1) (Xk B.2)) L q)
def T8 {tg a:Ax} (r:Gl X "range") (B:X.mg "range" = none) (q:PA X [a] t) (C:Yi a=true:=by rfl):PI X tg (.Call (.Name "range" p) [a] [] pos) (Mw t):=
 Ur r B q (by rw[Z0 C];rfl)
end
def Yc:bootBuiltins "len" = some (.builtin "len"):=Wm
def ZY:bootBuiltins "isinstance" = some (.builtin "isinstance"):=Wm
def Jv:bootBuiltins "sorted" = some (.builtin "sorted"):=Wm
def Bi:bootBuiltins "all" = some (.builtin "all"):=Wm
def Ge:bootBuiltins "int" = some (.type "int"):=Wm
def OB:bootBuiltins "str" = some (.type "str"):=Wm
def NN:bootBuiltins "list" = some (.type "list"):=Wm
def ZO:bootBuiltins "tuple" = some (.type "tuple"):=Wm
def Rj:bootBuiltins "set" = some (.type "set"):=Wm
def gD:bootBuiltins "reversed" = some (.type "reversed"):=Wm
def WE :PySem.W.kitOne K (.type "int") (.type "int")=some true:=by rfl
def zu :PySem.W.kitOne K (.type "tuple") (.type "tuple")=some true:=by rfl
def X3 :PySem.W.kitOne K (.type "str") (.type "int")=some false:=Vf
def zw :PySem.W.kitOne K (.type "str") (.type "str")=some true:=by rfl
def zx :PySem.W.kitOne K (.type "int") (.type "str")=some false:=Vf
structure QE(X:Cx)(e:Ax)(t:TE):Prop where
 out:PE X e t
structure QT(X:Cx)(e:Ax)(t:TT):Prop where
 out:PT X e t
structure QW(X:Cx)(e:Ax)(t:TT):Prop where
 out:PW X e t
structure QA(X:Cx)(e:An)(t:TA):Prop where
 out:PA X e t
structure nW(X:Cx)(e:List Ay)(t:TS):Prop where
 out:pZ X e t
structure QS(X:Cx)(e:Ay)(t:TS):Prop where
 out:PS X e t
structure QG(X:Cx)(e:Ax)(t:TG):Prop where
 out:PG X e t
structure QI(X:Cx)(tg e:Ax)(t:TI):Prop where
 out:PI X tg e t
structure QO(X:Cx)(e:Option Ax)(t:TO):Prop where
 out:PO X e t
def qv  (i:Nat)   (r:b.N[i]?=some x:=by rfl) (C:IH b.env.scope x:=by first|exact Or.inl U|exact Or.inr (Or.inl U)|exact Or.inr (Or.inr U)) (B:(x == ("__debug__" : Str))=false:=by decide) (q:(x == ("__classdict__" : Str))=false:=by decide):QE b (.Name x p) (rR i):=⟨RQ r C B q⟩
def Ze{i j pos:_}:QE b (.Constant (.int i) j pos) (tC (.int i)):=⟨λ_ _ _ H _ I h=>wpAny_Constant_int ⟨.int i,H,I.tok _,⟨_,U⟩,h⟩⟩
def YO{b j pos:_}:QE X (.Constant (.bool b) j pos) (tC (.bl b)):=⟨λ_ _ _ H _ I h=>Constant_bool ⟨.bl b,H,I,U,h⟩⟩
def Pw{j pos:_}:QE b (.Constant .none j pos) (tC .bN):=⟨λ_ _ _ H _ I h=>Constant_none ⟨.bN,H,I,U,h⟩⟩
def Zi{x j pos:_}:QE b (.Constant (.str x) j pos) (tC (.str x)):=⟨λ_ _ _ H _ I h=>Calls.Constant_str ⟨.str x,H,I.tok _,⟨_,U⟩,h⟩⟩
def WG      (B:Gl b x) (C:b.mg x=some u) (r:aI v u) (q:(x == ("__debug__" : Str))=false:=by decide):QE b (.Name x p) (tC v):=⟨λ_ _ _ H _ I h=>yN I B C ⟨v,H,I,r,h⟩ q⟩
def WH      (D:Gl b x) (F:b.mg x=none) (C:bootBuiltins x=some u) (r:aI v u) (B:x ≠ "__name__" :=by decide) (q:(x == ("__debug__" : Str))=false:=by decide):QE b (.Name x p) (tC v):=⟨λ_ _ _ H _ I h=>GG I D F C ⟨v,H,I,r,h⟩ B q⟩
theorem Zl{X:Cx}{a:Ax}{b:Ax}{B:Operator}{r:R2}(F:bZ X (binaryOp B) r)(O:QE X a d)(C:QE X b J):QE X (.BinOp a B b p) (Hl r d J):=⟨by
 intro zn s σ H Q I h;exact wpAny_BinOp (Ct O.out C.out I h λv u T x y H2 L D G q=>F zn T σ H2 x y v u Q L D G q)⟩
theorem Jm{a:Ax}{q:UnaryOp}{r:V->Hp->VK->Prop}(F:IP b (unaryOp q) r)(J:QE b a d):QE b (.UnaryOp q a p) (tUn r d):=⟨by
 intro zn s σ H Q I h;exact UnaryOp_ (aR (J.out zn s σ H _ I h) λv B ⟨x,H1,D,G,C⟩=>F zn B σ H1 x v Q D G C)⟩
theorem ZS{X:Cx}{a:Ax}{b:Ax}{B:CmpOp}{r:R2}(F:bZ X (compareOp B) r)(O:QE X a d)(C:QE X b J)(Ua:behindInMarks B b=false):QE X (.Compare a [B] [b] p) (Hl r d J):=⟨by
 intro zn s σ H Q I h;exact wpAny_Compare1 (Ct O.out C.out I h λv u T x y H2 L D G q=>F zn T σ H2 x y v u Q L D G q) Ua⟩
theorem Zn{X:Cx}{a:Ax}{b:Ax}{q:CmpOp}{r:R2}(Z:bZ X (compareOp q) r)(ha:QE X a d)(T:QE X b J)(G:behindInMarks q b=false):QT X (.Compare a [q] [b] p) (EB (Hl r d J)):=⟨by
 intro zn s σ H Q I h;refine wpAny_isTrue_Compare1 (aR (ha.out zn s σ H _ I h) λv O ⟨x,H1,C,D,Ua⟩=>aR (T.out zn O σ H1 _ C Ua) λu s2 ⟨y,H2,F,Y,q2⟩=>
  aR (Z zn s2 σ H2 x y v u _ F D Y q2) λc s3 ⟨z,B,L,r3,k,e,q3⟩=>?_) G
 subst e;cases r3;exact u0 ⟨B,L,q3⟩⟩
def YJ(h:QE b e J)(F:∀r,isTrue e b.env r=(do let v <-r;standAt e.pos;holding [v] (truthy v)):=by intro _;rfl):QT b e (tB J):=⟨by
 intro zn s σ H Q I hw;refine isTrue_plain (aR (h.out zn s σ H _ I hw) λv G ⟨x,H1,C,D,B⟩=>?_) (F _);obtain⟨d,rfl,q⟩:=B;cases D;exact u0 ⟨H1,C,q⟩⟩
theorem X4{a:Ax}(q:QT b a M):QW b (.BoolOp .And [a] p) M:=⟨by
 intro B zn s σ H Q I h;refine isTrue_and (aR (q.out zn s σ H Q I h) λc r e=>?_);cases c with
 |true=>exact isTrue_and_nil e
 |false=>exact e⟩
theorem zy{a:Ax}(q:QT b a M):QW b (.BoolOp .Or [a] p) M:=⟨by
 intro B zn s σ H Q I h;refine isTrue_or (aR (q.out zn s σ H Q I h) λc r e=>?_);cases c with
 |false=>exact isTrue_or_nil e
 |true=>exact e⟩
theorem Jw{X:Cx}{a:Ax}{b:Ax}{tB':TT}{pi:An}(D:QT X a M)(C:QW X (.BoolOp .And (b::pi) p) tB'):QW X (.BoolOp .And (a::b::pi) p) (L0 M tB'):=⟨by
 intro F zn s σ H Q I h;refine isTrue_and (aR (D.out zn s σ H _ I h) λc B ⟨H1,r,q⟩=>?_);cases c with
 |true=>exact C.out F zn B σ H1 Q r q
 |false=>exact⟨H1,r,q⟩⟩
theorem gE{X:Cx}{a:Ax}{b:Ax}{tB':TT}{pi:An}(D:QT X a M)(C:QW X (.BoolOp .Or (b::pi) p) tB'):QW X (.BoolOp .Or (a::b::pi) p) (SO M tB'):=⟨by
 intro F zn s σ H Q I h;refine isTrue_or (aR (D.out zn s σ H _ I h) λc B ⟨H1,r,q⟩=>?_);cases c with
 |true=>exact⟨H1,r,q⟩
 |false=>exact C.out F zn B σ H1 Q r q⟩
theorem yd{a:Ax}(B:QT b a M):QT b (.UnaryOp .Not a p) (M7 M):=⟨by
 intro zn s σ H Q I h;exact isTrue_not (aR (B.out zn s σ H _ I h) λc C ⟨H1,r,q⟩=>⟨H1,r,q⟩)⟩
def Gf{a:Ax}{q:_}(h:QE b a d):QE b (.BoolOp q [a] p) d:=⟨λzn s σ H Q I hw=>BoolOp_one (h.out zn s σ H Q I hw)⟩
theorem ye{X:Cx}{a:Ax}{b:Ax}{pi:An}(F:QE X a d)(C:QE X (.BoolOp .And (b::pi) p) J):QE X (.BoolOp .And (a::b::pi) p) (Ej d J):=⟨by
 intro zn s σ H Q I h;refine BoolOp_and (aR (F.out zn s σ H _ I h) λv B ⟨x,H1,r,D,q⟩=>?_);obtain⟨c,rfl,q⟩:=q;cases D;refine u0 ?_;cases c with
 |true=>exact C.out zn B σ H1 Q r q
 |false=>exact⟨.bl false,H1,r,U,q⟩⟩
theorem G0{X:Cx}{a:Ax}{b:Ax}{pi:An}(F:QE X a d)(C:QE X (.BoolOp .Or (b::pi) p) J):QE X (.BoolOp .Or (a::b::pi) p) (Io d J):=⟨by
 intro zn s σ H Q I h;refine BoolOp_or (aR (F.out zn s σ H _ I h) λv B ⟨x,H1,r,D,q⟩=>?_);obtain⟨c,rfl,q⟩:=q;cases D;refine u0 ?_;cases c with
 |false=>exact C.out zn B σ H1 Q r q
 |true=>exact⟨.bl true,H1,r,U,q⟩⟩
theorem Kn{a:Ax}(C:QE b a d):QE b (.UnaryOp .Not a p) (DQ d):=⟨by
 intro zn s σ H Q I h;refine UnaryOp_ (aR (C.out zn s σ H _ I h) λv D ⟨x,H1,r,B,q⟩=>?_);obtain⟨c,rfl,q⟩:=q;cases B;exact not_of (u0 ⟨.bl (!c),H1,r,U,q⟩)⟩
def Zx:nW b [] E1:=⟨λ_ _ σ H _ I h=>Iv ⟨σ,H,I,h⟩⟩
theorem Zc{st:Ay}{pi:List Ay}{u:TS}(h1:QS b st A)(h2:nW b pi u):nW b (st::pi) (ZR A u):=⟨by
 intro zn s σ H D I h;refine wpAny_execs_cons (aR (h1.out zn s σ H _ I h) λf B q=>?_);cases f with
 |next=>
  obtain⟨r,H',C,q⟩:=q;exact h2.out zn B r H' D C q
 |ret v=>exact q
 |brk=>exact q
 |cont=>exact q⟩
theorem Zg{st:Ay}(h1:QS b st A):nW b [st] A:=⟨by
 intro zn s σ H D I h;refine wpAny_execs_cons (aR (h1.out zn s σ H D I h) λf r q=>?_);cases f with
 |next=>exact Iv q
 |ret v=>exact q
 |brk=>exact q
 |cont=>exact q⟩
def Ziv:QS b (.Break p) CQ:=⟨λ_ _ σ H _ I h=>wpAny_Break ⟨σ,H,I,h⟩⟩
def Yj(B:QE b e d)(hs:swapsWith e none p.line b.env=pure false:=by rfl):QS b (.Expr e p) (Fh d):=⟨by
 intro zn s σ H D I h;exact wpAny_Expr_any (aR (B.out zn s σ H _ I h) λv C ⟨x,H1,r,F,q⟩=>⟨σ,H1,r,q⟩) I.quiet hs⟩
theorem Zp(B:QE b e d):QS b (.Return (some e) p) (MK d):=⟨by
 intro zn s σ H D I h;exact wpAny_Return_some (aR (B.out zn s σ H _ I h) λv F ⟨x,H1,r,C,q⟩=>ι3 x σ H1 ⟨r,C,q⟩)⟩
theorem ZF{X:Cx}{u:TS}{c:Ax}{a b:List Ay}(F:QT X c M)(G:nW X a A)(C:nW X b u):QS X (.If c a b p) (C4 M A u):=⟨by
 intro zn s σ H D I h;refine wpAny_If (aR (F.out zn s σ H _ I h) λd q ⟨H1,B,r⟩=>?_);cases d with
 |true=>exact G.out zn q σ H1 D B r
 |false=>exact C.out zn q σ H1 D B r⟩
theorem Zm6(q:b.N.Nodup)(hi:b.N[i]?=some x)(r:o6 b.env.scope x)(B:b.fn x=true\/b.env.scope.names.lookup x=some .local:=by first|exact .inl U|exact .inr U|assumption):QG b (.Name x p) (Js i):=⟨yO q hi r⟩
theorem X5(i:Nat)(q:b.N.Nodup)(hi:b.N[i]?=some x:=by exact U)(B:o6 b.env.scope x:=by first|exact .inl U|exact .inr U)(r:b.fn x=true\/b.env.scope.names.lookup x=some .local:=by first|exact .inl U|exact .inr U|assumption):QG b (.Name x p) (Js i):=Zm6 q hi B r
def LX{i:Ax}{t:CB}(T:QE b o d)(hi:QE b i J)(hs:FP b t)(ha:∀v,assign (.Subscript o i p) b.env v=(do
   let q <-holding [v] (eval o b.env);let B <-holding [v,q] (eval i b.env)
   standAt p
   holding [v,q,B] (setItem q B v)
   release [v,q,B] []):=by intro _;rfl):QG b (.Subscript o i p) (Lm d J t):=⟨by
 intro zn s σ H v u Q I r h;rw[ha];refine ab (fV (aR (T.out zn s σ H _ I h) λq D ⟨x,H1,O,Y,F⟩=>(ab (fV (aR (hi.out zn D σ H1 _ O F) λB s2 ⟨y,H2,Z,G,Ua⟩=>(ab (wpAny_standAt (ab (fV (aR (hs zn s2 σ H2 x y v q B u _ Z Y G r Ua) λ_ s3 ⟨L,C,q3⟩=>(wpAny_release ⟨σ,L,C,q3⟩)))))))))))⟩
def Km{g:TG}(G:QE b e d)(J:QG b o g)(hs:swapsWithSole [o] e p.line b.env=pure false:=by rfl)(hw:swappedStores [o] e b.env=pure none:=by rfl)(h1:(assignEach [o] b.env).map (·.2)=[assign o b.env]:=by rfl):QS b (.Assign [o] e p) (DB d g):=⟨by
 intro zn s σ H D I h;refine wpAny_Assign_stores (aR (G.out zn s σ H _ I h) λv r ⟨x,H1,C,F,B⟩=>?_) hs hw;rw[h1];exact aR (J.out zn r σ H1 x v _ C F B) λ_ L q=>q⟩
theorem B4(q:b.N.Nodup)(hi:b.N[i]?=some x)(r:o6 b.env.scope x)(B:QE b e d)(hs:swapsWith e (some (.Name x y)) p.line b.env=pure false:=by rfl)(C:b.fn x=true\/b.env.scope.names.lookup x=some .local:=by first|exact .inl U|exact .inr U|assumption):QS b (.Assign [.Name x y] e p) (DB d (Js i)):=⟨BB q hi r B.out hs⟩
theorem Zt(i:Nat)(q:b.N.Nodup)(C:QE b e d)(hi:b.N[i]?=some x:=by exact U)(B:o6 b.env.scope x:=by first|exact .inl U|exact .inr U)(hs:swapsWith e (some (.Name x y)) p.line b.env=pure false:=by rfl)(r:b.fn x=true\/b.env.scope.names.lookup x=some .local:=by first|exact .inl U|exact .inr U|assumption):QS b (.Assign [.Name x y] e p) (DB d (Js i)):=B4 q hi B C hs r
theorem XO{X:Cx}{c:Ax}{body:List Ay}{tb:TS}(hp:PassesOwn (model X.prog X.w) X.A X.env X.xe)(hc:QT X c M)(hb:nW X body tb):QS X (.While c body [] p) (NF M tb):=⟨by
 rintro zn s σ H D I ⟨W,⟨m0,w0⟩,F⟩;refine wpAny_While (codeAny_whileLoop (λn s'=>∃B H',aD X zn B H' s'/\W n B H') ?_ m0 ⟨σ,H,I,w0⟩);refine λn s1=>ε2 λr H1=>θ1 λI1 w1=>?_;refine BY hp (aR (hc.out zn s1 r H1 _ I1 (F n r H1 w1)) λb s2 ⟨H2,Z,G⟩=>?_);cases b with
 |true=>
  obtain⟨N,hN,G⟩:=G;refine BY hp (aR (hb.out zn s2 r H2 _ Z G) λf s3 J=>?_);cases f with
  |next=>
   obtain⟨q,C,T,Ua⟩:=J;obtain⟨L,O,Y⟩:=hN q C Ua;exact⟨L,O,q,C,T,Y⟩
  |cont=>
   obtain⟨q,C,T,Ua⟩:=J;obtain⟨L,O,Y⟩:=hN q C Ua;exact⟨L,O,q,C,T,Y⟩
  |brk=>exact J
  |ret v=>exact J
 |false=>
  exact Iv ⟨r,H2,Z,G⟩⟩
def Xb{X:Cx}{tg:Ax}{l:Ax}(G:QE X l d):QI X tg l (II X.K d):=⟨by
 intro zn s σ H R I h;refine aR (G.out zn s σ H _ I h) λv L ⟨x,H1,r,F,C⟩=>?_;obtain⟨a,e,⟨xs,J⟩,q⟩:=C;subst e;cases F;obtain⟨D,O,p,T⟩:=r.list J;refine Fi p.isList (ι5 _ _ _ _ H1 ⟨U,r.kept λb o e=>aW _ e,Us a _,⟨_,bX _ U,U,U⟩,λb B=>?_,q⟩);have e:=by simpa using B
 subst e;exact r.iU (aN _) (r.aM.fresh (aN _))⟩
def X6{X:Cx}{tg:Ax}{l:Ax}(G:QE X l d):QI X tg l (FQ X.K d):=⟨by
 intro zn s σ H R I h;refine aR (G.out zn s σ H _ I h) λv L ⟨x,H1,r,F,C⟩=>?_;obtain⟨a,e,⟨xs,J⟩,q⟩:=C;subst e;cases F;obtain⟨D,O,p,T⟩:=r.tuple J;refine wpAny_pyIter_tuple (p) (ι5 _ _ _ _ H1 ⟨U,r.kept λb o e=>aW _ e,Tg a _,⟨_,bX _ U,U,U⟩,λb B=>?_,q⟩);have e:=by simpa using B
 subst e;exact r.iU (aN _) (r.aM.fresh (aN _))⟩
def YQ{iter:Ax}{body:List Ay}{wi:TI}{g:TG}{tb:TS}(C:PassesOwn (model b.prog b.w) b.A b.env b.xe)(r:b.calm=true)(hi:QI b e iter wi)(B:QG b e g)(q:nW b body tb)(hs:∀x,foldedSetIterable iter b.env x=pure x:=by intro _;rfl):QS b (.For e iter body [] p) (Cg wi g tb):=⟨AJ C r hi.out B.out q.out hs⟩
theorem Z3{G:_}(h:QA X E t):QE X (.Tuple E G p) (Mh t):=⟨by
 intro zn s σ H Q I F;refine wpAny_Tuple_spliced (aR (h.out p zn s σ H _ I F) λD J ⟨xs,H1,B,r,z,q⟩=>⟨by rw[<-r.length];exact z,?_⟩);have C:=B.aM.fresh (aN _);refine⟨.ref _,_,B.laid (λb u e=>aW _ e) (aN _) ?_,U,q _ C⟩;exact⟨z,D,r,nM.new _ _⟩⟩
theorem ZC(h:QA X E t):QE X (.List E p) (Kl t):=⟨by
 intro zn s σ H Q I F;refine wpAny_List_spliced (aR (h.out p zn s σ H _ I F) λD G ⟨xs,H1,B,r,z,q⟩=>⟨by rw[<-r.length];exact z,?_⟩);have C:=B.aM.fresh (aN _);refine⟨.ref _,_,B.laid (λb u e=>aW _ e) (aN _) ?_,U,q _ C⟩;exact⟨z,D,0,r,bX _ U⟩⟩
def Zd:QA b [] BP:=⟨λ_ _ _ _ H Q I h=>Dp ⟨[],H,I,.nil,h⟩⟩
def Zh(q:QE b e d)(r:QA b E t)(B:Yi e=true:=by rfl):QA b (e::E) (DW d t):=⟨MH q.out r.out B⟩
def Yk  {CX:mR} {k:Nat}  {fd:Ao}  {sp:Sp}   {E:XK}     {es:An} {t:TA} (F:g7 b.prog b.w b.K b.mg b.base CX k f fd N sp) (O:Jk k b.A) (T:Gl b x) (Ua:b.mg x=some (.ref f)) (J:PySem.W.keepIn b.K (.ref f)=true) (C:c5 b.K fd N G) (B:aH r G) (I:fv CX b E) (L:QA b (e::es) t) (q:(x == ("__debug__" : Str))=false:=by decide) (D:(e::es).all Yi=true:=by rfl):QE b (.Call (.Name x p) (e::es) [] y) (Hm sp r E t):=⟨Zit F O T Ua J C B I L.out q D⟩
def Zm {id:String} {r:A8->Hp->VK->Prop} (C:YX b (.builtin id) r) (F:Gl b x) (I:b.mg x=none) (G:bootBuiltins x=some (.builtin id)) (D:QA b (e::E) t) (B:x ≠ "__name__" :=by decide) (q:(x == ("__debug__" : Str))=false:=by decide) (J:(e::E).all Yi=true:=by rfl):QE b (.Call (.Name x p) (e::E) [] y) (D7 r t):=⟨Zej C F I G D.out B q J⟩
def Z4 {T:String} {r:A8->Hp->VK->Prop} (C:YX b (.type T) r) (F:Gl b x) (I:b.mg x=none) (G:bootBuiltins x=some (.type T)) (D:QA b (e::E) t) (B:x ≠ "__name__" :=by decide) (q:(x == ("__debug__" : Str))=false:=by decide) (J:(e::E).all Yi=true:=by rfl):QE b (.Call (.Name x p) (e::E) [] y) (D7 r t):=⟨Vv C F I G D.out B q J⟩
def Ws {a:Ax} (r:Gl b "range") (B:b.mg "range" = none) (q:QA b [a] t) (C:Yi a=true:=by rfl):QI b e (.Call (.Name "range" p) [a] [] y) (Mw t):=⟨T8 r B q.out C⟩
def YH      {t:TA} {id:String} {T:String} {name:Str}   {F:V->List V->Hp->VK->Prop} (I:PlainAttrs T) (C:Slot T name id) (D:typeOf (.builtin id)=pure (.type "method_descriptor")) (Ua:En b id F) (J:QE b o d) (L:QA b (e::E) t) (q:attributeBase o name b.env (eval o b.env)=eval o b.env:=by rfl) (r:(p.endLine == y.line)=true:=by rfl) (G:(e::E).all Yi=true:=by rfl) (O:(e::E).length<30:=by decide):QE b (.Call (.Attribute o name p) (e::E) [] y) (Nu b.K T F d t):=⟨by
 have B:=G;rw[nK,lQ]at B;refine Fj I C D Ua J.out L.out q ?_ r (Z0 B.1) (Xk B.2);rw[cH G];exact aZ O⟩
def Jx   {T:String} {id:String} {r:V->List V->Hp->VK->Prop} (O:PlainAttrs T) (C:Slot T name id) (D:typeOf (.builtin id)=pure (.type "method_descriptor")) (Y:En b id r) (Ua:QE b o d) (q:attributeBase o name b.env (eval o b.env)=eval o b.env:=by rfl) (B:(p.endLine == y.line)=true:=by rfl):QE b (.Call (.Attribute o name p) [] [] y) (BV b.K T r d):=⟨by
 intro zn s σ H Q I h;refine wpAny_Call_method0_late q B (aR (Ua.out zn s σ H _ I h) λv J ⟨x,H1,F,G,ty,L⟩=>?_);obtain⟨h1,h2⟩:=Nx F G ty;exact ι2 T id ⟨O,C,D,h1,h2,Fx U (PySem.evalArgs_none (Y zn J σ H1 x [] v [] Q F G .nil L))⟩⟩
theorem Xs:QO b none Zm0:=⟨by
 intro zn s σ H Q I h;exact aJ ⟨none,H,I,.none,h⟩⟩
theorem YR(h:QE b e d):QO b (some e) (F4 d):=⟨by
 intro zn s σ H Q I hw;refine aR (h.out zn s σ H _ I hw) λu D ⟨x,H1,B,C,r⟩=>?_;obtain⟨i,rfl,q⟩:=r;obtain⟨t,rfl⟩:=C;exact⟨some i,H1,B,.int i t,q⟩⟩
theorem YE{X:Cx}{lo:Option Ax}{hi:Option Ax}{tl:TO}{th:TO}{r:V->Option Int->Option Int->Hp->VK->Prop}(L:OL X r)(he:QE X e d)(hl:QO X lo tl)(B:QO X hi th):QE X (.Subscript e (.Slice lo hi none y) p) (UK r d tl th):=⟨by
 intro zn s σ H Q I h;refine Subscript_ (aR (he.out zn s σ H _ I h) λv Ua ⟨x,H1,D,G,q1⟩=>(wpAny_Slice (aR (hl.out zn Ua σ H1 _ D q1) λY s2=>ε2 λl H2=>θ2 λJ pl q2=>aR (B.out zn s2 σ H2 _ J q2) λvu s3=>ε2 λu C=>θ2 λO F q3=>(aJ ?_))));obtain⟨T,id,Z,ht,hg⟩:=L zn _ σ C x v Y vu l u _ Q (O.kept λb ob q=>aW _ q) G (Heap.IsSliceOf.new ..) pl F q3;exact tail_any ht Z hg Vf⟩
def Z5{X:Cx}{a:Ax}{b:Ax}{r:R2}(O:i0 X r)(G:QE X a d)(B:QE X b J)(hs:Zm1 b:=by exactλ_ _=>U):QE X (.Subscript a b p) (Hl r d J):=⟨by
 intro zn s σ H Q I h;exact Subscript_ (Ct G.out B.out I h λv u L x y H2 F C D q=>O a b zn L σ H2 x y v u Q F C D q (hs _ _))⟩
def Jn(h:QW b e M):QT b e M:=⟨h.out.pt⟩
end L2
set_option maxHeartbeats 4000000
namespace L2
def yf(cells:List (Str×Aw)):List (Str×NameKind)->List (Str×Aw)->List (Str×Aw)
 |[],acc=>acc
 |(n,k)::r,acc=>yf cells r (if(k == NameKind.free)=true then(n,(cells.lookup n).getD 0)::acc else acc)
noncomputable def yg:∀(ul:List (Str×NameKind))(acc:List (Str×Aw)),(∀y∈ul,y.2=.free->∃c,env.cells.lookup y.1=some c)->
  (forIn ul acc λ(x:Str×NameKind) (r:List (Str×Aw))=>match x with
   | (name,kind)=>if (kind == NameKind.free)=true then do let a <-cellOf env name;pure (ForInStep.yield ((name,a)::r)) else pure (ForInStep.yield r):Sem (List (Str × Aw)))=pure (yf env.cells ul acc)
 |[],acc,_=>rfl
 |(n,k)::r,acc,h=>by
  rw[List.forIn_cons];have D:=λq=>yg r q λy F=>h y (b8 _ F)
  by_cases C:(k == NameKind.free)=true
  .obtain⟨c,G⟩:=h (n,k) bM Vc;have B:=G;have e:cellOf env n=pure c:=by unfold cellOf;rw[B]
   simp only[C,e];rw[yf,aK C,B];exact D _
  .rw[yf];simp only[C];exact D acc
def JT(h:∀y∈wn.names,y.2=.free->∃c,env.cells.lookup y.1=some c):closureFor wn env=pure (yf env.cells wn.names []):=by
 show(do let r <-_;pure r)=_;rw[yg _ [] h];rfl
noncomputable def GH:∀{ul:List (Str×NameKind)} {acc:List (Str×Aw)},(∀y∈ul,y.2=.free->∃c,cells.lookup y.1=some c)->(∀x c,acc.lookup x=some c->cells.lookup x=some c)->
  ∀x c,(yf cells ul acc).lookup x=some c->cells.lookup x=some c
 |[],acc,_,F,x,c,h=>F x c h
 |(n,k)::r,acc,G,F,x,c,h=>by
  refine GH (λy C=>G y (b8 _ C)) (λy d q=>?_) x c h
  by_cases I:(k == NameKind.free)=true
  .rw[aK I]at q;obtain⟨e,J⟩:=G (n,k) bM Vc;have B:=J;rw[B,sN]at q;cases C:y == n with
   |true=>
    rw[C]at q;have D:y=n:=Vc
    rw[D,B];exact q
   |false=>
    rw[C]at q;exact F y d q
  .grind
theorem kA:∀{ul:List (Str×NameKind)} {acc:List (Str×Aw)} {x:Str},(∃c,acc.lookup x=some c)->∃c,(yf cells ul acc).lookup x=some c
 |[],acc,x,h=>h
 |(n,k)::r,acc,x,h=>by
  rw[yf];refine kA ?_
  by_cases q:(k == NameKind.free)=true
  .grind
  .rw[aG q];exact h
theorem JU:∀{ul:List (Str×NameKind)} {acc:List (Str×Aw)} {x:Str},ul.lookup x=some .free->∃c,(yf cells ul acc).lookup x=some c
 |[],acc,x,h=>by cases h
 |(n,k)::r,acc,x,h=>by
  rw[yf];rw[sN]at h;cases hx:x == n with
  |true=>
   rw[hx]at h;refine kA ?_;rw[Option.some.inj h,aK (by rfl),sN,hx];exact⟨_,U⟩
  |false=>
   rw[hx]at h;exact JU h
noncomputable def xr{wn:Scope}{env:Env}(B:env.scope.kind=.function):∀{ul:List (Str×NameKind)} {x:Str},ul.lookup x=some .free->env.kindOf x=some .cell->
  (ul.map λ(n,k)=>if(k == NameKind.free&&env.scope.kind == .function&&env.kindOf n == some .cell)=true then(n,NameKind.cell)else(n,k)).lookup x=some .cell
 |[],_,h,_=>by cases h
 |(n,k)::r,x,h,C=>by
  rw[sN]at h;show List.lookup x ((if(k == NameKind.free&&env.scope.kind == .function&&env.kindOf n == some .cell)=true then(n,NameKind.cell)else(n,k))::_)=_;cases hx:x == n with
  |true=>
   rw[hx]at h;have q:x=n:=Vc
   rw[Option.some.inj h,B,<-q,C];simp
  |false=>
   rw[hx]at h;have D:=xr (wn:=wn) B h C
   by_cases F:(k == NameKind.free&&env.scope.kind == .function&&env.kindOf n == some .cell)=true
   .grind
   .grind
def GI{env:Env}:∀{ul:List (Str×NameKind)} {x:Str},ul.lookup x=some .free->env.kindOf x=some .free->
  (ul.map λ(n,k)=>if(k == NameKind.free&&env.scope.kind == .function&&env.kindOf n == some .cell)=true then(n,NameKind.cell)else(n,k)).lookup x=some .free
 |[],_,h,_=>by cases h
 |(n,k)::r,x,h,B=>by
  rw[sN]at h;show List.lookup x ((if(k == NameKind.free&&env.scope.kind == .function&&env.kindOf n == some .cell)=true then(n,NameKind.cell)else(n,k))::_)=_;cases hx:x == n with
  |true=>
   rw[hx]at h;have q:¬(k == NameKind.free&&env.scope.kind == .function&&env.kindOf n == some .cell)=true:=Vc
   rw[aG q,sN,hx,Option.some.inj h]
  |false=>
   rw[hx]at h;have C:=GI h B
   by_cases q:(k == NameKind.free&&env.scope.kind == .function&&env.kindOf n == some .cell)=true
   .grind
   .grind
theorem xt{env:Env}:∀{ul:List (Str×NameKind)} {x:Str},(∀y∈ul,y.2≠.cell)->
    ((ul.map λ(n,k)=>if(k == NameKind.free&&env.scope.kind == .function&&env.kindOf n == some .cell)=true then(n,NameKind.cell)else(n,k)).lookup x=some .cell \/
     (ul.map λ(n,k)=>if(k == NameKind.free&&env.scope.kind == .function&&env.kindOf n == some .cell)=true then(n,NameKind.cell)else(n,k)).lookup x=some .free)->ul.lookup x=some .free
  |[],_,_,h=>(by simp_all)
  |(n,k)::r,x,q,h=>by
    have C:=xt (env:=env) (x:=x) λy B=>q y (b8 _ B)
    by_cases D:(k == NameKind.free&&env.scope.kind == .function&&env.kindOf n == some .cell)=true
    . grind
    . grind
def iA(X:Cx)(N':Ai)(wn:Scope)(C:Aw)(s₂:As)(H₂:Hp)(ex:List Aw):Cx:=
 {X with N:=N',s₀:=s₂,H₀:=H₂,env:=compEnvC wn (yf X.env.cells wn.names []) C X.env,outer:=X.stack,stack:=X.stack,ex:=ex,fn:=λ_=>false,pn:=[],xe:=λ_ _=>False}
def j9(is:Aj)(σ:St)(v:Option V):St:=v::is.map λi=>(σ[i]?).getD none
def FA(xs:Ai)(is:Aj)(σ:St):St:=xs.map (λ_=>none)++is.map λi=>(σ[i]?).getD none
structure ZX(S wn:Scope)(N:Ai)(x:Str)(ys:Ai)(is:Aj):Prop where
 kind:wn.kind=.function:=by rfl
 cell:∀y∈wn.names,y.2≠.cell:=by decide +kernel
 names:∀y∈wn.names,y.2=.local->wn.names.lookup y.1=some .local:=by decide +kernel
 own:wn.names.lookup x=some .local:=by rfl
 free:∀y∈wn.names,y.2=.free->S.names.lookup y.1=some .cell\/S.names.lookup y.1=some .free:=by decide +kernel
 FT:∀p∈ys.zip is,N[p.2]?=some p.1/\wn.names.lookup p.1=some .free:=by decide +kernel
 len:ys.length=is.length:=by rfl
 nd:(x::ys).Nodup:=by decide +kernel
def PF(X:Cx)(ifs:An)(t:TT):Prop:=
 ∀(zn:Ac)(s:As)(σ:St)(H:Hp)(Q:Bool->Hp->Prop),aD X zn σ H s->t σ H Q->
  Ba X (forIn ifs true λc r=>if r=true then do let ok <-isTrue c X.env (eval c X.env);pure (ForInStep.yield ok)else pure (ForInStep.yield r)) (TP X zn σ Q) X.xe s
structure QF(X:Cx)(ifs:An)(t:TT):Prop where
 out:PF X ifs t
def AG:TT:=λ_ H Q=>Q true H
def Xv:QF b [] AG:=⟨λ_ _ _ H _ I h=>wpAny_tests_nil ⟨H,I,h⟩⟩
def kB{c:Ax}(h:QT b c M):QF b [c] M:=⟨λzn s σ H Q I hw=>wpAny_tests_one (h.out zn s σ H Q I hw)⟩
section
variable {X:Cx}{S wn:Scope}{N:Ai}{x:Str}{ys:Ai}{is:Aj}{zn:Ac}{σ:St}{H₂:Hp}{s₂:As}{fp:List Aw}
theorem ZX.iK(K:ZX S wn N x ys is)(q:X.env.scope=S)(ok:X.Ok):∀y∈wn.names,y.2=.free->∃c,X.env.cells.lookup y.1=some c:=λy r h=>
 ok.has y.1 (by show X.env.scope.names.lookup y.1=_\/X.env.scope.names.lookup y.1=_;rw[q];exact K.free y r h)
theorem ZX.cl(K:ZX S wn N x ys is)(q:X.env.scope=S)(ok:X.Ok):∀y c,(yf X.env.cells wn.names []).lookup y=some c->X.env.cells.lookup y=some c:=
 GH (K.iK q ok) λ_ _ z=>by cases z
theorem OK{ul:List (Str×NameKind)}{y:Str}{k:NameKind}(h:ul.lookup y=some k):(y,k)∈ul:=by
 induction ul with
 |nil=>cases h
 |cons p r q=>
  obtain⟨n,B⟩:=p;rw[sN]at h;cases hx:y == n with
  |true=>
   rw[hx]at h;have e1:y=n:=Vc
   rw[e1,Option.some.inj h];exact bM
  |false=>
   rw[hx]at h;exact b8 _ (q h)
theorem Mr(K:ZX S wn N x ys is)(C:X.env.scope=S)(I:aD X zn σ H₂ s₂)(D:s₂.heap.objs.size<=a)(q:∀b∈fp,gz X zn H₂ b)(B:∀b∈fp,b<s₂.heap.objs.size):(iA X ns wn a s₂ H₂ fp).Ok where
 mod:=I.ok.mod
 kind:=K.kind
 glob:=I.ok.glob
 blt:=I.ok.blt
 above:=D
 inj:=λy z c h1 h2=>I.ok.inj y z c (K.cl C I.ok y c h1) (K.cl C I.ok z c h2)
 has:=λy F=>JU (xt K.cell F)
 CK:=λy c h=>by cases h
 hd:=I.ok.hd
 frames:=I.ok.frames
 oO:=.inl U
 Ee:=λb r=>⟨λe=>absurd (iE (B b r) (cC D (HJ (Eq.symm e)))) (iC _),λy c h=>(q b r).2.2.2.2.1 y c (K.cl C I.ok y c h)⟩
 bs:=I.bs
 nH:=cC I.ok.nH I.sz
 nF:=λb o e r=>by
  rcases(q b r).2.2.2.1 with z|z
  .exact I.ok.nF b o e z
  .exact absurd (iE (bH e) (cC I.ok.nH z)) (iC _)
 nJ:=λb r z=>by
  rcases bJ.mp (I.iQ b z)with e|e
  .exact(q b r).2.1 e
  .exact(q b r).2.2.1 e
 cR:=I.stack
 oT:=I.mD
def Sf(xs:Ai)(K:ZX S wn N x ys is)(J:X.env.scope=S)(hN:X.N=N)(hk:S.kind=.function)(I:aD X zn σ H₂ s₂){q:Heap}{tk:Nat}{Y:Obj}(hC:s₂.heap.objs.size<=a)(hD:s₂.heap.objs.size<=f)(hDC:f≠a)
  (hfp:∀b∈fp,gz X zn H₂ b) (Z:∀b∈fp,b<s₂.heap.objs.size) (B:∀b o,s₂.heap.get? b=some o->q.get? b=some o) (hn:q.Ns a λ_=>none) (L:q.get? f=some Y) (hod:∀v,Y.data≠.cell v):
  aD (iA X (xs++ys) wn a s₂ H₂ fp) [(f,Y)] (FA xs is σ) H₂ {s₂ with heap:=q,toks:=tk}:=by
 have ok:=Mr (ns:=xs++ys) K J I hC hfp Z;refine⟨ok,U,I.bare,Un.kept B,⟨_,hn,λi y v h1 h2 h3=>?_⟩,λy c h=>?_,I.aM.fresh hC,λy c h=>I.cL y c (K.cl J I.ok y c h),λp hp=>?_,I.aM.kept B,?_⟩
 .unfold FA at h2
  by_cases hi:i<xs.length
  .grind
  .have D:(xs++ys)[i]?=some y:=h1;rw[dU (LM hi)]at D;rw[dU (by rw[aF];exact LM hi),aF]at h2;generalize i-xs.length=i at D h2;have C:=h2;rw[bG]at C;cases hj:is[i]? with
   |none=>rw[hj]at C;cases C
   |some j=>
    have hσ:σ[j]?=some (some v):=Vc
    have hz:(y,j)∈ys.zip is:=by
     obtain⟨a1,e1⟩:=bW.mp D;obtain⟨a2,e2⟩:=bW.mp hj;rw[<-e1,<-e2,<-LZ (h:=by grind)];exact dZ _
    obtain⟨v1,T⟩:=K.FT _ hz;have F:X.env.kindOf y=some .cell\/X.env.kindOf y=some .free:=by show X.env.scope.names.lookup y=_\/X.env.scope.names.lookup y=_;rw[J];exact K.free _ (OK T) U
    obtain⟨m,hm,hl⟩:=I.loc;obtain⟨u,r,l⟩:=hl j y v Vc hσ (.inr F);refine⟨u,r,.inr ?_⟩;rcases l with⟨l1,_⟩|⟨_,c,l2,l3⟩
    .rcases F with F|F<;>rw[F]at l1<;>cases l1
    .obtain⟨c',O⟩:=JU T;have e:=by have:=K.cl J I.ok y c' O;rw[l2]at this;exact(Option.some.inj this).symm
     subst e;refine⟨F.imp (xr (wn:=wn) Vc T) (GI T),c',O,?_⟩;obtain⟨o,G,Ua⟩:=l3;exact⟨o,B _ _ G,Ua⟩
 .obtain⟨v,o,G,Ua⟩:=I.cell y c (K.cl J I.ok y c h);exact⟨v,o,B _ _ G,Ua⟩
 .have e:=by simpa[iA]using hp
  subst e;refine⟨L,I.aM.fresh hD,hDC,λz=>?_,hod⟩;obtain⟨_,o,G,_⟩:=ok.cR.mem z;exact absurd (iE (bH G) hD) (iC _)
 .show(FA xs is σ).length=(xs++ys).length;unfold FA;rw[bA,aF,aF,bA,K.len]
def Vp(I:aD X zn σ H₂ s₂){N':Ai}{L:St}{H':Hp}{pl:Ac}(J:aD (iA X N' wn a s₂ H₂ fp) pl L H' s)(T:s₂.heap.objs.size<=f)(F:H' f=none)
  (B:∀b∈fp,gz X zn H₂ b)    (Z:r.length<=sizeLine) (D:aH r G) (Ua:s.heap.get? f=some {cls:=.type "list",data:=.seq G.toArray n}):
  aD X zn σ (aA H' f (.lst r)) s:=by
 have b:=J.base;have O:=I.aM.fresh T;refine I.tR J.os ⟨b.keep,b.slot,λc o e n Y=>?_,b.there,λc xs e=>?_,λc o u e=>?_,λc ps e=>?_⟩ (λc u e=>?_) J.bare λc C=>⟨(B c C).2.2.2.1,(B c C).2.1,(B c C).2.2.2.2.1,(B c C).2.2.2.2.2⟩
 .rw[Zk ((λc o e z=>absurd (iE (bH e) (cC T (HJ (Eq.symm z)))) (iC _)) c o e)];exact b.free c o e n Y
 .rw[Zk (Zo e O)];exact b.cB c xs e
 .rw[Zk (Zo e O)];exact b.dI c o u e
 .rw[Zk (Zo e O)];exact b.fN c ps e
 .by_cases C:c=f
  .subst C;rw[Zb]at e;cases e;exact⟨Z,G,n,D,Ua⟩
  .rw[Zk C]at e;exact(J.aM c u e).cW (λ_ _ _ q=>q) (λd q=>by rw[Zk (Zo q F)];exact q) λd xs q=>by rw[Zk (Zo q F)];exact q
end
section
variable {ww:Aq}{w:Au}{A:Ar}{R:Result->Shared->Prop}{s:As}
def VF{q iter:Ax}{ifs:An}{wn:Scope}{it acc:Av}{env:Env}(I:Nat->Shared->Prop)
  (Ua:∀n s,I n s->A9 ww w A (pyNext it) (λr B=>match r with
   |none=>R (.ok .next) B
   |some v=>A9 ww w A (letOwnedTupleGo q it v) (λ_ D=>A9 ww w A (assign q env v) (λ_ s₂=>
     A9 ww w A (forIn ifs true λc r=>if r=true then do let ok <-isTrue c env (eval c env);pure (ForInStep.yield ok)else pure (ForInStep.yield r)) (λok C=>
      if ok=true then A9 ww w A (eval o env) (λx F=>
       A9 ww w A (call (.builtin "list.append") [acc,x]) (λ_ G=>∃m,m<n/\I m G) (λ_ _=>False) F) (λ_ _=>False) C
      else∃m,m<n/\I m C) (λ_ _=>False) s₂) (λ_ _=>False) D) (λ_ _=>False) B) (λ_ _=>False) s)
  (n:Nat) (h:I n s):
  codeAny (model ww w) A (.compLoop (.ListComp o [⟨q,iter,ifs,0⟩] wn p) 0 it acc env) R s:=by
 refine codeAny_loop U I (λn s hI=>(wpAny_noted ?_)) n h;have T:∀{E:Ab} (e:Av) (s':As),False->E e s':=λ_ _ z=>z.elim;refine ab (wpAny_standAt (ab (j1 (Ua n s hI) (λr B J=>?_) T)));cases r with
 |none=>exact aJ J
 |some v=>
  refine ab (j1 J (λ_ D O=>(ab (j1 O (λ_ s₂ Z=>ab (j1 Z (λok C L=>?_) T)) T))) T);cases ok with
  |false=>exact aJ ⟨U,L⟩
  |true=>
   exact ab (ab (j1 L (λx F Y=>ab (j1 Y (λ_ G h₅=>aJ (aJ ⟨U,h₅⟩)) T)) T))
end
def kC(g:TG)(Sg:St->Prop)(tc:TT)(te:TE)(Q:VK)(J:It)(H1:Hp):Prop:=∃W:Nat->Nat->List V->Hp->Prop,(∃m,W 0 m [] H1)/\∀i m zs H,W i m zs H->
 (J.stop i H/\zs.length<=sizeLine/\∀p,H p=none->Q (.ref p) (aA H p (.lst zs))) \/
 (J.go i H/\zs.length<=sizeLine/\∀x H',J.AM i H x H'->∃q,Sg q/\(∀r,Sg r->g x r H' λC H2=>C=q/\H2=H')/\tc q H' λb H2=>if b=true then te q H2 λy D=>∃B,B<m/\W (i+1) B (zs++[y]) D else∃B,B<m/\W (i+1) B zs H2)
structure DV(X:Cx)(S wn:Scope)(N:Ai)(x:Str)(ys:Ai)(is:Aj)(xs:Ai)(tg:Ax)(g:TG)(Sg:St->St->Prop):Prop where
 sc:ZX S wn N x ys is
 hX:X.env.scope=S
 hN:X.N=N
 hk:S.kind=.function
 hc:X.calm=true
 pg:∀C s₂ H₂ fp,PG (iA X (xs++ys) wn C s₂ H₂ fp) tg g
 s0:∀σ,Sg σ (FA xs is σ)
def qM(is:Aj)(tc:TT)(te:TE)(σ:St)(Q:VK)(J:It)(H1:Hp):Prop:=∃W:Nat->Nat->List V->Hp->Prop,(∃m,W 0 m [] H1)/\∀i m zs H,W i m zs H->
 (J.stop i H/\zs.length<=sizeLine/\∀p,H p=none->Q (.ref p) (aA H p (.lst zs))) \/
 (J.go i H/\zs.length<=sizeLine/\∀x H',J.AM i H x H'->tc (j9 is σ (some x)) H' λb H2=>if b=true then te (j9 is σ (some x)) H2 λy r=>∃q,q<m/\W (i+1) q (zs++[y]) r else∃q,q<m/\W (i+1) q zs H2)
def QC(wi:TI)(is:Aj)(tc:TT)(te:TE):TE:=λσ H Q=>wi σ H (qM is tc te σ Q)
section
variable {X:Cx}{S wn:Scope}{N:Ai}{x:Str}{ys:Ai}{is:Aj}{zn:Ac}{σ:St}{H₂:Hp}{s₂:As}{fp:List Aw}{elt iter:Ax}{px pos:Pos}{ifs:An}{tc:TT}{te:TE}{xs:Ai}{tg:Ax}{g:TG}{Sg:St->St->Prop}{wi:TI}{CW:St->VK->It->Hp->Prop}
def yh{J:It}{it:Aw}{tn:Nat->Heap->Prop}{Q:VK}{RR:Av->Addr->Result->Shared->Prop}{E:Ab}(L:DV X S wn N x ys is xs tg g Sg)
  (hf:∀C s₂ H₂ ex,QF (iA X (xs++ys) wn C s₂ H₂ ex) ifs tc) (he:∀C s₂ H₂ ex,QE (iA X (xs++ys) wn C s₂ H₂ ex) elt te)
  (I:aD X zn σ H₂ s₂) (T:iM X.prog X.w X.K tg J fp it tn) (st:tn 0 s₂.heap) (hfp:∀b∈fp,gz X zn H₂ b)
  (hw:kC g (Sg σ) tc te Q J H₂)
  (fin:∀D C s' H' m',aD X zn σ H' s'->gz X zn H' C->s'.heap.Ns C m'->Q (.ref D) H'->RR (.ref D) C (.ok .next) s'):
  Ba X (newList []) (λacc G=>Ba X (newFunctionEnv wn X.env.globals (yf X.env.cells wn.names []) [] X.env.qual none .none (some X.env)) (λcenv s₄=>
   codeAny (model X.prog X.w) X.A (.compStart (.ListComp elt [⟨tg,iter,ifs,0⟩] wn pos) 0 (.ref it) acc {cenv with scope:=relabel wn X.env}) (RR acc cenv.locals) s₄) E G) E s₂:=by
 obtain⟨W,⟨m0,w0⟩,turn⟩:=hw;have K:=L.sc;refine iI (wpAny_newFunctionEnv K.cell (by intro y hy;simp at hy) (λh₁ O F=>?_) K.kind);generalize hH2:s₂.heap.push _=H2 at O F ⊢;have hCs:H2.objs.size=s₂.heap.objs.size+1:=by rw[<-hH2,i7]
 have hDC:s₂.heap.objs.size≠H2.objs.size:=by rw[hCs];exact cI (pE _)
 have hC:s₂.heap.objs.size<=H2.objs.size:=by rw[hCs];exact pR _
 have hlt:∀b∈fp,b<s₂.heap.objs.size:=λb B=>by obtain⟨o,e,_⟩:=T.obj 0 _ st b B;exact bH e
 have old:=λb o e=>F.extBut b o (by rw[hCs];exact cI (pJ (bH e))) (aW _ (hH2 ▸ aW _ e));have Y:tn 0 h₁:=T.keep _ _ _ st λb _ o e=>old b o e;have fpC:∀{H':Hp} {pl:Ac},(∀p∈pl,∀b∈fp,p.1≠b)->(∀b∈fp,H' b=none)->∀b∈fp,gz _ pl H' b:=λ{H' pl} hpl hn b B=>by
  have ok:=Mr (ns:=xs++ys) K L.hX I hC hfp hlt;exact⟨hn b B,(ok.Ee b B).1,ok.nJ b B,.inl B,(ok.Ee b B).2,λp hp=>hpl p hp b B⟩
 have Dfp:∀(o:Obj),∀p∈[(s₂.heap.objs.size,o)],∀b∈fp,p.1≠b:=λo p hp b B e=>by
  grind
 have loop:∀G:As,G={s₂ with heap:=h₁,toks:=s₂.toks+([]:List (Str×Av)).length}->
   codeAny (model X.prog X.w) X.A (.compLoop (.ListComp elt [⟨tg,iter,ifs,0⟩] wn pos) 0 (.ref it) (.ref s₂.heap.objs.size) (compEnvC wn (yf X.env.cells wn.names []) H2.objs.size X.env))
    (RR (.ref s₂.heap.objs.size) H2.objs.size) G:=by
  rintro G rfl;have I0:=Sf xs K L.hX L.hN L.hk I (tk:=s₂.toks+([]:List (Str×Av)).length) hC (aN _) hDC hfp hlt old O (F.extBut _ _ hDC (aW _ (hH2 ▸ bX _ U))) (λv z=>by cases z);refine VF (λn s'=>∃(i:Nat)(σ1:St)(zs:A8)(Ua:Ag)(k:Nat)(H':Hp),aD _ [(s₂.heap.objs.size,{cls:=.type "list",data:=.seq Ua.toArray k})] σ1 H' s'/\Sg σ σ1 /\
   aH zs Ua/\tn i s'.heap/\(∀b∈fp,H' b=none)/\W i n zs H') ?_ m0 (ι6 0 _ [] [] 0 H₂ ⟨I0,L.s0 σ,.nil,Y,λb B=>(hfp b B).1,w0⟩)
  refine λn s3=>ε6 λi σ1 zs Ua k H3=>θ5 λI3 sg3 rv st3 fr3 w3=>?_;rcases turn i n zs H3 w3 with⟨stop,hz,q⟩|⟨go,hz,step⟩
  .refine aR (T.done (iA X (xs++ys) wn H2.objs.size s₂ H₂ fp) U U U L.hc i _ s3 _ H3 _ I3 (fpC (Dfp _) fr3) st3 stop) λr s4 ⟨hr,I4⟩=>?_
   subst hr;have hD4:=I4.pin _ (lK _ (cA.mpr U));have I5:=Vp I I4 (aN _) hD4.2.1 hfp hz rv hD4.1;obtain⟨m',Z,_⟩:=I4.loc;refine fin _ _ s4 _ m' I5 ?_ Z (q _ hD4.2.1);refine I.iU hC ?_;rw[Zk (eN hDC)];exact I4.free
  .refine aR (T.item (iA X (xs++ys) wn H2.objs.size s₂ H₂ fp) U U U L.hc i _ s3 _ H3 _ I3 (fpC (Dfp _) fr3) st3 go) λr s4 ⟨u,hr,h4⟩=>?_
   subst hr;refine aR h4 λ_ s5=>ε2 λxv H5=>θ4 λI5 r5 y5 st5 fr5=>?_;have I5':=I5.pinned (fpC (Dfp _) fr5) (T.obj _ _ st5);refine ω (step xv H5 y5) (ε1 λσx=>θ2 λsgx gx stp=>?_);refine aR (L.pg _ _ _ _ _ s5 _ H5 xv u (λσ2 H2=>σ2=σx/\H2=H5) I5' r5 (gx _ sg3)) λ_ s6=>ε2 λσ6 H6=>θ2 λI6 e6 e6'=>?_;subst e6;subst e6';have back:∀{s7:As} {H7:Hp},aD (iA X (xs++ys) wn H2.objs.size s₂ H₂ fp) ([(s₂.heap.objs.size,{cls:=.type "list",data:=.seq Ua.toArray k})]++uX fp s5.heap) (σ6) H7 s7->
     tn (i+1) s7.heap/\(∀b∈fp,H7 b=none)/\s7.heap.get? s₂.heap.objs.size=some _/\H7 s₂.heap.objs.size=none:=λ{s7 H7} I7=>by
    refine⟨T.keep _ _ _ st5 λb B o e=>(I7.pin (b,o) (lK _ (lK _ (JR B e)))).1,λb B=>?_,?_,?_⟩
    .obtain⟨o,e,d⟩:=T.obj _ _ st5 b B;exact(I7.pin (b,o) (lK _ (lK _ (JR B e)))).2.1
    .exact(I7.pin _ (lK _ (Er _ (cA.mpr U)))).1
    .exact(I7.pin _ (lK _ (Er _ (cA.mpr U)))).2.1
   refine aR ((hf _ _ _ _).out _ s6 _ H6 _ I6 stp) λb s7 ⟨H7,I7,q7⟩=>?_;cases b with
   |false=>
    have q7':=by simpa using q7
    obtain⟨m',Z,w7⟩:=q7';refine ω (back I7) (θ3 λb1 b2 b3 b4=>?_);exact⟨m',Z,i+1,_,zs,Ua,k,H7,I7.cX,sgx,rv,b1,b2,w7⟩
   |true=>
    have q7':=q7;refine aR ((he _ _ _ _).out _ s7 _ H7 _ I7 q7') λyv s8 ⟨y,H8,I8,r8,m',Z,w8⟩=>?_;refine ω (back I8) (θ3 λb1 b2 b3 b4=>?_);refine append_at b3 (λh9 sb9 e9=>?_) (by rw[eB,<-rv.length];exact hz);have ok:=Mr (ns:=xs++ys) K L.hX I hC hfp hlt;have I9:aD _ [] (σ6) H8 {s8 with heap:=h9}:=(I8.dD λp hp=>by cases hp).turned (t':=s8.toks) (it:=s₂.heap.objs.size) (λb o B e=>(sb9.2 b B).trans e) b4 hDC (.inr (aN _))
     (λy c h z=>by
      obtain⟨v,o,ho,_⟩:=I.cell y c (K.cl L.hX I.ok y c h);have:=bH ho;rw[z]at this;exact iC _ this) (λp hp=>by cases hp)
    refine⟨m',Z,i+1,_,zs++[y],Ua++[yv],k+1,H8,?_,sgx,rv.append (.cons r8 .nil),T.keep _ _ _ b1 λb B o e=>(sb9.2 b λz=>absurd (hlt b B) (by rw[z];exact iC _)).trans e,b2,w8⟩;refine I9.dD λp hp=>?_;have e1:=by simpa using hp
    subst e1;refine⟨by rw[e9,List.push_toArray],b4,hDC,λz=>?_,λv z=>by cases z⟩;obtain⟨_,o,ho,_⟩:=ok.cR.mem z;exact absurd (bH ho) (iC _)
 exact codeAny_compStart_list (loop _ U) (T.self _ 0 _ _ _ Y (loop _ U))
end
section
variable {X:Cx}{S wn:Scope}{N:Ai}{x:Str}{ys:Ai}{is:Aj}{elt iter:Ax}{px pos:Pos}{ifs:An}{wi:TI}{tc:TT}{te:TE}{xs:Ai}{tg:Ax}{g:TG}{Sg:St->St->Prop}{CW:St->VK->It->Hp->Prop}
def O6(L:DV X S wn N x ys is xs tg g Sg)(Y:∀σ Q J H,CW σ Q J H->kC g (Sg σ) tc te Q J H)(hi:QI X tg iter wi)(hf:∀C s₂ H₂ ex,QF (iA X (xs++ys) wn C s₂ H₂ ex) ifs tc)(he:∀C s₂ H₂ ex,QE (iA X (xs++ys) wn C s₂ H₂ ex) elt te)
  (hs:∀v,foldedSetIterable iter X.env v=pure v:=by intro _;rfl):
  QE X (.ListComp elt [⟨tg,iter,ifs,0⟩] wn pos) (λσ H Q=>wi σ H (CW σ Q)):=by
 refine⟨λzn s σ H Q I h=>(wpAny_comprehension_free U hs (JT (L.sc.iK L.hX I.ok)) L.sc.kind L.sc.names (aR (hi.out zn s σ H _ I h) λv s1 h1=>aR h1 λUa s2 h2=>?_))⟩;revert h2;refine ε5 λit fp tn J H2=>θ5 λzq0 O T r f2 w2=>?_;subst zq0;refine yh L hf he O T r f2 (Y _ _ _ _ w2) ?_;intro D C s' H' m' I' Z F q;revert Z;refine θ5 λG f1 f3 f4 f5 f6=>?_;exact⟨m',F,λh' B=>⟨.ref D,H',I'.turned (λb o hb e=>(B.2 b hb).trans e) G f1 f4 f5 f6,U,q⟩⟩
def UC{y:Str}{py spos:Pos}(F:X.N.Nodup)(hy:X.N[i]?=some y)(hl:X.env.scope.names.lookup y=some .local)(L:DV X S wn N x ys is xs tg g Sg)(cv:∀σ Q J H,CW σ Q J H->kC g (Sg σ) tc te Q J H)(hi:QI X tg iter wi)
  (hf:∀C s₂ H₂ ex,QF (iA X (xs++ys) wn C s₂ H₂ ex) ifs tc) (he:∀C s₂ H₂ ex,QE (iA X (xs++ys) wn C s₂ H₂ ex) elt te)
  (hsw:swapsWith (.ListComp elt [⟨tg,iter,ifs,0⟩] wn pos) (some (.Name y py)) spos.line X.env=pure true:=by rfl)
  (hs:∀v,foldedSetIterable iter X.env v=pure v:=by intro _;rfl):
  QS X (.Assign [.Name y py] (.ListComp elt [⟨tg,iter,ifs,0⟩] wn pos) spos) (DB (λσ H Q=>wi σ H (CW σ Q)) (Js i)):=by
 refine⟨λzn s σ H D I h=>?_⟩;rw[exec_Assign_Name_used _ _ _ _ hsw];refine ab (wpAny_standAt (ab ?_));refine ab (aR (wpAny_comprehension_free U hs (JT (L.sc.iK L.hX I.ok)) L.sc.kind L.sc.names
  (aR (hi.out zn s σ H _ I h) λv s1 h1=>aR h1 λitv s2 h2=>?_)) λ_ s' hq=>aJ (aJ hq))
 revert h2;refine ε5 λit fp tn J H2=>θ5 λzq0 I2 T G f2 w2=>?_;subst zq0;refine yh L hf he I2 T G f2 (cv _ _ _ _ w2) ?_;intro Dl C s' H' m' I' fC Z q;revert fC;refine θ5 λf0 f1 f3 f4 f5 f6=>?_;revert Z;refine ε3 λB es ep=>θ2 λhoC Y Ua=>?_;have Ip:aD X (zn++[(C,B)]) σ H' s':=I'.dD λp hp=>(cT.mp hp).elim (λz=>I'.pin p (lK _ z)) λz=>by
  simp_all
 refine wpAny_assign_Name (JQ Ip F hy (.inl hl) (v:=.ref Dl) U (λs'' r=>⟨m',ι3 B es ep ⟨(r.pin (C,B) (lK _ (lK _ (cA.mpr U)))).1,Y,Ua⟩,λh' O=>⟨_,H',r.cX.turned (λb o hb e=>(O.2 b hb).trans e) f0 f1 f4 f5 f6,q⟩⟩) (.inr hl))
theorem O8(K:ZX S wn N x ys is)(D:X.env.scope=S)(C:X.N=N)(r:S.kind=.function)(B:X.calm=true):DV X S wn N x ys is [x] (.Name x px) (Js 0) (λσ q=>∃v,q=j9 is σ v):=
 ⟨K,D,C,r,B,λ_ _ _ _=>yO K.nd U (.inl (C0 K.own)) (.inr (C0 K.own)),λ_=>⟨none,U⟩⟩
theorem PZ:∀σ Q J H,qM is tc te σ Q J H->kC (Js 0) (λq=>∃v,q=j9 is σ v) tc te Q J H:=λσ Q J H ⟨W,r,t⟩=>
 ⟨W,r,λi m zs H w=>(t i m zs H w).imp_right λz=>⟨z.1,z.2.1,λx H' y=>⟨_,⟨_,U⟩,λq ⟨v,e⟩=>e ▸ ⟨U,U⟩,z.2.2 x H' y⟩⟩⟩
def Y8(K:ZX S wn N x ys is)(hi:QI X (.Name x px) iter wi)(q:∀C s₂ H₂ ex,QF (iA X (x::ys) wn C s₂ H₂ ex) ifs tc)(G:∀C s₂ H₂ ex,QE (iA X (x::ys) wn C s₂ H₂ ex) elt te)
  (B:X.calm=true:=by rfl) (F:X.env.scope=S:=by rfl) (D:X.N=N:=by rfl) (r:S.kind=.function:=by rfl) (hs:∀v,foldedSetIterable iter X.env v=pure v:=by intro _;rfl):
  QE X (.ListComp elt [⟨.Name x px,iter,ifs,0⟩] wn pos) (QC wi is tc te):=
 O6 (O8 K F D r B) PZ hi q G hs
def gF{y:Str}{spos:Pos}(q:X.N.Nodup)(F:X.N[i]?=some y)(J:X.env.scope.names.lookup y=some .local)(K:ZX S wn N x ys is)(hi:QI X (.Name x px) iter wi)
  (B:∀C s₂ H₂ ex,QF (iA X (x::ys) wn C s₂ H₂ ex) ifs tc) (L:∀C s₂ H₂ ex,QE (iA X (x::ys) wn C s₂ H₂ ex) elt te)
  (r:swapsWith (.ListComp elt [⟨.Name x px,iter,ifs,0⟩] wn pos) (some (.Name y p)) spos.line X.env=pure true:=by rfl)
  (G:X.calm=true:=by rfl) (O:X.env.scope=S:=by rfl) (I:X.N=N:=by rfl) (D:S.kind=.function:=by rfl) (hs:∀v,foldedSetIterable iter X.env v=pure v:=by intro _;rfl):
  QS X (.Assign [.Name y p] (.ListComp elt [⟨.Name x px,iter,ifs,0⟩] wn pos) spos) (DB (QC wi is tc te) (Js i)):=
 UC q F J (O8 K O I D G) PZ hi B L r hs
end
def gG{J:It}{is:Aj}{Q:VK}(n:Nat)(r:Nat->List V->Hp->Prop)(F:r 0 [] H)(G:∀i zs H,r i zs H->zs.length<=sizeLine)
  (hs:∀i zs H (R:A8->Hp->Prop),(∀zs H,r (i+1) zs H->R zs H)->i<n->r i zs H->J.go i H/\∀x H',J.AM i H x H'->M (j9 is c (some x)) H' λb H2=>if b=true then d (j9 is c (some x)) H2 λy D=>R (zs++[y]) D else R zs H2)
  (I:∀zs H,r n zs H->J.stop n H/\∀p,H p=none->Q (.ref p) (aA H p (.lst zs))):qM is M d c Q J H:=by
 refine⟨λi m zs H=>m=n-i/\i<=n/\r i zs H,⟨n,Vd,cM _,F⟩,?_⟩;rintro i m zs H ⟨rfl,hi,p⟩
 by_cases B:i<n
 .have z:=hs i zs H (λzs H=>∃C,C<n-i/\C=n-(i+1)/\i+1<=n/\r _ zs H) (λzs H q=>⟨_,Vb,U,B,q⟩) B p;exact .inr ⟨z.1,G i zs H p,z.2⟩
 .grind
theorem Zcj{lo:Int}{is:Aj}{Q:VK}(q:Nat->List V->Hp->Prop)(C:q 0 [] H)(D:∀i zs H,q i zs H->zs.length<=sizeLine)
  (hs:∀i zs H (R:A8->Hp->Prop),(∀zs H,q (i+1) zs H->R zs H)->i<n->q i zs H->M (j9 is c (ad (lo+i))) H λb H2=>if b=true then d (j9 is c (ad (lo+i))) H2 λy B=>R (zs++[y]) B else R zs H2)
  (r:∀zs H,q n zs H->∀p,H p=none->Q (.ref p) (aA H p (.lst zs))):
  qM is M d c Q (Dd lo n) H:=
 gG n q C D (λi zs H R k hi p=>⟨hi,λx H' ⟨e,y⟩=>by subst e y;exact hs i zs _ R k hi p⟩) λzs H p=>⟨aN _,r zs H p⟩
theorem XQ{Q:VK}(q:Nat->List V->Hp->Prop)(D:q 0 [] H)(F:∀i zs H,q i zs H->zs.length<=sizeLine)(r:∀i zs H,q i zs H->aL K H a xs)
  (hs:∀i x zs H (R:A8->Hp->Prop),(∀zs H,q (i+1) zs H->R zs H)->xs[i]?=some x->q i zs H->M (j9 is c (some x)) H λb H2=>if b=true then d (j9 is c (some x)) H2 λy C=>R (zs++[y]) C else R zs H2)
  (B:∀zs H,q xs.length zs H->∀p,H p=none->Q (.ref p) (aA H p (.lst zs))):
  qM is M d c Q (CD K a) H:=
 gG _ q D F (λi zs H R k hi p=>⟨⟨xs,xs[i],r i zs H p,aQ hi⟩,λx H' ⟨e,y⟩=>e ▸ hs i x zs H R k (y xs (r i zs H p)) p⟩) λzs H p=>⟨⟨xs,r _ zs H p,aN _⟩,B zs H p⟩
end L2
namespace HT
section
variable {ww:Aq}{w:Au}{A:Ar}{E:Ab}{s:As}
def SE(n:Nat):Builtin.Slice.slicePlaces ((n:Int)-1) (-1) (-1)=n:=by
 unfold Builtin.Slice.slicePlaces;have h1:¬((-1)>0):=Vb
 have e:(- -1)=1:=Va
 split<;>lia
theorem Q6{α β:Type}{f g:α->Option β}:∀{l:List α},(∀x∈l,f x=g x)->l.filterMap f=l.filterMap g
 |[],_=>rfl
 |x::r,h=>by
  rw[Fm,Fm,h x bM,Q6 λy q=>h y (b8 _ q)]
def VP(xs:Ah):((List.range xs.size).filterMap λ(m:Nat)=>xs[((xs.size:Int)-1+(m:Int) * -1).toNat]?).toArray=xs.toList.reverse.toArray:=by
 congr 1;have e:((List.range xs.size).filterMap λ(m:Nat)=>xs[((xs.size:Int)-1+m * -1).toNat]?)=((List.range xs.size).map λk=>xs.size-1-k).filterMap (xs[·]?):=by
  rw[List.filterMap_map];refine Q6 λm q=>?_;have e:(xs.size-1+(m:Int) * -1).toNat=xs.size-1-m:=Vc
  rw[e];rfl
 rw[e,PySem.W.krv_range,List.filterMap_reverse,PySem.W.krv_all]
def xE{Q:Int×Int×Nat->Shared->Prop}(hs:s.heap.IsSliceOf a .none .none (.int (-1) t))(h:Q ((n:Int)-1,-1,n) s):
  A9 ww w A (Builtin.Slice.sliceApplied (.ref a) (pure (n:Int))) Q E s:=by
 obtain⟨os,q,B,r⟩:=id hs;refine ab (ab (dP q r U (ab (dP q r U (ab (dP q r U (aJ (ab (slicePart_int (ab (slicePart_none (ab (slicePart_none (ab (aJ ?_)))))))))))))));show wpAny _ _ _ _ _ s;show wpAny _ _ (pure ((n:Int)-1,(-1),Builtin.Slice.slicePlaces (n-1) (-1) (-1))) _ _ s;rw[SE];exact aJ h
def dF{u:Tok}(r:IsTup s.heap a O)(hs:s.heap.IsSliceOf f .none .none (.int (-1) u))
  (h:Q (.ref s.heap.objs.size) {s with heap:=s.heap.push {cls:=.type "tuple",data:=.seq O.toList.reverse.toArray}})
  (hsz:O.size<=sizeLine):A9 ww w A (getItem (.ref a) (.ref f)) Q E s:=by
 have q:=by
  show O.toList.reverse.toArray.size<=sizeLine;rw[eB,tZ];exact hsz
 obtain⟨os,C,B,F⟩:=id hs;unfold getItem;try with_reducible refine fV ?_
 first|refine ab _|skip
 refine ab (wpAny_sequenceKey r.typeIs Va ?_);refine ab (wpAny_callSpecial?_slot r.typeIs EN
  (dQ EN r.typeIs entry_tuple_getitem ?_ (args_tuple_getitem _ _)))
 show wpAny _ _ (Builtin.Tuple.tupleItemsOf _ >>= _) _ _ s;refine ab (tupleItemsOf_ r (ab (wpAny_typeOf ⟨os,C,B⟩ (ab (xE hs ?_)))));have D:¬((((O.size:Int)-1) == 0&&(-1) == 1&&O.size == O.size)=true):=by
  simp_all
 show wpAny _ _ (if((((O.size:Int)-1) == 0&&(-1) == 1&&O.size == O.size))=true then _ else _) _ _ s;rw[aG D,VP]
 first
  |exact ab (iI (aJ ⟨_,U,aJ h⟩) q)
  |exact ab _
  |exact ab _
  |exact ab _
end
end HT
namespace L2
section
variable {X:Cx}{e st:Ax}{te ts:TE}{pos p2:Pos}
def Kh(X:Cx)(r:V->Hp->VK->Prop):Prop:=
 ∀(zn:Ac)(s:As)(σ:St)(H:Hp)(x:V)(v:Av)(t:Tok)(q:Aw)(Q:VK),aD X zn σ H s->aI x v->s.heap.IsSliceOf q .none .none (.int (-1) t)->r x H Q->
  ∃T id,typeLookup (.type T) "__getitem__" = pure (some (.builtin id))/\s.TypeIs v T/\Ba X (getItem v (.ref q)) (EP X zn σ Q) X.xe s
def TZ(r:V->Hp->VK->Prop)(te ts:TE):TE:=λσ H Q=>te σ H λx H1=>ts σ H1 λy H2=>y=.int (-1)/\r x H2 Q
def Mo{r:V->Hp->VK->Prop}(Z:Kh X r)(he:QE X e te)(aV:QE X st ts):QE X (.Subscript e (.Slice none none (some st) p2) pos) (TZ r te ts):=by
 refine⟨λzn s σ H Q I h=>(Subscript_ (aR (he.out zn s σ H _ I h) λv B ⟨x,H1,J,L,F⟩=>(wpAny_Slice (aJ (aJ (aR (aV.out zn B σ H1 _ J F) λvs s3 ⟨y,G,C,Y,e3,Ua⟩=>?_))))))⟩;subst e3;obtain⟨t,rfl⟩:=Y;obtain⟨T,id,D,O,hg⟩:=Z zn _ σ G x v t _ Q (C.kept λb ob q=>aW _ q) L (Heap.IsSliceOf.new ..) Ua;exact tail_any O D hg Vf
def Ll(K:Af):V->Hp->VK->Prop:=λx H Q=>∃a xs,x=.ref a/\aL K H a xs/\∀p,H p=none->Q (.ref p) (aA H p (.tup xs.reverse))
def Ql:Kh X (Ll X.K):=by
 rintro zn s σ H x v t J Q I F hs ⟨a,xs,rfl,G,q⟩;cases F;obtain⟨B,r,D,L⟩:=I.tuple G;have C:B.toArray.size=xs.length:=r.length.symm;refine⟨"tuple",_,EN.lookup,D.typeIs,(HT.dF D hs ⟨.ref _,_,I.laid (λb ob q=>aW _ q) (aN _) ?_,U,q _ (I.aM.fresh (aN _))⟩ (by simp_all))⟩;exact⟨(by simp_all),_,r.reverse,nM.new _ _⟩
def LD(K:Af):V->Hp->VK->Prop:=λx H Q=>∃a xs,x=.ref a/\aB K H a xs/\∀p,H p=none->Q (.ref p) (aA H p (.lst xs.reverse))
def Sm:Kh X (LD X.K):=by
 rintro zn s σ H x v t J Q I D hs ⟨a,xs,rfl,G,q⟩;cases D;obtain⟨F,r,C,L⟩:=I.list G;have B:=r.length;refine⟨"list",_,LU.lookup,C.isList.typeIs,(wpAny_getItem_list_slice C.isList hs .none .none (.int (-1) t) Va ?_ Vc)⟩;rw[PySem.W.krv_pick];refine⟨.ref _,_,I.laid (λb ob q=>aW _ q) (aN _) ?_,U,q _ (I.aM.fresh (aN _))⟩;exact⟨Vc,_,0,r.reverse,bX _ U⟩
def i6(n:Nat):((List.range n).all λ_=>true)=true:=Vd
end
def JV{A:Ar}(q:Jk k A):A.units<cLine:=q.Cz
end L2
namespace RvT
theorem slot_next:Slot "reversed" "__next__" "reversed.__next__" :=
 .of (owner:= "reversed") (n:= "__next__") Ve Wm Wm Wm
  (by first|exact .inl Wm|exact .inr _) Ve
def eQ:entryFor table "reversed.__next__" = some Builtin.«reversed.__next__»:=entryFor_of_tree Ve
def f7 (a:Av):argsOk "reversed.__next__" ⟨[a],[]⟩:=by
 kernel_rfl
theorem kD:Slot "reversed" "__iter__" "reversed.__iter__" :=
 .of (owner:= "reversed") (n:= "__iter__") Ve Wm Wm Wm
  (by first|exact .inl Wm|exact .inr _) Ve
def Zeu (a:Av):argsOk "reversed.__iter__" ⟨[a],[]⟩:=by
 kernel_rfl
theorem Zcl:entryFor table "reversed.__iter__" = some Builtin.«dict_keyiterator.__iter__» :=
 entryFor_alias (id':= "dict_keyiterator.__iter__") Ve (by first|rfl|decide +kernel|(unfold String.splitOn;simp +decide)) Wm Ve
theorem Zev:Slot "reversed" "__init__" "object.__init__" :=
 .of (owner:= "object") (n:= "__init__") Ve Wm Wm Wm
  (by first|exact .inl Wm|exact .inr _) Ve
theorem called:TypeCalled "reversed" "reversed.__new__" "object.__init__" :=
 ⟨Vd,F.create_reversed,⟨_,_,F.mro_reversed⟩,F.made_reversed,F.plain_reversed_new,F.sub_reversed_self,Zev⟩
def gH:typeLookup (.type "tuple") "__reversed__" = pure none:=Ve
def sub_tuple_dict:isSubtype (.type "tuple") (.type "dict")=pure false:=Ve
def revObj (t:Aw) (i:Int):Obj:={cls:=.type "reversed",data:=.fields #[.ref t,rawInt i]}
def cZ (h:Heap) (a t:Aw) (i:Int):Prop:=∃o,h.get? a=some o/\o.cls=.type "reversed" /\ o.data=.fields #[.ref t,rawInt i]
def cZ.typeIs   {i:Int} (x:cZ s.heap a f i):s.TypeIs (.ref a) "reversed" :=let⟨o,ho,hc,_⟩:=x;⟨o,ho,hc⟩
def cZ.at{i:Int}(x:cZ h a f i)(e:∀o,h.get? a=some o->h'.get? a=some o):cZ h' a f i:=let⟨o,ho,r⟩:=x;⟨o,e _ ho,r⟩
section
variable {ww:Aq}{w:Au}{A:Ar}{E:Ab}{s:As}
theorem Jy(t:Aw)(items:Ah)(r:items.size<2^63):
  Meets (Builtin.«reversed.__new__» ⟨[.type "reversed",.ref t],[]⟩) (λ_ R s=>IsTup s.heap t items/\∀tk,R (.ok (.ret (.ref s.heap.objs.size))) {s with heap:=s.heap.push (revObj t ((items.size:Int)-1)),toks:=tk}):=
 .of_wp λww w A R s h=>by
  obtain⟨q,h⟩:=h;refine ab (fK (newClass_reversed _) (ab (fK (by first|rfl|kernel_rfl) (ab (fK (by first|rfl|kernel_rfl) (ab (tW q.typeIs gH ?_)))))));refine ab (ab (oH q.typeIs sub_tuple_dict ?_));refine ab (tW q.typeIs EN.lookup (aJ ?_));refine ab (len_tuple q Vb (ab (fK U (ab (m:=newObj _ (.fields #[.ref t,rawInt _])) (iI (aJ ⟨_,U,h _⟩))))))
theorem oK(B:IsTup s.heap a O)(r:O.size<2^63)(h:∀tk,Q (.ref s.heap.objs.size) {s with heap:=s.heap.push (revObj a ((O.size:Int)-1)),toks:=tk}):
  A9 ww w A (call (.type "reversed") [.ref a]) Q E s:=
 callType_new called Va (F.typeCall_reversed_1 _) (F.newCall_reversed_1 _) (λq=>F.args_object_init_2 q _) F.entry_reversed_new (Jy a O r)
  ⟨B,λtk=>⟨⟨_,bX _ U,U⟩,h tk⟩⟩
def next_item{it:Aw}{x:Av}{Q:Aa}(q:cZ s.heap it a (i:Int))(D:IsTup s.heap a O)(hi:(i:Int)<2^63)(C:O[i]?=some x)(I:a≠it)
  (G:∀h' tk,cZ h' it a ((i:Int)-1)->Heap.SameBut it s.heap h'->Q (some x) {s with heap:=h',toks:=tk}):A9 ww w A (pyNext (.ref it)) Q E s:=by
 obtain⟨o,B,F,r⟩:=id q;refine ab (nE (wpAny_callSpecial?_slot q.typeIs slot_next
  (dQ slot_next q.typeIs eQ ?_ (f7 _))))
 refine ab (fK U (ab (dP B r U (ab (dP B r U ?_)))));show wpAny _ _ _ _ _ s;refine ab (tW D.typeIs EN.lookup (ab (Cc ?_)));have hsz:=(Array.getElem?_eq_some_iff.mp C).1;refine ab (nE (getItem_tuple D Vb hi (by rw[Iu Vb Vb,lJ]) C (ab (dP B r U (ab (nN B r Vd (aJ ⟨x,U,aJ (G _ _ ?_ (lS ..))⟩)))))));exact⟨_,lG _ B (sL (iW r _)),(Dt ..).trans F,by
  rw[iW r];simp⟩
def next_end{it:Aw}{Q:Aa}(hh:A.handled=none)(q:cZ s.heap it a (-1))
  (D:∀h',(∀b o,b≠it->s.heap.get? b=some o->h'.get? b=some o)->Q none {s with heap:=h'}):A9 ww w A (pyNext (.ref it)) Q E s:=by
 obtain⟨o,B,F,r⟩:=id q;refine ab (nE (wpAny_callSpecial?_slot q.typeIs slot_next
  (dQ slot_next q.typeIs eQ ?_ (f7 _))))
 refine ab (fK U ?_);refine ab (dP B r U ?_);refine ab (dP B r U ?_);show wpAny _ _ _ _ _ s;refine ab (mN (ab ?_));refine ab (nN B r Vd ?_);refine nN (lG _ B (sL (iW r _))) (iW r _) Vd ?_
 first
 |show wpAny _ _ Vb _ _ _
 |(refine ab ?_)
 refine ab (ab (iI ?_ (by size_fits)));refine ab (fK (by first|rfl|(rfl)) ?_);refine iI (ab (DP ?_)) (by size_fits)
 first|rw[hh]|rw[hh]
 refine ab (aJ (DH ?_));refine ab (oH ⟨_,bX _ U,U⟩ C2 (aJ (D _ λb ob C e=>?_)));exact aW _ (aW _ ((nU _ _ (eN C)).trans ((nU _ _ (eN C)).trans e)))
def cF{it:Aw}{i:Int}(q:cZ s.heap it a i)(h:Q (.ref it) s):A9 ww w A (pyIter (.ref it)) Q E s:=by
 refine Fe q.typeIs kD (dQ kD q.typeIs Zcl (aJ ⟨_,U,_,_,q.typeIs,slot_next.lookup,h⟩) (Zeu _))
end
end RvT
namespace L2
def KQ(K:Af)(a:Aw)(n:Nat):It:=
 ⟨λi H=>∃xs x,aL K H a xs/\xs.length=n/\xs.reverse[i]?=some x,λi H x H'=>H'=H/\∀xs,aL K H a xs->xs.reverse[i]?=some x,λi _=>i=n⟩
def Ziy{tg:Ax}(a it:Aw)(n:Nat)(T:a≠it):iM P w K tg (KQ K a n) [it] it (λi h=>RvT.cZ h it a ((n:Int)-1-(i:Int)))where
 mem:=Vd
 obj:=λi h st b B=>by
  have e:b=it:=Vc
  subst e;obtain⟨o,e,c,d⟩:=st;exact⟨o,e,λv z=>(by simp_all)⟩
 keep:=λi h h' st k=>st.at λo e=>k it Vd o e
 item:=by
  intro X J hw F hc i zn s σ H E I r st Ua;subst J hw F;revert Ua;refine ε2 λxs x=>θ2 λhq hn hx=>?_;refine ω (I.tuple hq) (ε1 λits=>θ2 λrv p hz=>?_);have hi:i<xs.length:=by
   grind
  have Z:xs[xs.length-1-i]?=some x:=Vc
  obtain⟨u,hu,ru⟩:=rv.get Z;refine ω (r it Vd) (θ5 λD Y f2 C L G=>?_);have O:n-1-i=((xs.length-1-i:Nat):Int):=Vc
  have hl:=xq;rw[O]at st;refine RvT.next_item st p Vb (by simpa using hu) T λh' tk q sb=>?_;have e1:((xs.length-1-i:Nat))-1=n-1-((i+1):Int):=Vb
  rw[e1]at q;obtain⟨o,e,c,d⟩:=id q;exact⟨u,U,Dg e c d Va (ι2 x H ⟨I.turned (λb o B e=>(sb.2 b B).trans e) D Y C L G,ru,⟨U,λys hy=>by rw[I.dM hy hq];exact hx⟩,q,λb B=>(r b B).1⟩)⟩
 done:=by
  intro X J hw F hc i zn s σ H E I r st Ua;subst J hw F;refine ω (r it Vd) (θ5 λD Y f2 C L G=>?_);have hg':i=n:=Ua;have O:n-1-(i:Int)=-1:=Vb
  rw[O]at st;exact RvT.next_end (I.ok.hd hc) st λh' eb=>⟨U,I.turned (by omega) D Y C L G⟩
 self:=λ_ _ _ _ _ st h=>RvT.cF st h
inductive Pm(K:Af)(R:It->Hp->Prop)(x:V)(H1:Hp):Prop
 |mk (a xs:_):(x=.ref a)->(aL K H1 a xs)->(R (KQ K a xs.length) H1)->Pm K R x H1
def MR(K:Af)(te:TE):TI:=λσ H R=>te σ H λx H1=>Pm K R x H1
def P0 {X:Cx} {tg:Ax}   (Z:Gl X "reversed") (Ua:X.mg "reversed" = none) (Y:QE X e d) (F:Yi e=true:=by rfl):QI X tg (.Call (.Name "reversed" p) [e] [] y) (MR X.K d):=by
 refine⟨λzn s σ H R I h=>?_⟩;have hs:starEach [e] X.env=[(false,eval e X.env)]:=by rw[Z0 F];rfl
 refine Call_ (GG I Z Ua gD (DA ?_ hs U));rw[hs];refine sM (aR (Y.out zn s σ H _ I h) λu C ⟨x,H1,B,T,J⟩=>(Dp ?_));obtain⟨a,xs,rfl,hq,q⟩:=J;cases T;obtain⟨r,O,pt,hz⟩:=B.tuple hq;have hl:=xq;have D:=O.length;refine RvT.oK pt Vc λtk=>?_;have L:xs.length-1-(0:Int)=r.toArray.size-1:=(by simp_all)
 have st:RvT.cZ (C.heap.push (RvT.revObj a (r.toArray.size-1))) C.heap.objs.size a (xs.length-1-(0)):=by
  rw[L];exact⟨_,bX _ U,U,U⟩
 refine RvT.cF st (ι5 _ _ _ _ H1 ⟨U,B.kept λb o e=>aW _ e,Ziy a _ _ (cI pt.lt),st,λb G=>?_,q⟩);have e:=by simpa using G
 subst e;exact B.iU (aN _) (B.aM.fresh (aN _)) |> λf=>f
theorem Og{g:TG}(q:Nat->St->Hp->Prop)(D:q 0 c H)(B:∀i c H,i<=xs.length->q i c H->aL K H a xs)
  (hs:∀i x c H,xs.reverse[i]?=some x->q i c H->g x c H λr H2=>A {Ua with nx:=q (i+1),ct:=q (i+1),bk:=Ua.nx} r H2) (C:∀c H,q xs.length c H->Ua.nx c H):
  tO (KQ K a xs.length) g A Ua c H:=
 yb _ q D (λi c H hi p=>⟨⟨xs,xs.reverse[i]' (by simp_all),B i c H (bL hi) p,U,aQ _⟩,λx H' ⟨e,y⟩=>e ▸ hs i x c H (y xs (B i c H (bL hi) p)) p⟩) λc H p=>⟨U,C c H p⟩
theorem U0{ys:Ai}:∀{q:Ag},aH (ys.map V.str) q->StrsAre q ys:=by
 induction ys with
 |nil=>intro q r;cases r;exact .nil
 |cons n ns D=>
  intro q r;cases r with
  |cons C B=>
   obtain⟨t,e⟩:=C;subst e;exact .cons n t (D B)
theorem X7{Q:VK}(q:Nat->List V->Hp->Prop)(D:q 0 [] H)(F:∀i zs H,q i zs H->zs.length<=sizeLine)(r:∀i zs H,q i zs H->aB K H a xs)
  (hs:∀i x zs H (R:A8->Hp->Prop),(∀zs H,q (i+1) zs H->R zs H)->xs[i]?=some x->q i zs H->M (j9 is c (some x)) H λb H2=>if b=true then d (j9 is c (some x)) H2 λy C=>R (zs++[y]) C else R zs H2)
  (B:∀zs H,q xs.length zs H->∀p,H p=none->Q (.ref p) (aA H p (.lst zs))):
  qM is M d c Q (AI K a) H:=
 gG _ q D F (λi zs H R k hi p=>⟨⟨xs,xs[i],r i zs H p,aQ hi⟩,λx H' ⟨e,y⟩=>e ▸ hs i x zs H R k (y xs (r i zs H p)) p⟩) λzs H p=>⟨⟨xs,r _ zs H p,aN _⟩,B zs H p⟩
def KS(x:Str):It:=⟨λi _=>i<x.cps.size,λi H v H'=>H'=H/\∃c,x.cps[i]?=some c/\v=.str ⟨#[c]⟩,λi _=>i=x.cps.size⟩
def To (it:Aw) (x:Str) (t:Tok) (T:String) (hT:T = "str_ascii_iterator" \/ T = "str_iterator"):iM P w K tg (KS x) [it] it (λi h=>h.IsStrIter it T x t i)where
 mem:=Vd
 obj:=λi h st b B=>by
  have e:=by simpa using B
  subst e;obtain⟨o,e,c,d⟩:=st;exact⟨o,e,λv z=>Vc⟩
 keep:=λi h h' st k=>let⟨o,ho,r⟩:=st;⟨o,k it Vd o ho,r⟩
 item:=by
  intro X hP hw hK Ua i zn s σ H E I O st Z;subst hP hw hK;refine ω (O it Vd) (θ5 λG Y f2 F L J=>?_);rcases hT with rfl|rfl
  .refine(Walks.strAscii (I.ok.hd Ua) it x t).item i s _ _ Z st λv h' tk hv q C=>?_
   obtain⟨c,u,D,rfl⟩:=hv;have I1:aD X zn σ H {s with heap:=h',toks:=tk}:=I.turned (λb o B e=>C b o Vc e) G Y F L J;obtain⟨o,e,cc,d⟩:=id q;exact⟨_,U,Dg e cc d Va ⟨.str _,H,I1,⟨_,U⟩,⟨U,c,D,U⟩,q,λb B=>(O b B).1⟩⟩
  .refine(Walks.strWide (I.ok.hd Ua) it x t).item i s _ _ Z st λv h' tk hv q C=>?_
   obtain⟨c,u,D,rfl⟩:=hv;have I1:aD X zn σ H {s with heap:=h',toks:=tk}:=I.turned (λb o B e=>C b o Vc e) G Y F L J;obtain⟨o,e,cc,d⟩:=id q;exact⟨_,U,Dg e cc d Va ⟨.str _,H,I1,⟨_,U⟩,⟨U,c,D,U⟩,q,λb B=>(O b B).1⟩⟩
 done:=by
  intro X hP hw hK Ua i zn s σ H E I O st Z;subst hP hw hK;obtain⟨G,Y,f2,F,L,J⟩:=O it Vd;subst Z;rcases hT with rfl|rfl
  .exact(Walks.strAscii (I.ok.hd Ua) it x t).done s _ _ st λh' tk C=>⟨U,I.turned (λb o B e=>C b o Vc e) G Y F L J⟩
  .exact(Walks.strWide (I.ok.hd Ua) it x t).done s _ _ st λh' tk C=>⟨U,I.turned (λb o B e=>C b o Vc e) G Y F L J⟩
 self:=λA i s Q E st h=>by
  rcases hT with rfl|rfl
  .exact wpAny_pyIter_striter_ascii st h
  .exact wpAny_pyIter_striter_wide st h
inductive PL(R:It->Hp->Prop)(v:V)(H1:Hp):Prop
 |mk (x:_):(v=.str x)->(R (KS x) H1)->PL R v H1
def Lv(te:TE):TI:=λσ H R=>te σ H λv H1=>PL R v H1
def Bm{X:Cx}{tg l:Ax}(J:QE X l d):QI X tg l (Lv d):=by
 refine⟨λzn s σ H R I h=>(aR (J.out zn s σ H _ I h) λv B ⟨y,H1,r,G,F⟩=>?_)⟩;obtain⟨x,rfl,q⟩:=F;obtain⟨t,rfl⟩:=G;have go:∀(o:Obj)(T:String),(T = "str_ascii_iterator" \/ T = "str_iterator")->(B.heap.push o).IsStrIter _ T x t 0->LR X zn σ tg R _ _:=λo T D st=>
  ι5 _ _ _ _ H1 ⟨U,r.kept (t':=B.toks) λb o e=>aW _ e,To _ x t T D,st,λb C=>by
   have e:=by simpa using C
   subst e;exact r.iU (aN _) (r.aM.fresh (aN _)),q⟩
 cases ha:x.cps.all _
 .exact wpAny_pyIter_wide ha (go _ _ (.inr U) ⟨_,bX _ U,U,U⟩)
 .exact wpAny_pyIter_ascii ha (go _ _ (.inl U) ⟨_,bX _ U,U,U⟩)
def Zey (hc:X.calm=true):YX X (.builtin "all") (λxs H Q=>∃(p:Aw)(bs:Am),xs=[.ref p]/\aB X.K H p (bs.map V.bl)/\Q (.bl (bs.all id)) H):=by
 rintro zn s σ H xs us Q I r ⟨p,bs,rfl,hq,q⟩;obtain⟨u,rfl,Y⟩:=bS r;cases Y;obtain⟨F,O,pl,hz⟩:=I.list hq;have J:=pl.isList;have B:=O.length;rw[aF]at B;refine call_all_walk (Fi J ?_);refine ι7 _ _ _ _ _ _ (λi=>(bs[i]?).getD true) ⟨U,Walks.list (A:=X.A.in1) (I.ok.hd hc) _ p (cI (by obtain⟨_,e,_⟩:=J;exact bH e)) _,
  ⟨⟨_,bX _ U,U,U⟩,J.push _⟩,λi v s' Q' E' T L=>?_,λh' tk Z=>?_⟩
 .have hi:=by simpa using T
  have D:i<bs.length:=Vc
  obtain⟨w',e1,e2⟩:=O.get (by rw[bG,aQ D];rfl);rw[hi]at e1;cases e1;cases e2;simp[aQ D]at L;exact u0 L
 .have e:((List.range F.toArray.size).all λi=>(bs[i]?).getD true)=bs.all id:=by
   rw[eB,<-B,mV,mK,mK];constructor
   .intro z b D;obtain⟨i,hi,rfl⟩:=List.getElem_of_mem D;have:=z i (e8.mpr hi);simpa[aQ hi]using this
   .intro z i hi;have C:=e8.mp hi;have:=z _ (dZ C);simpa[aQ C]using this
  rw[e];refine⟨.bl _,H,I.kept (λb o G=>Z b o (λUa=>?_) (aW _ G)),U,q⟩;rw[cA.mp Ua]at G;exact absurd (bH G) (iC _)
theorem Jz:∀{q:Ag} {ys:Ai},StrsAre q ys->aH (ys.map V.str) q
 |_,_,.nil=>.nil
 |_,_,.cons y t h=>.cons ⟨t,U⟩ (Jz h)
def yi:bootBuiltins "max" = some (.builtin "max"):=Wm
def Mk:bootBuiltins "min" = some (.builtin "min"):=Wm
def yS :PySem.W.kitOne K (.type "bool") (.type "bool")=some true:=by rfl
def WI{u:TS}(J:A7)(h1:∀N:A7,(∀c H,J c H->N c H)->A {Ua with nx:=N} c H)(h2:∀c H,J c H->u Ua c H):ZR A u Ua c H:=h1 _ h2
def aE{xs:List g}{x:g}(h:xs[i]?=some x):xs.take (i+1)=xs.take i++[x]:=by
 rw[List.take_succ,h];rfl
def gI{Q:VK}(p:V->Bool)(f:V->V)(F:aB K H a xs)(G:xs.length<=sizeLine)
  (B:∀x∈xs,∀R:Bool->Hp->Prop,R (p x) H->M (j9 is c (some x)) H R)
  (C:∀x∈xs,p x=true->∀R:VK,R (f x) H->d (j9 is c (some x)) H R)
  (D:∀l,H l=none->Q (.ref l) (aA H l (.lst ((xs.filter p).map f)))):qM is M d c Q (AI K a) H:=by
 refine X7 (xs:=xs) (λi zs H'=>zs=((xs.take i).filter p).map f/\H'=H) ⟨U,U⟩ ?_ ?_ ?_ ?_
 .grind
 .grind
 .rintro i x zs H' R hR q ⟨rfl,rfl⟩;have r:=cY q;have e:=aE q;refine B x r _ ?_;cases hp:p x with
  |true=>
   refine(aK U) ▸ C x r hp _ (hR _ _ ⟨?_,U⟩);rw[e,oW,b0,bU,aK hp];rfl
  |false=>
   refine(aG eH) ▸ hR _ _ ⟨?_,U⟩;rw[e,oW,bU,aG Vc];simp
 .simp_all
def eT{Q:VK}(f:V->V)(r:aB K H a xs)(D:xs.length<=sizeLine)
  (C:∀x∈xs,∀R:VK,R (f x) H->d (j9 is c (some x)) H R)
  (q:∀l,H l=none->Q (.ref l) (aA H l (.lst (xs.map f)))):qM is AG d c Q (AI K a) H:=by
 refine gI _ f r D (λx _ R h=>h) (λx F _=>C x F) λl B=>?_;rw[List.filter_eq_self.mpr λ_ _=>U];exact q l B
def z5{Q:VK}(f:V->V)(C:aL K H a xs)(D:xs.length<=sizeLine)
  (r:∀x∈xs,∀R:VK,R (f x) H->d (j9 is c (some x)) H R)
  (B:∀l,H l=none->Q (.ref l) (aA H l (.lst (xs.map f)))):qM is AG d c Q (CD K a) H:=by
 refine XQ (xs:=xs) (λi zs H'=>zs=(xs.take i).map f/\H'=H) ⟨U,U⟩ ?_ ?_ ?_ ?_
 .grind
 .grind
 .rintro i x zs H' R hR q ⟨rfl,rfl⟩;unfold AG;refine r x (cY q) _ (hR _ _ ⟨?_,U⟩);rw[aE q,b0];rfl
 .simp_all
section
variable {κ:Type}[DecidableEq κ]
def Ym(wl:List (κ×V))(k:κ):Option V:=(wl.find? λq=>decide (q.1=k)).map (·.2)
def bD(wl:List (κ×V))(k:κ)(v:V):List (κ×V):=
 if(wl.any λq=>decide (q.1=k))=true then wl.map (λq=>if q.1=k then(q.1,v)else q)else wl++[(k,v)]
def Yo{p:κ×V}{r:List (κ×V)}{k:κ}(e:p.1=k):Ym (p::r) k=some p.2:=by simp[Ym,e]
def ZZ{p:κ×V}{r:List (κ×V)}{k:κ}(e:¬p.1=k):Ym (p::r) k=Ym r k:=by simp[Ym,e]
theorem XR(k:κ):∀wl:List (κ×V),(wl.any λq=>decide (q.1=k))=(Ym wl k).isSome
 |[]=>rfl
 |p::r=>by
  rw[FV]
  by_cases e:p.1=k
  .simp[Yo e,aZ e]
  .rw[ZZ e,bF e];exact XR k r
theorem N9(k j:κ)(y:V):∀wl:List (κ×V),Ym (wl.map λq=>if q.1=k then(q.1,y)else q) j=(Ym wl j).map λx=>if j=k then y else x
 |[]=>rfl
 |p::r=>by
  have B:=N9 k j y r;rw[fW]
  by_cases h:p.1=k
  .rw[aK h]
   by_cases e:p.1=j
   .rw[Yo (p:=(p.1,y)) e,Yo e,Ew,aK (e.symm.trans h)]
   .rw[ZZ (p:=(p.1,y)) e,ZZ e,B]
  .rw[aG h]
   by_cases e:p.1=j
   .rw[Yo e,Yo e,Ew,aG (λz=>h (e.trans z))]
   .rw[ZZ e,ZZ e,B]
theorem kE(k j:κ)(y:V):∀wl:List (κ×V),Ym wl k=none->Ym (wl++[(k,y)]) j=if j=k then some y else Ym wl j
 |[],_=>by
  by_cases e:k=j
  .rw[aK e.symm];exact Yo e
  .rw[aG (λz=>e z.symm)];exact ZZ e
 |p::r,q=>by
  rw[List.cons_append];have B:¬p.1=k:=λz=>by rw[Yo z]at q;cases q
  rw[ZZ B]at q
  by_cases e:p.1=j
  .rw[Yo e,Yo e,aG (λz=>B (e.trans z))]
  .rw[ZZ e,ZZ e,kE k j y r q]
def xV(wl:List (κ×V))(k j:κ)(y:V):Ym (bD wl k y) j=if j=k then some y else Ym wl j:=by
 unfold bD
 by_cases a:(wl.any λB=>decide (B.1=k))=true
 .rw[aK a,N9];rw[XR]at a
  by_cases e:j=k
  .obtain⟨x,r⟩:=Option.isSome_iff_exists.mp a;rw[aK e,e,r,Ew,aK U]
  .rw[aG e];cases Ym wl j with
   |none=>rfl
   |some x=>rw[Ew,aG e]
 .rw[aG a];refine kE k j y wl ?_;rw[XR]at a;cases q:Ym wl k with
  |none=>rfl
  |some x=>rw[q]at a;exact(a U).elim
def WJ(wl:List (κ×V))(k:κ)(v:V):(bD wl k v).length<=wl.length+1:=by
 unfold bD;split
 .rw[aF];simp_all
 .simp_all
def nI.bY{o:Option V}{u:Option Av}(r:nI o u):o.isSome=u.isSome:=by
 cases o with
 |none=>cases u with
  |none=>rfl
  |some _=>exact(r).elim
 |some _=>cases u with
  |none=>exact(r).elim
  |some _=>rfl
def nI.getD{o:Option V}{u:Option Av}{d:V}{q:Av}(r:nI o u)(B:aI d q):aI (o.getD d) (u.getD q):=by
 cases o with
 |none=>cases u with
  |none=>exact B
  |some _=>exact(r).elim
 |some _=>cases u with
  |none=>exact(r).elim
  |some _=>exact r
theorem KV.val(r:KV wl vs)(k:κ):nI (Ym wl k) (valueAt vs k):=by
 induction r with
 |nil=>exact True.intro
 | @cons p q ps C h t D=>
  obtain⟨h1,h2⟩:=h
  by_cases e:p.1=k
  .have B:=h1.symm.trans e;have b:valueAt (q::C) k=some q.2:=by simp[valueAt,B]
   rw[Yo e,b];exact h2
  .have B:¬q.1=k:=λz=>e (h1.trans z)
   have b:valueAt (q::C) k=valueAt C k:=by simp[valueAt,B]
   rw[ZZ e,b];exact D
theorem KV.any(r:KV wl vs)(k:κ):(wl.any λq=>decide (q.1=k))=vs.any λq=>decide (q.1=k):=by
 induction r with
 |nil=>rfl
 |cons h t B=>rw[FV,FV,B,h.1]
theorem KV.BC(r:KV wl vs)(k:κ){y:V}(D:aI y u):
  KV (wl.map λB=>if B.1=k then(B.1,y)else B) (vs.map λB=>if B.1=k then(B.1,u)else B):=by
 induction r with
 |nil=>exact .nil
 | @cons p q ps F h t C=>
  refine .cons ?_ C;obtain⟨h1,h2⟩:=h
  by_cases e:p.1=k
  .simp_all
  .simp_all
def KV.put(r:KV wl vs)(k:κ){y:V}(q:aI y u):KV (bD wl k y) (stored vs k u):=by
 unfold bD stored;rw[r.any k]
 by_cases e:(vs.any λB=>decide (B.1=k))=true
 .rw[aK e,aK e];exact r.BC k q
 .rw[aG e,aG e];exact Paired.snoc r ⟨U,q⟩
theorem KV.keys{vs:List (κ×Av)}(r:KV wl vs):wl.map (·.1)=vs.map (·.1):=by
 induction r with
 |nil=>rfl
 |cons h t q=>rw[fW,fW,q,h.1]
def KV.length(r:KV wl vs):wl.length=vs.length:=Cq r
end
def kF(r:aI (kV k) u):(Yt P w).is k u=true:=by
 cases k with
 |inl i=>obtain⟨t,e⟩:=(r);subst e;exact gB P w i t
 |inr x=>obtain⟨t,e⟩:=(r);subst e;exact Gz P w x t
theorem kG{P:Aq}{w:Au}:∀{ks:List aX} {q:Ag},aH (ks.map kV) q->ItemsAre (Yt P w) ks q
 |[],_,r=>by cases r;exact .nil
 |k::ks,_,r=>by
  cases r with
  |cons h t=>exact .cons (kF h) (kG t)
abbrev KT(H:Hp):List (List aX×V)->List (List aX×Aw×Av)->Prop:=Paired λp q=>p.1=q.1/\H q.2.1=am (p.1.map kV)/\aI p.2 q.2.2
theorem KT.val(r:KT H wl xs)(k:List aX):nI (Ym wl k) ((atKey xs k).map (·.2)):=by
 induction r with
 |nil=>exact True.intro
 | @cons p q ps C h t D=>
  obtain⟨h1,_,h2⟩:=h
  by_cases e:p.1=k
  .have B:=h1.symm.trans e;have b:atKey (q::C) k=some q.2:=by simp[atKey,B]
   rw[Yo e,b];exact h2
  .have B:¬q.1=k:=λz=>e (h1.trans z)
   have b:atKey (q::C) k=atKey C k:=by simp[atKey,B]
   rw[ZZ e,b];exact D
theorem KT.BC(r:KT H wl xs)(k:List aX){y:V}(F:aI y u):
  KT H (wl.map λB=>if B.1=k then(B.1,y)else B) (xs.map (putAt k u)):=by
 induction r with
 |nil=>exact .nil
 | @cons p q ps G h t C=>
  refine .cons ?_ C;obtain⟨h1,h2,D⟩:=h;unfold putAt
  by_cases e:p.1=k
  .simp_all
  .simp_all
def KT.put(r:KT H wl xs)(k:List aX){b:Aw}{y:V}(C:H b=am (k.map kV))(B:aI y u):
  KT H (bD wl k y) (storedH xs k b u):=by
 have e:(wl.any λD=>decide (D.1=k))=(atKey xs k).isSome:=by
  rw[XR,(r.val k).bY,Hg]
 unfold bD storedH;rw[e]
 by_cases q:(atKey xs k).isSome=true
 .rw[aK q,aK q];exact r.BC k B
 .rw[aG q,aG q];exact Paired.snoc r ⟨U,C,B⟩
theorem KT.keeps{wl:List (List aX×V)}{xs:List (List aX×Aw×Av)}(r:KT H wl xs)(q:∀b ys,H b=am ys->H' b=am ys):KT H' wl xs:=
 Paired.rN r λ_ _ z=>⟨z.1,q _ _ z.2.1,z.2.2⟩
section
variable {P:Aq}{w:Au}{H:Hp}{h:Heap}{a:Aw}
def LV{u:HO}(ok:cO P w H h)(e:Rd H a u):XJ P w H h a u:=e.ok ok
theorem kI{wl:A0}(ok:cO P w H h)(e:Rd H a (.dK wl)):wl.length<=sizeLine/\(a == sysModules)=false/\∃vs,KV wl vs/\h.DictOf (Yt P w) a vs:=
 LV ok e
def Iw{wl:A0}(ok:cO P w H h)(e:H a=some (.dK wl)):wl.length<=sizeLine/\(a == sysModules)=false/\∃vs,KV wl vs/\h.DictOf (Yt P w) a vs:=kI ok (.inl e)
def kJ(ok:cO P w H h)(e:H a=am (ks.map kV)):(tupleKind (Yt P w)).is h ks a:=by
 obtain⟨_,q,r,o,h1,h2,⟨n,B⟩,_⟩:=(ok a _ e);exact ι3 o _ n ⟨h1,h2,B,by simpa using kG r⟩
theorem ES(ok:cO P w H h)(e:Rd H a (.dT wl)):wl.length<=sizeLine/\(a == sysModules)=false /\
  ∃xs,KT H wl xs/\h.DictOfH (tupleKind (Yt P w)) a xs:=by
 refine ω ((LV ok e)) (θ2 λz y=>ε1 λxs=>θ1 λr=>ε3 λo es ep=>θ4 λh1 h2 D G C=>?_);refine⟨z,y,xs,r,o,es,ep,h1,h2,D,G,λx B=>?_,C⟩;have all:∀{l:List _} {m:List _},KT H l m->∀x∈m,(tupleKind (Yt P w)).is h x.1 x.2.1:=by
  intro l m q
  induction q with
  |nil=>intro x B;exact nomatch B
  | @cons p q ps I J t F=>
   intro x B;rcases bJ.mp B with e|B
   .subst e;exact kJ ok Vc
   .exact F x B
 exact all r x B
end
def mX(H:Hp)(a:Aw)(y:V)(r:Option V):Prop:=
 (∃wl k,Rd H a (.dK wl)/\y=kV k/\r=Ym wl k)\/∃wl k b,Rd H a (.dT wl)/\y=.ref b/\H b=am (k.map kV)/\r=Ym wl k
def mU(H:Hp)(a:Aw)(y v:V)(H':Hp):Prop:=
 (∃wl k,H a=some (.dK wl)/\y=kV k/\wl.length<sizeLine/\H'=aA H a (.dK (bD wl k v))) \/
 ∃wl k b,H a=some (.dT wl)/\y=.ref b/\H b=am (k.map kV)/\wl.length<sizeLine/\H'=aA H a (.dT (bD wl k v))
def mX.t{b:Aw}{wl:List (List aX×V)}{k:List aX}(e:H a=some (.dT wl))(q:H b=am (k.map kV)):mX H a (.ref b) (Ym wl k):=.inr (ι3 wl k b ⟨.inl e,U,q,U⟩)
def mU.k{H:Hp}{a:Aw}{wl:A0}{k:aX}{v:V}(e:H a=some (.dK wl))(q:wl.length<sizeLine):mU H a (kV k) v (aA H a (.dK (bD wl k v))):=.inl ⟨wl,k,e,U,q,U⟩
theorem mU.t{b:Aw}{wl:List (List aX×V)}{k:List aX}(e:H a=some (.dT wl))(q:H b=am (k.map kV))(r:wl.length<sizeLine):
  mU H a (.ref b) v (aA H a (.dT (bD wl k v))):=.inr (ι3 wl k b ⟨e,U,q,r,U⟩)
section
variable {X:Cx}{zn:Ac}{σ:St}{H:Hp}{s:As}{a:Aw}{y v:V}{u r:Av}{o:Option V}{A:Ar}{E:Ab}
def aD.big(I:aD X zn σ H s):sysModules<s.heap.objs.size:=Nat.lt_trans Va (I.mod.glob.keeps I.bk).lt
def Vt(L:A.units+1<cLine)(I:aD X zn σ H s)(g:mX H a y (some v))(F:aI y u)(h:∀B s',aD X zn σ H s'->aI v B->Q B s'):
  A9 X.prog X.w A (getItem (.ref a) u) Q E s:=by
 rcases g with⟨wl,k,e,D,l⟩|⟨wl,k,b,e,D,J,l⟩
 .subst D;obtain⟨z,G,vs,q,dd⟩:=kI I.aM e;obtain⟨B,hw,r⟩:=nI.some_of (by rw[l];exact q.val k);exact wpAny_getItem_of (kF F) dd.mapOf hw (h B _ (I.tok _) r)
 .subst D;cases(F);obtain⟨z,G,xs,q,dd⟩:=ES I.aM e;obtain⟨B,hw,r⟩:=nI.some_of (by rw[l];exact q.val k);obtain⟨p,O,C⟩:=eA.mp hw;refine wpAny_getItem_heap (Kd L) (kJ I.aM J) dd O ?_;rw[C];exact h B _ (I.tok _) r
def LK(G:A.units+1<cLine)(I:aD X zn σ H s)(g:mX H a y o)(D:aI y u)(h:∀s',aD X zn σ H s'->Q (.bool o.isSome) s'):
  A9 X.prog X.w A (compareOp .In u (.ref a)) Q E s:=by
 rcases g with⟨wl,k,e,C,l⟩|⟨wl,k,b,e,C,F,l⟩
 .subst C;obtain⟨z,B,vs,r,dd⟩:=kI I.aM e;refine wpAny_in_of (kF D) B dd.mapOf ?_;rw[<-(r.val k).bY,<-l];exact h _ (I.tok _)
 .subst C;cases(D);obtain⟨z,B,xs,r,dd⟩:=ES I.aM e;refine wpAny_in_heap (Kd G) (kJ I.aM F) B dd ?_;have q:=(r.val k).bY;rw[Hg]at q;rw[<-q,<-l];exact h _ (I.tok _)
def Znc(G:A.units+1<cLine)(I:aD X zn σ H s)(g:mX H a y o)(D:aI y u)(h:∀s',aD X zn σ H s'->Q (.bool (!o.isSome)) s'):
  A9 X.prog X.w A (compareOp .NotIn u (.ref a)) Q E s:=by
 rcases g with⟨wl,k,e,C,l⟩|⟨wl,k,b,e,C,F,l⟩
 .subst C;obtain⟨z,B,vs,r,dd⟩:=kI I.aM e;refine wpAny_notIn_of (kF D) B dd.mapOf ?_;rw[<-(r.val k).bY,<-l];exact h _ (I.tok _)
 .subst C;cases(D);obtain⟨z,B,xs,r,dd⟩:=ES I.aM e;refine wpAny_notIn_heap (Kd G) (kJ I.aM F) B dd ?_;have q:=(r.val k).bY;rw[Hg]at q;rw[<-q,<-l];exact h _ (I.tok _)
theorem z6{ob:HO}(I:aD X zn σ H s)(C:tI (H a))(hs:Heap.SameBut a s.heap h)(B:∃q,h.get? a=some q)(new:XJ X.prog X.w (aA H a ob) h a ob):
  aD X zn σ (aA H a ob) {s with heap:=h,toks:=t'}:=
 I.write C (.inl U) (λb q r z=>(hs.2 b r).trans z) B new
theorem LN{wl:A0}{vs:List (aX×Av)}(z:wl.length<=sizeLine)(r:(a == sysModules)=false)(q:KV wl vs)(dd:h.DictOf (Yt P w) a vs):
  XJ P w H' h a (.dK wl):=⟨z,r,vs,q,dd⟩
def V2{Q:Unit->Shared->Prop}(Y:A.units+1<cLine)(I:aD X zn σ H s)(g:mU H a y v H')(T:aI y u)(L:aI v r)(h:∀s',aD X zn σ H' s'->Q () s'):
  A9 X.prog X.w A (setItem (.ref a) u r) Q E s:=by
 rcases g with⟨wl,k,e,F,l,G⟩|⟨wl,k,b,e,F,O,l,G⟩
 .subst F G;obtain⟨z,D,vs,B,dd⟩:=Iw I.aM e;have hz:vs.length<=sizeLine:=by rw[<-B.length];exact z
  have J:(bD wl k v).length<=sizeLine:=by have:=WJ wl k v;lia
  refine wpAny_setItem_pairs (kF T) dd λh' dd' hs=>h _ (z6 I (by rw[e];exact True.intro) hs (let⟨q,_,_,C,_⟩:=dd';⟨q,C⟩) (LN J D (B.put k L) dd'))
 .subst F G;cases(T);obtain⟨z,D,xs,B,dd⟩:=(ES I.aM (.inl e));have hz:xs.length<=sizeLine:=by rw[<-Cq B];exact z
  have J:(bD wl k v).length<=sizeLine:=by have:=WJ wl k v;lia
  refine wpAny_setItem_heap (Kd Y) (kJ I.aM O) dd λh' dd' hs=>h _ ?_;revert dd';refine ε3 λq es ep=>θ5 λC h2 h3 h4 _ Z=>?_;refine z6 I (by rw[e];exact True.intro) hs ⟨q,C⟩ ⟨J,D,_,(B.put k O L).keeps λc ys Ua=>?_,q,es,ep,C,h2,h3,h4,Z⟩;rw[Zk (Yg Ua e nofun)];exact Ua
end
def HI(i:Ax):Prop:=∀r q,subscripted i false r q=operate [r,q] (getItem r q)
def Rg{ww:Aq}{A:Ar}{E:Ab}{env:Env}{q:Ax}{T id:String}
  (J:typeLookup (.type T) "__getitem__" = pure (some (.builtin id))) (hs:HI q)
  (h:A9 ww w A (eval e env) (λo D=>A9 ww w A (eval q env) (λi s₂=>s₂.TypeIs o T/\A9 ww w A (getItem o i) Q E s₂) E D) E s):
  A9 ww w A (eval (.Subscript e q p) env) Q E s:=by
 refine Subscript_ (j1 h (λo D F=>j1 F (λi s₂ B=>?_) λ_ _ x=>x) λ_ _ x=>x);obtain⟨I,B⟩:=B;refine ab (ab (tW I J ?_));have fin:A9 ww w A (subscripted q false o i) (λr C=>A9 ww w A (letTemporaryGo e o r >>= λ_=>pure r) Q E C) E s₂:=by
  rw[hs o i];exact wpAny_operating (j1 B (λr C G=>ab (wpAny_letTemporaryGo (aJ G))) λ_ _ x=>x)
 first
  |exact aJ (ab fin)
  |exact ab _
  |exact ab fin
inductive Qz(Q:VK)(x:V)(y:V)(H2:Hp):Prop
 |mk (a v:_):(x=.ref a)->(mX H2 a y (some v))->(Q v H2)->Qz Q x y H2
def Q9(td ty:TE):TE:=λσ H Q=>td σ H λx H1=>ty σ H1 λy H2=>Qz Q x y H2
inductive P6(D:Ends)(σ:St)(v:V)(x:V)(y:V)(H3:Hp):Prop
 |mk (a H4:_):(x=.ref a)->(mU H3 a y v H4)->(D.nx σ H4)->P6 D σ v x y H3
def Eh(td ty tv:TE):TS:=λD σ H=>tv σ H λv H1=>td σ H1 λx H2=>ty σ H2 λy q=>P6 D σ v x y q
section
variable {X:Cx}{o i e value:Ax}{pos pos' tpos:Pos}{td ty tv:TE}
def UZ(B:X.A.units+1<cLine)(O:PE X o td)(hi:PE X i ty)(hs:HI i):PE X (.Subscript o i pos) (Q9 td ty):=λzn s σ H Q I h=>by
 refine Rg PySem.F.slot_dict_getitem.lookup hs (aR (O zn s σ H _ I h) λu G ⟨x,H1,C,L,J⟩=>aR (hi zn G σ H1 _ C J) λZ s2 ⟨y,H2,q,T,a,v,ex,g,Ua⟩=>?_);subst ex;obtain rfl:u=Value.ref a:=L;exact⟨(by
    rcases g with⟨wl,k,e,_,_⟩|⟨wl,k,b,e,_,_,_⟩
    .obtain⟨_,_,vs,_,dd⟩:=kI q.aM e;exact dd.typeIs
    .obtain⟨_,_,xs,_,dd⟩:=ES q.aM e;exact dd.typeIs),Vt B q g T λw' Y D r=>⟨v,H2,D,r,Ua⟩⟩
end
theorem yT    (h:Heap) (q:sysModules<h.objs.size):XJ P w H (h.push {cls:=.type "dict",data:=.dict #[]}) h.objs.size (.dK []):=
 ⟨cM _,Dv.mpr (eN (cI q)),[],.nil,Heap.DictOf.new h⟩
def AR:TE:=λ_ H Q=>∀p,H p=none->Q (.ref p) (aA H p (.dK []))
def RA:TE:=λ_ H Q=>∀p,H p=none->Q (.ref p) (aA H p (.dT []))
section
variable {X:Cx}{pos:Pos}
theorem Sy:PE X (.Dict [] [] pos) RA:=λzn s σ H Q I h=>
 wpAny_Dict_empty ⟨.ref _,_,I.laid (o:=.dT []) (λ_ _ q=>aW _ q) (aN _) (⟨cM _,Dv.mpr (eN (cI I.big)),[],.nil,_,#[],0,bX _ U,⟨U,U,U⟩,U,U,fL⟩),U,h _ (I.aM.fresh (aN _))⟩
end
def LS:List (TE×TE)->St->Hp->(List (V×V)->Hp->Prop)->Prop
 |[],_,H,Q=>Q [] H
 |(tk,tv)::r,σ,H,Q=>tk σ H λx H1=>tv σ H1 λy H2=>LS r σ H2 λps q=>Q ((x,y)::ps) q
abbrev VV:List (V×V)->List (Av×Av)->Prop:=Paired λp q=>aI p.1 q.1/\aI p.2 q.2
def PPs(X:Cx)(pos:Pos)(keys:List (Option Ax))(q:An)(r:List (TE×TE)):Prop:=
 ∀(zn:Ac)(s:As)(σ:St)(H:Hp)(Q:List (V×V)->Hp->Prop),aD X zn σ H s->LS r σ H Q->
  Ba X (evalPairs (pairTrees keys q X.env pos)) (λvs s'=>∃ps H',aD X zn σ H' s'/\VV ps vs/\Q ps H') X.xe s
def yj(wl q:A0):A0:=q.foldl (λacc r=>bD acc r.1 r.2) wl
theorem KV.merge:∀{B:A0} {C:List (aX×Av)} {wl:A0} {vs:List (aX×Av)},KV B C->KV wl vs->KV (yj wl B) (merged vs C):=by
 intro B C wl vs r
 induction r generalizing wl vs with
 |nil=>intro q;exact q
 | @cons p q ps G h t F=>
  intro D;have e:KV (bD wl p.1 p.2) (stored vs q.1 q.2):=by
   have:=D.put p.1 h.2;rw[<-h.1];exact this
  exact F e
theorem GJ:∀(q wl:A0),(yj wl q).length<=wl.length+q.length
 |[],wl=>by show wl.length<=wl.length+0;simp_all
 |p::r,wl=>by
  have h1:=GJ r (bD wl p.1 p.2);have h2:=WJ wl p.1 p.2;show(yj _ r).length<=_;rw[cQ];lia
theorem yk{P:Aq}{w:Au}:∀{wl:A0} {D:List (Av×Av)},VV (wl.map λC=>(kV C.1,C.2)) D->∃B,Carries (Yt P w) D B/\KV wl B
 |[],_,r=>by cases r;exact⟨[],True.intro,.nil⟩
 |p::wl,_,r=>by
  cases r with
  | @cons a b as bs h t=>
   obtain⟨B,c,q⟩:=yk t;obtain⟨b1,b2⟩:=b;exact⟨(p.1,b2)::B,⟨kF h.1,U,c⟩,.cons ⟨U,h.2⟩ q⟩
def FW(q:List (TE×TE)):TE:=λσ H Q=>∀p,H p=none->LS q σ (aA H p (.dK [])) λps H2=>H2 p=some (.dK [])/\∃wl:A0,ps=wl.map (λr=>(kV r.1,r.2))/\wl.length<=15/\Q (.ref p) (aA H2 p (.dK (yj [] wl)))
structure M2(X:Cx)(o:Ax)(m:Str)(apos:Pos)(e f:Ax)(pu:Pos):Prop where
 base:attributeBase o m X.env (eval o X.env)=eval o X.env
 Ij:((backTo pu (starEach [e,f] X.env)).all (λx=>!x.1)&&(backToKw pu (keywordEach [] X.env)).all (λx=>x.1.isSome)
  && decide (([e,f]:An).length+([]:List Keyword).length+(if([]:List Keyword).isEmpty then 0 else 1)<30))=true
 line:(apos.endLine == pu.line)=true
 trees:backTo pu (starEach [e,f] X.env)=[(false,eval e X.env),(false,eval f X.env)]
section
variable {X:Cx}{zn:Ac}{σ:St}{H:Hp}{s:As}{a:Aw}{wl:A0}{A:Ar}{E:Ab}
def Zi2  (I:aD X zn σ H s) (e:Rd H a (.dK wl)) (h:∀p s',H p=none->aD X zn σ (aA H p (.dK wl)) s'->Q (.ref p) s'):A9 X.prog X.w A (call (.type "dict") [.ref a]) Q E s:=by
 obtain⟨z,C,vs,r,dd⟩:=kI I.aM e;refine kt_call_dict C dd (by rw[<-r.length];exact z) λh' dd' hs=>(h _ _ (I.aM.fresh (aN _)) (I.laid (λb q B=>((hs.2 b (cI (bH B))).trans (aW _ B))) (aN _) (LN z (Dv.mpr (eN (cI I.big))) r dd')))
end
end L2
namespace EnT
section
variable {ww:Aq}{w:Au}{A:Ar}{E:Ab}{s:As}
def rT{it l:Aw}{items:_}{x:Av}(q:s.heap.IsTupleIter it l i)(J:s.heap.IsTuple l items)(G:items[i]?=some x)
  (F:∀h',h'.IsTupleIter it l (i+1)->Heap.SameBut it s.heap h'->Q x {s with heap:=h'}):A9 ww w A (Builtin.SmallTypes.nextOf (.ref it)) Q E s:=by
 obtain⟨o,B,I,r⟩:=id q;obtain⟨O,C,_,L,D⟩:=J;refine ab (wpAny_callSpecial?_slot q.typeIs Hn (dQ Hn q.typeIs OF ?_ (PR _)));show wpAny _ _ (field _ 0 >>= _) _ _ s;refine ab (dP B r U (ab (dP B r U (ab (lH C D ?_)))));simp[G];refine ab (nN B r Vd (aJ ⟨x,U,aJ (F _ ⟨_,lG _ B (sL (iW r _)),(Dt ..).trans I,?_⟩ (lS ..))⟩));rw[iW r];simp[rawInt]
def pW{it l:Aw}{items:_}(hh:A.handled=none)(q:s.heap.IsTupleIter it l i)(I:s.heap.IsTuple l items)(F:items[i]?=none)
  (G:∀h' e,Heap.ExtBut it s.heap h'->(∃o,h'.get? e=some o/\o.cls=.type "StopIteration")->E (.ref e) {s with heap:=h'}):A9 ww w A (Builtin.SmallTypes.nextOf (.ref it)) Q E s:=by
 obtain⟨o,C,L,r⟩:=id q;obtain⟨O,D,_,J,B⟩:=I;refine ab (wpAny_callSpecial?_slot q.typeIs Hn (dQ Hn q.typeIs OF ?_ (PR _)));show wpAny _ _ (field _ 0 >>= _) _ _ s;refine ab (dP C r U (ab (dP C r U (ab (lH D B ?_)))));simp[F];refine ab (mN (ab (nN C r Vd (ab (ab (iI (ab (fK (by first|rfl|(rfl)) (iI (ab (DP ?_)) (by size_fits)))) (by size_fits)))))))
 first|rw[hh]|rw[hh]
 refine ab (aJ (DH (G _ _ (((lS ..).extBut.push _).push _) ⟨_,bX _ U,U⟩)))
end
end EnT
namespace ZpT
def ZU:Bool->Heap->Addr->Addr->Nat->Prop
 |true,h,it,l,k=>h.IsTupleIter it l k
 |false,h,it,l,k=>h.IsListIter it l k
def SeqAt:Bool->Heap->Addr->Array Av->Prop
 |true,h,l,xs=>h.IsTuple l xs
 |false,h,l,xs=>h.IsList l xs
def ZU.mv{b:Bool}{h':Heap}{it l:Aw}{k:Nat}(x:ZU b h it l k)(f:∀o,h.get? it=some o->h'.get? it=some o):ZU b h' it l k:=by
 cases b
 .exact Heap.IsListIter.at x f
 .exact Heap.IsTupleIter.at x f
def SeqAt.mv{b:Bool}{h':Heap}{l:Aw}{xs:Ah}(x:SeqAt b h l xs)(f:∀o,h.get? l=some o->h'.get? l=some o):SeqAt b h' l xs:=by
 cases b
 .obtain⟨o,q,r⟩:=(x);exact(⟨o,f o q,r⟩)
 .obtain⟨o,q,r⟩:=(x);exact(⟨o,f o q,r⟩)
def ZU.ob{b:Bool}{it l:Aw}{k:Nat}(x:ZU b h it l k):∃o,h.get? it=some o/\∀v,o.data≠.cell v:=by
 cases b
 .obtain⟨o,q,B,r⟩:=(x);exact⟨o,q,λv z=>Vc⟩
 .obtain⟨o,q,B,r⟩:=(x);exact⟨o,q,λv z=>Vc⟩
def rF (b:Bool) (l:Aw):Obj:={cls:=.type (if b then "tuple_iterator" else "list_iterator"),data:=.fields #[.ref l,.int 0 0]}
section
variable {ww:Aq}{w:Au}{A:Ar}{E:Ab}{s:As}
def J0{b:Bool}{it l:Aw}{k:Nat}{xs:Ah}{x:Av}(q:ZU b s.heap it l k)(C:SeqAt b s.heap l xs)(B:xs[k]?=some x)
  (r:∀h',ZU b h' it l (k+1)->Heap.SameBut it s.heap h'->Q x {s with heap:=h'}):A9 ww w A (Builtin.SmallTypes.nextOf (.ref it)) Q E s:=by
 cases b
 .exact wpAny_nextOf_list_item q C B r
 .exact EnT.rT q C B r
def yl{b:Bool}{it l:Aw}{k:Nat}{xs:Ah}(hh:A.handled=none)(q:ZU b s.heap it l k)(C:SeqAt b s.heap l xs)(r:xs[k]?=none)
  (B:∀h' e,Heap.ExtBut it s.heap h'->(∃o,h'.get? e=some o/\o.cls=.type "StopIteration")->E (.ref e) {s with heap:=h'}):A9 ww w A (Builtin.SmallTypes.nextOf (.ref it)) Q E s:=by
 cases b
 .exact wpAny_nextOf_list_end hh q C r B
 .exact EnT.pW hh q C r B
def Wt{b:Bool}{l:Aw}{xs:Ah}(q:SeqAt b s.heap l xs)(h:Q (.ref s.heap.objs.size) {s with heap:=s.heap.push (rF b l)}):A9 ww w A (pyIter (.ref l)) Q E s:=by
 cases b
 .exact Fi q h
 .exact wpAny_pyIter_tuple q h
def xW{b:Bool}{it l:Aw}(e:h.get? it=some (rF b l)):ZU b h it l 0:=by
 cases b
 .exact(⟨_,e,U,U⟩)
 .exact(⟨_,e,U,U⟩)
end
end ZpT
namespace L2
open ZpT (SeqAt ZU)
def dr(K:Af):Bool->Hp->Addr->List V->Prop
 |true,H,a,xs=>aL K H a xs
 |false,H,a,xs=>aB K H a xs
def dr.t{xs:A8}(h:H a=am xs):dr K true H a xs:=(aL.of h)
def dr.l{xs:A8}(h:H a=ap xs):dr K false H a xs:=(aB.of h)
def aD.rJ{X:Cx}{σ:L2.St}{xs:A8}{b:Bool}(I:aD X C σ H s)(h:dr X.K b H a xs):∃q:Ag,aH xs q/\SeqAt b s.heap a q.toArray/\xs.length<=sizeLine:=by
 cases b
 .obtain⟨q,r,p,B⟩:=I.list (h);revert p;refine ε2 λo n=>θ3 λe F _ D=>?_;exact⟨q,r,(⟨o,e,F,n,D⟩),B⟩
 .obtain⟨q,r,p,B⟩:=I.tuple (h);exact⟨q,r,(p),B⟩
def aD.iN{X:Cx}{σ:L2.St}{xs ys:A8}{b:Bool}(I:aD X C σ H s)(h:dr X.K b H a xs)(h':dr X.K b H a ys):xs=ys:=by
 cases b
 .exact I.j2 h h'
 .exact I.dM h h'
end L2
namespace EnT
open AutoSeq1 (wpAny_loadPart')
open ZpT (SeqAt ZU rF Wt J0 yl xW)
def NK (it:Aw):Obj:={cls:=.type "enumerate",data:=.fields #[.none,.bool false,.ref it,rawInt 0,.none,.none]}
set_option tactic.hygienic true in
theorem Jy(b:Bool)(l:Aw)(items:Ah):
  Meets (Builtin.«enumerate.__new__» ⟨[.type "enumerate",.ref l],[]⟩) (λ_ R s=>SeqAt b s.heap l items /\
   R (.ok (.ret (.ref (s.heap.push (rF b l)).objs.size))) {s with heap:=(s.heap.push (rF b l)).push (NK s.heap.objs.size)}):=
 .of_wp λww w A R s h=>by
  obtain⟨D,g,d,tk,os⟩:=s;obtain⟨C,h⟩:=h;have B:=sub_enumerate;have q:=C;obtain⟨o,r,G⟩:∃o,D.get? l=some o/\∀v,o.data≠.cell v:=by cases b<;>(obtain⟨o,e,_,_,F⟩:=C;exact⟨o,e,λv z=>Vc⟩)
  wp_walk using wpAny_loadPart' r
  refine wpAny_stack_any λst=>aJ ?_
  split
  .rename_i c _ _ _ _ _;cases(c == Value.type _)
   .wp_walk using wpAny_loadPart' r,Wt q
    exact⟨_,U,h⟩
   .wp_walk using wpAny_loadPart' r,Wt q
    exact⟨_,U,h⟩
  .wp_walk using wpAny_loadPart' r,Wt q
   exact⟨_,U,h⟩
section
variable {ww:Aq}{w:Au}{A:Ar}{E:Ab}{s:As}
def Zne{b:Bool}{e it l:Aw}{x:Av}
  (he:IsEnum s.heap e it i u) (hit:ZU b s.heap it l i) (hl:SeqAt b s.heap l O) (hx:O[i]?=some x) (T:e≠it)
  (hQ:∀h',IsEnumOut h' e it ((i:Int)+1) x s.heap.objs.size->ZU b h' it l (i+1)->
   h'.get? s.heap.objs.size=some {cls:=.type "tuple",data:=.seq #[.int i s.toks,x]}->h'.objs.size=s.heap.objs.size+1->
   (∀b o,b≠e->b≠it->s.heap.get? b=some o->h'.get? b=some o)->Q (.ref s.heap.objs.size) {s with heap:=h',toks:=s.toks+1}):
  A9 ww w A (Builtin.«enumerate.__next__» ⟨[.ref e],[]⟩) (λfin s'=>∃v,fin=.done (.ret v)/\Q v s') E s:=by
 obtain⟨hp,g,d,tk,os⟩:=s;show wpAny _ _ (field (.ref e) 2 >>= _) _ _ _;refine ab (dP he U U ?_);refine ab (J0 hit hl hx λh₁ Y J=>?_);have I:=(J.2 e T).trans he;refine ab (dP I U U ?_);refine ab (dP I U U ?_);refine ab (Cc ?_);refine ab (nC I Vd λh₂ he₂ G=>?_);refine ab (nC he₂ Vd λUa he₃ D=>?_);refine ab (E4 ?_);have r:IsEnum (Ua.push {cls:=.type "tuple",data:=.seq #[.int i tk,x]}) e it _ u:=aW _ he₃;generalize hh₄:Ua.push _=L at r;have hsz:Ua.objs.size=hp.objs.size:=by rw[D.1,G.1,J.1]
 have lA:=bH he;have ht₄:L.get? hp.objs.size=some {cls:=.type "tuple",data:=.seq #[.int i tk,x]}:=by rw[<-hh₄,<-hsz];exact bX _ U
 have hz₄:L.objs.size=hp.objs.size+1:=by rw[<-hh₄,i7,hsz]
 have hk₄:∀b o,b≠e->b≠it->hp.get? b=some o->L.get? b=some o:=λb o F hbi hb=>by
  rw[<-hh₄];exact aW _ (D.extBut b o F (G.extBut b o F (J.extBut b o hbi hb)))
 have Z:ZU b L it l (i+1):=by
  rw[<-hh₄];exact Y.mv λo z=>aW _ (D.extBut _ _ (eN T) (G.extBut _ _ (eN T) z))
 show wpAny _ _ _ _ _ _;rw[hsz];refine ab ?_
 .refine ab (dP r U U (aJ (ab (mN ?_))));refine ab (dP r U U (ab (nC r Vd λh₅ he₅ q=>?_)));refine ab ?_
  .refine ab (nC he₅ Vd λh₆ he₆ C=>(nC he₆ Vd λh₇ he₇ B=>?_));refine ab (tT (aJ ⟨_,U,hQ h₇ he₇ (Z.mv λo z=>B.extBut _ _ (eN T) (C.extBut _ _ (eN T) (q.extBut _ _ (eN T) z))) (B.extBut _ _ (rZ lA) (C.extBut _ _ (rZ lA) (q.extBut _ _ (rZ lA) ht₄))) ?_ (λb o F hbi hb=>B.extBut b o F (C.extBut b o F (q.extBut b o F (hk₄ b o F hbi hb))))⟩))
   .rw[B.1,C.1,q.1,hz₄]
def next_item{b:Bool}{e it l:Aw}{x:Av}{Q:Aa}
  (C:IsEnum s.heap e it i u) (q:ZU b s.heap it l i) (G:SeqAt b s.heap l O) (D:O[i]?=some x) (r:e≠it)
  (I:∀h',IsEnumOut h' e it ((i:Int)+1) x s.heap.objs.size->ZU b h' it l (i+1)->
   h'.get? s.heap.objs.size=some {cls:=.type "tuple",data:=.seq #[.int i s.toks,x]}->h'.objs.size=s.heap.objs.size+1->
   (∀b o,b≠e->b≠it->s.heap.get? b=some o->h'.get? b=some o)->Q (some (.ref s.heap.objs.size)) {s with heap:=h',toks:=s.toks+1}):
  A9 ww w A (pyNext (.ref e)) Q E s:=by
 have B:s.TypeIs (.ref e) _:=⟨_,C,U⟩;exact ab (nE (wpAny_callSpecial?_slot B Il (dQ Il B F.entry_enumerate_next
   (Zne C q G D r λh' a b c d k=>aJ (I h' a b c d k)) (F.args_enumerate_next_1 _))))
def next_end{b:Bool}{e it l:Aw}{Q:Aa}(hh:A.handled=none)
  (D:IsEnum s.heap e it i u) (q:ZU b s.heap it l i) (T:SeqAt b s.heap l O) (J:O[i]?=none)
  (G:∀h',Heap.ExtBut it s.heap h'->Q none {s with heap:=h'}):A9 ww w A (pyNext (.ref e)) Q E s:=by
 have C:s.TypeIs (.ref e) _:=⟨_,D,U⟩;refine ab (nE (wpAny_callSpecial?_slot C Il (dQ Il C F.entry_enumerate_next ?_ (F.args_enumerate_next_1 _))));show wpAny _ _ (field _ 2 >>= _) _ _ _;refine ab (dP D U U (ab (yl hh q T J λh' x r B=>?_)));obtain⟨o,I,L⟩:=B;refine ab (oH ⟨o,I,L⟩ C2 (aJ (G _ r)))
def fD{b:Bool}{l:Aw}(C:SeqAt b s.heap l O)
  (h:∀h',IsEnum h' (s.heap.objs.size+1) s.heap.objs.size 0 .none->ZU b h' s.heap.objs.size l 0->h'.objs.size=s.heap.objs.size+2->
   (∀b o,s.heap.get? b=some o->h'.get? b=some o)->Q (.ref (s.heap.objs.size+1)) {s with heap:=h'}):A9 ww w A (call (.type "enumerate") [.ref l]) Q E s:=by
 refine callType_new F.called_enumerate Va (F.typeCall_enumerate_1 _) (F.newCall_enumerate_1 _) (λq=>F.args_object_init_2 q _) F.entry_enumerate_new (Jy b l O) ⟨C,?_⟩;have B:(s.heap.push (rF b l)).objs.size=s.heap.objs.size+1:=i7 ..;rw[B];have r:=by
  have:=bX (s.heap.push (rF b l)) (o:=NK s.heap.objs.size) rfl;rw[B]at this;exact this
 refine⟨⟨_,r,U⟩,h _ r (xW (aW _ (bX _ U))) Vd λb o x=>aW _ (aW _ x)⟩
end
end EnT
namespace L2
open ZpT (SeqAt ZU)
def qN{X:Cx}{σ:St}{t':Nat}(I:aD X C σ H s)(F:∀b∈D,gz X C H b)(k:∀b o,b∉D->s.heap.get? b=some o->h.get? b=some o):aD X C σ H {s with heap:=h,toks:=t'}:=by
 have G:∀b u,H b=some u->b∉D:=λb u e z=>by rw[(F b z).1]at e;cases e
 refine I.step (λb J=>⟨(F b J).2.2.2.1,(F b J).2.1,(F b J).2.2.2.2.1,(F b J).2.2.2.2.2⟩) (λb o _ _ B e _=>k b o B e) (λb o _ _ B e _=>⟨o.slots,k b o B e⟩) (λ_ _ _ _ n=>n)
  (λb o B e=>⟨o,k b o B e⟩) (λ_ _ e=>e) (λ_ _ _ e=>e) (λb ps e=>⟨#[],Vc⟩) (λm O=>?_) (λb u e=>?_) I.bare
 .obtain⟨o,es,ep,L,r⟩:=O;exact ι3 o es ep ⟨k _ o (λz=>(F _ z).2.1 rfl) L,r⟩
 .refine(I.aM b u e).cW (λc v B q=>k c v ?_ q) (λ_ q=>q) λ_ _ q=>q
  rcases B with z|z
  .rw[z];exact G b u e
  .exact G c _ z
def Lp(K:Af)(b:Bool)(a:Aw)(n:Nat):It:=
 ⟨λi H=>∃xs x,dr K b H a xs/\xs.length=n/\xs[i]?=some x,λi H v H'=>∃p,H p=none/\v=.ref p/\∀xs x,dr K b H a xs->xs[i]?=some x->H'=aA H p (.tup [.int i,x]),λi H=>∃xs,dr K b H a xs/\xs.length=n/\n<=i⟩
def UT{es:An}{ps:Pos}(b:Bool)(a e it:Aw)(n:Nat)(O:e≠it):iM P w K (.Tuple es L ps) (Lp K b a n) [e,it] e (λi h=>(∃r,IsEnum h e it i r)/\ZU b h it a i)where
 mem:=Vd
 obj:=λi h st b B=>by
  obtain⟨⟨r,D⟩,q⟩:=st;rcases bJ.mp B with rfl|B
  .simp_all
  .have:b=it:=Vc
   subst this;exact q.ob
 keep:=λi h h' st k=>by
  obtain⟨⟨r,D⟩,q⟩:=st;exact⟨⟨r,k e Vd _ D⟩,q.mv λo x=>k it Vd o x⟩
 item:=by
  intro X hP hw Z hc i zn s σ H E I T st hg;subst hP hw Z;revert hg;refine ε2 λxs x=>θ2 λY hn hx=>?_;refine ω (I.rJ Y) (ε1 λits=>θ2 λrv p hz=>?_);obtain⟨u,hu,ru⟩:=rv.get hx;obtain⟨⟨r,D⟩,q⟩:=st;refine ω (T e Vd) (θ5 λf0 f1 f2 f3 f4 f5=>?_);refine ω (T it Vd) (θ5 λg0 g1 g2 g3 g4 g5=>?_);have hilt:it<s.heap.objs.size:=by obtain⟨_,z,_⟩:=q.ob;exact bH z
  refine EnT.next_item D q p (x:=u) Vc O λh' ho Ua hT hsz hk=>⟨_,U,wpAny_letOwnedTupleGo_enum ho λh2 he2 hs2=>?_⟩;have C:=hs2;have I1:aD X zn σ (aA H _ (.tup [.int i,x])) {s with heap:=s.heap.push _,toks:=s.toks+1}:=
   I.laid (λb o y=>aW _ y) (aN _) ⟨GF,[.int i s.toks,u],.cons ⟨_,U⟩ (.cons ru .nil),nM.new _ _⟩
  have J:∀b∈[e,it],gz X zn (aA H _ (.tup [.int i,x])) b:=λb B=>by
   have hlb:b≠s.heap.objs.size:=Vc
   obtain⟨a0,ar⟩:=T b B;exact⟨by rw[Zk hlb];exact a0,ar⟩
  have I2:aD X zn σ (aA H s.heap.objs.size (.tup [.int i,x])) {s with heap:=h2,toks:=s.toks+1}:=by
   refine qN (s:={s with heap:=s.heap.push _,toks:=s.toks+1}) I1 J λb o B y=>?_;have F:b≠e:=λz=>B (by simp[z]);rcases Heap.get?_push_cases y with⟨rfl,rfl⟩|y
   .exact(C.2 _ F).trans hT
   .exact(C.2 b F).trans (hk b o F (λz=>B (by simp[z])) y)
  refine ι2 (.ref _) _ ⟨I2,U,⟨_,I.aM.fresh (aN _),U,λys y hy G=>?_⟩,⟨⟨u,?_⟩,Ua.mv λo y=>(C.2 it O.symm).trans y⟩,λb B=>(J b B).1⟩
  .rw[I.iN hy Y,hx]at G;cases G;rfl
  .grind
 done:=by
  intro X hP hw Z hc i zn s σ H E I T st hg;subst hP hw Z;obtain⟨xs,Y,hn,hx⟩:=hg;obtain⟨its,rv,p,hz⟩:=I.rJ Y;obtain⟨⟨r,D⟩,q⟩:=st;refine ω (T it Vd) (θ5 λg0 g1 g2 g3 g4 g5=>?_);have hl:=rv.length;exact EnT.next_end (I.ok.hd hc) D q p (by simp;simp_all) λh' eb=>⟨U,I.turned (λb o B e=>eb b o B e) g0 g1 g3 g4 g5⟩
 self:=λ_ _ _ _ _ st h=>let⟨⟨_,D⟩,_⟩:=st;wpAny_pyIter_enum D h
def Lo(K:Af)(b:Bool)(te:TE):TI:=λσ H R=>te σ H λx H1=>∃a xs,x=.ref a/\dr K b H1 a xs/\R (Lp K b a xs.length) H1
def kK:bootBuiltins "enumerate" = some (.type "enumerate"):=Wm
def Ob {b:Bool} {X:Cx}      {pos:Pos} (Y:Gl X "enumerate") (L:X.mg "enumerate" = none) (Ua:QE X e d) (J:Yi e=true:=by rfl):QI X (.Tuple E i y) (.Call (.Name "enumerate" p) [e] [] pos) (Lo X.K b d):=by
 refine⟨λzn s σ H R I h=>?_⟩;have hs:starEach [e] X.env=[(false,eval e X.env)]:=by rw[Z0 J];rfl
 refine Call_ (GG I Y L kK (DA ?_ hs U));rw[hs];refine sM (aR (Ua.out zn s σ H _ I h) λu s1 ⟨x,H1,q,G,O⟩=>(Dp ?_));obtain⟨a,xs,rfl,Z,r⟩:=O;cases G;obtain⟨F,rv,pt,hz⟩:=q.rJ Z;refine EnT.fD pt λh' B C hsz T=>?_;refine wpAny_pyIter_enum B (ι5 _ _ _ _ H1 ⟨U,q.kept T,UT b a _ _ _ (Nat.succ_ne_self _),⟨⟨_,B⟩,C⟩,λb D=>?_,r⟩);rcases bJ.mp D with rfl|D
 .exact q.iU (pR _) (q.aM.fresh (pR _))
 .have:=by simpa using D
  subst this;exact q.iU (aN _) (q.aM.fresh (aN _))
def SD (B:Gl b "enumerate") (C:b.mg "enumerate" = none) (r:QE b e d) (q:Yi e=true:=by rfl):QI b (.Tuple E i y) (.Call (.Name "enumerate" p) [e] [] pos) (Lo b.K true d):=Ob B C r q
def RU (B:Gl b "enumerate") (C:b.mg "enumerate" = none) (r:QE b e d) (q:Yi e=true:=by rfl):QI b (.Tuple E i y) (.Call (.Name "enumerate" p) [e] [] pos) (Lo b.K false d):=Ob B C r q
theorem yU{y:Str}{p2 pos:Pos}{k:Nat}{q t2:TG}(r:b.calm=true)(h1:QG b (.Name x p) q)(h2:QG b (.Name y p2) t2):QG b (.Tuple [.Name x p,.Name y p2] k pos) (D3 b.K 2 (yP q (yP t2 E2))):=
 ⟨NI r (xS h1.out (xS h2.out Qf))⟩
theorem OC{b:Bool}{xs:A8}{j k:Nat}(q:Nat->St->Hp->Prop)(D:q 0 c H)(r:∀i c H,i<=xs.length->q i c H->dr K b H a xs)
  (hs:∀i x c H p,xs[i]?=some x->H p=none->q i c H->A {Ua with nx:=q (i+1),ct:=q (i+1),bk:=Ua.nx} ((c.set j (ad i)).set k (some x)) (aA H p (.tup [.int i,x]))) (B:∀c H,q xs.length c H->Ua.nx c H):
  tO (Lp K b a xs.length) (D3 K 2 (yP (Js j) (yP (Js k) E2))) A Ua c H:=
 yb _ q D (λi c H hi p=>⟨⟨xs,xs[i],r i c H (bL hi) p,U,aQ hi⟩,λv H' y=>by
  obtain⟨t,C,rfl,y⟩:=y;have e:=y xs _ (r i c H (bL hi) p) (aQ hi);subst e;exact⟨t,_,U,aL.of Zb,U,_,_,U,_,_,U,U,hs i _ c H t (aQ hi) C p⟩⟩) λc H p=>⟨⟨xs,r _ c H (aN _) p,U,aN _⟩,B c H p⟩
end L2
namespace L2
def qO{i:Ax}(r:X.A.units+1<cLine)(q:QE X o d)(hi:QE X i J)(hs:HI i):QE X (.Subscript o i p) (Q9 d J):=⟨UZ r q.out hi.out hs⟩
theorem G2:QE X (.Dict [] [] p) AR:=⟨λzn s σ H Q I h=>
 wpAny_Dict_empty ⟨.ref _,_,I.laid (λ_ _ q=>aW _ q) (aN _) (yT s.heap I.big),U,h _ (I.aM.fresh (aN _))⟩⟩
theorem J1{i:Ax}{tv:TE}{pos':Pos}(q:X.A.units+1<cLine)(Y:QE X o d)(hi:QE X i J)(hv:QE X e tv)(hs:swapsWith e (some (.Subscript o i pos')) p.line X.env=pure false):
  QS X (.Assign [.Subscript o i pos'] e p) (Eh d J tv):=⟨by
 intro zn s σ H D I h;refine L5 (aR (hv.out zn s σ H _ I h) λr O ⟨v,H1,B,C,T⟩=>aR (Y.out zn O σ H1 _ B T) λu s2 ⟨x,H2,G,Ua,Z⟩=>aR (hi.out zn s2 σ H2 _ G Z) λiv s3 ⟨y,H3,L,ry,a,F,ex,g,q3⟩=>?_) hs;subst ex;obtain rfl:u=Value.ref a:=Ua;exact V2 q L g ry C λs4 I4=>⟨σ,F,I4,q3⟩⟩
inductive NY(neg:Bool)(y:V)(x:V)(H:Hp)(Q:VK):Prop
 |mk (a o:_):(x=.ref a)->(mX H a y o)->(Q (.bl (if neg then !o.isSome else o.isSome)) H)->NY neg y x H Q
def DX(neg:Bool):R2:=λy x H Q=>NY neg y x H Q
def ym(r:X.A.units+1<cLine):bZ X (compareOp .In) (DX false):=by
 rintro zn s σ H x y v u Q I B C ⟨a,o,rfl,g,q⟩;cases C;exact LK r I g B λs' D=>⟨.bl _,H,D,U,q⟩
def WK(r:X.A.units+1<cLine):bZ X (compareOp .NotIn) (DX true):=by
 rintro zn s σ H x y v u Q I B C ⟨a,o,rfl,g,q⟩;cases C;exact Znc r I g B λs' D=>⟨.bl _,H,D,U,q⟩
def Zco:YX X (.type "dict") (λxs H Q=>∃a wl,xs=[V.ref a]/\Rd H a (.dK wl)/\∀p,H p=none->Q (.ref p) (aA H p (.dK wl))):=by
 rintro zn s σ H xs F Q I r ⟨a,wl,rfl,e,q⟩;obtain⟨u,rfl,B⟩:=bS r;cases B;exact Zi2 I e λp s' C D=>⟨.ref p,_,D,U,q p C⟩
theorem xX[DecidableEq κ]:∀{wl:List (κ×V)},(wl.map (·.1)).Nodup->∀p∈wl,Ym wl p.1=some p.2
 |[],_,_,h=>nomatch h
 |q::r,B,p,h=>by
  rw[fW,fZ]at B;rcases bJ.mp h with rfl|h
  .exact Yo U
  .rw[ZZ λz=>B.1 Vc];exact xX B.2 p h
def Q7{x:V}(h:XM x=true):iR x x=true:=by
 cases x<;>first
  |exact nY _
  |rfl
  |cases h
def N3{v:Av}(h:(Yt P w).is k v=true):aI (kV k) v:=by
 rw[Vw]at h;cases k with
 |inl i=>
  cases v<;>first
   |(have e:=h;unfold zk Value.isInt at e;simp at e;exact⟨_,by rw[e]⟩)
   |(unfold zk Value.isInt at h;simp at h)
 |inr x=>
  cases v<;>first
   |(have e:=h;unfold zk Value.isStrOf at e;simp at e;exact⟨_,by rw[e]⟩)
   |(unfold zk Value.isStrOf at h;simp at h)
inductive lY(P:Params):List DictEntry->List (Str×Int)->Prop
 |nil:lY P [] []
 |cons {k:Str} {v:Int} {t u:Tok} {es:List DictEntry} {l:List (Str×Int)}:lY P es l->lY P ({hash:=PyData.keyHash P k,key:=.str k t,val:=.int v u}::es) ((k,v)::l)
structure KD(K:Af)(w:Au)(a:Aw)(l:List (Str×Int)):Prop where
 ex:∃es ep,K.lookup a=some {cls:=.type "dict",dict:=none,data:=.dict es ep,slots:=#[]}/\lY w.params es.toList l
 nd:(l.map (·.1)).Nodup
 ns:(a == sysModules)=false
def bK(l:List (Str×Int)):A0:=l.map λp=>((Sum.inr p.1:aX),V.int p.2)
theorem lY.pairs(h:lY w.params es l):(∃vs,KV (bK l) vs/\Pairs (Yt P w) es vs)/\∀e∈es,∃k,(Yt P w).is k e.key=true/\e.hash=(Yt P w).hash k:=by
 induction h with
 |nil=>exact⟨⟨[],.nil,.nil⟩,λ_ h=>nomatch h⟩
 | @cons k v t u es l _ C=>
  obtain⟨⟨vs,r,p⟩,q⟩:=C;refine⟨⟨(.inr k,.int v u)::vs,.cons ⟨U,⟨u,U⟩⟩ r,.cons (Gz P w k t) U p⟩,λe B=>?_⟩;rcases bJ.mp B with rfl|B
  .exact⟨.inr k,Gz P w k t,U⟩
  .exact q e B
section
variable {X:Cx}{zn:Ac}{σ:St}{H:Hp}{s:As}{a:Aw}{l:List (Str×Int)}{k:aX}{u:Av}{A:Ar}{E:Ab}
def KD.of(I:aD X zn σ H s)(d:KD X.K X.w a l):∃vs,KV (bK l) vs/\s.heap.DictOf (Yt X.prog X.w) a vs:=by
 obtain⟨es,ep,B,t⟩:=d.ex;obtain⟨⟨vs,r,p⟩,q⟩:=t.pairs;refine⟨vs,r,_,es,ep,I.fT a _ B,⟨U,U,U⟩,U,λe C=>q e Vc,p,?_⟩;rw[<-r.keys];unfold bK;rw[bI];have:=d.nd;rw[List.nodup_iff_pairwise_ne]at *;rw[Eg]at *;exact this.imp λh z=>h (Sum.inr.inj z)
def EL(I:aD X zn σ H s)(d:KD X.K X.w a l)(r:aI (kV k) u)(h:∀s',aD X zn σ H s'->Q (.bool (Ym (bK l) k).isSome) s'):A9 X.prog X.w A (compareOp .In u (.ref a)) Q E s:=by
 obtain⟨vs,q,dd⟩:=d.of I;refine wpAny_in_of (kF r) d.ns dd.mapOf ?_;rw[<-(q.val k).bY];exact h _ (I.tok _)
def TU{z:V}{r:Av}(I:aD X zn σ H s)(d:KD X.K X.w a l)(D:aI (kV k) u)(C:aI z r)(h:∀B s',aD X zn σ H s'->aI ((Ym (bK l) k).getD z) B->Q B s'):
  A9 X.prog X.w A (call (.builtin "dict.get") [.ref a,u,r]) Q E s:=by
 obtain⟨vs,q,dd⟩:=d.of I;exact call_meetsIn PySem.F.slot_dict_get dd.typeIs PySem.F.entry_dict_get (PySem.F.args_dict_get_3 _ _ _) (meets_dict_get_default _ a (kF D) d.ns r) ⟨_,dd.mapOf,h _ _ (I.tok _) ((q.val k).getD C)⟩
end
def Ma(K:Af)(w:Au):R2:=λy x H Q=>∃a l k,x=.ref a/\KD K w a l/\y=kV k/\Q (.bl (Ym (bK l) k).isSome) H
def gJ:bZ X (compareOp .In) (Ma X.K X.w):=by
 refine λzn s σ H x y v u Q I r B=>ε3 λa l k=>θ3 λzq0 d zq1 q=>?_;subst zq0;subst zq1;cases B;exact EL I d r λs' C=>⟨.bl _,H,C,U,q⟩
def ER(K:Af)(w:Au)(td ty tx:TE):TE:=λσ H Q=>td σ H λx H1=>∃a l,x=.ref a/\KD K w a l/\ty σ H1 λy H2=>tx σ H2 λz q=>∃k,y=kV k/\Q ((Ym (bK l) k).getD z) q
def Es{f:Ax}{m:Str}(B:Yi e=true)(q:Yi f=true)(C:attributeBase o m X.env (eval o X.env)=eval o X.env)(r:(p.endLine == y.line)=true):M2 X o m p e f y where
 base:=C
 Ij:=by
  rw[cH (by simp_all)];rfl
 line:=r
 trees:=by
  rw[Z0 B,Z0 q];rfl
def gK {f:Ax} {pu:Pos} {ty tx:TE} (ho:QE X o J) (he:QE X e ty) (Y:QE X f tx) (h1:Yi e=true:=by rfl) (h2:Yi f=true:=by rfl) (Z:attributeBase o "get" X.env (eval o X.env)=eval o X.env:=by rfl) (hl:(p.endLine == pu.line)=true:=by rfl):
  QE X (.Call (.Attribute o "get" p) [e,f] [] pu) (ER X.K X.w J ty tx):=by
 have m:=Es h1 h2 Z hl;refine⟨λzn s σ H Q I h=>(wpAny_Call_method m.base m.Ij m.line PySem.F.plainAttrs_dict PySem.F.slot_dict_get PySem.F.type_dict_get (aR (ho.out zn s σ H _ I h) λu T ⟨x,H1,B,rx,a,l,ex,d,q1⟩=>?_))⟩;subst ex;obtain rfl:u=Value.ref a:=rx;obtain⟨vs,rel,dd⟩:=d.of B;refine⟨dd.typeIs,λb q=>?_,?_⟩
 .cases q;revert dd;refine ε3 λob _ _=>θ2 λL g2 _=>?_;exact⟨ob,L,g2.2.1⟩
 rw[m.trees];refine Fx U (HW (sM (aR (he.out zn T σ H1 _ B q1) λiv s2 ⟨y,H2,G,ry,q2⟩=>sM (aR (Y.out zn s2 σ H2 _ G q2) λfv s3 ⟨z,D,Ua,C,k,O,q3⟩=>Dp ?_))));subst O;exact TU Ua d ry C λw' s4 I4 r=>⟨_,D,I4,r,q3⟩
def Te{Q:VK}(f:Nat->V)(I:x.cps.size<=sizeLine)
  (F:∀c∈x.cps.toList,∀R:VK,R (f c) H->d (j9 is σ (some (.str ⟨#[c]⟩))) H R)
  (D:∀l,H l=none->Q (.ref l) (aA H l (.lst (x.cps.toList.map f)))):qM is AG d σ Q (KS x) H:=by
 refine⟨λi m zs H'=>m=x.cps.size-i/\i<=x.cps.size/\zs=(x.cps.toList.take i).map f/\H'=H,⟨x.cps.size,Vd,cM _,U,U⟩,?_⟩;rintro i m zs H' ⟨rfl,hi,rfl,rfl⟩;have C:((x.cps.toList.take i).map f).length<=sizeLine:=by
  grind
 by_cases q:i<x.cps.size
 .refine .inr ⟨q,C,λv H2 y=>?_⟩;obtain⟨e,c,G,rfl⟩:=y;subst e;have r:x.cps.toList[i]?=some c:=Vc
  refine F c (cY r) _ ⟨_,Vc,U,q,?_,U⟩;rw[aE r,b0];rfl
 .have e:i=x.cps.size:=Vb
  refine .inl ⟨e,C,λl B=>?_⟩;rw[rD (by simp_all)];exact D l B
def gL:A8->List V->Bool
 |[],[]=>true
 |x::xs,y::ys=>iR x y&&gL xs ys
 |_,_=>false
def FG(xs ys:A8)(j:Nat):Bool:=match xs[j]?,ys[j]? with
 |some a,some b=>iR a b
 |_,_=>true
theorem qP:∀xs ys:A8,((List.range (min xs.length ys.length)).all (FG xs ys)&&xs.length == ys.length)=gL xs ys
 |[],[]=>rfl
 |[],y::ys=>by simp[gL]
 |x::xs,[]=>by simp[gL]
 |x::xs,y::ys=>by
  have e1:min (x::xs).length (y::ys).length=min xs.length ys.length+1:=Vd
  have e2:((x::xs).length == (y::ys).length)=(xs.length == ys.length):=Vd
  rw[e1,e2,List.range_succ_eq_map,nK,List.all_map,Bool.and_assoc];show(iR x y&&((List.range _).all (FG xs ys)&&xs.length == ys.length))=(iR x y&&gL xs ys);rw[qP xs ys]
def kL{A:Ar}{xs ys:A8}{q:Ag}(r:aH xs G)(I:aH ys q)(f:xs.all XM=true)(L:ys.all XM=true):∀j (h1:j<G.toArray.size) (h2:j<q.toArray.size),SeqAt.EqAt A s G.toArray[j] q.toArray[j] (FG xs ys j):=λj h1 h2=>by
 have Ua:=r.length;have l2:=I.length;have D:j<xs.length:=(by simp_all)
 have B:j<ys.length:=(by simp_all)
 obtain⟨u,e1,O⟩:=r.get (aQ D);obtain⟨J,e2,T⟩:=I.get (aQ B);have C:G.toArray[j]=u:=by
  grind
 have F:q.toArray[j]=J:=by
  grind
 have e3:FG xs ys j=iR xs[j] ys[j]:=by
  unfold FG;rw[aQ D,aQ B]
 rw[C,F,e3];exact uZ O T (mK.mp f _ (dZ D)) (mK.mp L _ (dZ B))
inductive OX(K:Af)(neg:Bool)(x:V)(y:V)(H:Hp)(Q:VK):Prop
 |mk (a c xs ys:_):(x=.ref a)->(y=.ref c)->(aB K H a xs)->(aB K H c ys)->(xs.all XM=true)->(ys.all XM=true)->(Q (.bl (if neg then !gL xs ys else gL xs ys)) H)->OX K neg x y H Q
def Ff(K:Af)(neg:Bool):R2:=λx y H Q=>OX K neg x y H Q
def Se(G:X.A.units<cLine):bZ X (compareOp .Eq) (Ff X.K false):=by
 rintro zn s σ H x y v u Q I J L ⟨a,c,xs,ys,rfl,rfl,T,O,f,Ua,q⟩;cases J;cases L;obtain⟨C,r,p,_⟩:=I.list T;obtain⟨B,F,p2,_⟩:=I.list O;have e:=qP xs ys
 by_cases D:xs.length=ys.length
 .have hs:C.toArray.size=B.toArray.size:=by rw[eB,eB,<-r.length,<-F.length];exact D
  refine SeqAt.eq_listAt p.isList p2.isList hs G (kL r F f Ua) (ZQ I q ?_);show gL xs ys=_;rw[D,Dx,nY,Kf]at e;rw[eB,<-r.length,D,e]
 .have hs:(C.toArray.size != B.toArray.size)=true:=by
   rw[eB,eB,<-r.length,<-F.length];simpa using D
  refine SeqAt.eq_list_lengthsAt p.isList p2.isList hs G (ZQ I q ?_);show gL xs ys=false;rw[<-e,Dv.mpr D,EW]
def z7(G:X.A.units<cLine):bZ X (compareOp .NotEq) (Ff X.K true):=by
 rintro zn s σ H x y v u Q I J L ⟨a,c,xs,ys,rfl,rfl,T,O,f,Ua,q⟩;cases J;cases L;obtain⟨C,r,p,_⟩:=I.list T;obtain⟨B,F,p2,_⟩:=I.list O;have e:=qP xs ys
 by_cases D:xs.length=ys.length
 .have hs:C.toArray.size=B.toArray.size:=by rw[eB,eB,<-r.length,<-F.length];exact D
  refine SeqAt.RcNeAt.lists p.isList p2.isList hs G (kL r F f Ua) X.prog X.w _ _ (ZQ I q ?_);show(!gL xs ys)=_;rw[D,Dx,nY,Kf]at e;rw[eB,<-r.length,D,e]
 .have hs:(C.toArray.size != B.toArray.size)=true:=by
   rw[eB,eB,<-r.length,<-F.length];simpa using D
  refine SeqAt.RcNeAt.lists_lengths p.isList p2.isList hs G X.prog X.w _ _ (ZQ I q ?_);rw[<-e,Dv.mpr D,EW];rfl
def WL(t:SetTable)(n:Nat):(t.standIn n).led=t.led/\(t.plain=false->(t.standIn n).plain=false):=⟨U,λ_=>U⟩
def yV(t:SetTable)(n:Nat):(t.orStandIn n).led=t.led/\(t.plain=false->(t.orStandIn n).plain=false):=by
 unfold SetTable.orStandIn;split
 .exact⟨U,id⟩
 .exact WL _ _
def Zcp(t:SetTable)(es:Array (Int×Av))(h:Int)(x:Av):(layNew t es h x).2.1.led=t.led/\(t.plain=false->(layNew t es h x).2.1.plain=false):=by
 unfold layNew;split
 .exact yV _ _
 .exact WL _ _
set_option tactic.hygienic true in
theorem kM(t:SetTable)(es:Array (Int×Av))(n:Nat):(relayAll t es n).2.1.led=t.led/\(t.plain=false->(relayAll t es n).2.1.plain=false):=by
 unfold relayAll;split
 .rename_i t' r q;have B:t'.led=t.led/\(t.plain=false->t'.plain=false):=by
   unfold SetTable.relaid SetTable.laid at q;cases hc:SetTable.layClean _ _ with
   |none=>rw[hc]at q;exact nomatch q
   |some C=>
    rw[hc]at q;obtain⟨rfl,_⟩:=q;exact⟨U,id⟩
  dsimp only;split
  .exact B
  .exact WL _ _
 .exact WL _ _
def tx:Av->Str
 |.str x _=>x
 |_=>⟨#[]⟩
def z8(ww:Aq)(w:Au)(h:Heap)(a:Aw)(led:Bool)(S:Ai):Prop:=
 ∃o es ep t,h.get? a=some o/\o.ExactSet/\o.data=.set es ep t/\ElemsOf (strKind ww w) es.toList/\(es.toList.map λe=>tx e.2).Perm S/\t.fits es.size=true/\t.led=led/\(es.size=0\/t.plain=false)
section
variable {ww:Aq}{w:Au}{A:Ar}{E:Ab}{s:As}
def Py{e:Av}{k:Str}(h:(strKind ww w).is k e=true):tx e=k:=by
 obtain⟨t,rfl⟩:=Lr h;rfl
def NB{l:List (Int×Av)}(h:ElemsOf (strKind ww w) l){e:Int×Av}(r:e∈l):(strKind ww w).is (tx e.2) e.2=true/\∃t,e.2=.str (tx e.2) t:=by
 obtain⟨⟨k,q,_⟩,_⟩:=h e r;rw[Py q];exact⟨q,Lr q⟩
def ins(S:Ai)(x:Str):Ai:=if x∈S then S else S++[x]
def Sw{l:List (Int×Av)}(h:ElemsOf (strKind ww w) l):
  (l.findIdx? (λe=>(strKind ww w).is x e.2)).isSome=true↔x∈l.map (λe=>tx e.2):=by
 rw[List.findIdx?_isSome,lC,bB];constructor
 .rintro⟨e,q,r⟩;exact⟨e,q,Py r⟩
 .rintro⟨e,q,r⟩;exact⟨e,q,r ▸ (NB h q).1⟩
def z9{o:Obj}{es:Array (Int×Av)}{t:SetTable}(G:h.get? a=some o)(B:o.ExactSet)(C:o.data=.set es i t)
  {q:Array (Int×Av)} {t':SetTable} {S:Ai} {led:Bool} (lA:ElemsOf (strKind ww w) q.toList) (J:(q.toList.map λe=>tx e.2).Perm S) (F:t'.fits q.size=true) (I:t'.led=led) (r:q.size=0\/t'.plain=false):
  (h.update a (Obj.putSet q t')).get? a=some {o with data:=.set q (i+1) t'}/\z8 ww w (h.update a (Obj.putSet q t')) a led S:=by
 have D:=by
  have:=lG (Obj.putSet q t') G (by rw[putSet_of q t' C];rfl);rw[putSet_of q t' C]at this;exact this
 exact⟨D,_,q,i+1,t',D,B,U,lA,J,F,I,r⟩
theorem Zfa{S:Ai}{tk:Tok}{Q:Bool->Shared->Prop}(hS:z8 ww w s.heap a led S)(hroom:S.length+1<scanBound)
  (h:∀h' b,Heap.SameBut a s.heap h'->z8 ww w h' a led (ins S x)->Q b {s with heap:=h'}):
  A9 ww w A (setAddHashed a (.str x tk) ((strKind ww w).hash x)) Q E s:=by
 revert hS;refine ε4 λo es ep t=>θ7 λho Ua hd lA hp hf hl hpl=>?_;have hn:es.size=S.length:=by rw[<-hp.length_eq,aF,lE]
 have O:(strKind ww w).is x (.str x tk)=true:=by show Value.isStrOf x (.str x tk)=true;simp[Value.isStrOf]
 refine fV (ab (C8 ho hd hf ?_));dsimp only;rw[byScan_of U Vb lA];refine ab ?_;refine ab (mN (ab (wpAny_setScan_of O ho hd hf lA ?_)));have Y:=Sw lA (x:=x);cases hr:List.findIdx? _ _ with
 |some j=>
  rw[hr]at Y;have hx:=hp.mem_iff.mp (Y.mp U);refine aJ (aJ ?_);have:=h s.heap false (Heap.SameBut.refl a s.heap) (by rw[ins,aK hx];exact ι4 o es ep t ⟨ho,Ua,hd,lA,hp,hf,hl,hpl⟩);exact this
 |none=>
  rw[hr]at Y;have hx:x∉S:=λhm=>Vc
  have G:=Zcp t es ((strKind ww w).hash x) (.str x tk);have C:=layNew_perm t es ((strKind ww w).hash x) (.str x tk);have F:=layNew_fits t es ((strKind ww w).hash x) (.str x tk);generalize hL:layNew t es _ _=L at G C F ⊢;obtain⟨q,t1,wd,gave⟩:=L;rw[Kp]at C;have I:=(lA.push O U).perm C;have Z:(q.toList.map λe=>tx e.2).Perm (ins S x):=by
   rw[ins,aG hx];refine(C.map _).trans ?_;rw[b0];exact hp.append_right _
  have Co:q.size=S.length+1:=by
   have:=Z.length_eq;rw[ins,aG hx,aF,bA]at this;exact this
  have hg:∀(b:Bool) {B:As} {T:Unit->Shared->Prop},T () B->A9 ww w A (match b with|true=>rule "set.scan.the-table-gave-way" |false=>pure ()) T E B:=
   λb B T D=>by cases b<;>first|exact aJ D|exact mN D
  refine ab (hg _ ?_);have key:∀(g:Bool->Sem Unit),(∀(b:Bool)(B:As)(T:Unit->Shared->Prop),T () B->A9 ww w A (g b) T E B)->∀t2,t2.fits q.size=true->t2.led=led->t2.plain=false->
    A9 ww w A (do
     storeSet a q t2
     if(!wd&&t2.tooFull)=true then do
       g (relayAll t2 q (SetTable.grown q.size)).2.2
       storeSet a (relayAll t2 q (SetTable.grown q.size)).1 (relayAll t2 q (SetTable.grown q.size)).2.1
       pure (some true)
      else pure (some true)) (λr s'=>r=some true/\∀b,Q b s') E s:=by
   intro g hg t2 hf2 hl2 hp2;refine ab (wpAny_storeSet_of ho hd ?_ (LA Vb));obtain⟨ho1,hS1⟩:=z9 ho Ua hd I Z hf2 hl2 (.inr hp2);have J:=lS s.heap a (Obj.putSet q t2);split
   .have D:=relayAll_perm t2 q (SetTable.grown q.size);have hfr:=relayAll_fits t2 q (SetTable.grown q.size);have hlr:=kM t2 q (SetTable.grown q.size);generalize relayAll t2 q _=Rl at D hfr hlr ⊢;obtain⟨es2,t3,g2⟩:=Rl;have sZ:es2.size=q.size:=by rw[<-lE,D.length_eq,lE]
    refine ab (hg _ _ _ (ab (wpAny_storeSet_of ho1 U ?_ (LA (by simp_all)))));obtain⟨_,hS2⟩:=z9 ho1 Ua U (I.perm D) ((D.map _).trans Z) hfr (hlr.1.trans hl2) (.inr (hlr.2 hp2));exact aJ ⟨U,λb=>h _ b (J.trans (lS _ a _)) hS2⟩
   .exact aJ ⟨U,λb=>h _ b J hS1⟩
  split
  .rename_i hpt;refine ab ?_;rw[hashByValue_scannable 8 rfl];refine aJ ?_;rw[show plainKind _=false from U];refine j1 (key _ ?_ _ (SetTable.fits_plain_off F) (G.1.trans hl) U) ?_ (λ_ _ e=>e)
   .intro b B T D;cases b<;>first|exact aJ D|exact mN D
   .rintro r s' ⟨rfl,D⟩;exact aJ (D _)
  .rename_i hpt;refine ab (aJ (j1 (key _ ?_ t1 F (G.1.trans hl) (by simpa using hpt)) ?_ (λ_ _ e=>e)))
   .intro b B T D;cases b<;>first|exact aJ D|exact mN D
   .rintro r s' ⟨rfl,D⟩;exact aJ (D _)
end
def Jo(ys:Ai):Ai:=ys.foldl ins []
def yn(ys:Ai)(y:Str):Jo (ys++[y])=ins (Jo ys) y:=by simp[Jo]
def Znj(S:Ai)(x:Str):(ins S x).length<=S.length+1:=by unfold ins;split<;>simp
theorem Wg(ys:Ai):∀i,(Jo (ys.take i)).length<=i
 |0=>by simp[Jo]
 |i+1=>by
  by_cases h:i<ys.length
  .rw[Kv,aQ h,Option.toList_some,yn];have:=Wg ys i;have:=Znj (Jo (ys.take i)) ys[i];lia
  .rw[rD Vb];have:=Wg ys i;rw[rD Vb]at this;lia
def qQ{led:Bool}{S:Ai}(B:z8 ww w h a led S)(q:∀o,h.get? a=some o->h'.get? a=some o):z8 ww w h' a led S:=by
 revert B;refine ε4 λo es ep t=>θ1 λr pi=>?_;exact ι4 o es ep t ⟨q o r,pi⟩
section
variable {ww:Aq}{w:Au}{A:Ar}{R:Result->Shared->Prop}{I:Aw}{fp wr:List Aw}{G:Array GenState->Array GenState->Prop}{n:Nat}{P:Nat->Value->Prop}{St:Nat->Shared->Prop}
theorem UH(W:WalksS ww w A.in1 I fp wr G n P St)(S:Aw)(O:S∉fp){led:Bool}{ys:Ai}(hn:ys.length=n)
  (hval:∀i v,P i v->∃y t,ys[i]?=some y/\v=.str y t) (Y:n+1<scanBound):
  ∀(k i:Nat)(s:As),n-i=k->i<=n->St i s->z8 ww w s.heap S led (Jo (ys.take i))->
   (∀s',Moved (S::wr) G s s'->z8 ww w s'.heap S led (Jo ys)->R (.ok (.ret .none)) s')->
   codeAny (model ww w) A (.builtin "set.update.loop" ⟨[.ref S,.ref I],[]⟩) R s:=by
 have Z:S∉wr:=λh=>O (W.sub _ h);have q:∀b∈wr,b∈S::wr:=λb Y=>b8 _ Y;intro k
 induction k with
 |zero=>
  intro i s hk hi aV hS hR;have B:i=n:=Vc
  rw[B,<-hn,dR]at hS;subst B;refine rH F.entry_set_update_loop ?_;refine ab (W.done s _ _ aV λs' T=>?_);exact aJ (hR s' (T.mono q) (qQ hS λo ho=>T.heap S _ Z ho))
 |succ k ih=>
  intro i s hk hi aV hS hR;have D:i<n:=Vc
  refine rH F.entry_set_update_loop ?_;refine ab (W.item i s _ _ D aV λv s' hP r T=>?_);obtain⟨y,t,hy,rfl⟩:=hval i v hP;refine ab (fV ?_);refine fV ?_;refine ab ((PySem.strKind ww w).pyHash (k:=y) (by show Value.isStrOf y (.str y t)=true;simp[Value.isStrOf]) ?_);refine Zfa (qQ hS λo ho=>T.heap S _ Z ho) (by have:=Wg ys i;lia) λh' b L J=>?_;rw[<-yn,show ys.take i++[y]=ys.take (i+1) by rw[Kv,hy,Option.toList_some]]at J;refine aJ ⟨sX F.plain_set_update_loop _,ih (i+1) _ Vc D (W.frame _ s' _ _ r (pR _) λb Y o e=>?_) J λs'' C Ua=>?_⟩
  .rw[L.2 b (λh:b=S=>O Vc)];exact e
  .refine hR s'' (Moved.trans W.gtrans ((T.mono q).then_heap (pR _) λb o Y e=>?_) C) Ua;rw[L.2 b (λh:b=S=>Y Vc)];exact e
end
section
variable {ww:Aq}{w:Au}{A:Ar}{E:Ab}{s:As}
def g8 (w:Au):Bool:=w.params.followText "set-order"
def Y9 (w:Au):Obj:={cls:=.type "set",dict:=none,data:=.set #[] 0 (.fresh 0 0 (!g8 w))}
def gM(a:Av){Q₁:Ab}(h:Q₁ (.ref s.heap.objs.size) {s with heap:=s.heap.push (Y9 w)}):
  codeAny (model ww w) A (.call (.builtin "set.__new__") ⟨[.type "set",a],[]⟩) (wants Q₁ E) s:=by
 refine codeAny_of_tree ?_;show wpAny _ A.in1 _ _ _ s;refine ab (fK (F.newCall_set_1 a) (aJ ⟨sX F.plain_set_new _,rH F.entry_set_new ?_⟩));rw[LW F.plain_set_new _];unfold Builtin.«set.__new__» Builtin.Frozenset.newClass;have q:=sub_set_self;obtain⟨r,g,d,tk,os⟩:=s;dsimp only
 wp_walk
 refine Lx (aJ ?_);dsimp only;simp[newObj];refine ab (wpAny_alloc (aJ (aJ h)))
theorem jC{l:Aw}{ys:Ai}
  (hh:A.handled=none) (hl:s.heap.IsList l O) (hi:StrsAre O.toList ys) (hb:O.size+1<scanBound)
  (h:∀(h':Heap)(tk:Nat),s.toks<=tk->z8 ww w h' s.heap.objs.size (!g8 w) (Jo ys)->
   (∀b o,b<s.heap.objs.size->s.heap.get? b=some o->h'.get? b=some o)->Q (.ref s.heap.objs.size) {s with heap:=h',toks:=tk}):
  wpAny (model ww w) A (call (.type "set") [.ref l]) Q E s:=by
 obtain⟨c,tl,hmro⟩:=tV.mro;have hmade:=tV.made;have hsub:=tV.sub;refine wpAny_call (codeAny_of_tree ?_);show wpAny _ _ (callAny (.type "set") _) _ _ _;refine aJ ⟨Code.quiet_builtin _ Wm,rH F.entry_type_call ?_⟩;rw[Around.under_plain (weight_type_call_type "set" [.ref l] []) U];have h1:=tV.notType;have h2:=tV.canCreate;have hct:=F.typeCall_set_1 (.ref l)
 repeat (any_goals (first|assumption|wp_step))
 refine BJ (gM (.ref l) (E:=E) (Q₁:=λUa C=>Ua=.ref s.heap.objs.size/\C={s with heap:=s.heap.push (Y9 w)}) ⟨U,U⟩) λr C hr=>?_;cases r with
 |error e=>exact hr
 |ok fl=>
  cases fl with
  |ret Ua=>
   obtain⟨rfl,rfl⟩:=hr;have hS:(s.heap.push (Y9 w)).get? s.heap.objs.size=some (Y9 w):=bX _ rfl;have hT:Shared.TypeIs {s with heap:=s.heap.push (Y9 w)} (.ref s.heap.objs.size) "set" :=⟨_,hS,U⟩;have hli:=tV.init.lookup;have hbi:=tV.init.bind (.ref s.heap.objs.size)
   repeat (any_goals (first|assumption|wp_step))
   refine BJ (codeAny_call_builtin (R:=wants (λr s₂=>r=.none/\∃h' tk,s.toks<=tk/\s₂={s with heap:=h',toks:=tk} /\
     z8 ww w h' s.heap.objs.size (!g8 w) (Jo ys) /\
     (∀b o,b<s.heap.objs.size->s.heap.get? b=some o->h'.get? b=some o)) E) tV.init.plain F.entry_set_init (check_set_init_1 hT ?_)) λr₂ s₂ q=>?_
   .obtain⟨ol,hol,Y,nl,L⟩:=hl;obtain⟨ocls,D,odata,B⟩:=ol;simp only at Y L;subst Y;subst L;have hol':(s.heap.push (Y9 w)).get? l=some {cls:=.type "list",dict:=D,data:=.seq O nl,slots:=B}:=aW _ hol;have hsls:=F.sub_list_set;have hslf:=F.sub_list_frozenset;have hne:(Value.type "list" == Value.type "dict")=false:=Va
    have T:(s.heap.push (Y9 w)).IsList l O:=⟨_,hol',U,nl,U⟩;unfold Builtin.«set.__init__» noKeywords Builtin.Frozenset.updateFrom;generalize hPI:pyIter=PI
    wp_walk
    subst hPI;refine Fi T ?_;refine ab (wpAny_runValue ?_);have hlS:l<s.heap.objs.size:=bH hol;have hh3:A.in1.in1.in1.handled=none:=by simp[hh]
    have Z:l≠(s.heap.push (Y9 w)).objs.size:=by
     rw[i7];exact cI (pJ hlS)
    have hSf:s.heap.objs.size∉[(s.heap.push (Y9 w)).objs.size,l]:=by
     rw[i7];simp only[bJ,cA,fG,l8,not_or];exact⟨cI (pE _),rZ hlS⟩
    have hval:∀(i:Nat)(v:Av),O[i]?=some v->∃y t,ys[i]?=some y/\v=.str y t:=λi v hv=>by
     rw[<-Eb]at hv;obtain⟨y,t,e1,e2⟩:=StrsAre.item hi i v hv;exact⟨y,t,e2,e1⟩
    refine UH ((Walks.list hh3 _ l Z O).toS) s.heap.objs.size
     hSf (led:=!g8 w) (ys:=ys) (by rw[<-lE];exact hi.length.symm) hval hb (O.size-0) 0 _ Vb (cM _)
     ⟨⟨_,bX _ U,U,U⟩,(T.push _)⟩ ?hS0 ?hR
    case hS0=>
     exact⟨Y9 w,#[],0,.fresh 0 0 (!g8 w),aW _ hS,⟨U,U,U⟩,U,λe he=>by simp at he,by simp[Jo],U,U,.inl U⟩
    case hR=>
     intro s' hm J;have I:=hm.toks;obtain⟨h',g',d',tk',os'⟩:=s';have eg:g'=s.gens:=hm.gens;have ed:d'=s.drawn:=hm.drawn;have eo:os'=s.os:=hm.os;subst eg;subst ed;subst eo;show wpAny _ _ _ _ _ _;refine aJ ?_;show wpAny _ _ (ret Value.none) _ _ _;refine aJ ⟨U,h',tk',I,U,J,λb o hb e=>?_⟩;have hb1:b≠s.heap.objs.size:=cI hb;have hb2:b≠(s.heap.push (Y9 w)).objs.size:=by
      rw[i7];exact cI (pJ hb)
     exact hm.heap b o (by simp only[bJ,cA,fG,l8,not_or];exact⟨hb1,hb2⟩) (aW _ (aW _ e))
   .cases r₂ with
    |error e=>exact q
    |ok G=>
     cases G with
     |ret r=>
      obtain⟨rfl,h',tk,I,rfl,J,hk'⟩:=q
      repeat (any_goals (first|assumption|wp_step))
      exact h _ _ I J hk'
     |_=>exact q.elim
  |_=>exact hr.elim
end
theorem ZD:Slot "set_iterator" "__next__" "set_iterator.__next__" :=
 .of (owner:= "set_iterator") (n:= "__next__") Ve Wm Wm Wm
  (by first|exact .inl Wm|exact .inr _) Ve
def YS:entryFor table "set_iterator.__next__" = some Builtin.«set_iterator.__next__»:=entryFor_of_tree Ve
def Xh (a:Av):argsOk "set_iterator.__next__" ⟨[a],[]⟩:=by
 kernel_rfl
theorem jD:entryFor table "set.__iter__" = some Builtin.«frozenset.__iter__» :=
 entryFor_alias (id':= "frozenset.__iter__") Ve U Wm Ve
section
variable {ww:Aq}{w:Au}{A:Ar}{E:Ab}{s:As}
def VC{q:Source}{Q:Nat->Shared->Prop}(r:n≠0)(h:∀i d,i<n->Q i {s with drawn:=d}):A9 ww w A (choose q n) Q E s:=λΓ p B=>by
 exact⟨r,h _ _ (oI _ (Nat.pos_of_ne_zero r))⟩
theorem YT{α:Type}:∀(xs:List α)(i:Nat)(x:α),xs[i]?=some x->(x::xs.eraseIdx i).Perm xs
 |[],i,x,h=>by simp at h
 |y::ys,0,x,h=>by simp at h;subst h;exact .rfl
 |y::ys,i+1,x,h=>(List.Perm.swap y x _).trans ((YT ys i x h).cons y)
theorem GK:∀(n:Nat)(xs:List α)(s:As)(Q:List α->Shared->Prop),xs.length<=n->(∀ys d,ys.Perm xs->Q ys {s with drawn:=d})->A9 ww w A (drawOrder n xs) Q E s
 |0,xs,s,Q,r,h=>by
  have:xs=[]:=pI Vb;subst this;exact aJ (h [] s.drawn .rfl)
 |n+1,[],s,Q,r,h=>aJ (h [] s.drawn .rfl)
 |n+1,y::ys,s,Q,r,h=>by
  refine ab (VC Vd λi d hi=>?_);obtain⟨x,q⟩:∃x,(y::ys)[i]?=some x:=⟨_,aQ hi⟩;rw[q];refine ab (GK n _ _ _ Vc λzs C B=>(aJ (h _ C ((B.cons x).trans (YT _ i x q)))))
end
theorem xu(next:Nat->Nat):∀(q k:Nat)(left:List α)(out:Array α),q=left.length->(pickOrder.go next q k left out).toList.Perm (out.toList++left)
 |0,k,left,out,h=>by
  have:=pI h.symm;subst this;unfold pickOrder.go;simp
 |q+1,k,left,out,h=>by
  unfold pickOrder.go;have hi:next k%left.length<left.length:=oI _ Vb;rw[aQ hi];refine(xu next q _ _ _ Vc).trans ?_;rw[Kp,i4];exact(YT left _ _ (aQ hi)).append_left _
def Wh(next:Nat->Nat)(xs:Array g):(pickOrder next xs).toList.Perm xs.toList:=by
 unfold pickOrder;simpa using xu next xs.size 0 _ #[] Vd
def J2(h:Heap)(a:Aw)(es:Array (Int×Av))(ep:Nat)(t:SetTable):Prop:=∃o,h.get? a=some o/\o.ExactSet/\o.data=.set es ep t/\t.fits es.size=true
def YA (h:Heap) (I a:Aw) (first:Av) (i n ep:Nat):Prop:=∃o,h.get? I=some o/\o.cls=.type "set_iterator" /\ o.data=.fields #[first,.int i 0,.ref a,.int n 0,.int ep 0]
section
variable {ww:Aq}{w:Au}{A:Ar}{E:Ab}{s:As}
def YA.typeIs  (x:YA s.heap f a first i n L):s.TypeIs (.ref f) "set_iterator" :=let⟨o,ho,hc,_⟩:=x;⟨o,ho,hc⟩
def YA.at{first:Av}(x:YA h f a first i n L)(e:∀o,h.get? f=some o->h'.get? f=some o):YA h' f a first i n L:=let⟨o,ho,r⟩:=x;⟨o,e _ ho,r⟩
def J2.at{es:Array (Int×Av)}{t:SetTable}(x:J2 h a es i t)(e:∀o,h.get? a=some o->h'.get? a=some o):J2 h' a es i t:=let⟨o,ho,r⟩:=x;⟨o,e _ ho,r⟩
def Xy{Q:Bool->Shared->Prop}(h:Q (g8 w) s):A9 ww w A setsByText Q E s:=ab (Lx (aJ h))
def xw{Q:Option (Av×Nat)->Shared->Prop}(B:g8 w=true)(hs:J2 s.heap a es i t)
  (h:Q (((pickOrder (w.params.setOrder a i) es)[given]?).map λe=>(e.2,0)) s):A9 ww w A (setNext a 0 given i) Q E s:=by
 revert hs;refine ε1 λo=>θ3 λC D q r=>?_;refine ab (C8 C q r (ab (Xy ?_)));rw[B];simp;refine ab (ab (C8 C q r (ab (Xy ?_))));rw[B];refine ab (Lx (aJ (aJ h)))
def GL{Q:Option (Av×Nat)->Shared->Prop}(C:g8 w=false)(hs:J2 s.heap a es i t)(F:t.led=true)(I:es.size<=1)
  (h:Q (match es[SetTable.below t.place n]?,t.place[SetTable.below t.place n]? with|some (_,x),some j=>some (x,j+1)|_,_=>none) s):A9 ww w A (setNext a n given i) Q E s:=by
 revert hs;refine ε1 λo=>θ3 λD G r B=>?_;refine ab (C8 D r B (ab (Xy ?_)));rw[C];have q:decide (es.size>1)=false:=by simp;lia
 show wpAny _ _ (if(!t.plain&&decide _)=true then _ else _) _ _ _;rw[q,EW];refine ab (m:=(if(!t.led && !es.isEmpty)=true then unsupported _ else pure ())) ?_;rw[F];exact aJ (aJ h)
def yW{e:Int×Av}(hs:J2 s.heap a es i t)(C:es[n]?=some e)
  (h:Q e.2 s):A9 ww w A (setNextDrawn a n i) Q E s:=by
 revert hs;refine ε1 λo=>θ3 λB D q r=>?_;refine ab (C8 B q r ?_);simp;rw[C];exact aJ h
def VI(x:YA s.heap f a first i n L){B:Nat}:
  YA ((s.heap.update f (Obj.mapFields (·.setIfInBounds 0 u))).update f (Obj.mapFields (·.setIfInBounds 1 (.int B 0)))) f a u B n L:=by
 revert x;refine ε1 λo=>θ2 λC D r=>?_;have h1:=lG (Obj.mapFields (·.setIfInBounds 0 u)) C (sL (iW r _));have q:=iW r (·.setIfInBounds 0 u);refine⟨_,lG _ h1 (sL (iW q _)),(Dt ..).trans ((Dt ..).trans D),?_⟩;rw[iW q];simp
def kN{t:SetTable}{x:Av}{nx:Nat}{Q:Aa}(q:YA s.heap f a (.int L 0) i es.size n)(hs:J2 s.heap a es n t)
  (O:∀(F:Option (Av×Nat)->Shared->Prop)(I:Ab),F (some (x,nx)) s->A9 ww w A.in1 (setNext a L i n) F I s)
  (T:∀h',YA h' f a (.int nx 0) (i+1) es.size n->Heap.SameBut f s.heap h'->Q (some x) {s with heap:=h'}):A9 ww w A (pyNext (.ref f)) Q E s:=by
 obtain⟨o,C,Ua,r⟩:=id q;obtain⟨os,B,J,D,G⟩:=id hs;refine ab (nE (wpAny_callSpecial?_slot q.typeIs ZD
  (dQ ZD q.typeIs YS (ab (aJ (ab (Dy C r (ab (FY B D G ?_)))))) (Xh _))))
 simp;refine ab (O _ _ (ab (nN C r Vd (ab (nN (lG _ C (sL (iW r _))) (iW r _) Vd (aJ ⟨_,U,aJ (T _ (VI q) ((lS ..).trans (lS ..)))⟩))))))
def Rp{Q:Aa}(hh:A.handled=none)(q:YA s.heap f a (.int L 0) i es.size n)(hs:J2 s.heap a es n t)
  (O:∀(F:Option (Av×Nat)->Shared->Prop)(I:Ab),F none s->A9 ww w A.in1 (setNext a L i n) F I s)
  (T:∀h',Heap.ExtBut f s.heap h'->Q none {s with heap:=h'}):A9 ww w A (pyNext (.ref f)) Q E s:=by
 obtain⟨o,D,Ua,C⟩:=id q;obtain⟨os,r,J,B,G⟩:=id hs;refine ab (nE (wpAny_callSpecial?_slot q.typeIs ZD
  (dQ ZD q.typeIs YS (ab (aJ (ab (Dy D C (ab (FY r B G ?_)))))) (Xh _))))
 simp;refine ab (O _ _ (ab (nN D C Vd (ab (ab (iI (ab (fK (by first|rfl|(rfl)) (iI ?_ (by size_fits)))) (by size_fits)))))));refine ab (DP ?_);rw[hh];refine ab (aJ (DH ?_));refine ab (oH ⟨_,bX _ U,U⟩ C2 (aJ (T _ (((lS ..).extBut.push _).push _))))
def Zct{p:Aw}{es:Array (Int×Av)}{t:SetTable}{pl:Nat}{e:Int×Av}{G:Obj}{Q:Aa}(q:YA s.heap f a (.ref p) i es.size n)(hs:J2 s.heap a es n t)
  (O:s.heap.get? p=some G) (D:G.data=.seq (S.map λ(k:Nat)=>rawInt k).toArray L) (hi:S[i]?=some pl) (Ua:es[pl]?=some e)
  (Y:∀h',YA h' f a (.ref p) (i+1) es.size n->Heap.SameBut f s.heap h'->Q (some e.2) {s with heap:=h'}):A9 ww w A (pyNext (.ref f)) Q E s:=by
 refine ω (id q) (ε1 λo=>θ2 λC T r=>?_);obtain⟨os,B,J,F,I⟩:=id hs;refine ab (nE (wpAny_callSpecial?_slot q.typeIs ZD
  (dQ ZD q.typeIs YS (ab (aJ (ab (Dy C r (ab (FY B F I ?_)))))) (Xh _))))
 simp only[Ka];refine ab (lH O D ?_);dsimp only;rw[show((S.map _).toArray)[(i:Int).toNat]?=some (rawInt pl) by simp[hi]];simp[rawInt];refine ab (yW hs Ua (ab (nN C r Vd (aJ ⟨_,U,aJ (Y _ ⟨_,lG _ C (sL (iW r _)),(Dt ..).trans T,?_⟩ (lS ..))⟩))));rw[iW r];simp
def VX{p:Aw}{es:Array (Int×Av)}{t:SetTable}{G:Obj}{Q:Aa}(hh:A.handled=none)(q:YA s.heap f a (.ref p) i es.size n)(hs:J2 s.heap a es n t)
  (O:s.heap.get? p=some G) (D:G.data=.seq (S.map λ(k:Nat)=>rawInt k).toArray L) (hi:S[i]?=none)
  (T:∀h',Heap.ExtBut f s.heap h'->Q none {s with heap:=h'}):A9 ww w A (pyNext (.ref f)) Q E s:=by
 refine ω (id q) (ε1 λo=>θ2 λC Ua r=>?_);obtain⟨os,B,J,F,I⟩:=id hs;refine ab (nE (wpAny_callSpecial?_slot q.typeIs ZD
  (dQ ZD q.typeIs YS ?_ (Xh _))))
 refine ab (aJ (ab (Dy C r ?_)));refine ab (FY B F I ?_);simp only[Ka,↓reduceIte];refine ab (lH O D ?_);dsimp only;rw[show((S.map _).toArray)[(i:Int).toNat]?=none by simp;simpa using hi];refine ab (nN C r Vd ?_);refine ab (nN (lG _ C (sL (iW r _))) (iW r _) Vd (ab ?_));refine ab (iI ?_ (by size_fits));refine ab (fK (by first|rfl|(rfl)) (iI ?_ (by size_fits)));refine ab (DP ?_);rw[hh];refine ab (aJ (DH ?_));refine ab (oH ⟨_,bX _ U,U⟩ C2 (aJ (T _ ((((lS ..).trans (lS ..)).extBut.push _).push _))))
end
theorem Gg:Slot "set_iterator" "__iter__" "set_iterator.__iter__" :=
 .of (owner:= "set_iterator") (n:= "__iter__") Ve Wm Wm Wm
  (by first|exact .inl Wm|exact .inr _) Ve
theorem zA:entryFor table "set_iterator.__iter__" = some Builtin.«dict_keyiterator.__iter__» :=
 entryFor_alias (id':= "dict_keyiterator.__iter__") Ve U Wm Ve
def jE (a:Av):argsOk "set_iterator.__iter__" ⟨[a],[]⟩:=by
 kernel_rfl
section
variable {ww:Aq}{w:Au}{A:Ar}{E:Ab}{s:As}
def zB(q:YA s.heap f a first i n L)(h:Q (.ref f) s):A9 ww w A (pyIter (.ref f)) Q E s:=by
 refine Fe q.typeIs Gg (dQ Gg q.typeIs zA (aJ ⟨_,U,_,_,q.typeIs,ZD.lookup,h⟩) (jE _))
def Iy(q:List (Int×Av))(i:Nat)(v:Av):Prop:=∃e,q[i]?=some e/\v=e.2
def Zcu(r:g8 w=true)(hh:A.handled=none)(F:a≠f):
  Walks ww w A f [f,a] [f] es.size (Iy (pickOrder (w.params.setOrder a n) es).toList) (λi h=>YA h f a (.int (0:Nat) 0) i es.size n/\J2 h a es n t)where
 sub:=λb r=>(by simp_all)
 frame:=λ_ _ _ st I=>⟨st.1.at λo e=>I f Vd o e,st.2.at λo e=>I a Vd o e⟩
 item:=λi s Q E hi st D=>by
  have hsz:=by simpa using (Wh (w.params.setOrder a n) es).length_eq
  obtain⟨e,O⟩:∃e,(pickOrder (w.params.setOrder a n) es)[i]?=some e:=⟨_,rS (by simp_all)⟩;refine kN st.1 st.2 (λL J q=>xw r st.2 (by simp_all)) λh' C B=>(D e.2 h' s.toks ⟨e,Vc,U⟩ ⟨C,st.2.at λo e=>B.extBut a o F e⟩ λb o r e=>B.extBut b o (λh=>r (by simp[h])) e)
 done:=λs Q E st D=>by
  have hsz:=by simpa using (Wh (w.params.setOrder a n) es).length_eq
  exact Rp hh st.1 st.2 (λL J q=>xw r st.2 (by simp_all)) λh' G=>D h' s.toks λb o r e=>G b o (λh=>r (by simp[h])) e
 self:=λ_ _ _ _ st D=>zB st.1 D
theorem gN{p:Aw}{es:Array (Int×Av)}{t:SetTable}(G:S.Perm (List.range es.size))(hh:A.handled=none)(T:a≠f)(O:p≠f):
  Walks ww w A f [f,a,p] [f] es.size (Iy (S.filterMap (es[·]?))) (λi h=>YA h f a (.ref p) i es.size n/\J2 h a es n t/\∃B np,h.get? p=some B/\B.data=.seq (S.map λ(k:Nat)=>rawInt k).toArray np)where
 sub:=λb L=>(by simp_all)
 frame:=λ_ _ _ st r=>⟨st.1.at λo e=>r f Vd o e,st.2.1.at λo e=>r a Vd o e,let⟨B,np,h1,h2⟩:=st.2.2;⟨B,np,r p Vd B h1,h2⟩⟩
 item:=λi s Q E hi st I=>by
  obtain⟨B,np,h1,h2⟩:=st.2.2;have C:=by simpa using G.length_eq
  have q:∀k∈S,k<es.size:=λk r=>Vc
  have F:S[i]?=some (S[i]' (by simp_all)):=aQ _;have r:S[i]' Vb<es.size:=q _ (dZ _);have Y:S.filterMap (es[·]?)=S.map (λk=>es.getD k (0,.none)):=by
   clear F G C r hi h1 h2 st I
   induction S with
   |nil=>rfl
   |cons k ks Z=>
    have:=q k Vd;rw[List.filterMap_cons_some (b:=es.getD k _) (by simp[this]),Z λk r=>q k (by simp[r]),fW]
  refine Zct st.1 st.2.1 h1 h2 F (rS r) λh' J D=>(I _ h' s.toks ⟨_,?_,U⟩ ⟨J,st.2.1.at λo e=>D.extBut a o T e,B,np,D.extBut p B O h1,h2⟩ λb o L e=>D.extBut b o (λh=>L (by simp[h])) e);rw[Y,bG,F];simp[r]
 done:=λs Q E st I=>by
  obtain⟨B,np,h1,h2⟩:=st.2.2;have C:=by simpa using G.length_eq
  exact VX hh st.1 st.2.1 h1 h2 (by simp;simp_all) λh' Ua=>I h' s.toks λb o L e=>Ua b o (λh=>L (by simp[h])) e
 self:=λ_ _ _ _ st I=>zB st.1 I
def kO(j:Nat):SetTable.below #[j] 0=0/\SetTable.below #[j] (j+1)=1:=by
 constructor<;>simp[SetTable.below,SetTable.below.go]
def gO(B:g8 w=false)(Z:t.led=true)(Ua:es.size<=1)(hh:A.handled=none)(T:a≠f):
  Walks ww w A f [f,a] [f] es.size (Iy es.toList) (λi h=>∃r:Nat,(i=0->r=0)/\(i=1->∃j,t.place=#[j]/\r=j+1)/\YA h f a (.int r 0) i es.size n/\J2 h a es n t)where
 sub:=λb B=>Vc
 frame:=λ_ _ _ st Y=>by
  revert st;refine ε1 λr=>θ3 λI C h1 h2=>?_;exact⟨r,I,C,h1.at λo e=>Y f Vd o e,h2.at λo e=>Y a Vd o e⟩
 item:=λi s Q E hi st D=>by
  revert st;refine ε1 λr=>θ3 λI C h1 h2=>?_;have L:i=0:=Vb
  subst L;obtain rfl:=I rfl;have hps:t.place.size=1:=by
   obtain⟨o,ho,hex,hd,hf⟩:=h2;simp[SetTable.fits,beq_iff_eq]at hf;lia
  obtain⟨j,J⟩:∃j,t.place=#[j]:=⟨t.place[0],Vc⟩;obtain⟨e,he⟩:∃e,es[0]?=some e:=⟨_,rS (by omega)⟩;refine kN h1 h2 (λQ' E' q=>GL B h2 Z Ua (by rw[J,(kO j).1,he];exact q)) λh' G F=>(D e.2 h' s.toks ⟨e,by simpa using he,U⟩ ⟨j+1,λz=>absurd z Vb,λ_=>⟨j,J,U⟩,G,h2.at λo e=>F.extBut a o T e⟩ λb o B e=>F.extBut b o (λh=>B (by simp[h])) e)
 done:=λs Q E st D=>by
  obtain⟨r,I,C,h1,h2⟩:=st;refine Rp hh h1 h2 (λQ' E' q=>GL B h2 Z Ua ?_) λh' O=>D h' s.toks λb o B e=>O b o (λh=>B (by simp[h])) e
  by_cases h0:es.size=0
  .simp_all
  .obtain⟨j,J,rfl⟩:=C Vb;rw[J,(kO j).2,Array.getElem?_eq_none (by omega)];exact q
 self:=λ_ _ _ _ st D=>by
  obtain⟨r,I,C,h1,h2⟩:=st;exact zB h1 D
def gP{Q:Bool->Shared->Prop}(hs:J2 s.heap a es i t)(h:Q (!g8 w&&(!t.plain&&decide (es.size>1))) s):A9 ww w A (setDrawn a) Q E s:=by
 revert hs;refine ε1 λo=>θ3 λB C q r=>?_;refine ab (C8 B q r (ab (Xy (aJ h))))
structure Mj(prog:Aq)(w:Au)(h h':Heap)(I a:Aw)(es:Array (Int×Av))(ord:List (Int×Av))(fp:List Aw)(St:Nat->Heap->Prop):Prop where
 old:∀b o,h.get? b=some o->h'.get? b=some o
 new:h.objs.size<=I
 perm:ord.Perm es.toList
 lt:∀b∈fp,b<h'.objs.size
 mem:I∈fp
 st:St 0 h'
 walks:∀A:Ar,A.handled=none->Walks prog w A I fp [I] es.size (Iy ord) St
 apart:∀b∈fp,b=a\/h.objs.size<=b
def R8(hs:J2 s.heap a es i t)(hl:t.led=!g8 w)(hp:es.size=0\/t.plain=false)(hz:es.size<=sizeLine)
  (hQ:∀h' d I Z fp St,Mj ww w s.heap h' I a es Z fp St->Q (.ref I) {s with heap:=h',drawn:=d}):A9 ww w A (pyIter (.ref a)) Q E s:=by
 refine ω (id hs) (ε1 λo=>θ3 λD Ua L O=>?_);have hT:s.TypeIs (.ref a) "set" :=⟨o,D,Ua.1⟩;have G:=bH D;refine Fe hT F.slot_set_iter (dQ F.slot_set_iter hT jD ?_ (F.args_set_iter_1 _));unfold Builtin.«frozenset.__iter__» Builtin.Frozenset.slot0 slotArgs;simp only[List.isEmpty_nil,Bool.not_true,ET,↓reduceIte,bind_assoc,nL,Ka];refine ab (aJ ?_);refine ab (aJ ?_);refine ab (ab (FY D L O (aJ ?_)));refine ab (gP hs ?_);cases hb:g8 w with
 |true=>
  refine ab (aJ ?_);refine ab (K5 D L O ?_);have B:(s.heap.push _).get? s.heap.objs.size=some {cls:=.type "set_iterator",data:=.fields #[rawInt 0,rawInt 0,.ref a,rawInt es.size,rawInt i]}:=bX _ rfl;refine ab (iI (aJ ⟨_,U,"set_iterator",_,⟨_,B,U⟩,ZD.lookup,?_⟩));refine hQ _ s.drawn s.heap.objs.size _ _ _ ⟨λb o e=>aW _ e,aN _,Wh (w.params.setOrder a i) es,λb q=>?_,bM,⟨⟨_,B,U,U⟩,hs.at λo e=>aW _ e⟩,λA' hh=>Zcu hb hh (cI G),λb q=>(bJ.mp q).elim (λe=>.inr (e ▸ aN _)) λq=>.inl (cA.mp q)⟩;rw[i7];rcases bJ.mp q with rfl|q
  .exact pE _
  .grind
 |false=>
  rw[hb]at hl
  by_cases T:es.size>1
  .rw[hp.resolve_left Vb,aZ T];refine ab (GK _ _ _ _ (HJ dY) λps d C=>?_);have hpn:ps.length=es.size:=by simpa using C.length_eq
   refine ab (E4 ?_ (by rw[aF];simp_all));refine ab (K5 (aW _ D) L O ?_);generalize hH:s.heap.push _=H;have J:H.objs.size=s.heap.objs.size+1:=by rw[<-hH,i7]
   have r:∀b o,s.heap.get? b=some o->H.get? b=some o:=λb o e=>hH ▸ aW _ e;have B:(H.push {cls:=.type "set_iterator",data:=.fields #[.ref s.heap.objs.size,rawInt 0,.ref a,rawInt es.size,rawInt i]}).get? H.objs.size=some _:=bX _ rfl;refine ab (iI (aJ ⟨_,U,"set_iterator",_,⟨_,B,U⟩,ZD.lookup,?_⟩));refine hQ _ d H.objs.size _ _ _ ⟨λb o e=>aW _ (r b o e),by rw[J];exact pR _,?_,λb q=>?_,bM,⟨⟨_,B,U,U⟩,hs.at λo e=>aW _ (r a o e),_,_,aW _ (hH ▸ bX _ U),U⟩,λA' hh=>gN (p:=s.heap.objs.size) C hh (λe=>Vc) (λe=>Vb),λb q=>(bJ.mp q).elim (λe=>.inr (by rw[e,J];exact pR _)) λq=>(bJ.mp q).elim .inl λq=>.inr (by simp_all)⟩
   .exact(C.filterMap _).trans (by rw[filterMap_getElem?_range])
   .rw[i7];rcases bJ.mp q with rfl|q
    .exact pE _
    .grind
  .have Y:decide (es.size>1)=false:=by simp;simp_all
   rw[Y,EW];refine ab (aJ ?_);refine ab (K5 D L O ?_);have B:(s.heap.push _).get? s.heap.objs.size=some {cls:=.type "set_iterator",data:=.fields #[rawInt 0,rawInt 0,.ref a,rawInt es.size,rawInt i]}:=bX _ rfl;refine ab (iI (aJ ⟨_,U,"set_iterator",_,⟨_,B,U⟩,ZD.lookup,?_⟩));refine hQ _ s.drawn s.heap.objs.size _ _ _ ⟨λb o e=>aW _ e,aN _,.rfl,λb q=>?_,bM,⟨0,λ_=>U,λz=>absurd z Vd,⟨_,B,U,U⟩,hs.at λo e=>aW _ e⟩,λA' hh=>gO hb (by simpa using hl) Vb hh (cI G),λb q=>(bJ.mp q).elim (λe=>.inr (e ▸ aN _)) λq=>.inl (cA.mp q)⟩;rw[i7];rcases bJ.mp q with rfl|q
   .exact pE _
   .grind
def gQ{Q:Ag->Shared->Prop}(hh:A.handled=none)(hs:J2 s.heap a es n t)(hl:t.led=!g8 w)(hp:es.size=0\/t.plain=false)(hz:es.size<=sizeLine)
  (hQ:∀(h':Heap)(d:Drawn)(tk:Nat)(r:List (Int×Av)),(∀b o,s.heap.get? b=some o->h'.get? b=some o)->s.heap.objs.size<=h'.objs.size->r.Perm es.toList->Q (r.map (·.2)) {s with heap:=h',drawn:=d,toks:=tk}):A9 ww w A (collect (.ref a)) Q E s:=by
 refine ω (id hs) (ε1 λo=>θ3 λho T hd hf=>?_);have Ua:=bH ho;unfold collect;refine ab (wpAny_runValue (rH F.entry_proto_collect ?_));rw[LW F.plain_proto_collect _];show wpAny _ A.in1 _ _ _ s;refine ab (iI ?_);refine aJ ⟨sX F.plain_list_iadd _,rH F.entry_list_iadd ?_⟩;rw[LW F.plain_list_iadd _];generalize hH:s.heap.push _=H;have hHs:H.objs.size=s.heap.objs.size+1:=by rw[<-hH,i7]
 have q:∀b o,s.heap.get? b=some o->H.get? b=some o:=λb o e=>hH ▸ aW _ e;have hs1:J2 H a es n t:=hs.at λo e=>q a o e;show wpAny _ A.in1 (Builtin.List.listExtendWith (.ref s.heap.objs.size) (.ref a) (.ref s.heap.objs.size)) _ _ _;unfold Builtin.List.listExtendWith;refine ab (wpAny_typeOf ⟨o,q a o ho,T.1⟩ ?_);have h1:Builtin.List.listSameRef (.ref s.heap.objs.size) (.ref a)=false:=by simp[Builtin.List.listSameRef];exact rZ Ua
 have h2:(Value.type "set" == Value.type "list")=false:=Va
 have h3:(Value.type "set" == Value.type "tuple")=false:=Va
 simp only[h1,h2,h3,Bool.or_false,ET,if_false];refine ab (R8 (s:={s with heap:=H}) hs1 hl hp hz λh1 d I r fp St W=>?_);refine ab (fV ?_);unfold Builtin.List.listLengthHint;have J:Shared.TypeIs {s with heap:=h1,drawn:=d} (.ref a) "set" :=⟨o,W.old a o (q a o ho),T.1⟩;refine ab (tW J F.slot_set_len.lookup ?_)
 wp_delta
 refine ab (oH (b:=true) J (by rw[isSubtype_type];kernel_rfl) ?_);show wpAny _ A.in1 (typeOf (Value.ref a) >>= _) _ _ _;refine ab (wpAny_typeOf J ?_);refine aJ ?_;show wpAny _ A.in1 _ _ _ _;refine ab (mN ?_);have Z:s.heap.objs.size∉fp:=λL=>by
  rcases W.apart _ L with e|e
  .exact absurd Ua (e ▸ iC _)
  .exact absurd e (by show¬H.objs.size<=_;rw[hHs];exact Nat.not_succ_le_self _)
 have hS1:=W.old _ _ (hH ▸ bX _ U);refine ab ?_;show wpAny _ A.in1 _ _ _ _;refine ab (EI (s:={s with heap:=h1,drawn:=d}) hS1 U ?_);have Y:=lG (Obj.mapSeq (·.push Value.none)) hS1 rfl;refine EI Y U ?_;have hS3:=lG (Obj.mapSeq (·.pop)) Y rfl;have oth:∀b o,b≠s.heap.objs.size->h1.get? b=some o->
   ((h1.update s.heap.objs.size (Obj.mapSeq (·.push Value.none))).update s.heap.objs.size (Obj.mapSeq (·.pop))).get? b=some o:=
  λb o O e=>(nU _ _ (eN O)).trans ((nU _ _ (eN O)).trans e)
 refine aJ ⟨sX F.plain_extend_loop _,codeAny_extend_loopS (W.walks A.in1 hh).toS hz _ Z _ es.size 0 _ _ _ U (cM _)
  ((W.walks A hh).frame 0 _ _ W.st λb O o e=>oth b o (λh=>Z (h ▸ O)) e) hS3 (ItemsOf.nil _) λs' C c' L hS' D=>?_⟩
 show wpAny _ A (load s.heap.objs.size >>= _) _ _ s';refine ab (wpAny_load hS' ?_);have G:C.toList=r.map (·.2):=by
  have hol:r.length=es.size:=by simpa using W.perm.length_eq
  apply Mi
  .rw[aF,lE,D.1,hol]
  .intro i i1 i2;rw[lE]at i1;obtain⟨e,he,hv⟩:=D.2 i C[i] (rS i1);rw[Array.getElem_toList,hv,LC];rw[aF]at i2;rw[aQ i2]at he;rw[Option.some.inj he]
 have eg:s'.gens=s.gens:=L.gens;have ed:s'.drawn=d:=L.drawn;have eo:s'.os=s.os:=L.os;refine aJ ?_;have:=hQ s'.heap s'.drawn s'.toks r (λb ob e=>?_) ?_ W.perm
 .rw[<-G,<-eg,<-eo]at this;exact this
 .have B:=bH e;refine L.heap b ob (λO=>?_) (oth b ob (cI B) (W.old b ob (q b ob e)));rcases bJ.mp O with h|h
  .exact absurd B (h ▸ iC _)
  .rw[cA.mp h]at B;have:=W.new;exact absurd B (FI.mpr (cC (by rw[hHs];exact pR _) this))
 .exact bL (bH hS')
theorem GN:∀{l:List (Int×Av)},ElemsOf (PySem.strKind ww w) l->StrsAre (l.map (·.2)) (l.map λe=>tx e.2)
 |[],_=>.nil
 |e::l,h=>by
  obtain⟨_,t,q⟩:=NB h (bM);rw[fW,q];exact .cons _ t (GN h.tail)
def Ta{led:Bool}{S:Ai}(hh:A.handled=none)(hS:z8 ww w s.heap a (!g8 w) S)(h64:S.length<64)
  (h:∀(h':Heap)(d:Drawn)(tk:Nat)(l:Aw)(out:Ah)(I:Ai)(e:Nat),StrsAre out.toList I->I.Perm S->sortedS I=true->(∀b o,s.heap.get? b=some o->h'.get? b=some o)->s.heap.objs.size<=l->
   h'.get? l=some (seqObj "list" out e)->Q (.ref l) {s with heap:=h',drawn:=d,toks:=tk}):
  A9 ww w A (call (.builtin "sorted") [.ref a]) Q E s:=by
 revert hS;refine ε4 λo es ep t=>θ7 λho L Z lA O hf hl J=>?_;have hn:es.size=S.length:=by rw[<-O.length_eq,aF,lE]
 refine IL IW IM IK (Ii _) (ab (aJ (ab (gQ hh ⟨o,ho,L,Z,hf⟩ hl J (LA (by unfold scanBound;lia)) λh1 d tk F D hsz q=>?_))));have G:(F.map (·.2)).length<64:=by rw[aF,q.length_eq,lE];simp_all
 have r:=GN (lA.perm q);generalize hV:F.map _=vs at G r ⊢;refine ab (DF ?_);have B:(h1.push _).get? _=some (seqObj "list" vs.toArray 0):=bX _ rfl;refine ab (fV (dQ HS ⟨_,B,U⟩ Iq (list_sort_treeK strKind_oneLt B r.keysOf (λUa T pi e=>keyKind_strs (by rw[<-e];exact r)) G λst' a1 a2=>⟨_,U,?_⟩) (Hh _)));refine ω (sorted_out_str r a1 a2) (ε1 λI=>θ2 λb1 b2 b3=>?_);obtain⟨e,he⟩:=Ho B;refine aJ ⟨_,U,h _ d tk _ _ I e b1 (b2.trans ((q.map _).trans O)) b3 (λb ob Y=>?_) hsz he⟩;have C:=iE (bH Y) hsz;rw[Ia (cI C) (by rw[DS];exact pJ C)];exact aW _ (D b ob Y)
end
def Qu(P:Aq)(w:Au)(a:Aw)(S:Ai):HO:=.ext λh=>z8 P w h a (!g8 w) S
theorem aD.drew(I:aD X C c H s)(d:Drawn):aD X C c H {s with drawn:=d}:=
 ⟨I.ok,I.os,I.bare,I.base,I.loc,I.cell,I.free,I.cL,I.pin,I.aM,I.len⟩
def kP (Ua:X.calm=true):YX X (.type "set") (λxs H Q=>∃(p:Aw)(C:Ai),xs=[.ref p]/\aB X.K H p (C.map V.str)/\C.length<4000 /\
  ∀a:Aw,H a=none->Q (.ref a) (aA H a (Qu X.prog X.w a (Jo C)))):=by
 refine λzn s σ H xs us Q I r=>ε2 λp C=>θ3 λzq0 Y hn q=>?_;subst zq0;obtain⟨u,rfl,J⟩:=bS r;cases J;obtain⟨G,D,pl,Z⟩:=I.list Y;have B:=D.length;rw[aF]at B;refine jC (I.ok.hd Ua) pl.isList (by simpa using U0 D) (by rw[eB];unfold scanBound;lia) λh' tk L F T=>⟨.ref _,_,I.laid (λb o e=>T b o (bH e) e) (aN _) ?_,U,q _ (I.aM.fresh (aN _))⟩;refine ω (id F) (ε4 λo es ep t=>θ1 λO pi=>?_);exact⟨F,⟨o,O⟩,λh1 h2 x k=>qQ x k⟩
def GP (L:X.calm=true):YX X (.builtin "sorted") (λxs H Q=>∃(a:Aw)(S:Ai),xs=[.ref a]/\H a=some (Qu X.prog X.w a S)/\S.length<64 /\
  ∀(l:Aw)(B:Ai),H l=none->B.Perm S->sortedS B=true->Q (.ref l) (aA H l (.lst (B.map V.str)))):=by
 refine λzn s σ H xs Z Q I r=>ε2 λa S=>θ3 λzq0 T J q=>?_;subst zq0;obtain⟨u,rfl,F⟩:=bS r;cases F;refine Ta (led:=true) (I.ok.hd L) (I.aM a _ T).1 J λh' d tk l out Ua e hi C hs G D O=>⟨.ref l,_,(I.drew d).laid G D ?_,U,q _ Ua (I.aM.fresh D) C hs⟩;have Y:=C.length_eq;exact⟨by rw[aF];exact bL (Zw Vb),_,e,Jz hi,by simpa using O⟩
def Znk{y:Str}(h1:ltCps x.cps.toList y.cps.toList=false)(h2:ltCps y.cps.toList x.cps.toList=false):x=y:=by
 rw[ltCps_eq]at h1 h2;cases x;cases y;simp;exact Array.toList_inj.mp (List.le_antisymm (rX h2) (rX h1))
def Zi7{y z:Str}(h1:ltCps y.cps.toList x.cps.toList=false)(h2:ltCps z.cps.toList y.cps.toList=false):ltCps z.cps.toList x.cps.toList=false:=by
 rw[ltCps_eq]at h1 h2 ⊢;refine bF ((List.le_trans (rX h1) (rX h2)))
theorem qR:∀(p:Str)(l:Ai),risingS p l=true->∀y∈l,ltCps y.cps.toList p.cps.toList=false
 |p,[],_,y,q=>nomatch q
 |p,x::r,h,y,q=>by
  have h':(!ltCps _ _&&risingS x r)=true:=h;rw[lQ,Bool.not_eq_true']at h';rcases bJ.mp q with rfl|q
  .exact h'.1
  .exact Zi7 h'.1 (qR x r h'.2 y q)
def zC{p:Str}{l:Ai}(h:sortedS (p::l)=true):sortedS l=true:=by
 cases l with
 |nil=>rfl
 |cons x r=>
  have h':(!ltCps _ _&&risingS x r)=true:=h;rw[lQ]at h';exact h'.2
theorem yo:∀(l m:Ai),sortedS l=true->sortedS m=true->l.Perm m->l=m
 |[],m,_,_,p=>by rw[List.nil_perm.mp p]
 |x::l,m,h1,h2,p=>by
  cases m with
  |nil=>exact absurd (List.perm_nil.mp p) Vd
  |cons y m=>
   have r:x=y:=by
    have q:=p.mem_iff.mp bM;have B:=p.mem_iff.mpr bM;rcases bJ.mp q with e|q
    .exact e
    .rcases bJ.mp B with e|B
     .exact e.symm
     .exact Znk (qR y m h2 x q) (qR x l h1 y B)
   subst r;rw[yo l m (zC h1) (zC h2) (p.cons_inv)]
def SW{S:Ai}{y:Str}:y∈ins S x↔y∈S\/y=x:=by
 unfold ins;split
 .simp_all
 .simp
def S7{S:Ai}(h:S.Nodup):(ins S x).Nodup:=by
 unfold ins;split
 .exact h
 .grind
theorem yX:∀(ys S:Ai),S.Nodup->(ys.foldl ins S).Nodup/\∀y,y∈ys.foldl ins S↔y∈S\/y∈ys
 |[],S,h=>⟨h,λy=>Vd⟩
 |x::r,S,h=>by
  obtain⟨a,b⟩:=yX r _ (S7 h);refine⟨a,λy=>(b y).trans ?_⟩;rw[SW,bJ,or_assoc]
def gR(ys:Ai):(Jo ys).Nodup:=(yX ys [] fL).1
def kQ{y:Str}:y∈Jo ys↔y∈ys:=((yX ys [] fL).2 y).trans Vd
def kR{Q:VK}(p:V->Bool)(S:Hp->Hp->Prop)(F:∀H,S H H)(st:∀H1 H2 B,S H1 H2->S H2 B->S H1 B)(L:∀H1,S H H1->aL K H1 a xs)(O:xs.length<=sizeLine)
  (G:∀x∈xs,∀H1,S H H1->∀R:Bool->Hp->Prop,(∀H2,S H1 H2->R (p x) H2)->M (j9 is c (some x)) H1 R)
  (I:∀x∈xs,∀H1,∀R:VK,R x H1->d (j9 is c (some x)) H1 R)
  (J:∀H1 l,S H H1->H1 l=none->Q (.ref l) (aA H1 l (.lst (xs.filter p)))):qM is M d c Q (CD K a) H:=by
 refine XQ (xs:=xs) (λi zs H'=>zs=(xs.take i).filter p/\S H H') ⟨U,F H⟩ ?_ ?_ ?_ ?_
 .grind
 .grind
 .rintro i x zs H' R hR q ⟨rfl,r⟩;have D:=cY q;have e:=aE q;refine G x D H' r _ λH2 C=>?_;cases hp:p x with
  |true=>
   refine(aK U) ▸ I x D H2 _ (hR _ _ ⟨?_,st _ _ _ r C⟩);rw[e,oW,bU,aK hp];rfl
  |false=>
   refine(aG eH) ▸ hR _ _ ⟨?_,st _ _ _ r C⟩;rw[e,oW,bU,aG Vc];simp
 .grind
abbrev WC(o:Obj):HO:=.iL o (.ext λ_=>True)
def qS{o:Obj}(e:h.get? a=some o):XJ P w H h a (WC o):=⟨e,trivial,⟨o,e⟩,λ_ _ _ _=>trivial⟩
def aY(cs:List Aw)(H:Hp):Hp:=λb=>if b∈cs then none else H b
def WT(cs:List Aw)(H H':Hp):Hp:=λb=>if b∈cs then H b else H' b
def YU{b:Aw}(h:b∈D):aY D H b=none:=aK h
def ZJ{b:Aw}(h:b∉D):aY D H b=H b:=aG h
def J3{b:Aw}(h:b∈D):WT D H H' b=H b:=aK h
def Yu{b:Aw}(h:b∉D):WT D H H' b=H' b:=aG h
def iS{b:Aw}{o:HO}(h:aY D H b=some o):b∉D/\H b=some o:=by
 by_cases m:b∈D
 .rw[YU m]at h;cases h
 .rw[ZJ m]at h;exact⟨m,h⟩
def qT(H H1:Hp):Prop:=∀b o u,H b=some (.iL o u)->H1 b=some (.iL o u)
def qT.refl(H:Hp):qT H H:=λ_ _ _ h=>h
def qT.trans(a:qT H q)(b:qT q H2):qT H H2:=λc o u h=>b c o u (a c o u h)
def Z8.iL(a:Z8 H H1):qT H H1:=λb o u h=>a b _ h
def Xi(P:Aq)(w:Au)(K:Af)(mg:Ae)(wv:Heap)(k:Nat)(f:Aw)(H:Hp)(τ:Sp):Prop:=
 (∃o fd,H f=some (WC o)/\o.data=.func fd) /\
 ∀(A:Ar)(xz:List Env)(s:As)(H1:Hp)(q:Ag)(vs:A8)(Q:VK)(E:XK),qT H H1->Jk k A->De P w K mg wv A xz s H1->aH vs q->τ vs H1 Q E->
  codeAny (model P w) A (.call (.ref f) ⟨q,[]⟩) (CR lR xz P w H1 s Q E) s
theorem Xi.iL{P:Aq}{w:Au}{K:Af}{mg:Ae}{wv:Heap}{k:Nat}{f:Aw}{H H1:Hp}{τ:Sp}(c:Xi P w K mg wv k f H τ)(h:qT H H1):Xi P w K mg wv k f H1 τ:=
 ⟨let⟨o,fd,e,d⟩:=c.1;⟨o,fd,h _ _ _ e,d⟩,λA xz s H2 r vs Q E q=>c.2 A xz s H2 r vs Q E (h.trans q)⟩
section
variable {P:Aq}{w:Au}{H H':Hp}{h h':Heap}{cs:List Aw}
theorem gS(x:cO P w H h)(r:∀c∈cs,∃o,H c=some (WC o)):cO P w (aY cs H) h:=λa o e=>by
 obtain⟨_,B⟩:=iS e;refine(x a o B).cW (λ_ _ _ q=>q) (λd q=>?_) λd xs q=>?_
 .by_cases m:d∈cs
  .grind
  .rw[ZJ m];exact q
 .by_cases m:d∈cs
  .grind
  .rw[ZJ m];exact q
theorem Zfd(x:cO P w H' h')(B:∀c∈cs,H' c=none)(r:∀c∈cs,∃o,H c=some (WC o)/\h'.get? c=some o):cO P w (WT cs H H') h':=λa o e=>by
 by_cases m:a∈cs
 .rw[J3 m]at e;obtain⟨ob,z,g⟩:=r a m;rw[z]at e;cases e;exact qS g
 .rw[Yu m]at e;refine(x a o e).cW (λ_ _ _ q=>q) (λd q=>?_) λd xs q=>?_
  .by_cases m:d∈cs
   .rw[B d m]at q;cases q
   .rw[Yu m];exact q
  .by_cases m:d∈cs
   .rw[B d m]at q;cases q
   .rw[Yu m];exact q
end
structure Q4(wn:Scope)(ps ys:Ai):Prop where
 kind:wn.kind=.function
 co:wn.isCoroutine=false
 gen:wn.isGenerator=false
 cell:∀y∈wn.names,y.2≠.cell
 par:∀p∈ps,wn.names.lookup p=some .local
 free:∀y∈ys,wn.names.lookup y=some .free
 nd:(ps++ys).Nodup
def KI(P:Aq)(w:Au)(K:Af)(mg:Ae)(wv:Heap)(N:Ai)(ut:Str)(wn:Scope)(f:Aw)(q:Av)(cl:List (Str×Aw))(A:Ar)(xz:List Env)(s:As)(H:Hp):Cx where
 prog:=P
 w:=w
 K:=K
 mg:=mg
 base:=wv
 A:=A.deeper (PySem.W.envX ut wn s.heap.objs.size f q cl)
 N:=N
 s₀:=s
 H₀:=H
 env:=PySem.W.envX ut wn s.heap.objs.size f q cl
 outer:=xz
 stack:=PySem.W.envX ut wn s.heap.objs.size f q cl::xz
 ex:=[]
 calm:=true
 fn:=λ_=>false
 pn:=[]
 xe:=λ_ _=>False
def Qp(n:Nat)(te:TE)(cs:List Aw)(q:List (Option V)):Sp:=λvs H Q _=>vs.length=n/\te (vs.map some++q) (aY cs H) λv H'=>(∀c∈cs,H' c=none)->Q v (WT cs H H')
theorem yp(F:N.Nodup)(h1:N[i]?=some x)(h2:G[i]?=some u)(L:N.length=G.length):(N.zip G).reverse.lookup x=some u:=by
 have I:(x,u)∈N.zip G:=by
  obtain⟨a1,e1⟩:=bW.mp h1;obtain⟨a2,e2⟩:=bW.mp h2;rw[<-e1,<-e2,<-LZ (h:=by simp_all)];exact dZ _
 have C:((N.zip G).map (·.1)).Nodup:=by
  rw[List.map_fst_zip (by simp_all)];exact F
 have q:((N.zip G).reverse.map (·.1)).Nodup:=by
  grind
 have B:=List.mem_reverse.mpr I;generalize (N.zip G).reverse=l at q B
 induction l with
 |nil=>cases B
 |cons p r J=>
  obtain⟨n,v⟩:=p;rcases bJ.mp B with e|D
  .simp_all
  .grind
section
variable {P:Aq}{w:Au}{K:Af}{mg:Ae}{wv:Heap}
theorem Pg{A:Ar}{xz:List Env}{s':As}{H':Hp}{Q:VK}(O:De P w K mg wv A xz s H)(r:∀c∈D,∃o v,H c=some (WC o)/\o.data=.cell v/\s.heap.get? c=some o)
  (os:s'.os=s.os) (F:AllBare s'.gens) (b:Un (mT xz) [] (aY D H) H' s.heap s'.heap) (J:cO P w H' s'.heap) (T:aI v u) (q:(∀c∈D,H' c=none)->Q v (WT D H H')):CE xz P w H s Q u s':=by
 have C:∀c∈D,∃o,H c=some _:=λc m=>let⟨o,_,e,_⟩:=r c m;⟨o,e⟩;have I:∀c∈D,c∉mT xz:=λc m z=>by
  obtain⟨o,e⟩:=C c m;rw[O.oT c z]at e;cases e
 have L:∀c∈D,H' c=none:=λc m=>by
  obtain⟨o,v,e,d,g⟩:=r c m;exact b.free c o g (YU m) nofun
 have hh:∀d,H d=none->aY D H d=none:=λd n=>by
  by_cases m:d∈D
  .exact YU m
  .rw[ZJ m];exact n
 have nm:∀d o,H d=some o->(∀ob,o≠WC ob)->d∉D:=λd o e ne m=>by
  grind
 refine ι2 v _ ⟨os,F,⟨λd o e n G B=>b.keep d o e (hh d n) G B,λd o e n G B=>b.slot d o e (hh d n) G B,λd o e n B=>?_,b.there,λd xs e=>?_,λd o u e=>?_,λd Ua e=>?_⟩,Zfd J L λc m=>?_,T,q L⟩
 .by_cases m:d∈D
  .rw[J3 m];exact n
  .rw[Yu m];exact b.free d o e (hh d n) B
 .have m:=nm d _ e (λob z=>nomatch z);rw[Yu m];exact b.cB d xs (by rw[ZJ m];exact e)
 .by_cases m:d∈D
  .rw[J3 m];exact e
  .rw[Yu m];exact b.dI d o u (by rw[ZJ m];exact e)
 .have m:=nm d _ e (λob z=>nomatch z);rw[Yu m];exact b.fN d Ua (by rw[ZJ m];exact e)
 .obtain⟨o,v,e,d,g⟩:=r c m;exact⟨o,e,b.keep c o g (YU m) (I c m) nofun⟩
theorem kS{k:Nat}{c':Aw}{name ut:Str}{tz:Arguments}{body:Ax}{wn:Scope}{cl:List (Str×Aw)}{pm ctv:Av}{oc:Obj}{ys:Ai}{cv:List (Option V)}
  (S:Q4 wn N ys) (hf:H f=some (WC (PySem.W.kla_obj name ut tz body wn cl pm c' ctv))) (hc:H c'=some (WC oc)) (hoc:∃vs t,oc.data=.fields vs/\vs[1]?=some (.str ut t))
  (Z:∀x c,cl.lookup x=some c->c∈D) (hcs:∀c∈D,∃o v,H c=some (WC o)/\o.data=.cell v)
  (inj:∀x y c,cl.lookup x=some c->cl.lookup y=some c->x=y) (has:∀x,wn.names.lookup x=some .free->∃c,cl.lookup x=some c)
  (hcv:cv.length=ys.length) (hval:∀(i:Nat)(y:Str)(v:V),ys[i]?=some y->cv[i]?=some (some v)->∃c o u,cl.lookup y=some c/\H c=some (WC o)/\o.data=.cell (some u)/\aI v u)
  (hb:∀O:Ag,O.length=N.length->bindArgs (PySem.W.kla_fn name ut tz body wn cl pm (.ref c') ctv) ⟨O,[]⟩=pure (N.zip O))
  (T:∀(A:Ar)(xz:List Env)(s:As)(H1:Hp),Jk k (A.deeper (PySem.W.envX ut wn s.heap.objs.size f (.ref c') cl))->PE (KI P w K mg wv (N++ys) ut wn f (.ref c') cl A xz s H1) body J):
  Xi P w K mg wv (k+1) f H (Qp N.length J D cv):=by
 refine⟨⟨_,_,hf,U⟩,?_⟩;rintro A xz s H1 O vs Q E fz hr B r ⟨hl,ht⟩;have G:∀c∈D,∃o v,H1 c=some (WC o)/\o.data=.cell v/\s.heap.get? c=some o:=λc m=>by
  obtain⟨o,v,e,d⟩:=hcs c m;exact⟨o,v,fz _ _ _ e,d,(B.aM c _ (fz _ _ _ e)).1⟩
 obtain⟨vs0,t0,hd0,hv0⟩:=hoc;have lim:=B.mod.nolimit.keeps λb o e=>(B.bs b o e).1;have lus:O.length=N.length:=by rw[<-r.length];exact hl
 refine PySem.W.kla_callFunE hr.depth (B.aM f _ (fz _ _ _ hf)).1 rfl S.co S.gen U (ι4 c' oc vs0 t0 ⟨U,(B.aM c' _ (fz _ _ _ hc)).1,hd0,hv0⟩) ?_;rw[hb O lus];refine aJ (wpAny_newFunctionEnv S.cell (λx hx=>S.par _ (BN hx).1) (λY hns hsb=>⟨lim.fresh _ hsb,?_⟩) S.kind);have L:=λb o e=>hsb.extBut b o (cI (bH e)) (aW _ e);have I:aD (KI P w K mg wv (N++ys) ut wn f (.ref c') cl A xz s (aY D H1)) [] (vs.map some++cv) (aY D H1) {s with heap:=Y,toks:=s.toks+(N.zip O).length}:=by
  have Ua:∀b:Aw,b∉([]):=λb z=>nomatch z;refine⟨⟨B.mod,S.kind,U,U,aN _,inj,λy hy=>?_,(λy c h=>by cases h),λ_=>hr.hd,Ks B.frames,.inr ⟨U,U⟩,λb z=>absurd z (Ua b),λb o e=>⟨(B.bs b o e).1,?_⟩,B.nH,λb _ _=>Ua b,λb z=>absurd z (Ua b),B.cR,λb hb=>?_⟩,
   rfl,B.bare,Un.kept L,⟨_,hns,λi y v h1 h2 h3=>?_⟩,λy c h=>?_,?_,λy c h=>YU (Z y c h),λp hp=>absurd (show p∈([])from hp) Vd,(gS B.aM λc m=>let⟨o,_,e,_⟩:=G c m;⟨o,e⟩).kept L,?_⟩
  .rcases hy with hy|hy
   .exact absurd U (S.cell _ (oJ hy))
   .exact has y hy
  .by_cases m:b∈D
   .exact YU m
   .exact(ZJ m).trans (B.bs b o e).2
  .by_cases m:b∈D
   .exact YU m
   .exact(ZJ m).trans (B.oT b hb)
  .by_cases hi:i<vs.length
   .have ha:vs[i]?=some v:=Vc
    obtain⟨u,hu,rv⟩:=r.get ha;have C:(N++ys)[i]?=some y:=h1;rw[iX (by simp_all)]at C;exact⟨u,rv,.inl ⟨S.par y (cY C),yp (Bu.mp S.nd).1 C hu lus.symm⟩⟩
   .rw[dU (by simp_all),aF]at h2;have C:(N++ys)[i]?=some y:=h1;rw[dU (by simp_all),<-hl]at C;refine ω (hval _ y v C h2) (ε3 λc o u=>θ3 λe1 e2 e3 rv=>?_);refine⟨u,rv,.inr ⟨.inr (S.free y (cY C)),c,e1,o,L _ _ (B.aM c _ (fz _ _ _ e2)).1,e3⟩⟩
  .obtain⟨o,v,_,d,g⟩:=G c (Z y c h);exact⟨v,o,L _ _ g,d⟩
  .show aY D H1 s.heap.objs.size=none
   by_cases m:s.heap.objs.size∈D
   .exact YU m
   .rw[ZJ m];exact B.aM.fresh (aN _)
  .show(vs.map some++cv).length=(N++ys).length;rw[bA,bA,aF,hl,hcv]
 refine PySem.W.kla_codeExpr (j1 (T A xz s _ (hr.deeper _) [] _ _ _ _ I ht) (λu s' hs=>?_) λ_ _ z=>z.elim);obtain⟨v,H',F,rv,q⟩:=hs;exact Pg B G F.os F.bare F.base F.aM rv q
end
def yq(oc:Obj)(ut:Str):Prop:=∃vs t,oc.data=.fields vs/\vs[1]?=some (.str ut t)
def Yy(H:Hp)(P:Aw)(pos:Pos)(ut:Str):Prop:=
 H P=some (.dO #[])\/∃c' oc,H P=some (.dO #[rawInt pos.line,rawInt pos.col,.ref c'])/\H c'=some (WC oc)/\yq oc ut
def Yy.ex{P:Aw}{ut:Str}(h:Yy H P p ut):∃ps,H P=some (.dO ps):=by
 rcases h with h|⟨_,_,h,_⟩<;>exact⟨_,h⟩
structure yY(mg:Ae)(base:Heap):Prop where
 ex:∃bm ob,mg "__builtins__" = some (.ref bm)/\bm≠builtinsNs/\base.get? bm=some ob/\ob.cls=.type "module" /\ ob.dict=some builtinsNs/\ob.data=.plain
def MG(P:Aw)(sn:Pos)(ut:Str)(r:Aw->Value->Obj):TE:=λ_ H Q=>Yy H P sn ut /\
 ∀(f c':Aw)(oc:Obj)(q:Av)(H2:Hp),H f=none->H2 f=some (WC (r c' q))->H2 c'=some (WC oc)->yq oc ut->Yy H2 P sn ut->(∀b o,H b=some o->b≠P->H2 b=some o)->Q (.ref f) H2
def Oi{X:Cx}{P c':Aw}{sn:Pos}{oc fo:Obj}{tk:Nat}(I:aD X C c H s)(B:H P=some (.dO #[]))(J:Heap.ExtBut P s.heap h)(O:s.heap.objs.size<=c')(Z:c'<h.objs.size)(L:h.get? c'=some oc)
  (F:h.get? P=some (PySem.W.tabObj #[rawInt sn.line,rawInt sn.col,.ref c'])) (T:fo.isFreed=false:=by rfl):aD X C c (aA (aA (aA H P (.dO #[rawInt sn.line,rawInt sn.col,.ref c'])) c' (WC oc)) h.objs.size (WC fo)) {s with heap:=h.push fo,toks:=tk}:=by
 have D:=I.aM.fresh O;have Ua:c'≠P:=λe=>Vc
 have Y:aD X C c (aA (aA H P (.dO #[rawInt sn.line,rawInt sn.col,.ref c'])) c' (WC oc)) {s with heap:=h,toks:=tk}:=by
  refine I.un ⟨λb o e n _ _=>J b o (λz=>Vc) e,λb o e n _ _=>⟨o.slots,J b o (λz=>Vc) e⟩,λb o e n _=>?_,λb o e _=>?_,λb xs e=>?_,λb o u e=>?_,λb pz e=>?_⟩ λb u e=>?_
  .rw[Zk ((λe z=>absurd (bH e) (by simp_all)) e),Zk (λz=>Vc)];exact n
  .by_cases r:b=P
   .rw[r];exact⟨_,F⟩
   .exact⟨o,J b o r e⟩
  .rw[Zk (Zo e D),Zk (Yg e B nofun)];exact e
  .rw[Zk (Zo e D),Zk (Yg e B nofun)];exact e
  .by_cases r:b=P
   .subst r;rw[B]at e;cases e;exact⟨#[rawInt _,rawInt _,.ref c'],by rw[Zk Ua.symm,Zb];rfl⟩
   .exact⟨#[],by rw[Zk (Zo e D),Zk r,e];simp⟩
  .by_cases G:b=c'
   .subst G;rw[Zb]at e;cases e;exact qS L
   .rw[Zk G]at e
    by_cases r:b=P
    .subst r;rw[Zb]at e;cases e;exact F
    .rw[Zk r]at e;refine(I.aM b u e).cW (λd v hd q=>J d v ?_ q) (λd q=>?_) λd xs q=>?_
     .lia
     .rw[Zk (Zo q D),Zk (Yg q B nofun)];exact q
     .rw[Zk (Zo q D),Zk (Yg q B nofun)];exact q
 exact Y.laid (λb u e=>aW _ e) (aN _) (qS (bX _ T))
section
variable {X:Cx}{tz:Arguments}{body:Ax}{wn:Scope}{sn:Pos}{c P:Aw}{ut:Str}
abbrev kT (X:Cx) (ut:Str) (tz:Arguments) (body:Ax) (wn:Scope):Aw->Value->Obj:=λc' q=>PySem.W.kla_obj "<lambda>" ut tz body wn (yf X.env.cells wn.names []) ((X.mg "__name__").getD .none) c' q
def V1 (r:X.env.code=.ref c) (C:PySem.W.CodeHd X.base c P) (B:yY X.mg X.base) (hdef:defaultsOf tz X.env=([],[])) (hq:X.env.qual ++ "<lambda>" = ut)
  (L:∀y∈wn.names,y.2=.free->X.env.scope.names.lookup y.1=some .cell):
  PE X (.Lambda tz body wn sn) (MG P sn ut (kT X ut tz body wn)):=by
 rintro zn s σ H Q I ⟨F,hq2⟩;refine PySem.W.kla_eval hdef ?_;rw[hq];have Y:=JT λy hy h=>I.ok.has y.1 (.inl (L y hy h));have hg:=I.mod.glob.keeps I.bk;obtain⟨pz,Ua⟩:=F.ex;have O:X.base.get? P=none:=by
  cases e:X.base.get? P with
  |none=>rfl
  |some o=>rw[(I.bs P o e).2]at Ua;cases Ua
 have hgP:mainGlobals≠P:=λe=>by
  obtain⟨o,es,ep,g,_⟩:=I.mod.glob;rw[e,O]at g;cases g
 have hb:s.heap.BuiltinsAt X.mg P:=by
  refine ω B.ex (ε2 λbm ob=>θ5 λb1 b2 b3 b4 b5 b6=>?_);refine⟨bm,ob,b1,b2,λe=>?_,(λe=>Vc),I.bk _ _ b3,b4,b5,b6⟩;obtain⟨o,es,ep,g,T,_⟩:=I.mod.glob;rw[<-e,b3]at g;cases g;rw[b6]at T;cases T
 rcases F with F|⟨c',oc,F,hc',D⟩
 .have hP:=I.aM P _ F;refine PySem.W.kla_makeFunction Y I.ok.glob hg r (C.keeps I.bk) hP trivial U hgP hb λc' q h' tk hx J G Z htb=>?_;revert Z;refine ε4 λc₂ oc vs t=>θ3 λe2 D T hv=>?_;cases e2;have cn:=I.aM.fresh J;have cP:c'≠P:=λe=>Vc
  have hsz:=cC J (bL G);have I2:=Oi (fo:=kT X ut tz body wn c' q) (tk:=tk) I F hx J G D htb;have fn:=I.aM.fresh hsz;have fc:=cI G;refine⟨.ref _,_,I2,U,hq2 _ c' oc q _ fn Zb ?_ ⟨vs,t,T,hv⟩ (.inr ⟨c',oc,?_,?_,⟨vs,t,T,hv⟩⟩) λb o e hbP=>?_⟩
  .rw[Zk fc];exact Zb
  .rw[Zk (Zo F fn),Zk cP.symm];exact Zb
  .rw[Zk fc];exact Zb
  .rw[Zk (Zo e fn),Zk (Zo e cn),Zk hbP];exact e
 .have hP:=I.aM P _ F;have hf:codeAmong sn (#[rawInt sn.line,rawInt sn.col,.ref c']).toList=some (.ref c'):=by
   show(if((sn.line:Int) == sn.line&&(sn.col:Int) == sn.col)=true then some _ else _)=_;rw[nY,nY];rfl
  refine PySem.W.kla_makeFunctionHit Y I.ok.glob hg r (C.keeps I.bk) hP trivial hf hb λq h' tk hk hsz=>?_;have I2:=I.laid (t':=tk) (o:=WC (kT X ut tz body wn c' q)) (λb u e=>aW _ (hk b u e)) hsz (qS (bX _ U));have fn:=I.aM.fresh hsz;have sm:∀b o,H b=some o->aA H _ (WC (kT X ut tz body wn c' q)) b=some o:=λb o e=>by rw[Zk (Zo e fn)];exact e
  exact⟨.ref _,_,I2,U,hq2 _ c' oc q _ fn Zb (sm _ _ hc') D (.inr (ι2 c' oc ⟨sm _ _ F,sm _ _ hc',D⟩)) λb o e _=>sm b o e⟩
end
def aS(cells:List (Str×Aw)):List Aw:=(cells.map (·.1)).filterMap λx=>cells.lookup x
def Xc{c:Aw}:c∈aS cells↔∃x,cells.lookup x=some c:=by
 unfold aS;rw[Na];constructor
 .grind
 .rintro⟨x,h⟩;exact⟨x,bB.mpr ⟨(x,c),oJ h,U⟩,h⟩
def pK(X:Cx)(s:As)(H:Hp):Hp:=λb=>if b∈aS X.env.cells then(s.heap.get? b).map WC else H b
section
variable {X:Cx}{zn:Ac}{σ:St}{H:Hp}{s:As}
theorem yZ(I:aD X zn σ H s):∀d∈aS X.env.cells,∃o v,pK X s H d=some (WC o)/\o.data=.cell v/\s.heap.get? d=some o:=λd m=>by
 obtain⟨y,B⟩:=Xc.mp m;obtain⟨v,o,q,r⟩:=I.cell y d B;exact⟨o,v,by unfold pK;rw[aK m,q];rfl,r,q⟩
def GQ{d:Aw}(m:d∉aS X.env.cells):pK X s H d=H d:=aG m
def Wu(I:aD X zn σ H s):∀d∈aS X.env.cells,H d=none:=λd m=>let⟨y,hy⟩:=Xc.mp m;I.cL y d hy
theorem xY(I:aD X zn σ H s):∀b o,H b=some o->pK X s H b=some o:=λb o e=>by
 rw[GQ λm=>by rw[Wu I b m]at e;cases e];exact e
def zD{g:Aw}{gd:Ao}{sp:Sp}{Q:VK}{vs:A8}(F:g7 X.prog X.w X.K X.mg X.base lR k g gd N sp)(hr:Jk k X.A)(O:c5 X.K gd N [])(hfn:X.fn=λ_=>true)
  (I:aD X zn σ H s) (rv:aH vs G) (hsp:sp vs (pK X s H) (λv H3=>Q v (aY (aS X.env.cells) H3)) E0):Ba X (call (.ref g) G) (EP X zn σ Q) X.xe s:=by
 have T:=yZ I;have hn:=Wu I;have C:=xY I;have nloc:∀d∈aS _,d≠X.env.locals:=λd m e=>by
  obtain⟨o,v,_,hd,g⟩:=T d m;obtain⟨m',⟨o',es,ep,Y,hd',_⟩,_⟩:=I.loc;rw[e,Y]at g;cases g;rw[hd']at hd;cases hd
 have D:∀d∈aS _,X.s₀.heap.objs.size<=d:=λd m=>by
  obtain⟨y,hy⟩:=Xc.mp m;exact I.ok.CK y d (by rw[hfn]) hy
 have nfr:∀d∈aS _,d∉mT X.stack:=λd m z=>by
  rcases bJ.mp (I.iQ d z)with e|e
  .exact nloc d m e
  .obtain⟨_,o,g,_⟩:=I.ok.cR.mem e;exact absurd (bH g) (FI.mpr (D d m))
 have hok3:cO X.prog X.w (pK X s H) s.heap:=λb o e=>by
  by_cases m:b∈aS X.env.cells
  .obtain⟨ob,v,e',hd,g⟩:=T b m;rw[e']at e;cases e;exact qS g
  .rw[GQ m]at e;exact(I.aM b o e).cW (λ_ _ _ q=>q) (λd q=>C _ _ q) λd xs q=>C _ _ q
 have e0:De X.prog X.w X.K X.mg X.base X.A X.stack s (pK X s H):=by
  have z:=I.AE;refine⟨z.frames,z.mod,λb o e=>⟨(z.bs b o e).1,?_⟩,z.nH,z.cR,λb O=>?_,hok3,z.bare⟩
  .rw[GQ λm=>absurd (bH e) (FI.mpr (cC I.ok.nH (D b m)))];exact(z.bs b o e).2
  .rw[GQ λm=>nfr b m O];exact z.oT b O
 refine wpAny_call (BJ (F.run X.A X.stack s _ _ G vs _ _ hr e0 (by simpa using O s G I.fT (by rw[dW,<-rv.length];exact F.len _ _ _ _ hsp)) rv hsp) λr s' hq=>?_);cases r with
 |error e=>exact hq.elim
 |ok fl=>
  cases fl with
  |next=>exact False.elim hq
  |brk=>exact False.elim hq
  |cont=>exact False.elim hq
  |ret uu=>
   revert hq;refine ε2 λv H4=>θ5 λos Z un L rv4 q4=>?_;have J:∀d∈aS _,∃o,H4 d=some _/\s.heap.get? d=some o/\s'.heap.get? d=some o:=λd m=>by
    obtain⟨o,v,e,hd,g⟩:=T d m;have e4:=un.dI d o _ e;exact⟨o,e4,g,(L d _ e4).1⟩
   have B:∀d,H d=none->d∉aS _->pK X s H d=none:=λd n m=>by rw[GQ m];exact n
   have nm:∀d o,H d=some o->d∉aS X.env.cells:=λd o e m=>Vc
   refine⟨v,_,I.tR os ⟨λd o e n O Ua=>?_,λd o e n O Ua=>?_,λd o e n Ua=>?_,λd o e Ua=>un.there d o e Ua,λd xs e=>?_,λd o u e=>?_,λd pz e=>?_⟩ (gS L λd m=>let⟨o,e,_⟩:=J d m;⟨o,e⟩) Z (λ_ z=>nomatch z),rv4,q4⟩
   .by_cases m:d∈aS X.env.cells
    .obtain⟨o',_,g,Y⟩:=J d m;rw[e]at g;cases g;exact Y
    .exact un.keep d o e (B d n m) O Ua
   .by_cases m:d∈aS X.env.cells
    .obtain⟨o',_,g,Y⟩:=J d m;rw[e]at g;cases g;exact⟨o.slots,Y⟩
    .exact un.slot d o e (B d n m) O Ua
   .by_cases m:d∈aS X.env.cells
    .exact YU m
    .rw[ZJ m];exact un.free d o e (B d n m) Ua
   .rw[ZJ (nm d _ e)];exact un.cB d xs (C _ _ e)
   .rw[ZJ (nm d _ e)];exact un.dI d o u (C _ _ e)
   .rw[ZJ (nm d _ e)];exact un.fN d pz (C _ _ e)
def kU{wn:Scope}{ys:Ai}{is:Aj}{N0:Ai}(I:aD X zn σ H s)(B:∀y∈wn.names,y.2=.free->X.env.scope.names.lookup y.1=some .cell)(F:∀y∈ys,wn.names.lookup y=some .free)(hN:∀q∈ys.zip is,X.N[q.2]?=some q.1)(J:ys.length=is.length):
  ∀(i:Nat)(y:Str)(v:V),ys[i]?=some y->(is.map λi=>(σ[i]?).getD none)[i]?=some (some v)->∃c o u,(yf X.env.cells wn.names []).lookup y=some c/\pK X s H c=some (WC o)/\o.data=.cell (some u)/\aI v u:=by
 intro i y v h1 h2;have hcl:∀y d,(yf _ _ []).lookup y=some d->X.env.cells.lookup y=some d:=
  GH (λy hy h=>I.ok.has y.1 (.inl (B y hy h))) λ_ _ z=>by cases z
 rw[bG]at h2;cases hj:is[i]? with
 |none=>rw[hj]at h2;cases h2
 |some j=>
  have G:σ[j]?=some (some v):=by
   grind
  have hz:(y,j)∈ys.zip is:=by
   obtain⟨a1,e1⟩:=bW.mp h1;obtain⟨a2,e2⟩:=bW.mp hj;rw[<-e1,<-e2,<-LZ (h:=by simp_all)];exact dZ _
  have O:=F y (cY h1);have T:X.env.kindOf y=some .cell:=B _ (OK O) rfl;obtain⟨m,hm',hl⟩:=I.loc;obtain⟨u,r,l⟩:=hl j y v (hN _ hz) G (.inr (.inl T));rcases l with⟨Ua,_⟩|⟨_,d,l2,Z⟩
  .rw[T]at Ua;cases Ua
  .obtain⟨D,C⟩:=JU (cells:=X.env.cells) (acc:=[]) O;have e:D=d:=(by simp_all)
   subst e;obtain⟨o,ho,Y⟩:=Z;refine ω (yZ I D (Xc.mpr ⟨y,l2⟩)) (ε2 λo' v'=>θ2 λe' _ L=>?_);rw[ho]at L;cases L;exact ι3 D o u ⟨C,e',Y,r⟩
def Znm{P:Aw}{sn:Pos}{ut:Str}(I:aD X zn σ H s)(T:Yy H P sn ut)(D:Z8 (pK X s H) q):Yy (aY (aS X.env.cells) q) P sn ut:=by
 have out:∀b o,H b=some o->aY _ q b=some o:=λb o e=>by
  rw[ZJ (λm=>by rw[Wu I b m]at e;cases e)];exact D _ _ (xY I _ _ e)
 rcases T with z|⟨F,r,B,G,C⟩
 .exact .inl (out _ _ z)
 .exact .inr ⟨F,r,out _ _ B,out _ _ G,C⟩
end
structure QV(S0 wn:Scope)(N0 ps ys:Ai)(is:Aj):Prop where
 sc:Q4 wn ps ys
 free:∀y∈wn.names,y.2=.free->S0.names.lookup y.1=some .cell
 FT:∀q∈ys.zip is,N0[q.2]?=some q.1
 len:ys.length=is.length
section
variable {X:Cx}{tz:Arguments}{body a:Ax}{wn:Scope}{sn p pos:Pos}{c P g:Aw}{ut x:Str}{k kl:Nat}{gd:Ao}{pg ps ys:Ai}{is:Aj}{sp:Sp}{ta te:TE}
def GR{b:Aw}{u:HO}(r:∀c∈D,∃o,H c=some (WC o))(s:Z8 H q)(h:q b=some u)(B:∀o,u≠WC o):aY D q b=some u:=by
 rw[ZJ λm=>?_]
 .exact h
 .obtain⟨o,e⟩:=r b m;rw[s _ _ e]at h;exact B o (Option.some.inj h).symm
def Yy.other{P:Aw}{ut:Str}(h:Yy H P y ut)(q:P≠f)(r:∃ps,H f=some (.dO ps))(s:∀b o,H b=some o->b≠f->H' b=some o):Yy H' P y ut:=by
 rcases h with h|⟨c,oc,h1,h2,B⟩
 .exact .inl (s _ _ h q)
 .obtain⟨ps,e⟩:=r;exact .inr ⟨c,oc,s _ _ h1 q,s _ _ h2 (Yg h2 e nofun),B⟩
def Yy.same{P:Aw}{pos:Pos}{ut:Str}(h:Yy H P pos ut)(s:Z8 H H'):Yy H' P pos ut:=by
 rcases h with h|⟨c,oc,h1,h2,q⟩
 .exact .inl (s _ _ h)
 .exact .inr ⟨c,oc,s _ _ h1,s _ _ h2,q⟩
def Bz(q:Aq)(w:Au)(K:Af)(mg:Ae)(wv:Heap)(k:Nat)(i:Nat)(t:TA):TE:=λσ H Q=>∃(f:Aw)(τ:Sp),σ[i]?=some (ac f)/\Xi q w K mg wv k f H τ /\
 t σ H λvs H1=>qT H H1/\τ vs H1 Q E0
theorem RB{P:Aq}{mg:Ae}{wv:Heap}{k:Nat}{τ:Sp}(c:Xi P w K mg wv k f H τ)(B:qT H q)(r:cO P w q h):PySem.W.FnAt f h:=by
 obtain⟨o,fd,e,d⟩:=c.1;have g:=(r f _ (B _ _ _ e)).1;obtain⟨oc,od,D,C⟩:=o;cases d;exact ι4 oc od fd C g
def Zi8(i:Nat){t:TA}(Z:Jk k X.A)(ha:QA X (e::E) t)(hN:X.N[i]?=some x:=by rfl)(hv:IH X.env.scope x:=by first|exact Or.inl U|exact Or.inr (Or.inl U)|exact Or.inr (Or.inr U))
  (B:(x == ("__debug__" : Str))=false:=by decide) (J:(x == ("__classdict__" : Str))=false:=by decide) (he:starEach (e::E) X.env=(false,eval e X.env)::starEach E X.env:=by rfl) (D:(backTo pos (starEach E X.env)).any (·.1)=false:=by rfl):
  QE X (.Call (.Name x p) (e::E) [] pos) (Bz X.prog X.w X.K X.mg X.base k i t):=by
 refine⟨?_⟩;refine λzn s σ H Q I=>ε2 λf τ=>θ2 λL O ht=>?_;refine sS (aR (RQ hN hv B J zn s σ H (λv H'=>v=.ref f/\H'=H) I ⟨.ref f,L,U,U⟩) λu s1 ⟨v,H',T,r,C,hH⟩=>?_);subst C;subst hH;cases r;refine PySem.W.callWith_F (RB O (qT.refl _) T.aM) (aR (ha.out pos zn s1 σ H' _ T ht) λus s2 ⟨vs,H1,F,Y,Ua,G⟩=>⟨RB O Ua F.aM,(wpAny_call (BJ (O.2 X.A X.stack s2 H1 us vs Q E0 Ua Z F.AE Y G) λr s' q=>?_))⟩) he D;cases r with
 |error e=>exact q.elim
 |ok fl=>
  cases fl with
  |ret u=>exact F.after q
  |next=>exact False.elim q
  |brk=>exact False.elim q
  |cont=>exact False.elim q
end
theorem Sa{mg mb:Ae}{CX:mR}{k:Nat}{fd:Ao}{sp:Sp}{B:As}{vs:Ag}{ns:Ak}{C:List (Aw×Aw)}
  (KX:K.In B.heap) (hns:B.heap.Ns mainGlobals mg) (Y:B.heap.Ns builtinsNs mb) (hbb:∀x:Str,x ≠ "__name__" ->mb x=bootBuiltins x) (hlim:B.heap.NoLimit) (hg:B.gens=#[])
  (ha:B.heap.get? a=some {cls:=.type "list",data:=.seq vs.toArray}) (hi:IntsAre vs ns) (hl:ns.length<=sizeLine) (hr:Jk k callerA)
  (hT:PySem.W.TabsAt C B.heap) (hKt:PySem.W.noTabs K=true) (hbm:yY mg B.heap)
  (F:∀wv:Heap,K.In wv->wv.Ns mainGlobals mg->(∀q∈C,PySem.W.CodeHd wv q.1 q.2)->yY mg wv->g7 P w K mg wv CX k f fd [x] sp) (hbind:∀(s:As)(u:Av),BindsTo s fd ⟨[u],[]⟩ [(x,u)])
  (hsp:∀H:Hp,(∀q∈C,H q.2=some (.dO #[]))->aB K H a (ns.map V.int)->sp [.ref a] H (λv _=>v=.bl true) λ_ _ _=>False)
  (hCX:∀H e s',CX [] H B (λ_ _ _=>False) e s'->False):
  codeAny (model P w) callerA (.call (.ref f) ⟨[.ref a],[]⟩) (λr s'=>r=.ok (.ret (.bool true))/\OldK B.heap s'.heap/\s'.os=B.os/\AllBare s'.gens) B:=by
 have rv:=zt hi;have lenV:=hi.length;have D:∀b,b∈C.map (·.2)->B.heap.get? b=some (PySem.W.tabObj #[]):=λb m=>by
  obtain⟨q,J,rfl⟩:=bB.mp m;exact(hT q J).2
 have aT:a∉C.map (·.2):=λm=>by
  have e:=D a m;rw[ha]at e;cases e
 have T:∀H:Hp,(∀q∈C,H q.2=some (.dO #[]))->(∀b,H b=none\/(b=a/\∃o xs,H b=some (.iL o (.lst xs)))\/(b∈C.map (·.2)/\H b=some (.dO #[])))->aB K H a (ns.map V.int)->cO P w H B.heap->(H a≠none->K.lookup a=none)->
   codeAny (model P w) callerA (.call (.ref f) ⟨[.ref a],[]⟩) (λr s'=>r=.ok (.ret (.bool true))/\OldK B.heap s'.heap/\s'.os=B.os/\AllBare s'.gens) B:=by
  intro H hTb hO hS aM hK;have G:∀{b:Aw} {o:Obj},B.heap.get? b=some o->H b=none->(sR B.heap H).get? b=some o:=λe n=>RX e n;have noA:∀{b:Aw} {o:Obj},B.heap.get? b=some o->(∀Z n,o.data≠.seq Z n)->o.cls≠.none->H b=none:=λ{b o} e d1 d2=>by
   rcases hO b with z|⟨rfl,_⟩|⟨m,_⟩
   .exact z
   .rw[ha]at e;cases e;exact absurd U (d1 _ _)
   .rw[D b m]at e;cases e;exact absurd U d2
  have O:∀{b:Aw} {m:Ae},B.heap.Ns b m->(sR B.heap H).Ns b m:=λ{b m} ⟨o,es,ep,e,d,r⟩=>ι3 o es ep ⟨G e (by
   grind),d,r⟩
  have hKb:=λb o e=>G (KX b o e) (by
   rcases hO b with z|⟨rfl,ob,xs,z⟩|⟨m,_⟩
   .exact z
   .rw[hK (by rw[z];simp)]at e;cases e
   .have g:=KX b o e;rw[D b m]at g;cases g;have h2:=mK.mp hKt (b,_) (PySem.W.mem_of_lookupK e);exact absurd (h2) eH)
  have hM:Mod K mg (sR B.heap H):=⟨hKb,O hns,⟨mb,O Y,hbb⟩,let⟨mc,h1,h2⟩:=hlim;⟨mc,O h1,h2⟩⟩;have hB:yY mg (sR B.heap H):=by
   refine ω hbm.ex (ε2 λbm ob=>θ5 λb1 b2 b3 b4 b5 b6=>?_);exact⟨bm,ob,b1,b2,G b3 (noA b3 (λZ n z=>by rw[b6]at z;cases z) (λz=>by rw[b4]at z;cases z)),b4,b5,b6⟩
  have hC:∀q∈C,PySem.W.CodeHd (sR B.heap H) q.1 q.2:=λq J=>by
   refine ω ((hT q J).1) (ε9 λo vs' file tf flags tg inF text tt=>θ3 λe1 r1 r2 r3=>?_);exact ι9 o vs' file tf flags tg inF text tt ⟨G e1 (noA e1 (λZ n z=>by rw[r2]at z;cases z) (λz=>by rw[r1]at z;cases z)),r1,r2,r3⟩
  refine BJ ((F _ hKb (O hns) hC hB).run callerA [] B H ⟨[.ref a],[]⟩ [.ref a] [.ref a] _ _ hr ⟨U,hM,λb o e=>Ti e,HJ (PySem.W.hideAll_size _ _),trivial,λb Y=>absurd (show b∈([]:List Aw)from Y) Vd,aM,.of_eq hg⟩ (hbind B (.ref a)) (.cons U .nil) (hsp H hTb hS)) λr s' h=>?_;cases r with
  |error e=>exact(hCX H e s' h).elim
  |ok fl=>
   cases fl with
   |next=>exact False.elim h
   |brk=>exact False.elim h
   |cont=>exact False.elim h
   |ret u=>
    revert h;refine ε2 λv H'=>θ5 λos bare un Ua r' q=>?_;subst q;obtain rfl:u=Value.bool true:=r';have all:∀b o,B.heap.get? b=some o->s'.heap.get? b=some o\/∃I,b∈C.map (·.2)/\o=PySem.W.tabObj #[]/\s'.heap.get? b=some (PySem.W.tabObj (#[]++I)):=λb o e=>by
     rcases hO b with z|⟨_,ob,xs,z⟩|⟨m,z⟩
     .exact .inl (un.keep b o e z (by intro z;exact absurd (show b∈([]:List Aw)from z) Vd) Vd)
     .obtain⟨e1,_⟩:=aM b _ z;obtain⟨e2,_⟩:=Ua b _ (un.dI b ob _ z);rw[e]at e1;cases e1;exact .inl e2
     .obtain⟨I,z2⟩:=un.fN b _ z;rw[D b m]at e;cases e;exact .inr ⟨I,m,U,Ua b _ z2⟩
    refine⟨U,⟨λb o e=>?_,λb o e=>?_⟩,os,bare⟩
    .rcases all b o e with z|⟨I,m,rfl,z⟩
     .exact .inl z
     .obtain⟨q,J,rfl⟩:=bB.mp m;exact .inr (.inl ⟨((hT q J).1.tab (hT q J).2).isCodeTable,U,#[],I,U,z⟩)
    .rcases all b o e with z|⟨I,_,_,z⟩
     .exact⟨_,z⟩
     .exact⟨_,z⟩
 have tm:∀q∈C,q.2∈C.map (·.2):=λq J=>oa J;cases hk:K.lookup a with
 |some o=>
  have e:=KX a o hk;rw[ha]at e;cases e;refine T (λb=>if b∈C.map (·.2)then some (.dO #[])else none) (λq J=>aK (tm q J)) (λb=>?_) (.inr ⟨_,vs.toArray,_,hk,U,U,U,(by simp_all),by simpa using rv⟩) (λb u z=>?_) (λz=>absurd (aG aT) z)
  .by_cases m:b∈C.map (·.2)
   .exact .inr (.inr ⟨m,aK m⟩)
   .exact .inl (aG m)
  .by_cases m:b∈C.map (·.2)
   .have L:=(aK m).symm.trans z;cases L;exact D b m
   .have L:=(aG m).symm.trans z;cases L
 |none=>
  refine T (λb=>if b∈C.map (·.2)then some (.dO #[])else if b=a then some _ else none) (λq J=>aK (tm q J)) (λb=>?_) (.inl (.inr ⟨{cls:=.type "list",data:=.seq vs.toArray},(aG aT).trans (aK U)⟩)) (λb u z=>?_) λ_=>hk
  .grind
  .by_cases m:b∈C.map (·.2)
   .have L:=(aK m).symm.trans z;cases L;exact D b m
   .by_cases Y:b=a
    .have L:=((aG m).trans (aK Y)).symm.trans z;cases L;subst Y;exact⟨ha,(by simp_all),vs,_,rv,ha⟩
    .have L:=((aG m).trans (aG Y)).symm.trans z;cases L
def oR{l:PySem.W.OpenLaw}{k:Nat}{XP:(Ae)->Heap->Prop}{YP:Au->Heap->Prop}{d:DefRec}{K:Params->PySem.W.Frag}{CX:Au->mR}{sp:Au->Sp}{q:List (Aw×Aw)}
  (hn:l.most=some n) (hn2:n<=sizeLine) (O:d.params.defaults=[]) (hr:Jk k callerA)
  (hY:∀(w:Au)(h:Heap),YP w h->(K w.params).In h)
  (J:∀(w:Au)(D:ExcName->Option Av)(mg mb:Ae)(h:Heap),Top P (PySem.W.looseW P N) D mg mb h->(K w.params).In h->PySem.W.TabsAt q h) (hKt:∀w:Au,PySem.W.noTabs (K w.params)=true)
  (F:∀(w:Au)(mg:Ae)(L:Aw)(h:Heap),(K w.params).In h->h.Ns mainGlobals mg->mg d.name=some (.ref L)->
   ∃fd:Ao,(∀(s:As)(u:Av),BindsTo s fd ⟨[u],[]⟩ [(x,u)]) /\
    ∀wv:Heap,(K w.params).In wv->wv.Ns mainGlobals mg->(∀P∈q,PySem.W.CodeHd wv P.1 P.2)->yY mg wv->g7 l.prog w (K w.params) mg wv (CX w) k L fd [x] (sp w))
  (hsp:∀(w:Au)(H:Hp)(a:Aw)(ns:Ak),ns.length<=n->(∀P∈q,H P.2=some (.dO #[]))->aB (K w.params) H a (ns.map V.int)->sp w [.ref a] H (λv _=>v=.bl true) λ_ _ _=>False)
  (hCX:∀(w:Au)(H:Hp)(s:As)(e:Av)(s':As),CX w [] H s (λ_ _ _=>False) e s'->False):
  PySem.W.WalkO P N XP YP l.row.toRowW d [] (λf vs=>PySem.call f vs):=by
 refine Att.i8 hn O λw s₀ C mg mb L o pm cd doc a vs ns G Y ho hd hcd hmg I B r hg=>?_;have Z:=hY w _ Y;obtain⟨fd,hb,hF⟩:=F w mg L _ Z G.T.g hmg;exact Sa Z G.T.g G.T.b G.T.builtins G.T.nolimit hg I B (cC r hn2) hr (J w _ mg mb _ G.T Z) (hKt w) ⟨G.T.bmain⟩ hF hb (λH Ua hS=>hsp w H a ns r Ua hS) λH e s'=>hCX w H C e s'
theorem tS.Q1{mg:Ae}{wv:Heap}{ut:Str}{st:Ay}{fd:Ao}{ps:Ai}{k:Nat}{sp:Sp}(F:tS K x ut st f fd)(S:Zv N ps (Zj st))(len:∀vs H Q E,sp vs H Q E->vs.length=ps.length)
  (r:∀(A:Ar)(xz:List Env)(s:As)(H:Hp)(vs:A8)(Q:VK)(E:XK),Jk k (A.deeper (envOfC ut (Zj st) s.heap.objs.size f fd.code))->sp vs H Q E->
   ∃t,pZ (pX lR P w K mg wv N ut (Zj st) f fd.code A xz s H E).tX (Xr st) t/\t {nx:=λ_ H'=>Q .bN H',rt:=Q} (start N vs) H):g7 P w K mg wv lR (k+1) f fd ps sp:=by
 refine ω F.ex (ε9 λoc od kV L O T D ct I=>θ2 λzq0 G B=>?_);subst zq0;refine Qj G B S len λA xz s H vs Q E J C=>?_;obtain⟨t,h,q⟩:=r A xz s H vs Q E J C;exact⟨t,h.tX,q⟩
def Vz{x y:V}(r:aH [x,y] G):∃a b,G=[a,b]/\aI x a/\aI y b:=by
 cases r with
 |cons h1 t=>
  cases t with
  |cons h2 t=>
   cases t;exact⟨_,_,U,h1,h2⟩
structure HY(X:Cx)(pos:Pos)(keys:List (Option Ax))(values:An)(trs:List (TE×TE)):Prop where
 out:PPs X pos keys values trs
def W4:HY X p [] [] []:=⟨λzn s σ H Q I h=>pairTrees_nil_walk ⟨[],H,I,.nil,h⟩⟩
theorem Zja{k v:Ax}{ks:List (Option Ax)}{vs:An}{tk:TE}{q:List (TE×TE)}(hk:QE X k tk)(Y:QE X v d)(F:HY X p ks vs q):HY X p (some k::ks) (v::vs) ((tk,d)::q):=⟨λzn s σ H Q I h=>
 pairTrees_cons_walk (aR (hk.out zn s σ H _ I h) λu G ⟨x,H1,C,L,O⟩=>aR (Y.out zn G σ H1 _ C O) λw2 s2 ⟨y,H2,D,Ua,T⟩=>
  aR (F.out zn s2 σ H2 _ D T) λws s3=>ε2 λps B=>θ2 λJ r Z=>⟨_,B,J,.cons ⟨L,Ua⟩ r,Z⟩)⟩
def Zno{r:List (TE×TE)}(h:HY X p keys E r)(B:keys.all (·.isSome)=true)(hl:keys.length=E.length)(Z:keys≠[])(D:keys.length<=15):QE X (.Dict keys E p) (FW r):=⟨by
 intro zn s σ H Q I q;refine wpAny_Dict_walk (knd:=Yt X.prog X.w) B hl Z D (aR (h.out zn _ σ _ _ (I.laid (λ_ _ q=>aW _ q) (aN _) (yT s.heap I.big)) (q _ (I.aM.fresh (aN _)))) λws s2 ⟨ps,H2,F,C,e,wl,ep,lk,Y⟩=>?_);subst ep;obtain⟨O,c,J⟩:=yk C;obtain⟨z,L,Ua,G,dd⟩:=Iw F.aM e;cases G;refine⟨O,c,dd,λh' dd' hs=>⟨.ref _,_,?_,U,Y⟩⟩;have T:(yj [] wl).length<=sizeLine:=by
  have h1:=GJ wl [];rw[nL]at h1;rw[sI];lia
 exact z6 F (by rw[e];exact True.intro) hs (let⟨q,_,_,hq,_⟩:=dd';⟨q,hq⟩) (LN T L (J.merge .nil) dd')⟩
end L2
namespace ZpT
def zO (q:Av) (b:Bool) (TI TO:Aw):Obj:={cls:=.type "zip",dict:=none,data:=.fields #[q,.bool b,.bool false,.ref TI,.ref TO],slots:=#[]}
def F0(q:Av):Prop:=q=.none\/∃T:Aw,q=rawInt T
structure Ap(z TI TO i1 i2:Aw):Prop where
 TIz:TI≠z
 TOz:TO≠z
 i1z:i1≠z
 i2z:i2≠z
 TITO:TI≠TO
 TIi1:TI≠i1
 TIi2:TI≠i2
 TOi1:TO≠i1
 TOi2:TO≠i2
 i12:i1≠i2
section
variable {ww:Aq}{w:Au}{A:Ar}{E:Ab}{s:As}
def alive{Q:Option Obj->Shared->Prop}(h:Q (s.heap.get? a) s):A9 ww w A (loadIfAlive a) Q E s:=λΓ p _=>h
def ND{z:Aw}{Q:Bool->Shared->Prop}(C:s.heap.get? z=some (zO u j a f))(G:F0 u)
  (h:∀r h' F,h'.get? z=some (zO u F a f)->Heap.SameBut z s.heap h'->Q r {s with heap:=h'}):A9 ww w A (Builtin.SmallTypes.ownedTupleIsFree (.ref z)) Q E s:=by
 refine ab (dP C U U ?_);rcases G with rfl|⟨T,rfl⟩
 .exact aJ (h true s.heap j C ⟨U,λ_ _=>U⟩)
 .refine ab (alive ?_);cases hT:s.heap.get? _ with
  |none=>exact aJ (h true s.heap j C ⟨U,λ_ _=>U⟩)
  |some o=>
   refine ab (dP C U U ?_);cases j
   .refine ab (nC C Vd λD B q=>aJ (h false D true B q))
   .exact aJ (h false s.heap true C ⟨U,λ_ _=>U⟩)
end
structure Of(z TO i1 i2 l:Aw):Prop where
 z:l≠z
 o:l≠TO
 i:l≠i1
 j:l≠i2
structure St(b1 b2:Bool)(z TI TO i1 i2 l1 l2:Aw)(k1 k2:Nat)(h:Heap):Prop where
 z:∃f0 fb,h.get? z=some (zO f0 fb TI TO)/\F0 f0
 I:IsPair h TI (.ref i1) (.ref i2)
 O:∃a b,IsPair h TO a b
 n1:ZU b1 h i1 l1 k1
 n2:ZU b2 h i2 l2 k2
section
variable {ww:Aq}{w:Au}{A:Ar}{E:Ab}{s:As}
def item{z TO i1 i2 l1 l2:Aw}{xs ys:Ah}{x y:Av}(D:Ap z f TO i1 i2)(D1:Of z TO i1 i2 l1)(D2:Of z TO i1 i2 l2)
  (S:St b1 b2 z f TO i1 i2 l1 l2 n L s.heap) (q1:SeqAt b1 s.heap l1 xs) (q2:SeqAt b2 s.heap l2 ys) (hx:xs[n]?=some x) (hy:ys[L]?=some y)
  (hQ:∀h',St b1 b2 z f TO i1 i2 l1 l2 (n+1) (L+1) h'->IsPair h' s.heap.objs.size x y->
   (∀c o,c≠z->c≠TO->c≠i1->c≠i2->s.heap.get? c=some o->h'.get? c=some o)->Q (.ref s.heap.objs.size) {s with heap:=h'}):
  A9 ww w A (Builtin.«zip.__next__» ⟨[.ref z],[]⟩) (λfin s'=>∃v,fin=.done (.ret v)/\Q v s') E s:=by
 obtain⟨⟨f0,fb,hz,hf⟩,hTI,⟨a,b,hTO⟩,n1,n2⟩:=S;show wpAny _ _ (field (.ref z) 2 >>= _) _ _ _;refine ab (dP hz U (x:=.bool false) U ?_);refine ab (dP hz U (x:=.ref f) U ?_);refine ab (lH hTI U ?_);refine ab (ND hz hf λr h0 fb' hz0 T=>?_);have hz0':h0.get? z=some (zO f0 fb' f TO):=hz0;have hTO0:IsPair h0 TO a b:=T.extBut _ _ D.TOz hTO;have n10:ZU b1 h0 i1 l1 n:=n1.mv λo e=>T.extBut _ _ D.i1z e;have n20:ZU b2 h0 i2 l2 L:=n2.mv λo e=>T.extBut _ _ D.i2z e;have q10:SeqAt b1 h0 l1 xs:=q1.mv λo e=>T.extBut _ _ D1.z e;have q20:SeqAt b2 h0 l2 ys:=q2.mv λo e=>T.extBut _ _ D2.z e;cases r with
 |true=>
  refine ab (mN ?_);refine ab (dP hz0 U (x:=.ref TO) U ?_);refine ab (nC hz0 Vd λh₁ hz₁ F=>?_);refine ab ?_;refine ab (ab (Hc ?_));refine ab (J0 (n10.mv λo e=>F.extBut _ _ D.i1z e) (q10.mv λo e=>F.extBut _ _ D1.z e) hx λh₂ Y q=>aJ ?_);have hTO₂:IsPair h₂ TO a b:=q.extBut _ _ D.TOi1 (F.extBut _ _ D.TOz hTO0);refine ab (lH hTO₂ U ?_);refine ab (Ky hTO₂ λG hTO₃ B=>?_);refine ab (tT (aJ ?_));refine ab (ab (Hc ?_));refine ab (J0 (n20.mv λo e=>B.extBut _ _ D.TOi2.symm (q.extBut _ _ D.i12.symm (F.extBut _ _ D.i2z e)))
   (q20.mv λo e=>B.extBut _ _ D2.o (q.extBut _ _ D2.i (F.extBut _ _ D2.z e))) hy λh₄ h2₄ J=>aJ ?_)
  have Z:IsPair h₄ TO x b:=J.extBut _ _ D.TOi2 hTO₃;refine ab (lH Z U ?_);refine ab (Ky Z λC I O=>?_);replace I:IsPair C TO x y:=I;refine ab (tT (aJ (aJ ?_)));refine ab (lH I U ?_);refine ab (E4 ?_);have hsz:C.objs.size=s.heap.objs.size:=by rw[O.1,J.1,B.1,q.1,F.1];exact T.1
  have hz₅:C.get? z=some (zO .ellipsis fb' f TO):=O.extBut _ _ D.TOz.symm (J.extBut _ _ D.i2z.symm (B.extBut _ _ D.TOz.symm (q.extBut _ _ D.i1z.symm hz₁)));have hk₅:∀c o,c≠z->c≠TO->c≠i1->c≠i2->s.heap.get? c=some o->C.get? c=some o:=λc o c1 c2 c3 c4 e=>
   O.extBut _ _ c2 (J.extBut _ _ c4 (B.extBut _ _ c2 (q.extBut _ _ c3 (F.extBut _ _ c1 (T.extBut _ _ c1 e)))))
  have h1₅:ZU b1 C i1 l1 (n+1):=Y.mv λo e=>O.extBut _ _ D.TOi1.symm (J.extBut _ _ D.i12 (B.extBut _ _ D.TOi1.symm e));have h2₅:ZU b2 C i2 l2 (L+1):=h2₄.mv λo e=>O.extBut _ _ D.TOi2.symm e;have hzlt:z<C.objs.size:=bH hz₅;refine ab ?_;have hz₆:(C.push {cls:=.type "tuple",data:=.seq #[x,y]}).get? z=some (zO .ellipsis fb' f TO):=aW _ hz₅;refine ab (nC hz₆ Vd λh₇ hz₇ hs₇=>?_);refine nC hz₇ Vd λh₈ hz₈ hs₈=>?_;have up:∀c o,c≠z->C.get? c=some o->h₈.get? c=some o:=λc o c1 e=>hs₈.extBut _ _ c1 (hs₇.extBut _ _ c1 (aW _ e));have hT₈:IsPair h₈ C.objs.size x y:=hs₈.extBut _ _ (rZ hzlt) (hs₇.extBut _ _ (rZ hzlt) (bX _ U));rw[hsz]at hz₈ hT₈;refine aJ ⟨_,U,?_⟩;rw[hsz];exact hQ h₈ ⟨⟨_,_,hz₈,.inr ⟨_,U⟩⟩,up _ _ D.TIz (hk₅ _ _ D.TIz D.TITO D.TIi1 D.TIi2 hTI),⟨_,_,up _ _ D.TOz I⟩,h1₅.mv λo e=>up _ o D.i1z e,h2₅.mv λo e=>up _ o D.i2z e⟩ hT₈ λc o c1 c2 c3 c4 e=>up c o c1 (hk₅ c o c1 c2 c3 c4 e)
 |false=>
  refine ab ?_;refine ab (ab (fV ?_));refine ab (J0 n10 q10 hx λh₂ Y q=>aJ (aJ ?_));refine ab (ab (fV ?_));refine ab (J0 (n20.mv λo e=>q.extBut _ _ D.i12.symm e) (q20.mv λo e=>q.extBut _ _ D2.i e) hy λG h2₃ B=>aJ (aJ (aJ ?_)));refine ab (E4 (hsz:=(show 2<=sizeLine by decide)) (aJ ⟨_,U,?_⟩));have hsz:G.objs.size=s.heap.objs.size:=by rw[B.1,q.1];exact T.1
  have Ua:∀c o,c≠z->c≠i1->c≠i2->s.heap.get? c=some o->G.get? c=some o:=λc o c1 c3 c4 e=>B.extBut _ _ c4 (q.extBut _ _ c3 (T.extBut _ _ c1 e));have zz:G.get? z=some (zO f0 fb' f TO):=B.extBut _ _ D.i2z.symm (q.extBut _ _ D.i1z.symm hz0');have hT:IsPair (G.push {cls:=.type "tuple",data:=.seq #[x,y]}) G.objs.size x y:=bX _ rfl;rw[hsz]at hT ⊢;have up:∀c o,G.get? c=some o->(G.push {cls:=.type "tuple",data:=.seq #[x,y]}).get? c=some o:=λc o e=>aW _ e;exact hQ _ ⟨⟨_,_,up _ _ zz,hf⟩,up _ _ (Ua _ _ D.TIz D.TIi1 D.TIi2 hTI),⟨_,_,up _ _ (Ua _ _ D.TOz D.TOi1 D.TOi2 hTO)⟩,Y.mv λo e=>up _ _ (B.extBut _ _ D.i12 e),h2₃.mv λo e=>up _ _ e⟩ hT λc o c1 c2 c3 c4 e=>up c o (Ua c o c1 c3 c4 e)
end
section
variable {ww:Aq}{w:Au}{A:Ar}{E:Ab}{s:As}
def fin{z TO i1 i2 l1 l2:Aw}{xs ys:Ah}{Q:Fin->Shared->Prop}(hh:A.handled=none)(D:Ap z f TO i1 i2)(D1:Of z TO i1 i2 l1)(D2:Of z TO i1 i2 l2)
  (S:St b1 b2 z f TO i1 i2 l1 l2 n L s.heap) (q1:SeqAt b1 s.heap l1 xs) (q2:SeqAt b2 s.heap l2 ys) (hend:xs[n]?=none\/ys[L]?=none)
  (hE:∀h' e,(∀c o,c≠z->c≠TO->c≠i1->c≠i2->s.heap.get? c=some o->h'.get? c=some o)->(∃o,h'.get? e=some o/\o.cls=.type "StopIteration")->E (.ref e) {s with heap:=h'}):
  A9 ww w A (Builtin.«zip.__next__» ⟨[.ref z],[]⟩) Q E s:=by
 obtain⟨⟨f0,fb,hz,hf⟩,hTI,⟨a,b,hTO⟩,n1,n2⟩:=S;show wpAny _ _ (field (.ref z) 2 >>= _) _ _ _;refine ab (dP hz U (x:=.bool false) U ?_);refine ab (dP hz U (x:=.ref f) U ?_);refine ab (lH hTI U ?_);refine ab (ND hz hf λr h0 fb' hz0 G=>?_);have hTO0:IsPair h0 TO a b:=G.extBut _ _ D.TOz hTO;have n10:ZU b1 h0 i1 l1 n:=n1.mv λo e=>G.extBut _ _ D.i1z e;have n20:ZU b2 h0 i2 l2 L:=n2.mv λo e=>G.extBut _ _ D.i2z e;have q10:SeqAt b1 h0 l1 xs:=q1.mv λo e=>G.extBut _ _ D1.z e;have q20:SeqAt b2 h0 l2 ys:=q2.mv λo e=>G.extBut _ _ D2.z e;cases r with
 |true=>
  refine ab (mN ?_);refine ab (dP hz0 U (x:=.ref TO) U ?_);refine ab (nC hz0 Vd λh₁ hz₁ C=>?_);refine ab ?_;refine ab (ab (Hc ?_));cases hx:xs[n]? with
  |none=>
   refine ab (yl hh (n10.mv λo e=>C.extBut _ _ D.i1z e) (q10.mv λo e=>C.extBut _ _ D1.z e) hx λF e q he=>?_);obtain⟨oe,I,hce⟩:=he;have Y:F.get? z=some (zO .ellipsis fb' f TO):=q _ _ D.i1z.symm hz₁;have hez:e≠z:=λx=>by subst x;rw[Y]at I;cases I;simp[zO]at hce
   refine nC Y Vd λJ _ B=>hE J e (λc o Z _ c3 _ x=>B.extBut _ _ Z (q _ _ c3 (C.extBut _ _ Z (G.extBut _ _ Z x)))) ⟨oe,B.extBut _ _ hez I,hce⟩
  |some x=>
   have hy:ys[L]?=none:=Vc
   refine ab (J0 (n10.mv λo e=>C.extBut _ _ D.i1z e) (q10.mv λo e=>C.extBut _ _ D1.z e) hx λF h1₂ q=>aJ ?_);have O:IsPair F TO a b:=q.extBut _ _ D.TOi1 (C.extBut _ _ D.TOz hTO0);refine ab (lH O U ?_);refine ab (Ky O λJ hTO₃ B=>?_);refine ab (tT (aJ ?_));refine ab (ab (Hc ?_));refine ab (yl hh (n20.mv λo e=>B.extBut _ _ D.TOi2.symm (q.extBut _ _ D.i12.symm (C.extBut _ _ D.i2z e)))
    (q20.mv λo e=>B.extBut _ _ D2.o (q.extBut _ _ D2.i (C.extBut _ _ D2.z e))) hy λh₄ e hs₄ he=>?_)
   obtain⟨oe,I,hce⟩:=he;have Ua:h₄.get? z=some (zO .ellipsis fb' f TO):=hs₄ _ _ D.i2z.symm (B.extBut _ _ D.TOz.symm (q.extBut _ _ D.i1z.symm hz₁));have hez:e≠z:=λx=>by subst x;rw[Ua]at I;cases I;simp[zO]at hce
   refine nC Ua Vd λh₅ _ T=>hE h₅ e (λc o Z c2 c3 c4 x=>T.extBut _ _ Z (hs₄ _ _ c4 (B.extBut _ _ c2 (q.extBut _ _ c3 (C.extBut _ _ Z (G.extBut _ _ Z x)))))) ⟨oe,T.extBut _ _ hez I,hce⟩
 |false=>
  refine ab ?_;refine ab (ab (fV ?_));cases hx:xs[n]? with
  |none=>exact ab (yl hh n10 q10 hx λF e q he=>hE F e (λc o Z _ c3 _ x=>q _ _ c3 (G.extBut _ _ Z x)) he)
  |some x=>
   have hy:ys[L]?=none:=Vc
   refine ab (J0 n10 q10 hx λF h1₂ q=>aJ (aJ ?_));refine ab (ab (fV ?_));exact ab (yl hh (n20.mv λo e=>q.extBut _ _ D.i12.symm e) (q20.mv λo e=>q.extBut _ _ D2.i e) hy λJ e B he=>hE J e (λc o Z _ c3 c4 x=>B _ _ c4 (q.extBut _ _ c3 (G.extBut _ _ Z x))) he)
def next_item{b1 b2:Bool}{z i1 i2 q l2:Aw}{xs ys:Ah}{x y:Av}{Q:Aa}(D:Ap z a f i1 i2)(I:Of z f i1 i2 q)(Ua:Of z f i1 i2 l2)
  (S:St b1 b2 z a f i1 i2 q l2 i n s.heap) (B:SeqAt b1 s.heap q xs) (C:SeqAt b2 s.heap l2 ys) (L:xs[i]?=some x) (O:ys[n]?=some y)
  (J:∀h',St b1 b2 z a f i1 i2 q l2 (i+1) (n+1) h'->IsPair h' s.heap.objs.size x y->
   (∀c o,c≠z->c≠f->c≠i1->c≠i2->s.heap.get? c=some o->h'.get? c=some o)->Q (some (.ref s.heap.objs.size)) {s with heap:=h'}):
  A9 ww w A (pyNext (.ref z)) Q E s:=by
 obtain⟨f0,Z,G,Y⟩:=S.z;have r:s.TypeIs (.ref z) "zip" :=⟨_,G,U⟩;exact ab (nE (wpAny_callSpecial?_slot r EZ
  (dQ EZ r F.entry_zip_next (item D I Ua S B C L O λh' a1 a2 T=>aJ (J h' a1 a2 T)) (F.args_zip_next_1 _))))
def next_end{b1 b2:Bool}{z i1 i2 r l2:Aw}{xs ys:Ah}{Q:Aa}(hh:A.handled=none)(D:Ap z a f i1 i2)(J:Of z f i1 i2 r)(Z:Of z f i1 i2 l2)
  (S:St b1 b2 z a f i1 i2 r l2 i n s.heap) (C:SeqAt b1 s.heap r xs) (G:SeqAt b2 s.heap l2 ys) (q:xs[i]?=none\/ys[n]?=none)
  (L:∀h',(∀c o,c≠z->c≠f->c≠i1->c≠i2->s.heap.get? c=some o->h'.get? c=some o)->Q none {s with heap:=h'}):
  A9 ww w A (pyNext (.ref z)) Q E s:=by
 obtain⟨f0,fb,Y,hf⟩:=id S.z;have B:s.TypeIs (.ref z) "zip" :=⟨_,Y,U⟩;refine ab (nE (wpAny_callSpecial?_slot B EZ (dQ EZ B F.entry_zip_next (fin hh D J Z S C G q λh' e O Ua=>?_) (F.args_zip_next_1 _))));obtain⟨o,I,T⟩:=Ua;exact ab (oH ⟨o,I,T⟩ C2 (aJ (L _ O)))
def cF{z:Aw}(r:s.heap.get? z=some (zO u j a f))(h:Q (.ref z) s):A9 ww w A (pyIter (.ref z)) Q E s:=by
 have q:s.TypeIs (.ref z) "zip" :=⟨_,r,U⟩;refine Fe q F.slot_zip_iter (dQ F.slot_zip_iter q F.entry_zip_iter (aJ ⟨_,U,"zip",_,q,EZ.lookup,h⟩) (F.args_zip_iter_1 _))
end
def Co(b1:Bool)(h:Heap)(q:Aw):Heap:=h.push (rF b1 q)
def sZ(b1 b2:Bool)(h:Heap)(q l2:Aw):Heap:=(Co b1 h q).push (rF b2 l2)
def Hd (b1 b2:Bool) (h:Heap) (q l2:Aw):Heap:=(sZ b1 b2 h q l2).push {cls:=.type "tuple",data:=.seq #[.ref h.objs.size,.ref (Co b1 h q).objs.size]}
def Kc (b1 b2:Bool) (h:Heap) (q l2:Aw):Heap:=(Hd b1 b2 h q l2).push {cls:=.type "tuple",data:=.seq #[.none,.none]}
def Fo(b1 b2:Bool)(h:Heap)(q l2:Aw):Heap:=(Kc b1 b2 h q l2).push (zO .none false (sZ b1 b2 h q l2).objs.size (Hd b1 b2 h q l2).objs.size)
theorem Jy(b1 b2:Bool)(q l2:Aw)(xs ys:Ah):
  Meets (Builtin.«zip.__new__» ⟨[.type "zip",.ref q,.ref l2],[]⟩) (λ_ R s=>SeqAt b1 s.heap q xs/\SeqAt b2 s.heap l2 ys /\
   R (.ok (.ret (.ref (Kc b1 b2 s.heap q l2).objs.size))) {s with heap:=Fo b1 b2 s.heap q l2}):=
 .of_wp λww w A R s h=>by
  obtain⟨D,g,d,tk,os⟩:=s;obtain⟨B,r,h⟩:=h;have C:=sub_zip
  wp_walk using Wt B,Wt (r.mv λo e=>aW _ e)
  exact⟨_,U,h⟩
section
variable {ww:Aq}{w:Au}{A:Ar}{E:Ab}{s:As}
def fD{b1 b2:Bool}{l2:Aw}{xs ys:Ah}(r:SeqAt b1 s.heap a xs)(G:SeqAt b2 s.heap l2 ys)
  (h:∀h',St b1 b2 (s.heap.objs.size+4) (s.heap.objs.size+2) (s.heap.objs.size+3) s.heap.objs.size (s.heap.objs.size+1) a l2 0 0 h'->(∀c o,s.heap.get? c=some o->h'.get? c=some o)->Q (.ref (s.heap.objs.size+4)) {s with heap:=h'}):
  A9 ww w A (call (.type "zip") [.ref a,.ref l2]) Q E s:=by
 refine callType_new F.called_zip Va (F.typeCall_zip_2 _ _) (F.newCall_zip_2 _ _) (λB=>F.args_object_init_3 B _ _) F.entry_zip_new (Jy b1 b2 a l2 xs ys) ⟨r,G,?_⟩;have q:(Co b1 s.heap a).objs.size=s.heap.objs.size+1:=i7 ..;have D:(sZ b1 b2 s.heap a l2).objs.size=s.heap.objs.size+2:=by unfold sZ;rw[i7,q]
 have I:(Hd b1 b2 s.heap a l2).objs.size=s.heap.objs.size+3:=by unfold Hd;rw[i7,D]
 have T:(Kc b1 b2 s.heap a l2).objs.size=s.heap.objs.size+4:=by unfold Kc;rw[i7,I]
 have C:(Fo b1 b2 s.heap a l2).get? _=some _:=bX _ rfl;have L:(Fo b1 b2 s.heap a l2).get? _=some _:=aW _ (bX _ U);have O:(Fo b1 b2 s.heap a l2).get? _=some _:=aW _ (aW _ (bX _ U));have J:(Fo b1 b2 s.heap a l2).get? _=some _:=aW _ (aW _ (aW _ (bX _ U)));rw[D,I,T]at C;rw[q,D]at O;rw[I]at L;rw[q]at J;rw[T];exact⟨⟨_,C,U⟩,h _ ⟨⟨_,_,C,.inl U⟩,O,⟨_,_,L⟩,xW (aW _ (aW _ (aW _ (aW _ (bX _ U))))),xW J⟩ λc o x=>
  aW _ (aW _ (aW _ (aW _ (aW _ x))))⟩
theorem St.other{z TO i1 i2 q l2:Aw}{h':Heap}(D:Ap z f TO i1 i2)(S:St b1 b2 z f TO i1 i2 q l2 i n h)(B:h'.get? z=some (zO u j f TO))(r:F0 u)(hs:Heap.SameBut z h h'):St b1 b2 z f TO i1 i2 q l2 i n h':=
 ⟨⟨u,j,B,r⟩,hs.extBut _ _ D.TIz S.I,(let⟨a,b,e⟩:=S.O;⟨a,b,hs.extBut _ _ D.TOz e⟩),S.n1.mv λo e=>hs.extBut _ _ D.i1z e,S.n2.mv λo e=>hs.extBut _ _ D.i2z e⟩
def Cv{z i1 i2 B l2 T:Aw}{Q:Unit->Shared->Prop}(D:Ap z a f i1 i2)(S:St b1 b2 z a f i1 i2 B l2 i L s.heap)
  (h:∀h',St b1 b2 z a f i1 i2 B l2 i L h'->Heap.SameBut z s.heap h'->Q () {s with heap:=h'}):A9 ww w A (letOwnedTupleGo e (.ref z) (.ref T)) Q E s:=by
 have C:=h s.heap S ⟨U,λ_ _=>U⟩;obtain⟨I,G,F,J⟩:=id S.z;have tup:A9 ww w A (do
   let o <-load z
   match o.cls,o.data with
   |.type n,.fields vs=>
    if["enumerate","zip","dict_itemiterator","dict_reverseitemiterator","odict_iterator","itertools.zip_longest","itertools.pairwise"].contains n&&vs[0]? == some (rawInt T)then
     rule "for.unpacks-the-owned-tuple"
     updateField z 0 .none
   |_,_=>pure ()) Q E s:=by
  refine ab (wpAny_load F ?_);show wpAny _ _ (if(["enumerate","zip","dict_itemiterator","dict_reverseitemiterator","odict_iterator","itertools.zip_longest","itertools.pairwise"].contains "zip" && (#[I,.bool G,.bool false,.ref a,.ref f])[0]? == some _)=true then _ else _) Q E s;split
  .refine ab (mN (nC F Vd λh' r q=>h h' (S.other D r (.inl U) q) q))
  .exact aJ C
 cases e<;>first
  |exact tup
  |exact aJ C
end
end ZpT
namespace L2
open ZpT (St Ap Of SeqAt ZU)
def IS(K:Af)(b1 b2:Bool)(a1 a2:Aw):It:=
  ⟨λi H=>∃xs ys x y,dr K b1 H a1 xs/\dr K b2 H a2 ys/\xs[i]?=some x/\ys[i]?=some y,
   λi H v H'=>∃p,H p=none/\v=.ref p/\∀xs ys x y,dr K b1 H a1 xs->dr K b2 H a2 ys->xs[i]?=some x->ys[i]?=some y->H'=aA H p (.tup [x,y]),
   λi H=>∃xs ys,dr K b1 H a1 xs/\dr K b2 H a2 ys/\(xs.length<=i\/ys.length<=i)⟩
def Zjb{z i1 i2 a1 a2:Aw}(D:Ap z a f i1 i2)(D1:Of z f i1 i2 a1)(D2:Of z f i1 i2 a2):
  iM P w K tg (IS K b1 b2 a1 a2) [z,a,f,i1,i2] z (λi h=>ZpT.St b1 b2 z a f i1 i2 a1 a2 i i h)where
 mem:=Vd
 obj:=λi h st b r=>by
  obtain⟨⟨f0,fb,J,L⟩,C,⟨x,y,B⟩,Ua,n2⟩:=st;simp at r;rcases r with rfl|rfl|rfl|rfl|rfl
  .exact⟨_,J,λv q=>by
    have q':=q;cases q'⟩
  .simp_all
  .simp_all
  .exact Ua.ob
  .exact n2.ob
 keep:=λi h h' st k=>by
  obtain⟨⟨f0,fb,J,L⟩,C,⟨x,y,B⟩,Ua,n2⟩:=st;exact⟨⟨f0,fb,k z Vd _ J,L⟩,k a Vd _ C,⟨x,y,k f Vd _ B⟩,Ua.mv λo e=>k i1 Vd o e,n2.mv λo e=>k i2 Vd o e⟩
 item:=by
  intro X hP hw hK hc i zn s σ H E I L st hg;subst hP hw hK;revert hg;refine ε4 λxs ys x y=>θ3 λq1 q2 hx hy=>?_;refine ω (I.rJ q1) (ε1 λO=>θ2 λr1 p1 z1=>?_);refine ω (I.rJ q2) (ε1 λZ=>θ2 λr2 p2 z2=>?_);obtain⟨u1,hu1,ru1⟩:=r1.get hx;obtain⟨u2,hu2,ru2⟩:=r2.get hy;have olt:∀b∈[z,a,f,i1,i2],b<s.heap.objs.size:=λb r=>by
   obtain⟨⟨f0,fb,J,L⟩,C,⟨x,y,B⟩,Ua,n2⟩:=st;simp at r;rcases r with rfl|rfl|rfl|rfl|rfl
   .exact bH J
   .exact bH C
   .exact bH B
   .obtain⟨o,ho,_⟩:=Ua.ob;exact bH ho
   .obtain⟨o,ho,_⟩:=n2.ob;exact bH ho
  refine ZpT.next_item D D1 D2 st p1 p2 (by simpa using hu1) (by simpa using hu2) λh' st' hT hk=>?_;refine⟨_,U,ZpT.Cv D st' λh2 st2 hs2=>?_⟩;have F:=hs2;have I1:aD X zn σ (aA H _ (.tup [x,y])) {s with heap:=s.heap.push _,toks:=s.toks}:=
   I.laid (λb o y=>aW _ y) (aN _) ⟨GF,_,.cons ru1 (.cons ru2 .nil),nM.new _ _⟩
  have Y:∀b∈[z,a,f,i1,i2],gz X zn (aA H _ (.tup [x,y])) b:=λb r=>by
   obtain⟨a0,ar⟩:=L b r;exact⟨by rw[Zk (cI (olt b r))];exact a0,ar⟩
  have I2:aD X zn σ (aA H s.heap.objs.size (.tup [x,y])) {s with heap:=h2,toks:=s.toks}:=by
   refine qN (s:={s with heap:=s.heap.push _,toks:=s.toks}) I1 Y λb o r q=>?_;have G:b≠z:=λe=>r (by simp[e]);rcases Heap.get?_push_cases q with⟨rfl,rfl⟩|q
   .exact(F.2 _ G).trans hT
   .exact(F.2 b G).trans (hk b o G (λe=>r (by simp[e])) (λe=>r (by simp[e])) (λe=>r (by simp[e])) q)
  refine ι2 (.ref _) _ ⟨I2,U,⟨_,I.aM.fresh (aN _),U,λxs' ys' x' y' q1' q2' hx' T=>?_⟩,st2,λb r=>(Y b r).1⟩;rw[I.iN q1' q1,hx]at hx';rw[I.iN q2' q2,hy]at T;cases hx';cases T;rfl
 done:=by
  intro X hP hw hK hc i zn s σ H E I L st hg;subst hP hw hK;obtain⟨xs,ys,q1,q2,hx⟩:=hg;obtain⟨O,r1,p1,z1⟩:=I.rJ q1;obtain⟨Z,r2,p2,z2⟩:=I.rJ q2;have e1:=r1.length;have e2:=r2.length;refine ZpT.next_end (I.ok.hd hc) D D1 D2 st p1 p2 (by simp;simp_all) λh' hk=>⟨U,?_⟩;exact qN I L λb o r q=>hk b o (λe=>r (by simp[e])) (λe=>r (by simp[e])) (λe=>r (by simp[e])) (λe=>r (by simp[e])) q
 self:=λ_ _ _ _ _ st h=>let⟨_,_,J,_⟩:=st.z;ZpT.cF J h
def BS:bootBuiltins "zip" = some (.type "zip"):=Wm
end L2
namespace L2
open ZpT (Ap Of SeqAt ZU)
def Nd(n:Nat):List Aw:=[n+4,n+2,n+3,n,n+1]
def Pa(h:l<n):Of (n+4) (n+3) n (n+1) l:=by constructor<;>(lia)
section
variable {X:Cx}{e1 e2:Ax}{t:TA}{p pos:Pos}{b1 b2:Bool}
def PC{b:Bool}{l:Aw}{xs:Ah}(q:SeqAt b h l xs):l<h.objs.size:=by
 cases b
 .obtain⟨o,r,_⟩:=(q);exact bH r
 .obtain⟨o,r,_⟩:=(q);exact bH r
def Tj     {Y:Aw->Addr->List V->List V->Hp->Prop}  (hg:Gl X "zip") (hm:X.mg "zip" = none) (ha:QA X [e1,e2] t) (G:[e1,e2].all Yi=true) (I:aD X C c H s)
  (h:t c H λvs H1=>∃a1 a2 xs ys,vs=[.ref a1,.ref a2]/\dr X.K b1 H1 a1 xs/\dr X.K b2 H1 a2 ys/\Y a1 a2 xs ys H1)
  (fin:∀a1 a2 xs ys n H1 B,aD X C c H1 B->dr X.K b1 H1 a1 xs->dr X.K b2 H1 a2 ys->Y a1 a2 xs ys H1->a1<n->a2<n->ZpT.St b1 b2 (n+4) (n+2) (n+3) n (n+1) a1 a2 0 0 B.heap->(∀b∈Nd n,gz X C H1 b)->Q (.ref (n+4)) B):
  Ba X (eval (.Call (.Name "zip" p) [e1,e2] [] pos) X.env) Q X.xe s:=by
 rw[nK,lQ]at G;refine sS (GG I hg hm BS (DA (aR (ha.out pos C s c H _ I h) λus B ⟨vs,H1,q,r1,F⟩=>?_) (Z0 G.1) (Xk G.2)));revert F;refine ε4 λa1 a2 xs ys=>θ3 λzq0 F Ua r=>?_;subst zq0;obtain⟨u1,u2,rfl,L,J⟩:=Vz r1;cases L;cases J;obtain⟨O,v1,p1,z1⟩:=q.rJ F;obtain⟨Z,v2,p2,z2⟩:=q.rJ Ua;refine ZpT.fD p1 p2 λh' st hk=>(fin a1 a2 xs ys _ H1 _ (q.kept hk) F Ua r (PC p1) (PC p2) st λb T=>?_);have D:B.heap.objs.size<=b:=by
  simp[Nd]at T;rcases T with rfl|rfl|rfl|rfl|rfl
  .exact IU _ _
  .exact IU _ _
  .exact IU _ _
  .exact aN _
  .exact IU _ _
 exact q.iU D (q.aM.fresh D)
def Em(K:Af)(b1 b2:Bool)(t:TA):TI:=λσ H R=>t σ H λvs H1=>∃a1 a2 xs ys,vs=[.ref a1,.ref a2]/\dr K b1 H1 a1 xs/\dr K b2 H1 a2 ys/\R (IS K b1 b2 a1 a2) H1
def RI  (G:Gl X "zip") (L:X.mg "zip" = none) (J:QA X [e1,e2] t) (D:[e1,e2].all Yi=true:=by rfl):QI X e (.Call (.Name "zip" p) [e1,e2] [] pos) (Em X.K b1 b2 t):=by
 refine⟨λzn s σ H R I h=>(Tj G L J D I h λa1 a2 xs ys n H1 O B T Y r F l2 st q=>?_)⟩;obtain⟨Z,Ua,C,_⟩:=id st.z;exact ZpT.cF C (ι5 (n+4) (Nd n) _ _ H1 ⟨U,B,Zjb (by constructor<;>(lia)) (Pa F) (Pa l2),st,q,r⟩)
end
end L2
namespace L2
structure Ml(wn:Scope)(x x2:Str)(ys:Ai):Prop where
 own:wn.names.lookup x2=some .local
 nd:(x::x2::ys).Nodup
def C6(is:Aj)(σ:St)(v w:Option V):St:=v::w::is.map λi=>(σ[i]?).getD none
def Lj(K:Af)(is:Aj)(tc:TT)(te:TE)(σ:St)(Q:VK)(J:It)(H1:Hp):Prop:=∃W:Nat->Nat->List V->Hp->Prop,(∃m,W 0 m [] H1)/\∀i m zs H,W i m zs H->
 (J.stop i H/\zs.length<=sizeLine/\∀p,H p=none->Q (.ref p) (aA H p (.lst zs))) \/
 (J.go i H/\zs.length<=sizeLine/\∀x H',J.AM i H x H'->∃a r B,x=.ref a/\aL K H' a [r,B]/\tc (C6 is σ (some r) (some B)) H' λb H2=>if b=true then te (C6 is σ (some r) (some B)) H2 λy C=>∃q,q<m/\W (i+1) q (zs++[y]) C else∃q,q<m/\W (i+1) q zs H2)
def z3(K:Af)(wi:TI)(is:Aj)(tc:TT)(te:TE):TE:=λσ H Q=>wi σ H (Lj K is tc te σ Q)
section
variable {X:Cx}{S wn:Scope}{N:Ai}{x x2:Str}{ys:Ai}{is:Aj}{zn:Ac}{σ:St}{H₂:Hp}{s₂:As}{fp:List Aw}{elt iter:Ax}{px px2 pp pos:Pos}{pq:Nat}{ifs:An}{tc:TT}{te:TE}{wi:TI}
theorem CA(K:ZX S wn N x ys is)(q:Ml wn x x2 ys)(G:X.env.scope=S)(F:X.N=N)(D:S.kind=.function)(B:X.calm=true):DV X S wn N x ys is [x,x2] (.Tuple [.Name x px,.Name x2 px2] pq pp) (D3 X.K 2 (yP (Js 0) (yP (Js 1) E2))) (λσ r=>∃C I,r=C6 is σ C I):=
 ⟨K,G,F,D,B,λ_ _ _ _=>NI B (xS (yO q.nd U (.inl (C0 K.own)) (.inr (C0 K.own))) (xS (yO q.nd U (.inl (C0 q.own)) (.inr (C0 q.own))) Qf)),λ_=>ι2 none none U⟩
theorem DI:∀σ Q J H,Lj K is tc te σ Q J H->kC (D3 K 2 (yP (Js 0) (yP (Js 1) E2))) (λq=>∃C B,q=C6 is σ C B) tc te Q J H:=λσ Q J H ⟨W,r,t⟩=>
 ⟨W,r,λi m zs H w=>(t i m zs H w).imp_right λz=>⟨z.1,z.2.1,λx H' y=>by
  refine ω (z.2.2 x H' y) (ε3 λa F G=>θ2 λzq0 D k=>?_);subst zq0;exact⟨_,⟨_,_,U⟩,λq ⟨_,_,e⟩=>e ▸ ⟨a,_,U,D,U,_,_,U,_,_,U,U,U,U⟩,k⟩⟩⟩
def Zjd(K:ZX S wn N x ys is)(B:Ml wn x x2 ys)(hi:QI X (.Tuple [.Name x px,.Name x2 px2] pq pp) iter wi)(q:∀C s₂ H₂ ex,QF (iA X (x::x2::ys) wn C s₂ H₂ ex) ifs tc)(I:∀C s₂ H₂ ex,QE (iA X (x::x2::ys) wn C s₂ H₂ ex) elt te)
  (D:X.calm=true:=by rfl) (G:X.env.scope=S:=by rfl) (F:X.N=N:=by rfl) (r:S.kind=.function:=by rfl) (hs:∀v,foldedSetIterable iter X.env v=pure v:=by intro _;rfl):
  QE X (.ListComp elt [⟨(.Tuple [.Name x px,.Name x2 px2] pq pp),iter,ifs,0⟩] wn pos) (z3 X.K wi is tc te):=
 O6 (CA K B G F r D) DI hi q I hs
end
open PySem.W
def vY(n:Nat)(R:α->Prop):KasT α->Prop
 |.ret a=>R a
 |.ask i j k=>i<n/\j<n/\∀b,vY n R (k b)
theorem vY.bind{α β:Type}{n:Nat}{R:α->Prop}{q:β->Prop}{f:α->KasT β}:∀{t:KasT α},vY n R t->(∀a,R a->vY n q (f a))->vY n q (t.bind f)
 |.ret a,h,g=>g a h
 |.ask i j k,h,g=>⟨h.1,h.2.1,λb=>vY.bind (h.2.2 b) g⟩
theorem vY.wp{α:Type}{n:Nat}{R:α->Prop}{q:Nat->Nat->(Bool->Shared->Prop)->Shared->Prop}{s:As}{G:α->Shared->Prop}(r:∀i j C,i<n->j<n->(∀b,C b s)->q i j C s)(B:∀a,R a->G a s):∀{t:KasT α},vY n R t->t.kasWp q G s
 |.ret a,h=>B a h
 |.ask i j k,h=>r i j _ h.1 h.2.1 λb=>vY.wp r B (h.2.2 b)
def fM(n:Nat)(p:Array Nat):Prop:=p.Perm (List.toArray (List.range n))
theorem fM.lt(q:0<n){p:Array Nat}(h:fM n p)(k:Nat):p.getD k 0<n:=by
 unfold Array.getD;split
 .rename_i r;have:=(Array.Perm.mem_iff h).mp (Array.getElem_mem r);simpa using this
 .exact q
def fM.rev{p:Array Nat}(h:fM n p)(i j:Nat):fM n (kas_rev p i j):=(mirror_perm p i j _).trans h
theorem gT(q:0<n){p:Array Nat}(h:fM n p):∀f m,vY n (λ_=>True) (kas_asc p f m)
 |0,m=>True.intro
 |f+1,m=>⟨h.lt q _,h.lt q _,λc=>by
   cases c
   .exact gT q h f _
   .exact True.intro⟩
theorem xZ(B:0<n):∀f (p:Array Nat) m q,fM n p->vY n (λr=>fM n r.1) (kas_desc f p m q)
 |0,p,m,q,h=>h
 |f+1,p,m,q,h=>⟨h.lt B _,h.lt B _,λc=>by
   cases c
   .refine⟨h.lt B _,h.lt B _,λd=>?_⟩;cases d
    .exact xZ B f p _ _ h
    .exact h
   .split
    .exact xZ B f _ _ 0 (h.rev _ _)
    .exact xZ B f p _ 0 h⟩
def kW(q:0<n){p:Array Nat}(h:fM n p)(m r:Nat):vY n (λr=>fM n r.2) (kas_tail3 m r p):=(gT q (h.rev 0 m) _ m).bind λ_ _=>h.rev 0 m
def xx(q:0<n){p:Array Nat}(h:fM n p)(m r:Nat):vY n (λr=>fM n r.2) (kas_descPart m r p):=by
 refine(xZ q _ p _ 0 h).bind λa B=>?_
 split
 .exact kW q (fM.rev B _ _) _ _
 .exact kW q B _ _
def TQ(q:0<n){p:Array Nat}(h:fM n p)(r:Nat):vY n (λr=>fM n r.2) (kas_count r p):=by
 refine(gT q h _ 1).bind λa _=>?_
 split
 .exact h
 .split
  .refine⟨h.lt q _,h.lt q _,λc=>?_⟩;cases c
   .exact xx q (h.rev 0 a) _ _
   .exact h
  .exact xx q h _ _
theorem zE(q:0<n){p:Array Nat}(h:fM n p)(k:Nat):∀f l r,vY n (λ_=>True) (kas_place p k f l r)
 |0,l,r=>True.intro
 |f+1,l,r=>by
  unfold kas_place;split
  .exact True.intro
  .refine⟨h.lt q _,h.lt q _,λc=>?_⟩;cases c
   .exact zE q h k f _ r
   .exact zE q h k f l _
theorem PQ(r:0<n):∀f (p:Array Nat) k,fM n p->vY n (λq=>fM n q) (kas_bin f p k)
 |0,p,k,h=>h
 |f+1,p,k,h=>(zE r h k k 0 k).bind λl _=>PQ r f _ _ ((bubble_perm p k _).trans h)
def Zje(B:0<n):vY n (λq=>fM n q) (kas_sort n):=by
 refine(TQ B (Array.Perm.refl _) n).bind λr C=>?_
 split
 .exact PQ B _ _ _ C
 .exact C
def Zfl{vs:Ag}{p:Array Nat}(h:fM vs.length p):(p.toList.map λi=>vs.getD i Value.none).Perm vs:=by
 have e:((List.range vs.length).map λi=>vs.getD i Value.none)=vs:=by
  apply Mi Vd;intro i h1 h2;simp at h1;simp[h1]
 have:=(Array.Perm.toList h).map λi=>vs.getD i Value.none;rw[e]at this;exact this
section
variable {ww:Aq}{w:Au}{A:Ar}{E:Ab}{s:As}
structure mC(prog:Aq)(w:Au)(h:Heap)(vs:Ag)(κ:SortKind):Prop where
 kind:∀(A:Ar)(E:Ab)(Q:SortKind->Shared->Prop)(s:As),(∀b o,h.get? b=some o->s.heap.get? b=some o)->Q κ s->A9 prog w A (keyKind' vs.toArray) Q E s
 ask:∀(A:Ar)(C:Bool->Shared->Prop)(s:As)(i j:Nat),(∀b o,h.get? b=some o->s.heap.get? b=some o)->i<vs.length->j<vs.length->(∀b,C b s)->kas_ask prog w A κ vs i j C s
def va {P:PySem.Fin->Shared->Prop} (I:s.heap.get? a=some (seqObj "list" vs.toArray n)) (O:h.objs.size<=a) (hs:∀b o,h.get? b=some o->s.heap.get? b=some o) (T:vs.length<64) (K:2<=vs.length->mC ww w h vs κ)
  (q:∀out:Ag,out.Perm vs->P (.done (.ret .none)) {s with heap:=sortedHeap s.heap a vs out.toArray}):
  A9 ww w A (Builtin.«list.sort» ⟨[.ref a],[]⟩) P E s:=by
 rw[list_sort_plain];have Y:a<s.heap.objs.size:=bH I;refine ab (listItems_at I U ?_);refine ab (listUpdate_at I U ?_ (by rw[eB,sI];lia) (cM _));obtain⟨e1,F⟩:∃e1,(s.heap.update a (Obj.mapSeq λ_=>#[])).get? a=some (seqObj "list" #[] e1):=⟨_,get?_update_seq I (λ_=>#[])⟩;refine ab (seqEpoch_at F U ?_);refine ab (E4 ?_ (by rw[sI];lia));refine ab (DF ?_ (cM _));refine fV ?_;have r:(((s.heap.update a (Obj.mapSeq λ_=>#[])).push (seqObj "tuple" vs.toArray 0)).push (seqObj "list" #[] 0)).get? a=some (seqObj "list" #[] e1):=by
  rw[Heap.get?_push_ne _ _ _ (by rw[DS,Heap.size_update];exact cI (pJ Y)),Heap.get?_push_ne _ _ _ (by rw[Heap.size_update];exact cI Y)];exact F
 have D:∀b o,h.get? b=some o->(((s.heap.update a (Obj.mapSeq λ_=>#[])).push (seqObj "tuple" vs.toArray 0)).push (seqObj "list" #[] 0)).get? b=some o:=λb o e=>by
  have J:b≠a:=cI (iE (bH e) O);exact aW _ (aW _ ((nU _ _ (eN J)).trans (hs b o e)))
 by_cases h2:vs.toArray.size<2
 .rw[aK h2,aK h2];refine ab (aJ ?_);refine ab (aJ ?_);refine ab (seqEpoch_at r U ?_);refine ab (listUpdate_at r U ?_ (hsz2:=by grind));simp only[Ka,ET,if_false];have e2:(arrOf (SortSt.mk' general' (vs.toArray.zip vs.toArray) #[] 7 none)).map (·.2)=vs.toArray:=by
   grind
  rw[e2];exact aJ (q vs (List.Perm.refl _))
 .rw[aG h2,aG h2];rw[eB]at h2;have K:=K Vb;refine ab (K.kind _ _ _ _ D ?_);refine ab (j1 (kat_run (Q:=λB s'=>∃p:Array Nat,p.size=vs.length/\arrOf B=p.map _/\failedOf B=none/\fM vs.length p/\s'={s with heap:=((s.heap.update a (Obj.mapSeq λ_=>#[])).push _).push (seqObj "list" #[] 0)})
   rfl Vb T (λZ B s' a1 a2 a3 a4=>⟨Z,a1,a2,a3,a4⟩) (vY.wp (λi j C hi hj hC=>K.ask _ _ _ i j D hi hj hC) (λp L=>⟨L,U⟩) (Zje Vb))) ?_ λ_ _ e=>e)
  refine λzq0 s'=>ε1 λp=>θ4 λL Ua hf pm zq1=>?_;obtain ⟨⟨⟩,B⟩:=zq0;subst zq1;dsimp only;have G:=kat_snds U Ua;rw[G];refine ab (seqEpoch_at r U ?_);refine ab (listUpdate_at r U ?_ (cM _) (by rw[eB,aF,lE,L,sI];lia));rw[hf];simp;exact aJ (q _ (Zfl pm))
end
def DM:Av->Addr
 |.ref a=>a
 |_=>0
theorem Zfm(as:List Aw):aH (as.map V.ref) (as.map Value.ref):=by
 induction as with
 |nil=>exact .nil
 |cons a r q=>exact .cons U q
def Zfn{out:Ag}(h:out.Perm (as.map Value.ref)):∃q:List Aw,out=q.map Value.ref/\q.Perm as:=by
 refine⟨out.map DM,?_,?_⟩
 .rw[bI];have:∀v∈out,(Value.ref∘DM) v=v:=λv r=>by
   obtain⟨a,_,rfl⟩:=bB.mp (h.mem_iff.mp r);rfl
  rw[fE this,List.map_id']
 .have:=h.map DM;rw[bI]at this;have e:as.map (DM∘Value.ref)=as:=by
   rw[show(DM∘Value.ref)=id from U,CH]
  rw[e]at this;exact this
section
variable {ww:Aq}{w:Au}{h:Heap}
def Tt{A:Ar}{E:Ab}{x y:Int}{t u:Tok}{C:Bool->Shared->Prop}(q:∀b,C b s):A9 ww w A (oneLt' j (.int x t) (.int y u)) C E s:=by
 cases j
 .exact kat_one _ _ (PyProof.Rows.lt_int (q _))
 .exact oneLt_int (q _)
end
end L2
namespace L2
section
variable {ww:Aq}{w:Au}{A:Ar}{E:Ab}{s:As}{c it:Aw}{oc:Obj}{es:Array DictEntry}{ep i:Nat}
def Um(nm:(c == sysModules)=false)(r:s.heap.get? c=some oc)(B:oc.ExactDict)(gd:oc.data=.dict es ep)
  (q:Q (.ref s.heap.objs.size) {s with heap:=s.heap.push {cls:=.type "dict_keyiterator",data:=.fields #[.ref c,.int 0 0,.int es.size 0,.int ep 0]}}):
  A9 ww w A (pyIter (.ref c)) Q E s:=by
 have ty:s.TypeIs (.ref c) "dict" :=⟨oc,r,B.1⟩;refine Fe ty F.slot_dict_iter (dQ F.slot_dict_iter ty F.entry_dict_iter (by
  unfold Builtin.«dict.__iter__»;refine ab (ab (MF ty (aJ ?_)));show wpAny _ _ (Builtin.Dict.showsAll c >>= _) _ _ s;unfold Builtin.Dict.showsAll;rw[aG (λz=>Vc)];refine ab (aJ (ab (EU r gd (ab (MB r gd (ab (iI (aJ ⟨_,U,_,_,⟨_,bX _ U,U⟩,F1.lookup,?_⟩))))))));simpa[rawInt]using q) (F.args_dict_iter_1 _))
def Ss{Q:Aa}(D:s.heap.IsKeyIter it c i es.size ep)(F:s.heap.get? c=some oc)(gd:oc.data=.dict es ep)(lt:i<es.size)
  (q:∀h',h'.IsKeyIter it c (i+1) es.size ep->Heap.SameBut it s.heap h'->Q (some es[i].key) {s with heap:=h'}):
  A9 ww w A (pyNext (.ref it)) Q E s:=by
 obtain⟨J,C,I,B⟩:=id D;have ty:=D.typeIs;refine ab (nE (wpAny_callSpecial?_slot ty F1
  (dQ F1 ty NG (ab (aJ (ab (ab ?_)))) (OQ _))))
 first|refine ab (Hs ty (aJ (ab (Dy C B ?_))))|refine ab _
 have G:Builtin.Dict_items.ownsTuple "dict_keyiterator" = false:=Va
 refine ab (aJ (ab (EU F gd ?_)));rw[aG Vd];refine ab (aJ (ab (MB F gd ?_)));rw[aG Vd];refine aJ ?_;simp[lJ,rS lt];refine ab ?_
 first|refine ab (Hs ty (aJ (ab (wpAny_isOneOf_keyiter ty ?_))))|refine ab _
 show wpAny _ _ (setField _ 1 _ >>= _) _ _ s;refine ab (nN C B Vd ?_);have r:(s.heap.update it (Obj.mapFields (·.setIfInBounds 1 (rawInt (i+1))))).IsKeyIter it c (i+1) es.size ep:=
  ⟨_,lG _ C (sL (iW B _)),(Dt ..).trans I,by rw[iW B];simp[rawInt]⟩
 refine ab (fV (ab (wpAny_isOneOf_keyiter r.typeIs (aJ (aJ ⟨_,U,aJ (q _ r (lS ..))⟩)))))
def Sv{Q:Aa}(hh:A.handled=none)(B:s.heap.IsKeyIter it c es.size es.size ep)(D:s.heap.get? c=some oc)(gd:oc.data=.dict es ep)
  (q:∀h',Heap.ExtBut it s.heap h'->Q none {s with heap:=h'}):A9 ww w A (pyNext (.ref it)) Q E s:=by
 obtain⟨G,r,I,C⟩:=id B;have ty:=B.typeIs;refine ab (nE (wpAny_callSpecial?_slot ty F1
  (dQ F1 ty NG (ab (aJ (ab (ab ?_)))) (OQ _))))
 first|refine ab (Hs ty (aJ (ab (Dy r C ?_))))|refine ab _
 have F:Builtin.Dict_items.ownsTuple "dict_keyiterator" = false:=Va
 refine ab (aJ (ab (EU D gd ?_)));rw[aG Vd];refine ab (aJ (ab (MB D gd ?_)));rw[aG Vd];refine aJ ?_;simp;refine ab ?_
 first|refine ab (Hs ty (aJ ?_))|refine ab _
 show wpAny _ _ (setField _ 0 .none >>= _) _ _ s;refine ab (nN r C Vd (ab ?_));refine ab (iI (ab (fK (by first|rfl|(rfl)) (iI (ab (DP ?_)) (by size_fits)))) (by size_fits));rw[hh];refine ab (aJ (DH ?_));refine ab (oH ⟨_,bX _ U,U⟩ C2 (aJ (q _ (((lS ..).extBut.push _).push _))))
end
theorem KT.at(r:KT H wl xs){i:Nat}{q:List aX×Aw×Av}(h:xs[i]?=some q):∃p,wl[i]?=some p/\H q.2.1=am (p.1.map kV):=by
 induction r generalizing i with
 |nil=>simp at h
 | @cons p q' ps C e t B=>
  cases i with
  |zero=>
   simp at h;subst h;exact⟨p,U,e.2.1⟩
  |succ j=>
   exact B h
def vc:QE X (.Dict [] [] p) RA:=⟨Sy⟩
def RZ(X:Cx)(pos:Pos)(k v:Ax)(tk tv:TE):Prop:=∀zn s σ H (R:V->V->Hp->Prop),aD X zn σ H s->(tk σ H λx H1=>tv σ H1 λy H2=>R x y H2)->
 Ba X (evalPairs (pairTrees [some k] [v] X.env pos)) (λq B=>∃x y u r H2,q=[(u,r)]/\aD X zn σ H2 B/\aI x u/\aI y r/\R x y H2) X.xe s
def UU{k v:Ax}{tk:TE}(T:QE X k tk)(L:QE X v d):RZ X p k v tk d:=λzn s σ H R I q=>by
 refine pairTrees_cons_walk (aR (T.out zn s σ H _ I q) λu B ⟨x,H1,F,D,C⟩=>aR (L.out zn B σ H1 _ F C) λr Ua ⟨y,H2,O,J,G⟩=>pairTrees_nil_walk (ι5 x y u r H2 ⟨U,O,D,J,G⟩))
theorem TV{a1 a2:Aw}{xs ys:A8}{g:TG}{σ:St}(q:Nat->St->Hp->Prop)(J:q 0 σ H)(r:∀i σ H,q i σ H->dr K b1 H a1 xs/\dr K b2 H a2 ys)
  (hs:∀i x y p σ H,xs[i]?=some x->ys[i]?=some y->q i σ H->H p=none->g (.ref p) σ (aA H p (.tup [x,y])) λC H2=>A {Ua with nx:=q (i+1),ct:=q (i+1),bk:=Ua.nx} C H2) (G:∀σ H,q (xs.zip ys).length σ H->Ua.nx σ H):
  tO (IS K b1 b2 a1 a2) g A Ua σ H:=
 yb _ q J (λi σ H hi p=>by
  obtain⟨D,F⟩:=r i σ H p;have L:(xs.zip ys).length=min _ _:=DL;have B:=aQ (show i<xs.length by lia);have l2:=aQ (show i<ys.length by lia);refine⟨ι4 xs ys _ _ ⟨D,F,B,l2⟩,λx H' y=>?_⟩;obtain⟨c,I,rfl,e⟩:=y;rw[e xs ys _ _ D F B l2];exact hs i _ _ c σ H B l2 p I) λσ H p=>⟨⟨xs,ys,(r _ σ H p).1,(r _ σ H p).2,Vc⟩,G σ H p⟩
def HT.oV{ww:Aq}{A:Ar}{E:Ab}{b:Aw}(Y:IsTup s.heap a #[])(T:IsTup s.heap b G.toArray)(q:Q (.ref b) s):
  A9 ww w A (binaryOp .Add (.ref a) (.ref b)) Q E s:=by
 obtain⟨⟨cls,dd,data,Ua⟩,I,Z,n,O⟩:=id Y;obtain⟨⟨J,C,data2,B⟩,r,D,L,F⟩:=id T;subst Z O D F;exact concat_meets ⟨_,I,U⟩ ⟨_,r,U⟩ Kz seq_tuple_add Ld L6 (LQ _ _)
  (tuple_addW0 a b #[] _ n L dd C Ua B U) ⟨I,r,q⟩
inductive Oj(x:V)(y:V)(H:Hp)(Q:VK):Prop
 |mk (a b xs ys:_):(x=.ref a)->(y=.ref b)->(H a=am xs)->(H b=am ys)->(xs.length+ys.length<=sizeLine)->(∀p H',H' p=am (xs++ys)->Z8 H H'->Q (.ref p) H')->Oj x y H Q
def EV  : R2:=λx y H Q=>Oj x y H Q
def Wi:bZ X (binaryOp .Add) EV:=by
 rintro zn s σ H x y v u Q I J O ⟨a,b,xs,ys,rfl,rfl,F,D,T,q⟩;cases J;cases O;obtain⟨L,r,p1,_⟩:=I.tuple (aL.of F);obtain⟨G,B,p2,_⟩:=I.tuple (aL.of D)
 by_cases C:xs=[]
 .have e:=r.iO.mpr C;subst e C;exact HT.oV p1 p2 ⟨.ref b,H,I,U,q b H D λ_ _ z=>z⟩
 .refine HT.rG p1 p2 (λz=>C (r.iO.mp z)) (λz=>⟨.ref a,H,I,U,q a H ?_ λ_ _ z=>z⟩) (λz=>?_) (by rw[<-r.length,<-B.length];exact T)
  .rw[B.iO.mp z,dW];exact F
  .have Ua:=I.aM.fresh (aN _);refine⟨.ref _,_,I.laid (λb ob q=>aW _ q) (aN _) ?_,U,q _ _ Zb λc o z=>by rw[Zk (λe=>Vc)];exact z⟩;exact⟨Vc,_,r.append B,nM.new _ _⟩
open PySem.W (hideAll of_hideAll hideAll_get hideAll_none funFrames_hide)
end L2
namespace L2
open PySem
theorem Mn{P:List g->Prop}(h:∀a,P [a]):∀q:List g,q.length=1->P q
 |[a],_=>h a
theorem KZ{P:List g->Prop}(h:∀a b,P [a,b]):∀q:List g,q.length=2->P q
 |[a,b],_=>h a b
theorem K7{P:List g->Prop}(h:∀a b c,P [a,b,c]):∀q:List g,q.length=3->P q
 |[a,b,c],_=>h a b c
theorem My{P:List g->Prop}(h:∀a b c d,P [a,b,c,d]):∀q:List g,q.length=4->P q
 |[a,b,c,d],_=>h a b c d
theorem KY{P:List g->Prop}(h:∀a b c d e,P [a,b,c,d,e]):∀q:List g,q.length=5->P q
 |[a,b,c,d,e],_=>h a b c d e
theorem Ca{q:Aq}{I:(Ae)->Heap->Prop}{K:Params->PySem.W.Frag}{as:List Aw}{r:PySem.W.RowW}{d:DefRec}{D:List (Str×Ax)}{run:Av->List Av->Sem Av}
  (e:∀P,as=(K P).map (·.1)) (W:PySem.W.WalkO q N I (PySem.W.InK K) r d D run):PySem.W.WalkX q N I (PySem.W.X.obsZ as) (PySem.W.X.valZ K n i) r d D run:=
 λw s₀ B mg Ua G y a o pm Y F O kV e1 e2 e3 T J Z args C as L p l R W' nn=>
  W w s₀ B mg Ua G (PySem.W.InK.keeps w _ _ (PySem.W.X.z_facts e y).2.1 L.keeps) a o pm Y F O kV e1 e2 e3 T J Z args C as p l R W' nn
def lV(K:Af):Af:=K.filter λp=>match p.2.cls,p.2.data with
 |.none,.fields _=>false
 |_,_=>true
def Cu(K:Af):PySem.W.noTabs (lV K)=true:=by
 unfold PySem.W.noTabs lV;rw[mK];intro p q;exact(oD.mp q).2
def B0:Aj->Bool
 |[]=>true
 |a::r=>r.all (λb=>!(Nat.beq a b))&&B0 r
theorem eL{a:Aw}{o:Obj}:∀{K:Af},K.lookup a=some o->(a,o)∈K
 |(b,u)::r,h=>by
  rw[sN]at h
  by_cases e:(a == b)=true
  .grind
  .rw[Bool.eq_false_iff.mpr e]at h;exact b8 _ (eL h)
theorem eW{a:Aw}{o:Obj}:∀{K:Af},B0 (K.map (·.1))=true->(a,o)∈K->K.lookup a=some o
 |(b,u)::r,C,h=>by
  rw[sN];have q:=LI.mp C;rcases bJ.mp h with e|e
  .cases e;rw[nY]
  .have B:(a == b)=false:=by
    rw[Dv];intro z;have:=mK.mp q.1 a (oa e);rw[z,Nat.beq_refl b]at this;cases this
   rw[B];exact eW q.2 e
theorem B8(q:B0 (K.map (·.1))=true)(X:K.In h):(lV K).In h:=λa o e=>
 X a o (eW q (oD.mp (eL e)).1)
def iP{CX:mR}{mg:Ae}{ut:Str}{wn:Scope}{A:Ar}{xz:List Env}{E:XK}:(pX CX P w K mg h N ut wn f u A xz s H E).tX.K=K:=rfl
def cK{CX:mR}{mg:Ae}{ut:Str}{wn:Scope}{A:Ar}{xz:List Env}{E:XK}:(pX CX P w K mg h N ut wn f u A xz s H E).K=K:=rfl
def Mx{q:TS}(h:let r:=q;ZR A r Ua c H):ZR A q Ua c H:=h
def By{r q:TS}(h:let B:=q;let C:=ZR r B;ZR A C Ua c H):ZR A (ZR r q) Ua c H:=h
def rV{B q C r:TS}(h:let F:=r;let I:=ZR C F;let G:=ZR q I;let D:=ZR B G;ZR A D Ua c H):ZR A (ZR B (ZR q (ZR C r))) Ua c H:=h
def La{C q D B r:TS}(h:let F:=r;let I:=ZR B F;let L:=ZR D I;let J:=ZR q L;let G:=ZR C J;ZR A G Ua c H):ZR A (ZR C (ZR q (ZR D (ZR B r)))) Ua c H:=h
end L2
namespace ZpT
abbrev OM (h:Heap) (T:Aw) (a b c:Av):Prop:=h.get? T=some {cls:=.type "tuple",data:=.seq #[a,b,c]}
end ZpT
namespace L2
def lD(b:Bool):Int:=if b=true then 1 else 0
def RK(k:Int):Av->Bool
 |.int i _=>i == k
 |.bool b=>lD b == k
 |_=>false
def Xd{v:Av}(h:RK k v=true):(∃t,v=.int k t)\/∃b,v=.bool b/\k=lD b:=by
 cases v with
 |int i t=>exact .inl ⟨t,by rw[eq_of_beq h]⟩
 |bool b=>exact .inr ⟨b,U,(eq_of_beq h).symm⟩
 |_=>cases h
section
variable {ww:Aq}{w:Au}
def gU{A:Ar}{E:Ab}{b:Bool}{Q:Int->Shared->Prop}(h:Q (hashInt (lD b)) {s with toks:=s.toks+1}):A9 ww w A (pyHash (.bool b)) Q E s:=by
 refine Lu U F.slot_bool_hash F.entry_int_hash (F.args_int_hash_1 _) Vd (.inl U) ?_;cases b
 .exact ab (fK U (ab (Cc (aJ ⟨0,_,U,h⟩))))
 .exact ab (fK U (ab (Cc (aJ ⟨1,_,U,h⟩))))
end
def Bv(a b:Int):decide (a=b)=(a == b):=Vc
def Ys(ww:Aq)(w:Au):KeyKind ww w Int where
 is:=RK
 hash:=hashInt
 inj:=λv a b C r=>by
  rcases Xd C with⟨t,rfl⟩|⟨x,rfl,rfl⟩
  .exact(eq_of_beq (show(a == b)=true from r))
  .exact(eq_of_beq (show(lD x == b)=true from r))
 byValue:=λk v h=>by
  rcases Xd h with⟨t,rfl⟩|⟨x,rfl,rfl⟩<;>rfl
 pyHash:=λq h=>by
  rcases Xd q with⟨t,rfl⟩|⟨x,rfl,rfl⟩
  .exact KW h
  .exact gU h
 eqBool:=λB q h=>by
  rw[Bv]at h;rcases Xd B with⟨t,rfl⟩|⟨x,rfl,rfl⟩
  .rcases Xd q with⟨u,rfl⟩|⟨y,rfl,rfl⟩
   .exact LH h
   .exact SeqAt.EqAt.int_bool _ t y _ _ _ _ h
  .rcases Xd q with⟨u,rfl⟩|⟨y,rfl,rfl⟩
   .exact SeqAt.EqAt.bool_int x _ u _ _ _ _ h
   .refine SeqAt.EqAt.bool_bool x y _ _ _ _ ?_;have e:(lD x == lD y)=(x == y):=by cases x<;>cases y<;>rfl
    rw[e]at h;exact h
 «strs»:=λk x t v h=>by cases h
section
variable {ww:Aq}{w:Au}
def IsPair(ww:Aq)(w:Au)(h:Heap)(k:Int×Ak)(a:Aw):Prop:=
 ∃o n t tk,h.get? a=some o/\o.cls=.type "tuple" /\ o.data=.seq #[.int k.1 tk,.ref t] n/\IsTupleKey (Ys ww w) h k.2 t
def Rr(ww:Aq)(w:Au)(k:Int×Ak):Int:=reduceHash (Builtin.Tuple.tupleHashOf [hashInt k.1,tupleKeyHash (Ys ww w) k.2])
def IsPair.inj{h:Heap}{a:Aw}{x y:Int×Ak}(p:IsPair ww w h x a)(q:IsPair ww w h y a):x=y:=by
 revert p;refine ε4 λo n t tk=>θ3 λe c d k=>?_;revert q;refine ε4 λo' n' t' O=>θ3 λr c' B C=>?_;rw[e]at r;cases r;rw[d]at B;injection B with J T;injection congrArg Array.toList J with L G;injection L with I _;injection G with F _;injection F with D;subst D;have:=(tupleKind _).inj k C;exact Dk I this
def IsPair.keeps{h h':Heap}{k:Int×Ak}{a d:Aw}{o:Obj}{es:Array DictEntry}{ep:Nat}(p:IsPair ww w h k a)(e:h.get? d=some o)(r:o.data=.dict es ep)(s:Heap.SameBut d h h'):IsPair ww w h' k a:=by
 revert p;refine ε4 λD n t tk=>θ3 λe1 B C k1=>?_;have q:a≠d:=λz=>by
  grind
 exact ι4 D n t tk ⟨(s.2 a q).trans e1,B,C,(tupleKind _).keeps k1 e r s⟩
def IsPair.pyHash{A:Ar}{E:Ab}{s:As}{k:Int×Ak}{a:Aw}{Q:Int->Shared->Prop}(r:A.units+1<cLine)(p:IsPair ww w s.heap k a)
  (h:Q (Rr ww w k) {s with toks:=s.toks+(k.2.length+3)}):A9 ww w A (PySem.pyHash (.ref a)) Q E s:=by
 revert p;refine ε4 λo n t tk=>θ3 λe c d B=>?_;refine Lu ⟨o,e,c⟩ F.slot_tuple_hash F.entry_tuple_hash (F.args_tuple_hash_1 _) Vd (.inr Vb) ?_;refine ab (fK U ?_);refine ab (wpAny_tupleItemsOf e d (ab (Fs _ (λpi hs s'=>(pi=[.int k.1 tk,.ref t]/\hs=#[]/\s'=s)\/(pi=[.ref t]/\hs=#[hashInt k.1]/\s'={s with toks:=s.toks+1})\/(pi=[]/\hs=#[hashInt k.1,tupleKeyHash (Ys ww w) k.2]/\s'={s with toks:=s.toks+1+(k.2.length+1)})) _ ?_ ?_ _ _ (.inl ⟨U,U,U⟩))))
 .rintro x pi b s' (⟨e1,rfl,rfl⟩|⟨e1,rfl,rfl⟩|⟨e1,_,_⟩)
  .cases e1;exact ab (KW (aJ (.inr (.inl ⟨U,U,U⟩))))
  .cases e1;refine ab (wpAny_pyHash_tuple (r) B (aJ (.inr (.inr ⟨U,U,U⟩))))
  .cases e1
 .rintro b s' (⟨e1,_,_⟩|⟨e1,_,_⟩|⟨_,rfl,rfl⟩)
  .cases e1
  .cases e1
  .refine ab (Cc (aJ ⟨_,_,U,?_⟩));have q:s.toks+1+(k.2.length+1)+1=s.toks+(k.2.length+3):=Vb
   rw[q];exact h
theorem _root_.PySem.IsTupleKey.any(k:IsTupleKey (Ys ww w) h B a)(q:Aq)(r:Au):IsTupleKey (Ys q r) h B a:=by
 revert k;refine ε3 λo items n=>θ3 λe c d it=>?_;have go:∀{B:Ak} {vs:Ag},ItemsAre (Ys ww w) B vs->ItemsAre (Ys q r) B vs:=by
  intro B vs hh
  induction hh with
  |nil=>exact .nil
  |cons h1 _ C=>exact .cons h1 C
 exact ι3 o items n ⟨e,c,d,go it⟩
def IsPair.eqBool{A:Ar}{E:Ab}{s:As}{x y:Int×Ak}{a b:Aw}{Q:Bool->Shared->Prop}(O:A.units+1<cLine)(p:IsPair ww w s.heap x a)(q:IsPair ww w s.heap y b)
  (h:Q (decide (x=y)) s):A9 ww w A (PySem.eqBool (.ref a) (.ref b)) Q E s:=by
 by_cases D:a=b
 .subst D;have:=p.inj q;rw[aZ this]at h;exact IX _ ww w E Q h
 .revert p;refine ε4 λo n t tk=>θ3 λe c d T=>?_;revert q;refine ε4 λo' n' t' C=>θ3 λI c' J F=>?_;have it:∀j (h1:j<(#[Value.int x.1 tk,.ref t]).size) (h2:j<(#[Value.int y.1 C,.ref t']).size),SeqAt.EqAt A.in1 s (#[Value.int x.1 tk,.ref t])[j] (#[Value.int y.1 C,.ref t'])[j] (if j=0 then x.1 == y.1 else decide (x.2=y.2)):=by
   intro j h1 h2
   match j,h1,h2 with
   |0,_,_=>exact SeqAt.EqAt.int_int x.1 tk y.1 C
   |1,_,_=>exactλB G Y Ua h'=>wpAny_eqBool_tuple (O) (T.any B G) (F.any B G) h'
  have r:=MD ⟨o,e,c,n,d⟩ ⟨o',I,c',n',J⟩ Vb it;have L:((List.range (min (#[Value.int x.1 tk,.ref t]).size (#[Value.int y.1 C,.ref t']).size)).all (λj=>if j=0 then x.1 == y.1 else decide (x.2=y.2))&&(#[Value.int x.1 tk,.ref t]).size == (#[Value.int y.1 C,.ref t']).size)=decide (x=y):=by
   show((x.1 == y.1)&&(decide _&&true)&&true)=decide _
   by_cases h1:x.1=y.1
   .grind(gen:=1)
   .lia
  rw[L]at r;exact KR D r ww w E Q h
theorem yr{A:Ar}{E:Ab}{Q:Bool->Shared->Prop}(m:Nat)(k:IsTupleKey (Ys ww w) s.heap B a)(h:Q true s):A9 ww w A (eqIsQuiet (m+1) (.ref a)) Q E s:=by
 revert k;refine ε3 λo items n=>θ3 λe c d it=>?_;rw[eqIsQuiet.eq_2];have r:s.TypeIs (.ref a) "tuple" :=⟨o,e,c⟩;refine ab (tW r K8.lookup (ab (oH (b:=true) r Ve (ab (lH e d (ab (Fs _ (λpi b s'=>(∀v∈pi,carriedByValue v=true)/\b=(none,())/\s'=s) _ ?_ ?_ _ _ ⟨λv q=>?_,U,U⟩)))))))
 .rintro x pi b s' ⟨q,rfl,rfl⟩;refine ab ?_;rw[eqIsQuiet_byValue m (q x bM)];exact aJ (aJ ⟨λv D=>q v (b8 _ D),U,U⟩)
 .rintro b s' ⟨_,rfl,rfl⟩;exact aJ h
 .have go:∀{B:Ak} {vs:Ag},ItemsAre (Ys ww w) B vs->∀v∈vs,carriedByValue v=true:=by
   intro B vs hh
   induction hh with
   |nil=>exactλv q=>nomatch q
   |cons h1 _ C=>
    intro v q;rcases bJ.mp q with rfl|q
    .exact(Ys ww w).byValue _ _ h1
    .exact C v q
  exact go it v q
def IsPair.quiet{A:Ar}{E:Ab}{k:Int×Ak}{Q:Bool->Shared->Prop}(p:IsPair ww w s.heap k a)(h:Q true s):A9 ww w A (eqIsQuiet 8 (.ref a)) Q E s:=by
 revert p;refine ε4 λo n t tk=>θ3 λe c d r=>?_;rw[eqIsQuiet.eq_2];have q:s.TypeIs (.ref a) "tuple" :=⟨o,e,c⟩;refine ab (tW q K8.lookup (ab (oH (b:=true) q Ve (ab (lH e d (ab (Fs _ (λpi b s'=>(pi=[.int k.1 tk,.ref t]\/pi=[.ref t]\/pi=[])/\b=(none,())/\s'=s) _ ?_ ?_ _ _ ⟨.inl U,U,U⟩)))))))
 .rintro x pi b s' ⟨B,rfl,rfl⟩;rcases B with e1|e1|e1
  .cases e1;refine ab (aJ (aJ ⟨.inr (.inl U),U,U⟩))
  .cases e1;exact ab (yr 6 r (aJ ⟨.inr (.inr U),U,U⟩))
  .cases e1
 .rintro b s' ⟨_,rfl,rfl⟩;exact aJ h
end
def Zjh(ww:Aq)(w:Au):HeapKind ww w (Int×Ak)where
 is:=IsPair ww w
 hash:=Rr ww w
 draws:=λk=>k.2.length+3
 room:=λA=>A.units+1<cLine
 inj:=λp q=>p.inj q
 keeps:=λp e B s=>p.keeps e B s
 pyHash:=λr p h=>p.pyHash r h
 eqBool:=λr p q h=>p.eqBool r q h
 quiet:=λp h=>p.quiet h
section
variable {ww:Aq}{w:Au}{K:Type}[DecidableEq K]
theorem Si{xs:List (K×Aw×Av)}{k:K}{j:Nat}{p:Aw×Av}(q:(xs.map (·.1)).Nodup)(h:xs[j]?=some (k,p)):atKey xs k=some p:=by
 unfold atKey
 induction xs generalizing j with
 |nil=>cases h
 |cons x r B=>
  rw[fW,fZ]at q;rw[Lg];cases j with
  |zero=>
   cases h;rw[aZ U];rfl
  |succ j=>
   rw[bF λz=>q.1 (by rw[z];exact bB.mpr ⟨_,cY h,U⟩)];exact B q.2 h
def Zcw{xs:List (K×Aw×Av)}{k:K}(h:∀(j:Nat)(p:Aw×Av),xs[j]?≠some (k,p)):atKey xs k=none:=by
 unfold atKey;rw[Option.map_eq_none_iff,List.find?_eq_none];intro x r z;obtain⟨j,q⟩:=El r;refine h j x.2 ?_;rw[q,<-dB z]
def qU(knd:HeapKind ww w K)(d a:Aw)(Ua:(d == sysModules)=false)(dflt:Av):
  MeetsIn ww w (Builtin.«dict.setdefault» ⟨[.ref d,.ref a,dflt],[]⟩) λA R s=>knd.room A.in1/\∃k xs,knd.is s.heap k a/\Heap.DictOfH knd s.heap d xs/\xs.length<=sizeLine /\
   (∀p,atKey xs k=some p->R (.ok (.ret p.2)) {s with toks:=s.toks+knd.draws k}) /\
   (atKey xs k=none->∀h',Heap.DictOfH knd h' d (xs++[(k,a,dflt)])->Heap.SameBut d s.heap h'->R (.ok (.ret dflt)) {s with heap:=h',toks:=s.toks+knd.draws k}):=by
 intro A R s ⟨hr,k,xs,hk,dd,J,h1,h2⟩;refine ω (id dd) (ε3 λo es ep=>θ5 λe ex B r C D=>?_);refine ab (ab (MF dd.typeIs (ab (fK U ?_))));refine ab (fK U (ab (fK U (aJ ?_))));try dsimp only
 rw[Ua];refine ab (fV (ab (knd.pyHash hr hk (ab (wpAny_dictFind_heap hr hk e B r C D (λF=>?_) (λj p I=>?_))))))
 .refine ab (mN (ab (wpAny_updateDictKeys e B (aJ (aJ ?_)) ?_ ?_)))
  .refine h2 (Zcw F) _ ?_ (lS ..);obtain⟨oc,od,Z,Y⟩:=o;obtain⟨x1,x2,x3⟩:=ex;subst B;have O:Heap.SameBut d s.heap (s.heap.update d (Obj.mapDictKeys λx=>x.push {hash:=knd.hash k,key:=.ref a,val:=dflt})):=lS ..;refine⟨_,_,_,lG _ e U,⟨x1,x2,x3⟩,U,?_,λx L=>?_,?_⟩
   .rw[Kp,r,b0];rfl
   .rcases cT.mp L with z|z
    .exact knd.keeps (C x z) e U O
    .rw[cA.mp z];exact knd.keeps hk e U O
   .rw[b0,Bu];refine⟨D,fZ.mpr ⟨fG,fL⟩,λy T z J q=>?_⟩;rw[fW,ID]at J;rw[q]at T;obtain⟨x,L,ex⟩:=bB.mp T;obtain⟨j,I⟩:=El L;have ex2:=ex;exact F j x.2 Vc
  .rw[<-lE,r,aF];exact J
  .simp_all
 .refine ab (EU e B ?_);have G:es[j]?=some (entryOfKey knd (k,p)):=by
   rw[<-Eb,r,bG,I];rfl
  rw[G];exact ab (mN (aJ (aJ (h1 p (Si D I)))))
end
def Znq{ww:Aq}{A:Ar}{E:Ab}{d:Aw}{o:Obj}{es:Array DictEntry}(B:(d == sysModules)=false)(e:s.heap.get? d=some o)(ex:o.ExactDict)(r:o.data=.dict es i)(C:es.size<=sizeLine)
  (h:Q (.int (es.size:Int) (s.toks+1)) {s with toks:=s.toks+1+1}):A9 ww w A (call (.builtin "len") [.ref d]) Q E s:=by
 have q:s.TypeIs (.ref d) "dict" :=⟨o,e,ex.1⟩;rw[sI]at C;refine call_len_slot q F.slot_dict_len (λD h'=>(dQ F.slot_dict_len q F.entry_dict_len (ab (ab (MF q (ab (fK U (aJ (ab (fK U (ab (ab (EU e r (aJ (ab ?_))))))))))))) (F.args_dict_len_1 _))) Vb Vb h;unfold Builtin.Dict.pendingCount;rw[B];refine aJ (ab (Cc (aJ ⟨_,U,h'⟩)))
structure KN(Kk:Type)[DecidableEq Kk]where
 knd:∀(P:Aq)(w:Au),HeapKind P w Kk
 CO:Kk->Int
 at_:Hp->Kk->Addr->Prop
 hash_eq:∀P w k,(knd P w).hash k=CO k
 ok:∀(P:Aq)(w:Au)(H:Hp)(h:Heap)(k:Kk)(a:Aw),cO P w H h->at_ H k a->(knd P w).is h k a
 room:∀(P:Aq)(w:Au)(A:Ar),A.units+2<cLine->(knd P w).room A.in1
 iF:∀(P:Aq)(w:Au)(A:Ar),A.units+2<cLine->(knd P w).room A
 keep:∀(H H':Hp)(k:Kk)(a:Aw),(∀b xs,H b=am xs->H' b=am xs)->at_ H k a->at_ H' k a
section
variable {Kk:Type}[DecidableEq Kk](kn:KN Kk)
def EK(x:Kk×Aw×Av):DictEntry:={hash:=kn.CO x.1,key:=.ref x.2.1,val:=x.2.2}
def IE(d:Aw)(xs:List (Kk×Aw×Av))(h:Heap):Prop:=(d == sysModules)=false/\∃o es ep,h.get? d=some o/\o.ExactDict/\o.data=.dict es ep/\es.toList=xs.map (EK kn)
def G3(H:Hp)(d:Aw)(wl:List (Kk×V)):Prop:=(wl.map (·.1)).Nodup/\wl.length<sizeLine /\
 ((wl=[]/\H d=some (.dK []))\/∃xs,H d=some (.ext (IE kn d xs))/\Paired (λ(p:Kk×V) (q:Kk×Aw×Av)=>p.1=q.1/\kn.at_ H q.1 q.2.1/\aI p.2 q.2.2) wl xs)
variable {kn}
def NW(xs:List (Kk×Aw×Av)):xs.map (entryOfKey (kn.knd P w))=xs.map (EK kn):=by
 refine fE λx _=>?_;show DictEntry.mk _ _ _=DictEntry.mk _ _ _;rw[kn.hash_eq]
theorem G3.dict{d:Aw}{wl:List (Kk×V)}(n:G3 kn H d wl)(I:aD b C c H s):
  ∃xs,Heap.DictOfH (kn.knd b.prog b.w) s.heap d xs/\Paired (λ(p:Kk×V) (q:Kk×Aw×Av)=>p.1=q.1/\kn.at_ H q.1 q.2.1/\aI p.2 q.2.2) wl xs/\tI (H d)/\(d == sysModules)=false:=by
 obtain⟨O,T,h|h⟩:=n
 .obtain⟨rfl,e⟩:=h;obtain⟨z,J,vs,G,dd⟩:=Iw I.aM e;cases G;revert dd;refine ε3 λo es ep=>θ5 λe1 ex e2 _ r _=>?_;have D:es.toList=[]:=by
   generalize es.toList=l at r;cases r;rfl
  exact⟨[],ι3 o es ep ⟨e1,ex,e2,D,(λx B=>nomatch B),fL⟩,.nil,by rw[e];exact True.intro,J⟩
 .obtain⟨xs,e,r⟩:=h;obtain⟨⟨L,o,es,ep,e1,ex,e2,D⟩,_,_⟩:=(I.aM d _ e);refine⟨xs,ι3 o es ep ⟨e1,ex,e2,by rw[D,NW],λx B=>?_,?_⟩,r,by rw[e];exact True.intro,L⟩
  .have go:∀{l:List (Kk×V)} {m:List (Kk×Aw×Av)},Paired (λp q=>p.1=q.1/\kn.at_ H q.1 q.2.1/\aI p.2 q.2.2) l m->∀x∈m,kn.at_ H x.1 x.2.1:=by
    intro l m r
    induction r with
    |nil=>exactλx B=>nomatch B
    |cons h _ F=>
     intro x B;rcases bJ.mp B with rfl|B
     .exact h.2.1
     .exact F x B
   exact kn.ok _ _ _ _ _ _ I.aM (go r x B)
  .have go:∀{l:List (Kk×V)} {m:List (Kk×Aw×Av)},Paired (λp q=>p.1=q.1/\kn.at_ H q.1 q.2.1/\aI p.2 q.2.2) l m->m.map (·.1)=l.map (·.1):=by
    intro l m r
    induction r with
    |nil=>rfl
    |cons h _ F=>rw[fW,fW,F,h.1]
   rw[go r];exact O
theorem J4{P:Kk×V->Kk×Aw×Av->Prop}(F:∀p q,P p q->p.1=q.1):∀{l:List (Kk×V)} {m:List (Kk×Aw×Av)},Paired P l m->∀k,(∀v,Ym l k=some v->∃q,atKey m k=some q/\∃p,P p (k,q)/\p.2=v)/\(Ym l k=none->atKey m k=none)
 |[],[],_,k=>⟨λv h=>(by cases h),λ_=>U⟩
 |p::l,q::m,.cons h t,k=>by
  have e:=F p q h
  by_cases r:p.1=k
  .have D:=e.symm.trans r;have a1:atKey (q::m) k=some q.2:=by
    unfold atKey;rw[Lg,aZ D];rfl
   have B:Ym (p::l) k=some p.2:=Yo r;refine⟨λv C=>?_,λC=>?_⟩
   .grind
   .rw[B]at C;cases C
  .have D:=λz=>r (e.trans z)
   have a1:atKey (q::m) k=atKey m k:=by
    unfold atKey;rw[Lg,bF D]
   have B:Ym _ k=Ym l k:=ZZ r;rw[a1,B];exact J4 F t k
def SM{d:Aw}{wl:List (Kk×V)}{A:Ar}{E:Ab}(I:aD b C c H s)(n:G3 kn H d wl)(h:∀t s',aD b C c H s'->Q (.int (wl.length:Int) t) s'):
  wpAny (model b.prog b.w) A (call (.builtin "len") [.ref d]) Q E s:=by
 obtain⟨xs,⟨o,es,ep,e1,ex,e2,q,_,_⟩,B,_,D⟩:=n.dict I;have r:es.size=wl.length:=by rw[<-lE,q,aF];exact(Cq B).symm
 refine Znq D e1 ex e2 (by rw[r];exact bL n.2.1) ?_;rw[r];exact h _ _ (I.tok _)
theorem vd{X:Cx}{d:Aw}{k:Kk}{wl:List (Kk×V)}{xs:List (Kk×Aw×Av)}{h':Heap}{tk:Nat}(I:aD X C c H s)(n:G3 kn H d wl)(hk:kn.at_ H k a)(rv:aI v u)(B:wl.length+1<sizeLine)
  (F:Paired (λ(p:Kk×V) (q:Kk×Aw×Av)=>p.1=q.1/\kn.at_ H q.1 q.2.1/\aI p.2 q.2.2) wl xs) (J:tI (H d)) (Ua:(d == sysModules)=false) (hv:Ym wl k=none) (dd':Heap.DictOfH (kn.knd X.prog X.w) h' d (xs++[(k,a,u)])) (sb:Heap.SameBut d s.heap h'):
  ∃H',G3 kn H' d (wl++[(k,v)])/\(∀b o,H b=some o->b≠d->H' b=some o)/\(∃o,H'=aA H d o)/\aD X C c H' {s with heap:=h',toks:=tk}:=by
 revert dd';refine ε3 λo es ep=>θ5 λe1 ex e2 D _ _=>?_;have Z:IE kn d _ h':=⟨Ua,o,es,ep,e1,ex,e2,by rw[D,NW]⟩;have Y:∀b ys,H b=am ys->aA H d (.ext (IE kn d (xs++[(k,a,u)]))) b=some _:=λb ys e=>by
  rw[Zk λz=>by rw[<-z,e]at J;exact J];exact e
 refine⟨_,⟨?_,?_,.inr ⟨_,Zb,?_⟩⟩,λb o e hb=>by rw[Zk hb];exact e,⟨_,U⟩,z6 I J sb ⟨o,e1⟩ (by
    refine ω (id Z) (θ1 λUa=>ε3 λo es ep=>θ1 λe r=>?_);refine⟨Z,⟨o,e⟩,λh1 h2 y k=>?_⟩;revert y;refine θ1 λL=>ε3 λo' G O=>θ1 λe' r'=>?_;exact⟨L,o',G,O,k _ e',r'⟩)⟩
 .rw[b0,Bu];refine⟨n.1,fZ.mpr ⟨fG,fL⟩,λy T z B q=>?_⟩;rw[fW,ID,cA]at B;rw[q,B]at T;obtain⟨x,hx,ex⟩:=bB.mp T;have:=xX n.1 x hx;rw[ex,hv]at this;cases this
 .rw[bA];exact B
 .have go:∀{l:List _} {m:List _},Paired (λp q=>p.1=q.1/\kn.at_ H q.1 q.2.1/\aI p.2 q.2.2) l m->Paired (λp q=>p.1=q.1/\kn.at_ (aA H d (.ext (IE kn d (xs++[(k,a,u)])))) q.1 q.2.1/\aI p.2 q.2.2) (l++[(k,v)]) (m++[(k,a,u)]):=by
   intro l m F
   induction F with
   |nil=>exact .cons ⟨U,kn.keep _ _ _ _ Y hk,rv⟩ .nil
   |cons h _ ih=>exact .cons ⟨h.1,kn.keep _ _ _ _ Y h.2.1,h.2.2⟩ ih
  exact go F
def jF{X:Cx}{d:Aw}{k:Kk}{wl:List (Kk×V)}{A:Ar}{E:Ab}(I:aD X C c H s)(n:G3 kn H d wl)(Y:kn.at_ H k a)(hu:A.units+2<cLine)(rv:aI v u)(hz:wl.length+1<sizeLine)
  (h1:∀x,Ym wl k=some x->∀T s',aI x T->aD X C c H s'->Q T s')
  (h2:Ym wl k=none->∀H' s',G3 kn H' d (wl++[(k,v)])->(∀b o,H b=some o->b≠d->H' b=some o)->(∃o,H'=aA H d o)->aD X C c H' s'->Q u s'):
  A9 X.prog X.w A (call (.builtin "dict.setdefault") [.ref d,.ref a,u]) Q E s:=by
 refine ω (n.dict I) (ε1 λxs=>θ3 λdd G mu Ua=>?_);have L:=J4 (λp q h=>h.1) G k;refine call_meetsIn F.slot_dict_setdefault dd.typeIs F.entry_dict_setdefault (F.args_dict_setdefault_3 _ _ _) (qU _ d a Ua u) ⟨kn.room _ _ _ hu,k,xs,kn.ok _ _ _ _ _ _ I.aM Y,dd,?_,?_,?_⟩
 .rw[<-Cq G];exact bL n.2.1
 .intro p D;cases r:Ym wl k with
  |none=>rw[L.2 r]at D;cases D
  |some x=>
   obtain⟨q,B,p',O,e⟩:=L.1 x r;rw[D]at B;cases B;exact h1 x r p.2 _ (e ▸ O.2.2) (I.tok _)
 .intro J h' dd' sb;have r:Ym wl k=none:=by
   cases r:Ym wl k with
   |none=>rfl
   |some x=>
    obtain⟨q,B,_⟩:=L.1 x r;rw[J]at B;cases B
  obtain⟨H',n',Z,o',I'⟩:=vd I n Y rv hz G mu Ua r dd' sb;exact h2 r H' _ n' Z o' I'
end
def vB:V->Option Int
 |.int i=>some i
 |.bl b=>some (lD b)
 |_=>none
theorem QU{P:Aq}{w:Au}:∀{vs:A8} {q:Ag} {ks:Ak},aH vs q->vs.map vB=ks.map some->ItemsAre (Ys P w) ks q
 |[],_,[],r,_=>by cases r;exact .nil
 |v::vs,_,k::ks,.cons h t,e=>by
  injection e with e1 e2;refine .cons ?_ (QU t e2);cases v with
  |int i=>
   obtain⟨t,rfl⟩:=h;cases e1;exact nY _
  |bl b=>
   cases(h);cases e1;exact nY _
  |_=>cases e1
def kX(H:Hp)(ks:Ak)(a:Aw):Prop:=∃vs,H a=am vs/\vs.map vB=ks.map some
def kX.is(ok:cO P w H h)(b:kX H B a):IsTupleKey (Ys P w) h B a:=by
 obtain⟨vs,e,D⟩:=b;obtain⟨_,q,r,o,h1,h2,⟨n,C⟩,_⟩:=(ok a _ e);exact ι3 o _ n ⟨h1,h2,C,by simpa using QU r D⟩
def RW:KN (Ak)where
 knd:=λP w=>tupleKind (Ys P w)
 CO:=λks=>reduceHash (Builtin.Tuple.tupleHashOf (ks.map hashInt))
 at_:=kX
 hash_eq:=λP w k=>U
 ok:=λP w H h k a ok b=>b.is ok
 room:=λP w A q=>by show A.units+1<cLine;lia
 iF:=λP w A q=>by show A.units<cLine;lia
 keep:=λH H' k a B ⟨vs,e,r⟩=>⟨vs,B _ _ e,r⟩
def KU(H:Hp)(k:Int×Ak)(a:Aw):Prop:=∃t,H a=am [.int k.1,.ref t]/\kX H k.2 t
def r4:KN (Int×Ak)where
 knd:=Zjh
 CO:=λk=>reduceHash (Builtin.Tuple.tupleHashOf [hashInt k.1,reduceHash (Builtin.Tuple.tupleHashOf (k.2.map hashInt))])
 at_:=KU
 hash_eq:=λP w k=>U
 ok:=λP w H h k a ok ⟨t,e,b⟩=>by
  obtain⟨_,D,r,o,h1,h2,⟨n,F⟩,_⟩:=(show XJ P w H h a (.tup [.int k.1,.ref t])from ok a _ e);cases r with
  |cons I q=>
  cases q with
  |cons q J=>
  cases J;obtain⟨tk,rfl⟩:=I;cases(show _=Value.ref t from q);exact ι4 o n t tk ⟨h1,h2,F,b.is ok⟩
 room:=λP w A C=>by show A.units+1+1<cLine;lia
 iF:=λP w A C=>by show A.units+1<cLine;lia
 keep:=λH H' k a B ⟨t,e,vs,e2,G⟩=>⟨t,B _ _ e,vs,B _ _ e2,G⟩
section
def Pu:A8->Hp->VK->Prop:=λxs H Q=>∃(Kk:Type)(_:DecidableEq Kk)(kn:KN Kk)(d:Aw)(wl:List (Kk×V)),xs=[V.ref d]/\G3 kn H d wl/\Q (.int wl.length) H
def Ub:YX X (.builtin "len") Pu:=by
 rintro zn s σ H xs D Q I r ⟨Kk,_,kn,d,wl,rfl,n,q⟩;obtain⟨u,rfl,B⟩:=bS r;cases B;exact SM I n λt s' C=>⟨.int _,H,C,⟨t,U⟩,q⟩
def Oa:V->List V->Hp->VK->Prop:=λx vs H Q=>∃(Kk:Type)(_:DecidableEq Kk)(kn:KN Kk)(d a:Aw)(k:Kk)(v:V)(wl:List (Kk×V)),x=.ref d/\vs=[.ref a,v]/\G3 kn H d wl/\kn.at_ H k a/\wl.length+1<sizeLine /\
 (∀y,Ym wl k=some y->Q y H)/\(Ym wl k=none->∀H',G3 kn H' d (wl++[(k,v)])->(∀b o,H b=some o->b≠d->H' b=some o)->(∃o,H'=aA H d o)->Q v H')
def RT (C:X.A.units+2<cLine):EM X "dict.setdefault" Oa:=by
 rintro zn s σ H x vs v Z Q I L D ⟨Kk,_,kn,d,a,k,y,wl,rfl,rfl,n,O,r,h1,h2⟩;cases L;cases D with
 |cons F q=>
 cases q with
 |cons q Ua=>
 cases Ua;cases(F);exact jF I n O C q r (λz r Y s' G B=>⟨z,H,B,G,h1 z r⟩) λT H' s' n' o' J B=>⟨y,H',B,q,h2 T H' n' o' J⟩
def Qh(x:V)(H:Hp):Prop:=∃(Kk:Type)(_:DecidableEq Kk)(kn:KN Kk)(d:Aw)(wl:List (Kk×V)),x=.ref d/\G3 kn H d wl
def BW     {x:V} {v:Av} (I:aD X C c H s) (r:aI x v) (ty:Qh x H):s.TypeIs v "dict" /\ ∀a,v=.ref a->∃ob,s.heap.get? a=some ob/\ob.dict=none:=by
 obtain⟨Kk,_,kn,d,wl,rfl,n⟩:=ty;cases r;obtain⟨xs,⟨o,es,ep,e,ex,_⟩,_,_,_⟩:=n.dict I;refine⟨⟨o,e,ex.1⟩,λa q=>?_⟩;cases q;exact⟨o,e,ex.2.1⟩
def EC(to:TE)(t:TA):TE:=λσ H Q=>to σ H λx H1=>Qh x H1/\t σ H1 λxs H2=>Oa x xs H2 Q
variable {o e:Ax}{es:An}{to:TE}{t:TA}{name:Str}{apos pu:Pos}
def VS (T:X.A.units+2<cLine) (Z:QE X o to) (ha:QA X (e::es) t) (q:attributeBase o "setdefault" X.env (eval o X.env)=eval o X.env:=by rfl) (r:(apos.endLine == pu.line)=true:=by rfl) (J:(e::es).all Yi=true:=by rfl) (hl:(e::es).length<30:=by decide):
  QE X (.Call (.Attribute o "setdefault" apos) (e::es) [] pu) (EC to t):=by
 refine⟨λzn s σ H Q I h=>?_⟩;have C:=J;rw[nK,lQ]at C;have B:((backTo pu (starEach (e::es) X.env)).all (λx=>!x.1)&&(backToKw pu (keywordEach [] X.env)).all (λx=>x.1.isSome)&&decide ((e::es).length+([]:List Keyword).length+(if([]:List Keyword).isEmpty then 0 else 1)<30))=true:=by
  rw[cH J];exact aZ hl
 refine MT q B r U (aR (Z.out zn s σ H _ I h) λv O ⟨x,H1,D,G,ty,Ua⟩=>?_);obtain⟨h1,h2⟩:=BW D G ty;refine ι2 "dict" _ ⟨F.plainAttrs_dict,F.slot_dict_setdefault,F.type_dict_setdefault,h1,h2,?_⟩;have L:=ha.out pu zn O σ H1 _ D Ua;have hs:starEach _ X.env=(false,eval e X.env)::starEach es X.env:=Z0 C.1;rw[hs]at L ⊢;refine Fx Vc (HW (aR L λus s2 ⟨vs,H2,I2,Y,q2⟩=>RT T zn s2 σ H2 x vs v us Q I2 G Y q2))
end
def Fq(K:Af):A8->Hp->VK->Prop:=λxs H Q=>∃(p:Aw)(ns:Ak),xs=[.ref p]/\aB K H p (ns.map V.int)/\ns≠[]/\∀m∈ns,(∀n∈ns,n<=m)->Q (.int m) H
def kY (hc:X.calm=true):YX X (.builtin "max") (Fq X.K):=by
 refine λzn s σ H xs us Q I r=>ε2 λp ns=>θ3 λzq0 hq hne q=>?_;subst zq0;obtain⟨u,rfl,Z⟩:=bS r;cases Z;obtain⟨O,r',pl,hz⟩:=I.list hq;have hi:=fB r';obtain⟨xs,G⟩:=hi.allInts.items;have e1:ns=xs.toList.map (·.1):=by
  rw[<-nums_intItems,<-G];exact(hi.numsOf).symm
 have hsz:0<xs.size:=by
  grind
 refine max_intList (I.ok.hd hc) (G ▸ pl.isList) hsz λv h' tk D hk=>?_;have F:=argBest_gt (numAt xs) (xs.size-1);generalize argBest _ _=b at D F;have at_:∀j (B:j<xs.size),numAt xs j=xs[j].1/\(intItems xs)[j]?=some (.int xs[j].1 xs[j].2):=λj B=>⟨by simp[numAt,B],by simp[intItems,B]⟩;obtain⟨Y,L⟩:=at_ b Vc;rw[L]at D;cases D;refine⟨.int xs[b].1,H,I.kept hk,⟨_,U⟩,q _ ?_ λn J=>?_⟩
 .grind
 .rw[e1]at J;obtain⟨y,Ua,rfl⟩:=bB.mp J;obtain⟨j,B⟩:=El Ua;have C:j<xs.size:=by
   grind
  have:=F.2 j Vc;rw[(at_ j C).1,Y]at this;have T:xs[j]=y:=by
   simp_all
  rw[T]at this;exact this
def Fy:A8->Hp->VK->Prop:=λxs H Q=>∃j:Int,xs=[.int j]/\∀p,H p=none->Q (.ref p) (aA H p (.tF 0 j))
def gW:YX X (.type "range") Fy:=by
 rintro zn s σ H xs C Q I r ⟨j,rfl,q⟩;obtain⟨u,rfl,B⟩:=bS r;obtain⟨t,rfl⟩:=B;refine call_range_1 ⟨.ref _,_,I.laid (λb u e=>aW _ e) (aN _) ?_,U,q _ I.fresh⟩;exact⟨_,_,_,bX _ U⟩
def Znu:A8->Hp->VK->Prop:=λxs H Q=>∃(p:Aw)(n:Nat),xs=[.ref p]/\H p=some (.tF 0 (n:Int))/\n<=1000000/\∀l,H l=none->Q (.ref l) (aA H l (.lst ((List.range n).map λi:Nat=>V.int i)))
theorem gX (Ua:X.calm=true):YX X (.type "list") Znu:=by
 refine λzn s σ H xs C Q I r=>ε2 λp n=>θ3 λzq0 e Y q=>?_;subst zq0;obtain⟨u,rfl,G⟩:=bS r;cases G;refine ω ((I.aM p _ e)) (ε3 λt u v J=>?_);have hsz:Builtin.Range.rangeSize 0 n 1=n:=by
  unfold Builtin.Range.rangeSize;split
  .simp_all
  .simp_all
 have B:∀z,0<=z->z<=1000000->Builtin.Range.rangeFitsLong z=true:=λz h1 h2=>by
  unfold Builtin.Range.rangeFitsLong;simp;lia
 have F:Builtin.Range.small 0 n 1=true:=by
  unfold Builtin.Range.small;rw[hsz,B 0 Va Va,B 1 Va Va,show(n:Int)+(1-1)=n by lia,B n Vb Vb];simp
 refine call_list_range (I.ok.hd Ua) J F hsz Vb λh' tk acc c' T D it=>⟨.ref _,_,I.laid T (aN _) ?_,U,q _ I.fresh⟩;refine⟨by rw[aF,dY,sI];lia,_,c',?_,by simpa using D⟩;have go:∀(m:Nat)(C:Ag)(k:Nat),C.length=m->(∀j v,C[j]?=some v->∃t,v=Value.int ((k+j:Nat)) t)->aH ((List.range' k m).map λi:Nat=>V.int i) C:=by
  intro m
  induction m with
  |zero=>
   intro C k D _;rw[pI D];exact .nil
  |succ m L=>
   intro C k D hh;cases C with
   |nil=>cases D
   |cons u C=>
    refine .cons ?_ (L C _ (by simp_all) λj v O=>?_)
    .obtain⟨t,e⟩:=hh 0 u rfl;exact⟨t,e⟩
    .obtain⟨t,e⟩:=hh (j+1) v (by simp_all);exact⟨t,Vc⟩
 rw[List.range_eq_range'];refine go n _ 0 (it.1) λj v O=>?_;obtain⟨t,e⟩:=it.2 j v Vc;exact⟨t,Vc⟩
def xy{A:PySem.Around}{k:Nat}(q:Jk k A):A.units+2<PySem.cLine:=Ek Vb q.units
def RY(B:Aq)(w:Au)(K:Af)(mg:Ae)(wv:Heap)(k:Nat)(sp:Sp)(P:Aw)(sn:Pos)(ut:Str)(ta tb:TE)(n:Nat)(is:Aj)(te:TE):TE:=λσ H Q=>ta σ H λz r=>tb σ r λx H1=>Yy H1 P sn ut /\
 ∀(cs:List Aw)(f:Aw)(H2:Hp),(∀c∈cs,H1 c=none)->(∀c∈cs,∃o,H2 c=some (WC o))->H1 f=none->(∀q,Z8 H2 q->Yy (aY cs q) P sn ut)->(∀b o,H1 b=some o->b≠P->H2 b=some o)->
  Xi B w K mg wv k f H2 (Qp n te cs (is.map λi=>(σ[i]?).getD none))->sp [z,x,.ref f] H2 (λv q=>Q v (aY cs q)) E0
section
variable {X:Cx}{tz:Arguments}{body a:Ax}{wn:Scope}{sn p pos:Pos}{c P g:Aw}{ut x:Str}{k kl:Nat}{gd:Ao}{pg ps ys:Ai}{is:Aj}{sp:Sp}{ta te:TE}{b:Ax}{tb:TE}
def Zft(F:g7 X.prog X.w X.K X.mg X.base lR k g gd pg sp)(hr:Jk k X.A)(hg:Gl X x)(hm:X.mg x=some (.ref g))(hk:PySem.W.keepIn X.K (.ref g)=true)(hb:c5 X.K gd pg [])(hfn:X.fn=λ_=>true)
  (ha:QE X a ta) (hb2:QE X b tb) (O:X.env.code=.ref c) (C:PySem.W.CodeHd X.base c P) (B:yY X.mg X.base) (Z:defaultsOf tz X.env=([],[])) (hq:X.env.qual ++ "<lambda>" = ut)
  {S0:Scope} {N0:Ai} (hX:X.env.scope=S0) (hXN:X.N=N0) (LL:QV S0 wn N0 ps ys is)
  (Ua:∀(cl:List (Str×Aw))(pm cv D:Av)(us:Ag),us.length=ps.length->bindArgs (PySem.W.kla_fn "<lambda>" ut tz body wn cl pm cv D) ⟨us,[]⟩=pure (ps.zip us))
  (T:∀(f c':Aw)(cl:List (Str×Aw))(A:Ar)(xz:List Env)(s:As)(H1:Hp),Jk kl (A.deeper (PySem.W.envX ut wn s.heap.objs.size f (.ref c') cl))->QE (KI X.prog X.w X.K X.mg X.base (ps++ys) ut wn f (.ref c') cl A xz s H1) body te)
  (hdb:(x == ("__debug__" : Str))=false:=by decide) (he:starEach [a,b,.Lambda tz body wn sn] X.env=(false,eval a X.env)::starEach [b,.Lambda tz body wn sn] X.env:=by rfl) (he2:starEach [b,.Lambda tz body wn sn] X.env=(false,eval b X.env)::starEach [.Lambda tz body wn sn] X.env:=by rfl)
  (hs2:starEach [.Lambda tz body wn sn] X.env=(false,eval (.Lambda tz body wn sn) X.env)::starEach [] X.env:=by rfl) (hpl:(backTo pos (starEach [b,.Lambda tz body wn sn] X.env)).any (·.1)=false:=by rfl):
  QE X (.Call (.Name x p) [a,b,.Lambda tz body wn sn] [] pos) (RY X.prog X.w X.K X.mg X.base (kl+1) sp P sn ut ta tb ps.length is te):=by
 have S:=LL.sc;have r:∀y∈wn.names,y.2=.free->X.env.scope.names.lookup y.1=some .cell:=λy hy h=>by rw[hX];exact LL.free y hy h
 have hlen:=LL.len;refine⟨?_⟩;intro zn s σ H Q I hw;refine sS (yN I hg hm (Kx I.ok.mod.Fb hk ?_ he hpl) hdb);rw[he];refine sM (aR (ha.out zn s σ H _ I hw) λu s0 ⟨x00,H0,I0,r0,hw0⟩=>?_);rw[he2];refine sM (aR (hb2.out zn s0 σ H0 _ I0 hw0) λu1 s1 ⟨x0,H1,I1,r1,hT,q1⟩=>?_);rw[hs2];refine sM (aR (V1 O C B Z hq r zn s1 σ H1 (λv H2=>∃(f c':Aw)(oc:Obj)(D:Av),v=.ref f/\H1 f=none/\H2 f=some (WC (kT X ut tz body wn c' D))/\H2 c'=some (WC oc)/\yq oc ut/\Yy H2 P sn ut/\∀b o,H1 b=some o->b≠P->H2 b=some o) I1 ⟨hT,λf c' oc D H2 a1 a2 a3 a4 a5 a6=>ι4 f c' oc D ⟨U,a1,a2,a3,a4,a5,a6⟩⟩) λu2 s2 ⟨y,H2,J,r2,f,c',oc,D,hy,f1,f2,f3,f4,f5,f6⟩=>?_);subst hy;cases r2;refine Dp ⟨J.fT,?_⟩;have L:∀y d,(yf _ _ []).lookup y=some d->X.env.cells.lookup y=some d:=
  GH (λy hy h=>J.ok.has y.1 (.inl (r y hy h))) λ_ _ z=>by cases z
 have G:=xY J;have Y:=yZ J;refine zD F hr hb hfn J (show aH [x00,x0,V.ref f] _ from .cons r0 (.cons r1 (.cons U .nil))) (q1 _ f _ (Wu I1) (λd m=>let⟨o,_,e,_⟩:=Y d m;⟨o,e⟩) f1 (λH4 s4=>Znm J f5 s4) (λb o e hbP=>G _ _ (f6 b o e hbP)) ?_);exact kS S (G _ _ f2) (G _ _ f3) f4 (λy d h=>Xc.mpr ⟨y,L y d h⟩) (λd m=>let⟨o,v,e,hd,_⟩:=Y d m;⟨o,v,e,hd⟩) (λy z d h1 h2=>J.ok.inj y z d (L y d h1) (L z d h2)) (λy h=>JU h) Vc
  (kU (N0:=N0) J r S.free (λq hq=>by rw[hXN];exact LL.FT q hq) hlen) (λus hl=>Ua _ _ _ _ us hl) λA xz s H1 hr=>(T f c' _ A xz s H1 hr).out
end
def Ef(K:Af)(i:Nat):TI:=λσ H R=>∃a,σ[i]?=some (ac a)/\(((∃xs,aB K H a xs)/\R (AI K a) H)\/((∃xs,aL K H a xs)/\R (CD K a) H))
theorem Uj(q:QE b l (rR i)):QI b o l (Ef b.K i):=⟨λzn s σ H R I h=>by
 obtain⟨a,e,h|h⟩:=h
 .exact(Xb q).out zn s σ H R I ⟨_,e,a,U,h.1,h.2⟩
 .exact(X6 q).out zn s σ H R I ⟨_,e,a,U,h.1,h.2⟩⟩
section
variable {κ:Type}[DecidableEq κ]
def YK(l:List κ)(k:κ):List κ:=if k∈l then l else l++[k]
def Z9(ks:List κ):List κ:=ks.foldl YK []
def yt(ks:List κ)(k:κ):Z9 (ks++[k])=YK (Z9 ks) k:=by
 unfold Z9;rw[r9];rfl
def Wv(h:l.Nodup)(k:κ):(YK l k).Nodup:=by
 unfold YK;split
 .exact h
 .grind
theorem X8(ks:List κ):(Z9 ks).Nodup:=by
 have:∀(ks l:List κ),l.Nodup->(ks.foldl YK l).Nodup:=by
  intro ks
  induction ks with
  |nil=>exactλl h=>h
  |cons k r q=>exactλl h=>q _ (Wv h k)
 exact this ks [] fL
def XS{k x:κ}:x∈YK l k↔x∈l\/x=k:=by
 unfold YK;split
 .simp_all
 .rw[cT,cA]
theorem Yp(ks:List κ)(x:κ):x∈Z9 ks↔x∈ks:=by
 have:∀(ks l:List κ),x∈ks.foldl YK l↔x∈l\/x∈ks:=by
  intro ks
  induction ks with
  |nil=>intro l;simp
  |cons k r q=>
   intro l;rw[pU,q,XS,bJ,or_assoc]
 rw[show Z9 ks=ks.foldl YK []from U,this];simp
def za(l:List κ)(k:κ):(YK l k).length<=l.length+1:=by
 unfold YK;split
 .simp_all
 .simp_all
theorem NV(ks:List κ):(Z9 ks).length<=ks.length:=by
 have:∀(ks l:List κ),(ks.foldl YK l).length<=l.length+ks.length:=by
  intro ks
  induction ks with
  |nil=>exactλl=>aN _
  |cons k r q=>
   intro l;have h1:=q (YK l k);have h2:=za l k;rw[pU,cQ];lia
 have h:=this ks [];rw[nL,tN]at h;exact h
def ve(l:List κ)(k:κ):∃r,YK l k=l++r:=by
 unfold YK;split
 .exact⟨[],(dW _).symm⟩
 .exact⟨[k],U⟩
theorem JW(ks:List κ):∀l:List κ,∃r,ks.foldl YK l=l++r:=by
 induction ks with
 |nil=>exactλl=>⟨[],(dW _).symm⟩
 |cons k r q=>
  intro l;obtain⟨a,C⟩:=ve l k;obtain⟨b,B⟩:=q (YK l k);exact⟨a++b,Vc⟩
def yu(ks:List κ)(i:Nat):∃r,Z9 ks=Z9 (ks.take i)++r:=by
 have e:Z9 ks=(ks.drop i).foldl YK (Z9 (ks.take i)):=by
  unfold Z9;rw[<-r9,tE]
 rw[e];exact JW _ _
def vf{l r:List κ}{k:κ}(h:k∈l):(l++r).idxOf k=l.idxOf k:=Vc
theorem mH{α β:Type}[DecidableEq α][DecidableEq β](f:α->β)(q:∀a b,f a=f b->a=b)(s:α):∀l:List α,(l.map f).idxOf (f s)=l.idxOf s
 |[]=>rfl
 |x::r=>by
  rw[fW,Ln,mH f q s r]
  by_cases h:x=s
  .simp_all
  .grind
def XN(l:List κ):List (κ×V):=l.zipIdx.map λp=>(p.1,V.int (p.2:Int))
def qV(l:List κ):(XN l).map (·.1)=l:=by
 unfold XN;rw[bI];exact List.zipIdx_map_fst 0 l
def J5(l:List κ):(XN l).length=l.length:=by
 unfold XN;rw[aF,List.length_zipIdx]
def qW(l:List κ)(k:κ):XN (l++[k])=XN l++[(k,V.int (l.length:Int))]:=by
 unfold XN;rw[List.zipIdx_append];simp
def J6:∀(l:List κ)(k:κ),k∈l->l.Nodup->Ym (XN l) k=some (V.int (l.idxOf k:Int)):=λl k r q=>by
 have B:(k,V.int (l.idxOf k))∈XN l:=by
  refine bB.mpr ⟨(k,l.idxOf k),?_,U⟩;rw[List.mem_zipIdx_iff_getElem?];simp[nS r]
 have:=xX (by rw[qV];exact q) _ B;exact this
def qX(l:List κ)(k:κ)(r:k∉l):Ym (XN l) k=none:=by
 unfold Ym;rw[Option.map_eq_none_iff,List.find?_eq_none];intro x q z;have:x.1∈(XN l).map _:=oa q;rw[qV,dB z]at this;exact r this
end
section
variable {κ β:Type}[DecidableEq κ][DecidableEq β]
def WD(ks:List κ):Aj:=ks.map λk=>(Z9 ks).idxOf k
def OT(ks:List κ):(WD ks).length=ks.length:=aF ..
def zb(ks:List κ)(i:Nat):(WD ks)[i]?=(ks[i]?).map λk=>(Z9 ks).idxOf k:=bG ..
def gY{l:List κ}{a b:κ}(q:a∈l)(h:l.idxOf a=l.idxOf b)(r:b∈l):a=b:=by
 rw[<-List.getElem_idxOf (nS q)];simp[h]
def vg{j:Nat}{a b:κ}(q:ks[i]?=some a)(r:ks[j]?=some b):(WD ks)[i]?=(WD ks)[j]?↔a=b:=by
 rw[zb,zb,q,r];constructor
 .exact λh=>gY ((Yp ks a).mpr (cY q)) (Option.some.inj h) ((Yp ks b).mpr (cY r))
 .intro h;rw[h]
def N4(f:κ->β)(l:List κ)(k:κ)(h:∀a∈l,f a=f k->a=k):YK (l.map f) (f k)=(YK l k).map f:=by
 unfold YK
 by_cases q:k∈l
 .grind
 .grind
theorem vh(f:κ->β)(ks:List κ)(h:∀a∈ks,∀b∈ks,f a=f b->a=b):Z9 (ks.map f)=(Z9 ks).map f:=by
 have go:∀(ks l:List κ),(∀a,a∈l\/a∈ks->∀b,b∈l\/b∈ks->f a=f b->a=b)->(ks.map f).foldl YK (l.map f)=(ks.foldl YK l).map f:=by
  intro ks
  induction ks with
  |nil=>exactλl _=>U
  |cons k r C=>
   intro l hh;rw[fW,pU,N4 f l k λa q e=>hh a (.inl q) k (.inr bM) e];refine C _ λa q b B=>hh a ?_ b ?_
   .rcases q with q|q
    .rcases XS.mp q with z|z
     .exact .inl z
     .exact .inr (z ▸ bM)
    .exact .inr (b8 _ q)
   .rcases B with q|q
    .rcases XS.mp q with z|z
     .exact .inl z
     .exact .inr (z ▸ bM)
    .exact .inr (b8 _ q)
 exact go ks [] λa q b B=>h a (q.resolve_left fG) b (B.resolve_left fG)
theorem Mm(f:κ->β)(s:κ):∀l:List κ,(∀a∈l,f a=f s->a=s)->(l.map f).idxOf (f s)=l.idxOf s
 |[],_=>rfl
 |x::r,h=>by
  rw[fW,Ln,Mm f s r λa q=>h a (b8 _ q)]
  by_cases e:x=s
  .grind
  .grind
def vi(f:κ->β)(ks:List κ)(h:∀a∈ks,∀b∈ks,f a=f b->a=b):WD (ks.map f)=WD ks:=by
 unfold WD;rw[bI,vh f ks h];refine fE λk q=>(Mm f k _ λa r e=>h a ((Yp ks a).mp r) k q e)
def RD(ks:List κ):∀a∈ks,∀b∈ks,(Z9 ks).idxOf a=(Z9 ks).idxOf b->a=b:=λa q b r e=>gY ((Yp ks a).mpr q) e ((Yp ks b).mpr r)
def zF(ks:List κ):WD (WD ks)=WD ks:=vi _ ks (RD ks)
def Zfw(ks:List κ):(Z9 (WD ks)).length=(Z9 ks).length:=by
 unfold WD;rw[vh _ ks (RD ks),aF]
theorem Xe:∀{q l2:List κ},q.Nodup->(∀x∈q,x∈l2)->q.length<=l2.length
 |[],_,_,_=>cM _
 |a::r,l2,h1,hs=>by
  rw[fZ]at h1;have C:=hs a bM;have:=Xe h1.2 λx B=>(Mf (show x≠a fromλz=>h1.1 (z ▸ B))).mpr (hs x (b8 _ B));rw[KL C]at this;have D:=IY C;rw[cQ];lia
theorem Pn:∀{D l2:List κ},D.Nodup->(∀x∈D,x∈l2)->l2.length<=D.length->l2.Nodup
 |[],l2,_,_,G=>by
  simp_all
 |a::r,l2,h1,hs,G=>by
  rw[fZ]at h1;have F:=hs a bM;have q:=λx B=>(Mf (show x≠a fromλz=>h1.1 (z ▸ B))).mpr (hs x (b8 _ B));have I:=KL F;rw[cQ]at G;have L:=Pn h1.2 q (by simp_all);have C:a∉l2.erase a:=λz=>by
   have:=Xe h1.2 λx B=>(Mf (show x≠a fromλz=>h1.1 (z ▸ B))).mpr (q x B);rw[KL z]at this;have J:=IY z;grind
  exact(List.perm_cons_erase F).nodup_iff.mpr (fZ.mpr ⟨C,L⟩)
def kZ(f:κ->β)(ks:List κ)(h:(Z9 ks).length<=(Z9 (ks.map f)).length):∀a∈ks,∀b∈ks,f a=f b->a=b:=by
 have D:=Pn (X8 (ks.map f)) (λx B=>by
  obtain⟨k,C,e⟩:=bB.mp ((Yp _ x).mp B);exact bB.mpr ⟨k,(Yp ks k).mpr C,e⟩) (by simp_all)
 intro a r b q e;have F:=nS ((Yp ks a).mpr r);have I:=nS ((Yp ks b).mpr q);have G:((Z9 ks).map f)[(Z9 ks).idxOf a]?=some (f a):=by
  simp_all
 have J:((Z9 ks).map f)[(Z9 ks).idxOf b]?=some (f b):=by
  simp_all
 have:=(List.getElem?_inj (j:=(Z9 ks).idxOf b) (by rw[aF];exact F) D).mp Vc;exact gY ((Yp ks a).mpr r) this ((Yp ks b).mpr q)
def Up{ks:List κ}{m:Nat}(h:m∈WD ks):m<(Z9 ks).length:=by
 obtain⟨k,q,rfl⟩:=bB.mp h;exact nS ((Yp ks k).mpr q)
def Zjj{ks:List κ}{m:Nat}(h:m∈WD ks)(r:∀n∈WD ks,n<=m):m+1=(Z9 ks).length:=by
 have h1:=Up h;have q:(Z9 ks).length-1<(Z9 ks).length:=Vb
 have hi:=List.Nodup.idxOf_getElem (X8 ks) _ q;have:=r _ (bB.mpr ⟨_,(Yp ks _).mp (dZ q),U⟩);lia
end
def Zcx{a1 a2:Aw}{xs ys:A8}{is:Aj}{σ:St}{Q:VK}(q:Nat->List V->Hp->Prop)(T:q 0 [] H)(G:∀i zs H,q i zs H->zs.length<=sizeLine)(Ua:∀i zs H,q i zs H->dr K b1 H a1 xs/\dr K b2 H a2 ys)
  (hs:∀i x y p zs H (R:A8->Hp->Prop),(∀zs H,q (i+1) zs H->R zs H)->xs[i]?=some x->ys[i]?=some y->q i zs H->H p=none->M (C6 is σ (some x) (some y)) (aA H p (.tup [x,y])) λb H2=>if b=true then d (C6 is σ (some x) (some y)) H2 λy O=>R (zs++[y]) O else R zs H2)
  (L:∀zs H,q (xs.zip ys).length zs H->∀p,H p=none->Q (.ref p) (aA H p (.lst zs))):
  Lj K is M d σ Q (IS K b1 b2 a1 a2) H:=by
 refine⟨λi m zs H=>m=(xs.zip ys).length-i/\i<=(xs.zip ys).length/\q i zs H,⟨(xs.zip ys).length,Vd,cM _,T⟩,?_⟩;rintro i m zs H ⟨rfl,hi,p⟩;obtain⟨r,D⟩:=Ua i zs H p;have Y:(xs.zip ys).length=min _ _:=DL
 by_cases C:i<(xs.zip ys).length
 .have B:i<xs.length:=Vb
  have l2:i<ys.length:=Vb
  refine .inr ⟨ι4 xs ys (xs[i]) (ys[i]) ⟨r,D,aQ B,aQ l2⟩,G i zs H p,λx H' y=>?_⟩;revert y;refine ε1 λc=>θ2 λJ zq0 e=>?_;subst zq0;rw[e xs ys _ _ r D (aQ B) (aQ l2)];exact⟨c,_,_,U,aL.of Zb,hs i _ _ c zs H (λzs H=>∃F,F<(xs.zip ys).length-i/\(λi m zs H=>m=(xs.zip ys).length-i/\i<=(xs.zip ys).length/\q i zs H) _ F zs H) (λzs H I=>⟨_,Vc,U,C,I⟩) (aQ B) (aQ l2) p J⟩
 .have e:i=(xs.zip ys).length:=Vb
  subst e;exact .inl ⟨⟨xs,ys,r,D,Vb⟩,G _ zs H p,L zs H p⟩
def DZ(H:Hp):Nat->V->V->Prop
 |0,x,y=>XM x=true/\x=y
 |n+1,x,y=>(XM x=true/\x=y)\/∃a c xs ys,x=.ref a/\y=.ref c/\H a=am xs/\H c=am ys/\xs.length=ys.length/\∀(j:Nat)(u v:V),xs[j]?=some u->ys[j]?=some v->DZ H n u v
theorem PM{X:Cx}{zn:Ac}{σ:St}{H:Hp}{s:As}(I:aD X zn σ H s):∀(n:Nat)(A:Ar)(x y:V)(v u:Av),aI x v->aI y u->DZ H n x y->A.units+n<cLine->SeqAt.EqAt A s v u true
 |0,A,x,y,v,u,F,G,h,Z=>by
  obtain⟨f,rfl⟩:=h;have z:=uZ (A:=A) (s:=s) F G f f;rw[Q7 f]at z;exact z
 |n+1,A,x,y,v,u,F,G,h,Z=>by
  rcases h with⟨f,rfl⟩|⟨a,c,xs,ys,rfl,rfl,ha,hc,hl,he⟩
  .have z:=uZ (A:=A) (s:=s) F G f f;rw[Q7 f]at z;exact z
  .cases F;cases G
   by_cases C:a=c
   .subst C;exact IX _
   obtain⟨J,r,p,_⟩:=I.tuple (aL.of ha);obtain⟨D,Ua,p2,_⟩:=I.tuple (aL.of hc);refine KR C ?_;have q:=MD (A:=A) (e:=λ_=>true) p p2 Vb λj h1 h2=>?_
   .rw[i6,eB,eB,<-r.length,<-Ua.length,hl,nY]at q;exact q
   .have T:j<xs.length:=by rw[r.length];simpa using h1
    have B:j<ys.length:=(by simp_all)
    obtain⟨u,e1,q1⟩:=r.get (aQ T);obtain⟨Y,e2,q2⟩:=Ua.get (aQ B);have L:J.toArray[j]=u:=Vc
    have O:D.toArray[j]=Y:=Vc
    rw[L,O];exact PM I n A.in1 _ _ _ _ q1 q2 (he j _ _ (aQ T) (aQ B)) Vb
def we{A:Ar}(r:Jk k A):A.units+4<cLine:=by have:=r.un;lia
def L9:R2:=λx y H Q=>∃a c xs ys,x=.ref a/\y=.ref c/\H a=am xs/\H c=am ys/\xs.length=ys.length/\(∀(j:Nat)(u v:V),xs[j]?=some u->ys[j]?=some v->DZ H 3 u v)/\Q (.bl true) H
def NJ(hu:X.A.units+4<cLine):bZ X (compareOp .Eq) L9:=by
 refine λzn s σ H x y v u Q I Ua Z=>ε4 λa c xs ys=>θ6 λzq0 zq1 ha hc hl he q=>?_;subst zq0;subst zq1;cases Ua;cases Z;obtain⟨D,r,p,_⟩:=I.tuple (aL.of ha);obtain⟨C,L,p2,_⟩:=I.tuple (aL.of hc);refine SeqAt.eq_tupleAt (e:=λ_=>true) p p2 Vb (λj h1 h2=>?_) (ZQ I q ?_)
 .have J:j<xs.length:=by rw[r.length];simpa using h1
  have B:j<ys.length:=Vc
  obtain⟨u,e1,T⟩:=r.get (aQ J);obtain⟨O,e2,Y⟩:=L.get (aQ B);have F:D.toArray[j]=u:=by
   grind
  have G:C.toArray[j]=O:=by
   grind
  rw[F,G];exact PM I 3 _ _ _ _ _ T Y (he j _ _ (aQ J) (aQ B)) (by omega)
 .rw[i6,eB,eB,<-r.length,<-L.length,hl,nY];rfl
def O7[DecidableEq g]{kn:KN g}{wl:List (g×V)}{xs:List (g×Aw×Av)}(B:Paired (λ(p:g×V) (q:g×Aw×Av)=>p.1=q.1/\kn.at_ H q.1 q.2.1/\aI p.2 q.2.2) wl xs)(k:g):(atKey xs k).isSome=(Ym wl k).isSome:=by
 have r:=J4 (λp q h=>h.1) B k;cases hv:Ym wl k with
 |none=>rw[r.2 hv];rfl
 |some x=>
  obtain⟨q,C,_⟩:=r.1 x hv;rw[C];rfl
def E7:R2:=λx y H Q=>∃(Kk:Type)(_:DecidableEq Kk)(kn:KN Kk)(d a:Aw)(k:Kk)(wl:List (Kk×V)),x=.ref a/\y=.ref d/\G3 kn H d wl/\kn.at_ H k a/\Q (.bl (!(Ym wl k).isSome)) H
def VQ(r:X.A.units+2<cLine):bZ X (compareOp .NotIn) E7:=by
 rintro zn s σ H x y v u Q I B C ⟨Kk,_,kn,d,a,k,wl,rfl,rfl,n,D,q⟩;cases B;cases C;refine ω (n.dict I) (ε1 λxs=>θ3 λdd F J G=>?_);refine wpAny_notIn_heap (kn.room _ _ _ r) (kn.ok _ _ _ _ _ _ I.aM D) G dd ?_;rw[O7 F];exact⟨.bl _,H,I.tok _,U,q⟩
def E6(td ty:TE):TE:=λσ H Q=>td σ H λx H1=>ty σ H1 λy H2=>∃(Kk:Type)(_:DecidableEq Kk)(kn:KN Kk)(d a:Aw)(k:Kk)(wl:List (Kk×V))(v:V),x=.ref d/\y=.ref a/\G3 kn H2 d wl/\kn.at_ H2 k a/\Ym wl k=some v/\Q v H2
theorem Nl{i:Ax}{ty:TE}{pos:Pos}(C:X.A.units+2<cLine)(Z:QE X o J)(hi:QE X i ty)(hs:HI i):QE X (.Subscript o i pos) (E6 J ty):=⟨by
 intro zn s σ H Q I h;refine Rg PySem.F.slot_dict_getitem.lookup hs (aR (Z.out zn s σ H _ I h) λu O ⟨x,H1,D,Y,Ua⟩=>aR (hi.out zn O σ H1 _ D Ua) λT s2 ⟨y,H2,r,ry,Kk,_,kn,d,a,k,wl,v,ex,L,n,hk,hv,q2⟩=>?_);subst ex;subst L;obtain rfl:u=Value.ref d:=Y;obtain rfl:T=Value.ref a:=ry;refine ω (n.dict r) (ε1 λxs=>θ3 λdd G mu hm=>?_);obtain⟨q,hq,p',B,e⟩:=(J4 (λp q h=>h.1) G k).1 v hv;refine⟨dd.typeIs,wpAny_getItem_heap (kn.room _ _ _ C) (kn.ok _ _ _ _ _ _ r.aM hk) dd hq ⟨v,H2,r.tok _,e ▸ B.2.2,q2⟩⟩⟩
def E8(td ty tv:TE):TS:=λD σ H=>tv σ H λv H1=>td σ H1 λx H2=>ty σ H2 λy q=>∃(Kk:Type)(_:DecidableEq Kk)(kn:KN Kk)(d a:Aw)(k:Kk)(wl:List (Kk×V)),x=.ref d/\y=.ref a/\G3 kn q d wl/\kn.at_ q k a/\Ym wl k=none/\wl.length+1<sizeLine /\
 ∀H',G3 kn H' d (wl++[(k,v)])->(∀b o,q b=some o->b≠d->H' b=some o)->(∃o,H'=aA q d o)->D.nx σ H'
theorem Nw{i:Ax}{ty tv:TE}{pos pos':Pos}(O:X.A.units+2<cLine)(ho:QE X o J)(hi:QE X i ty)(B:QE X e tv)(hs:swapsWith e (some (.Subscript o i pos')) pos.line X.env=pure false):QS X (.Assign [.Subscript o i pos'] e pos) (E8 J ty tv):=⟨by
 intro zn s σ H D I h;refine L5 (aR (B.out zn s σ H _ I h) λr s1 ⟨v,H1,Ua,Y,q1⟩=>aR (ho.out zn s1 σ H1 _ Ua q1) λu s2 ⟨x,H2,Z,rx,q2⟩=>aR (hi.out zn s2 σ H2 _ Z q2) λiv s3 ⟨y,H3,F,ry,Kk,_,kn,d,a,k,wl,ex,ey,n,G,B,hz,q3⟩=>?_) hs;subst ex;subst ey;obtain rfl:u=Value.ref d:=rx;obtain rfl:iv=Value.ref a:=ry;refine ω (n.dict F) (ε1 λxs=>θ3 λdd C mu hm=>?_);refine wpAny_setItem_heap (kn.room _ _ _ O) (kn.ok _ _ _ _ _ _ F.aM G) dd (λh' dd' T=>?_) (by rw[<-Cq C];lia);rw[storedH_new ((J4 (λp q h=>h.1) C k).2 B)]at dd';obtain⟨H',n',L,o',I'⟩:=vd F n G Y hz C mu hm B dd' T;exact ι2 σ H' ⟨I',q3 H' n' L o'⟩⟩
theorem Yq:∀(ul:List (Str×NameKind))(n:Nat)(acc:List (Str×Aw)),cellsFrom n ul acc=cellsFrom n ul []++acc
 |[],_,_=>rfl
 |(x,k)::r,n,acc=>by
  unfold cellsFrom;split
  .rw[Yq r _ _,Yq r _ [(x,n)],i4];rfl
  .exact Yq r n acc
theorem qY:∀(ul:List (Str×NameKind)) (n:Nat) {x:Str} {c:Aw},(x,c)∈cellsFrom n ul []->(x,NameKind.cell)∈ul
 |[],_,_,_,h=>nomatch h
 |(y,k)::r,n,x,c,h=>by
  unfold cellsFrom at h;split at h
  .rename_i q;rw[Yq]at h;rcases cT.mp h with h|h
   .exact b8 _ (qY r _ h)
   .grind
  .exact b8 _ (qY r n h)
theorem JX:∀{l r:List (Str×g)},(l++r).lookup x=match l.lookup x with|some c=>some c|none=>r.lookup x
 |[],r=>rfl
 |(y,c)::l,r=>by
  grind
section
variable {M:Model}{A:Ar}{E:Ab}{s:As}
def Uz{wn:Scope}{globals:Aw}{q:List (Str×Aw)}{binds:List (Str×Av)}{ut:Str}{func:Option Aw}{code:Av}{builtins:Aw}{Q:Env->Shared->Prop}
  (Z:wn.kind=.function) (Y:∀x∈binds,wn.names.lookup x.1=some .local)
  (T:∀h' tk,h'.Ns s.heap.objs.size (λx=>binds.reverse.lookup x)->(∀b o,s.heap.get? b=some o->h'.get? b=some o)->(∀n c,(n,c)∈cellsFrom (s.heap.objs.size+1) wn.names []->h'.IsCell c none/\s.heap.objs.size<c)->
   ((cellsFrom (s.heap.objs.size+1) wn.names []).Pairwise λx y=>x.2≠y.2)->Q (newEnv wn s.heap.objs.size globals (cellsFrom (s.heap.objs.size+1) wn.names q) ut func code none builtins) {s with heap:=h',toks:=tk}):
  wpAny M A (newFunctionEnv wn globals q binds ut func code none builtins) Q E s:=by
 simp only[newFunctionEnv];refine ab (wpAny_alloc (ab (wpAny_layCells _ (λname kind cells=>(by simp_all)) _ _ _ _ ?_)));have ok:=cellsFrom_ok wn.names (s.heap.push {cls:=.type "frame",data:=.dict #[]}) (s.heap.objs.size+1) [] ⟨λ_ _ J=>(nomatch J),List.Pairwise.nil⟩ Vd;rw[i7]at ok;rw[i7 ..];refine ab (wpAny_forIn_list _
  (λpi _ s'=>∃r h',binds=r++pi/\s'={s with heap:=h',toks:=s.toks+r.length}/\h'.Ns _ (λx=>r.reverse.lookup x) /\
   Heap.SameBut s.heap.objs.size _ h') _ ?_ ?_ binds _
  ⟨[],_,U,U,(Heap.Ns.new s.heap _).keeps (pushCells_keeps _ _),Heap.SameBut.refl ..⟩)
 .refine λzq0 pi _ s'=>ε2 λr h'=>θ3 λG zq1 C B=>?_;obtain ⟨name,v⟩:=zq0;subst zq1;have L:Env.kindOf {scope:=wn,locals:=s.heap.objs.size,globals,cells:=cellsFrom (s.heap.objs.size+1) wn.names q,qual:=ut,func,code,frame:=some s.heap.objs.size,builtins} name=some .local:=Y (name,v) (by simp_all);simp only[storeName_local L (by simp_all)];refine ab (wpAny_nsSet C λI F D=>aJ (ι2 (r++[(name,v)]) I ⟨by simp[G],?_,?_,B.trans D⟩))
  .simp[Dz]
  .rw[lookup_reverse_snoc];exact F
 .refine λ_ s'=>ε2 λr h'=>θ3 λG zq0 C B=>?_;subst zq0;rw[dW]at G;subst G;refine aJ (T h' _ C (λb o e=>(B.extBut b o (cI (bH e)) (pushCells_keeps _ _ b o (aW _ e)))) (λn c J=>?_) ok.apart)
  .obtain⟨Ua,O⟩:=ok.empty n c J;exact⟨Ua.sameBut B (rZ O),O⟩
end
structure KC(wn:Scope)(ps ls ys:Ai):Prop where
 kind:wn.kind=.function
 co:wn.isCoroutine=false
 gen:wn.isGenerator=false
 par:∀p∈ps,wn.names.lookup p=some .local
 free:∀y∈ys,wn.names.lookup y=some .free
 nd:(ps++(ls++ys)).Nodup
 Fw:(wn.names.map (·.1)).Nodup
def Im(P:Aq)(w:Au)(K:Af)(mg:Ae)(wv:Heap)(N:Ai)(ut:Str)(wn:Scope)(f:Aw)(q:Av)(cl:List (Str×Aw))(A:Ar)(xz:List Env)(s:As)(H:Hp):Cx where
 prog:=P
 w:=w
 K:=K
 mg:=mg
 base:=wv
 A:=A.deeper (PySem.W.envX ut wn s.heap.objs.size f q (cellsFrom (s.heap.objs.size+1) wn.names cl))
 N:=N
 s₀:=s
 H₀:=H
 env:=PySem.W.envX ut wn s.heap.objs.size f q (cellsFrom (s.heap.objs.size+1) wn.names cl)
 outer:=xz
 stack:=PySem.W.envX ut wn s.heap.objs.size f q (cellsFrom (s.heap.objs.size+1) wn.names cl)::xz
 ex:=[]
 calm:=true
 fn:=λx=>wn.names.lookup x == some .cell
 pn:=[]
 xe:=λ_ _=>False
def NZ(n m:Nat)(ts:TS)(cs:List Aw)(q:List (Option V)):Sp:=λvs H Q _=>vs.length=n/\ts {nx:=λ_ H'=>(∀c∈cs,H' c=none)->Q .bN (WT cs H H'),rt:=λv H'=>(∀c∈cs,H' c=none)->Q v (WT cs H H')} (vs.map some++(List.replicate m none++q)) (aY cs H)
section
variable {P:Aq}{w:Au}{K:Af}{mg:Ae}{wv:Heap}
theorem vj{k:Nat}{c':Aw}{name ut:Str}{tz:Arguments}{body:List Ay}{wn:Scope}{cl:List (Str×Aw)}{doc pm ctv:Av}{oc:Obj}{ls ys:Ai}{cv:List (Option V)}{ts:TS}
  (S:KC wn N ls ys) (hf:H f=some (WC (PySem.W.fnMade name ut tz body wn cl doc pm c' ctv))) (hc:H c'=some (WC oc)) (hoc:yq oc ut)
  (hcl:∀x c,cl.lookup x=some c->c∈D) (hcs:∀c∈D,∃o v,H c=some (WC o)/\o.data=.cell v)
  (inj:∀x y c,cl.lookup x=some c->cl.lookup y=some c->x=y) (has:∀x,wn.names.lookup x=some .free->∃c,cl.lookup x=some c)
  (hcv:cv.length=ys.length) (hval:∀(i:Nat)(y:Str)(v:V),ys[i]?=some y->cv[i]?=some (some v)->∃c o u,cl.lookup y=some c/\H c=some (WC o)/\o.data=.cell (some u)/\aI v u)
  (hb:∀us:Ag,us.length=N.length->bindArgs (PySem.W.fnX name ut tz body wn cl .none .none doc pm none (.ref c') ctv) ⟨us,[]⟩=pure (N.zip us))
  (hbody:∀(A:Ar)(xz:List Env)(s:As)(H1:Hp),Jk k (A.deeper (PySem.W.envX ut wn s.heap.objs.size f (.ref c') (cellsFrom (s.heap.objs.size+1) wn.names cl)))->pZ (Im P w K mg wv (N++(ls++ys)) ut wn f (.ref c') cl A xz s H1) body ts):
  Xi P w K mg wv (k+1) f H (NZ N.length ls.length ts D cv):=by
 refine⟨⟨_,_,hf,U⟩,?_⟩;rintro A xz s H1 us vs Q E fz hr C r ⟨hl,ht⟩;have L:∀c∈D,∃o v,H1 c=some (WC o)/\o.data=.cell v/\s.heap.get? c=some o:=λc m=>by
  obtain⟨o,v,e,d⟩:=hcs c m;exact⟨o,v,fz _ _ _ e,d,(C.aM c _ (fz _ _ _ e)).1⟩
 obtain⟨vs0,t0,hd0,hv0⟩:=hoc;have lim:s.heap.NoLimit:=C.mod.nolimit.keeps λb o e=>(C.bs b o e).1;have lus:us.length=N.length:=by rw[<-r.length];exact hl
 refine codeAny_call_function hr.depth (C.aM f _ (fz _ _ _ hf)).1 rfl S.co S.gen U (ι4 c' oc vs0 t0 ⟨U,(C.aM c' _ (fz _ _ _ hc)).1,hd0,hv0⟩) ?_;rw[hb us lus];refine aJ (Uz S.kind (λx hx=>S.par _ (BN hx).1) λh₁ tk hns T F hap=>⟨lim.keeps T,codeAny_func ?_⟩);have look:∀x c,(cellsFrom (s.heap.objs.size+1) wn.names cl).lookup x=some c->((x,c)∈cellsFrom (s.heap.objs.size+1) wn.names []/\(cellsFrom (s.heap.objs.size+1) wn.names []).lookup x=some c)\/cl.lookup x=some c:=λx c e=>by
  rw[Yq,JX]at e;cases q:(cellsFrom (s.heap.objs.size+1) wn.names []).lookup x with
  |none=>rw[q]at e;exact .inr e
  |some d=>rw[q]at e;cases e;exact .inl ⟨oJ q,U⟩
 have B:∀x,wn.names.lookup x=some .free->(cellsFrom (s.heap.objs.size+1) wn.names cl).lookup x=cl.lookup x:=λx hx=>by
  rw[Yq,JX];cases q:(cellsFrom (s.heap.objs.size+1) wn.names []).lookup x with
  |none=>rfl
  |some d=>
   have Z:=qY wn.names _ (oJ q);have m2:=oJ hx;have:∀{l:List (Str×NameKind)},(l.map (·.1)).Nodup->(x,NameKind.cell)∈l->(x,NameKind.free)∈l->False:=λ{l} nd a b=>by
    induction l with
    |nil=>cases a
    |cons p l ih=>
     rw[fW,fZ]at nd;rcases bJ.mp a with a|a<;>rcases bJ.mp b with b|b
     .rw[<-a]at b;cases b
     .exact nd.1 (by rw[<-a];exact oa (f:=(·.1)) b)
     .exact nd.1 (by rw[<-b];exact oa (f:=(·.1)) a)
     .exact ih nd.2 a b
   exact(this S.Fw Z m2).elim
 have Y:∀x c,cl.lookup x=some c->c<s.heap.objs.size:=λx c e=>by
  obtain⟨o,v,_,_,g⟩:=L c (hcl x c e);exact bH g
 have I:aD (Im P w K mg wv (N++(ls++ys)) ut wn f (.ref c') cl A xz s (aY D H1)) [] (vs.map some++(List.replicate ls.length none++cv)) (aY D H1) {s with heap:=h₁,toks:=tk}:=by
  have noA:∀b:Aw,b∉([]:List Aw):=λb z=>nomatch z;refine⟨⟨C.mod,S.kind,U,U,aN _,λx y c h1 h2=>?_,λy O=>?_,λy c O h=>?_,λ_=>hr.hd,Ks C.frames,.inr ⟨U,U⟩,λb z=>absurd z (noA b),λb o e=>⟨(C.bs b o e).1,?_⟩,C.nH,λb _ _=>noA b,λb z=>absurd z (noA b),C.cR,λb hb=>?_⟩,
   rfl,C.bare,Un.kept T,⟨_,hns,λi y v h1 h2 h3=>?_⟩,λy c h=>?_,?_,λy c h=>?_,λp hp=>absurd (show p∈([]:Ac)from hp) Vd,(gS C.aM λc m=>let⟨o,_,e,_⟩:=L c m;⟨o,e⟩).kept T,?_⟩
  .rcases look x c h1 with⟨Z,_⟩|l1<;>rcases look y c h2 with⟨m2,_⟩|l2
   .exact name_of_addr hap Z m2
   .exact absurd (Y y c l2) (FI.mpr (bL (F x c Z).2))
   .exact absurd (Y x c l1) (FI.mpr (bL (F y c m2).2))
   .exact inj x y c l1 l2
  .have O:wn.names.lookup y=some .cell\/wn.names.lookup y=some .free:=O;rcases O with O|O
   .obtain⟨c,e⟩:=xU O;exact⟨c,by show(cellsFrom (s.heap.objs.size+1) wn.names cl).lookup y=_;rw[Yq,JX,e]⟩
   .obtain⟨c,e⟩:=has y O;exact⟨c,by show(cellsFrom (s.heap.objs.size+1) wn.names cl).lookup y=_;rw[B y O,e]⟩
  .have O:=eq_of_beq (O);obtain⟨d,e⟩:=xU O;have h':(cellsFrom (s.heap.objs.size+1) wn.names cl).lookup y=some c:=h;rw[Yq,JX,e]at h';cases h';exact bL (F y _ (oJ e)).2
  .by_cases m:b∈D
   .exact YU m
   .exact(ZJ m).trans (C.bs b o e).2
  .by_cases m:b∈D
   .exact YU m
   .exact(ZJ m).trans (C.oT b hb)
  .by_cases hi:i<vs.length
   .rw[iX (by simpa using hi),bG]at h2;have ha:vs[i]?=some v:=by
     cases e:vs[i]? with
     |none=>rw[e]at h2;cases h2
     |some a=>rw[e]at h2;cases h2;rfl
    obtain⟨u,hu,rv⟩:=r.get ha;have G:(N++(ls++ys))[i]?=some y:=h1;rw[iX Vb]at G;exact⟨u,rv,.inl ⟨S.par y (cY G),yp (Bu.mp S.nd).1 G hu lus.symm⟩⟩
   .rw[dU (by simpa using hi),aF]at h2;have G:(N++(ls++ys))[i]?=some y:=h1;rw[dU Vb,<-hl]at G
    by_cases hj:i-vs.length<ls.length
    .rw[iX Vc,List.getElem?_replicate]at h2;split at h2<;>cases h2
    .rw[dU Vc,eJ]at h2;rw[dU Vc]at G;refine ω (hval _ y v G h2) (ε3 λc o u=>θ3 λe1 e2 e3 rv=>?_);have hfy:=S.free y (cY G);exact⟨u,rv,.inr ⟨.inr hfy,c,(B y hfy).trans e1,o,T _ _ (C.aM c _ (fz _ _ _ e2)).1,e3⟩⟩
  .rcases look y c h with⟨Z,_⟩|l1
   .exact⟨none,(F y c Z).1⟩
   .obtain⟨o,v,_,d,g⟩:=L c (hcl y c l1);exact⟨v,o,T _ _ g,d⟩
  .show aY D H1 s.heap.objs.size=none
   by_cases m:s.heap.objs.size∈D
   .exact YU m
   .rw[ZJ m];exact C.aM.fresh (aN _)
  .rcases look y c h with⟨Z,_⟩|l1
   .by_cases m:c∈D
    .exact YU m
    .rw[ZJ m];exact C.aM.fresh (bL (F y c Z).2)
   .exact YU (hcl y c l1)
  .show(vs.map some++(List.replicate ls.length none++cv)).length=(N++(ls++ys)).length;rw[bA,bA,bA,bA,aF,eJ,hl,hcv]
 refine j1 (hbody A xz s (aY D H1) (hr.deeper _) [] _ _ _ _ I ht) (λfl s' hs=>?_) λ_ _ z=>z.elim;have fin:∀{Ua:St} {H':Hp} {v:V} {u:Av},aD (Im P w K mg wv (N++(ls++ys)) ut wn f (.ref c') cl A xz s (aY D H1)) [] Ua H' s'->aI v u->((∀c∈D,H' c=none)->Q v (WT D H1 H'))->CE xz P w H1 s Q u s':=λ{Ua H' v u} J rv q=>Pg C L J.os J.bare J.base J.aM rv q;cases fl with
 |ret u=>
  revert hs;refine ε3 λv Ua H'=>θ2 λJ rv q=>?_;exact fin J rv q
 |next=>
  obtain⟨Ua,H',J,q⟩:=hs;exact fin (v:=V.bN) (u:=Value.none) J U q
 |brk=>
  obtain⟨_,_,_,q⟩:=hs;exact False.elim q
 |cont=>
  obtain⟨_,_,_,q⟩:=hs;exact False.elim q
end
def L1(P:Aw)(sn:Pos)(ut:Str)(B:Aw->Value->Value->Obj)(i:Nat):TS:=λD σ H=>Yy H P sn ut /\
 ∀(f c':Aw)(oc:Obj)(r q:Av)(H2:Hp),H f=none->H2 f=some (WC (B c' r q))->H2 c'=some (WC oc)->yq oc ut->Yy H2 P sn ut->(∀b o,H b=some o->b≠P->H2 b=some o)->D.nx (σ.set i (ac f)) H2
section
variable {X:Cx}{tz:Arguments}{body:List Ay}{wn:Scope}{sn:Pos}{c P:Aw}{name ut:Str}
abbrev wg (X:Cx) (name ut:Str) (tz:Arguments) (body:List Ay) (wn:Scope):Aw->Value->Value->Obj:=λc' r q=>PySem.W.fnMade name ut tz body wn (yf X.env.cells wn.names []) q ((X.mg "__name__").getD .none) c' r
theorem Bj(hN:X.N.Nodup)(hi:X.N[i]?=some name)(hx:o6 X.env.scope name)(F:X.env.code=.ref c)(C:PySem.W.CodeHd X.base c P)(B:yY X.mg X.base)(hd0:tz.defaults=[])(hk0:tz.kw_defaults=[])(han:annTrees tz none X.env=[])(hq:qualnameIn X.env name name=ut)
  (hX:X.env.scope=S0) (hfr0:∀y∈wn.names,y.2=.free->S0.names.lookup y.1=some .cell) (hf:X.fn name=true\/X.env.scope.names.lookup name=some .local:=by first|exact .inl U|exact .inr U|assumption):
  QS X (.FunctionDef name tz body [] none [] wn none name sn) (L1 P sn ut (wg X name ut tz body wn) i):=by
 have T:∀y∈wn.names,y.2=.free->X.env.scope.names.lookup y.1=some .cell:=λy hy h=>Vc
 refine⟨?_⟩;rintro zn s σ H D I ⟨G,hq2⟩;refine PySem.W.nestDef_K hd0 hk0 han ?_;rw[hq];have Z:=JT λy hy h=>I.ok.has y.1 (.inl (T y hy h));have hg:=I.mod.glob.keeps I.bk;obtain⟨pz,Y⟩:=G.ex;have Ua:X.base.get? P=none:=by
  cases e:X.base.get? P with
  |none=>rfl
  |some o=>rw[(I.bs P o e).2]at Y;cases Y
 have hgP:mainGlobals≠P:=λe=>by
  obtain⟨o,es,ep,g,_⟩:=I.mod.glob;rw[e,Ua]at g;cases g
 have hb:s.heap.BuiltinsAt X.mg P:=by
  refine ω B.ex (ε2 λbm ob=>θ5 λb1 b2 b3 b4 b5 b6=>?_);refine⟨bm,ob,b1,b2,λe=>?_,(λe=>Vc),I.bk _ _ b3,b4,b5,b6⟩;obtain⟨o,es,ep,g,hd,_⟩:=I.mod.glob;rw[<-e,b3]at g;cases g;rw[b6]at hd;cases hd
 rcases G with G|⟨c',oc,G,hc',J⟩
 .have hP:=I.aM P _ G;refine PySem.W.makeFunction_K Z I.ok.glob hg F (C.keeps I.bk) hP trivial U hgP hb λc' r q h' tk hx' O L hrec htb=>?_;revert hrec;refine ε4 λc₂ oc vs t=>θ3 λe2 J hd hv=>?_;cases e2;have cn:=I.aM.fresh O;have cP:c'≠P:=λe=>Vc
  have hsz:=cC O (bL L);have I2:=Oi (fo:=wg X name ut tz body wn c' r q) (tk:=tk) I G hx' O L J htb;have fn:=I.aM.fresh hsz;have fc:=cI L;refine JQ I2 hN hi hx (v:=.ref _) U (λs' I3=>⟨_,_,I3,hq2 _ c' oc r q _ fn Zb ?_ ⟨vs,t,hd,hv⟩ (.inr ⟨c',oc,?_,?_,⟨vs,t,hd,hv⟩⟩) λb o e hbP=>?_⟩) hf
  .rw[Zk fc];exact Zb
  .rw[Zk (Zo G fn),Zk cP.symm];exact Zb
  .rw[Zk fc];exact Zb
  .rw[Zk (Zo e fn),Zk (Zo e cn),Zk hbP];exact e
 .have hP:=I.aM P _ G;have hfd:codeAmong sn (#[rawInt sn.line,rawInt sn.col,.ref c']).toList=some (.ref c'):=by
   show(if((sn.line:Int) == sn.line&&(sn.col:Int) == sn.col)=true then some _ else _)=_;rw[nY,nY];rfl
  refine PySem.W.makeFunction_hit Z I.ok.glob hg F (C.keeps I.bk) hP trivial hfd hb λr q h' tk hk hsz=>?_;have I2:=I.laid (t':=tk) (o:=WC (wg X name ut tz body wn c' r q)) (λb u e=>aW _ (hk b u e)) hsz (qS (bX _ U));have fn:=I.aM.fresh hsz;have sm:∀b o,H b=some o->aA H _ (WC (wg X name ut tz body wn c' r q)) b=some o:=λb o e=>by rw[Zk (Zo e fn)];exact e
  exact JQ I2 hN hi hx (v:=.ref _) U (λs' I3=>⟨_,_,I3,hq2 _ c' oc r q _ fn Zb (sm _ _ hc') J (.inr (ι2 c' oc ⟨sm _ _ G,sm _ _ hc',J⟩)) λb o e _=>sm b o e⟩) hf
end
def Br(D:Aq)(w:Au)(K:Af)(mg:Ae)(wv:Heap)(k:Nat)(sp:Sp)(ut:Str)(r:Aw->Value->Value->Obj)(ta:TA)(i n m:Nat)(is:Aj)(ts:TS):TE:=λσ H Q=>ta σ H λvs H1=>
 ∃(f c':Aw)(oc:Obj)(q B:Av),σ[i]?=some (ac f)/\H1 f=some (WC (r c' q B))/\H1 c'=some (WC oc)/\yq oc ut /\
 ∀(cs:List Aw)(H2:Hp),(∀c∈cs,H1 c=none)->(∀c∈cs,∃o,H2 c=some (WC o))->(∀b o,H1 b=some o->H2 b=some o)->
  Xi D w K mg wv k f H2 (NZ n m ts cs (is.map λi=>(σ[i]?).getD none))->sp vs H2 (λv C=>Q v (aY cs C)) E0
structure Pl(S0 wn:Scope)(N0 ps ls ys:Ai)(is:Aj):Prop where
 sc:KC wn ps ls ys
 free:∀y∈wn.names,y.2=.free->S0.names.lookup y.1=some .cell
 FT:∀q∈ys.zip is,N0[q.2]?=some q.1
 len:ys.length=is.length
section
variable {X:Cx}{tz:Arguments}{body:List Ay}{wn:Scope}{p pos:Pos}{g:Aw}{name ut x:Str}{k kl:Nat}{gd:Ao}{pg ps ls ys:Ai}{is:Aj}{sp:Sp}{ts:TS}{e:Ax}{es:An}{ta:TA}
def UB(F:g7 X.prog X.w X.K X.mg X.base lR k g gd pg sp)(hr:Jk k X.A)(hg:Gl X x)(hm:X.mg x=some (.ref g))(hk:PySem.W.keepIn X.K (.ref g)=true)(hb:c5 X.K gd pg [])(hfn:X.fn=λ_=>true)
  (ha:QA X (e::es) ta) {S0:Scope} {N0:Ai} (hX:X.env.scope=S0) (hXN:X.N=N0) (Y:Pl S0 wn N0 ps ls ys is)
  (J:∀(cl:List (Str×Aw))(Z pm cv Ua:Av)(O:Ag),O.length=ps.length->bindArgs (PySem.W.fnX name ut tz body wn cl .none .none Z pm none cv Ua) ⟨O,[]⟩=pure (ps.zip O))
  (L:∀(f c':Aw)(cl:List (Str×Aw))(A:Ar)(xz:List Env)(s:As)(H1:Hp),Jk kl (A.deeper (PySem.W.envX ut wn s.heap.objs.size f (.ref c') (cellsFrom (s.heap.objs.size+1) wn.names cl)))->nW (Im X.prog X.w X.K X.mg X.base (ps++(ls++ys)) ut wn f (.ref c') cl A xz s H1) body ts)
  (hdb:(x == ("__debug__" : Str))=false:=by decide) (hp:(e::es).all Yi=true:=by rfl):
  QE X (.Call (.Name x p) (e::es) [] pos) (Br X.prog X.w X.K X.mg X.base (kl+1) sp ut (wg X name ut tz body wn) ta i ps.length ls.length is ts):=by
 rw[nK,lQ]at hp;have S:=Y.sc;have C:∀y∈wn.names,y.2=.free->X.env.scope.names.lookup y.1=some .cell:=λy hy h=>by rw[hX];exact Y.free y hy h
 refine⟨?_⟩;intro zn s σ H Q I hw;refine sS (yN I hg hm (Kx I.ok.mod.Fb hk (aR (ha.out pos zn s σ H _ I hw) λO s1 ⟨vs,H1,D,r,f,c',oc,Ua,Z,hσ,hf,hc',hoc,q⟩=>⟨D.fT,?_⟩) (Z0 hp.1) (Xk hp.2)) hdb);have G:∀y d,(yf _ _ []).lookup y=some d->X.env.cells.lookup y=some d:=
  GH (λy hy h=>D.ok.has y.1 (.inl (C y hy h))) λ_ _ z=>by cases z
 have B:=xY D;have T:=yZ D;refine zD F hr hb hfn D r (q _ _ (Wu D) (λd m=>let⟨o,_,e,_⟩:=T d m;⟨o,e⟩) B ?_);exact vj S (B _ _ hf) (B _ _ hc') hoc (λy d h=>Xc.mpr ⟨y,G y d h⟩) (λd m=>let⟨o,v,e,hd,_⟩:=T d m;⟨o,v,e,hd⟩) (λy z d h1 h2=>D.ok.inj y z d (G y d h1) (G z d h2)) (λy h=>JU h) (by rw[aF,Y.len])
  (kU (N0:=N0) D C S.free (λq hq=>by rw[hXN];exact Y.FT q hq) Y.len) (λO hl=>J _ _ _ _ _ O hl) λA xz s H1 hr=>(L f c' _ A xz s H1 hr).out
end
def QE.or{u:TE}(h:QE X e d)(g:QE X e u):QE X e (λσ H Q=>d σ H Q\/u σ H Q):=⟨λzn s σ H Q I z=>z.elim (h.out zn s σ H Q I) (g.out zn s σ H Q I)⟩
def QS.or{e:Ay}{u:TS}(h:QS X e A)(g:QS X e u):QS X e (λD σ H=>A D σ H\/u D σ H):=⟨λzn s σ H D I z=>z.elim (h.out zn s σ H D I) (g.out zn s σ H D I)⟩
def Tx(tk tv:TE):TE:=λσ H Q=>∀d,H d=none->tk σ (aA H d (.dK [])) λx H1=>tv σ H1 λv H2=>∃(Kk:Type)(_:DecidableEq Kk)(kn:KN Kk)(a:Aw)(k:Kk),x=.ref a/\H2 d=some (.dK [])/\kn.at_ H2 k a /\
 ∀H',G3 kn H' d [(k,v)]->(∀b o,H2 b=some o->b≠d->H' b=some o)->(∃o,H'=aA H2 d o)->Q (.ref d) H'
def Zf0{k v:Ax}{tk:TE}(F:X.A.units+2<cLine)(hk:QE X k tk)(Z:QE X v d):QE X (.Dict [some k] [v] p) (Tx tk d):=by
 refine⟨λzn s σ H Q I q=>(wpAny_Dict_any U U nofun Vd (aR (UU hk Z zn _ σ _ _ (I.laid (λ_ _ q=>aW _ q) (aN _) (yT s.heap I.big)) (q _ (I.aM.fresh (aN _)))) λws s2 ⟨x,y,u,r,H2,J,B,T,Y,Kk,_,kn,a,kk,ex,e,C,Ua⟩=>?_))⟩;subst J ex;cases(T);have n:G3 kn H2 _ []:=⟨fL,(show 0<sizeLine by decide),.inl ⟨U,e⟩⟩;refine ω (n.dict B) (ε1 λxs=>θ3 λdd G mu L=>?_);cases G;unfold storeAll;rw[List.forIn_cons];refine ab (ab (wpAny_dictSet_heap (kn.iF _ _ _ F) (kn.ok _ _ _ _ _ _ B.aM C) dd λh' dd' hs=>aJ ?_));show wpAny _ _ _ _ _ _;obtain⟨H',n',D,o',O⟩:=vd B n C Y (show 0+1<sizeLine by decide) .nil mu L U dd' hs;exact aJ ⟨.ref _,H',O,U,Ua H' n' D o'⟩
def PI.or{t u:TI}(h:PI X e l t)(g:PI X e l u):PI X e l (λσ H R=>t σ H R\/u σ H R):=λzn s σ H R I z=>z.elim (h zn s σ H R I) (g zn s σ H R I)
def QI.or{t u:TI}(h:QI X tg l t)(g:QI X tg l u):QI X tg l (λσ H R=>t σ H R\/u σ H R):=⟨PI.or h.out g.out⟩
section
variable {ww:Aq}{w:Au}{A:Ar}{R:Result->Shared->Prop}{I:Aw}{fp wr:List Aw}{n:Nat}{P:Nat->Value->Prop}{St:Nat->Heap->Prop}{d:Av}
theorem SF(W:Walks ww w A.in1 I fp wr n P St)(bt:Nat->Nat->Bool)(Y:CmpOf ww w A.in1 .Gt P bt)(S:Aw)(Z:S∉fp):
  ∀(k j:Nat)(s:As)(vb:Av)(c:Nat),n-(j+1)=k->j+1<=n->St (j+1) s.heap->P (argBest bt j) vb->
  s.heap.get? S=some {cls:=.type "list",dict:=none,data:=.seq #[vb,vb] c,slots:=#[]}->
  (∀v h' tk,P (argBest bt (n-1)) v->(∀b o,b∉wr->b≠S->s.heap.get? b=some o->h'.get? b=some o)->R (.ok (.ret v)) {s with heap:=h',toks:=tk})->
  codeAny (model ww w) A (.builtin "max.loop" ⟨[.ref I,.none,.ref S],[("default",d)]⟩) R s:=by
 have hSw:S∉wr:=λh=>Z (W.sub _ h);have hname:(toString "max" ++ toString ".loop" : String) = "max.loop" :=Va
 intro k
 induction k with
 |zero=>
  intro j s vb c hk hj aV G hS hR;have Ua:j+1=n:=Vc
  refine rH Kj ?_;refine ab (lH hS U ?_);refine ab (Eu (W.done s _ _ (Ua ▸ aV) λh' tk B=>?_));have F:=B S _ hSw hS;refine ab ?_;refine EI F U (ab (tT (aJ ?_)));refine hR vb _ tk (by rw[<-Ua];exact G) λb o q r e=>(nU _ _ (eN r)).trans (B b o q e)
 |succ k ih=>
  intro j s vb c hk hj aV G hS hR;have L:j+1<n:=Vb
  refine rH Kj ?_;refine ab (lH hS U ?_);refine ab (Eu (W.item (j+1) s _ _ L aV λv h' tk hP J B=>?_));have F:=B S _ hSw hS;show wpAny _ A.in1 (tryCatch _ _ >>= _) _ _ _;refine ab (Eu (fV (ab (Y (j+1) (argBest bt j) v vb _ _ _ hP G ?_))));refine ab (fV (u0 ?_));refine ab (tT (aJ ?_));cases hb:bt (j+1) (argBest bt j)with
  |true=>
   refine ab ?_;refine EI F U (ab (tT ?_));refine aJ ⟨sX Kb _,ih (j+1) _ v _ Vc L (W.frame _ _ _ J λb hbf o e=>?_) (by simp only[argBest,hb,if_true];exact hP) (lG _ F U)
    λv' O C T D=>?_⟩
   .exact(nU _ _ (λh:S=b=>Z (by rw[h];exact hbf))).trans e
   .exact hR v' O C T λb o q r e=>D b o q r ((nU _ _ (eN r)).trans (B b o q e))
  |false=>
   refine ab (tT ?_);refine aJ ⟨sX Kb _,ih (j+1) _ vb c Vb L J (by simp only[argBest,hb,ET,if_false];exact G) F λv' O C T D=>?_⟩;exact hR v' O C T λb o q r e=>D b o q r (B b o q e)
def Zjl(W:Walks ww w A.in1 I fp wr n P St)(bt:Nat->Nat->Bool)(J:CmpOf ww w A.in1 .Gt P bt)(S:Aw)(B:S∉fp){c:Nat}(aV:St 0 s.heap)
  (hS:s.heap.get? S=some {cls:=.type "list",dict:=none,data:=.seq #[] c,slots:=#[]})
  (h0:n=0->∀h' tk,(∀b o,b∉wr->b≠S->s.heap.get? b=some o->h'.get? b=some o)->R (.ok (.ret d)) {s with heap:=h',toks:=tk})
  (hR:0<n->∀v h' tk,P (argBest bt (n-1)) v->(∀b o,b∉wr->b≠S->s.heap.get? b=some o->h'.get? b=some o)->R (.ok (.ret v)) {s with heap:=h',toks:=tk}):
  codeAny (model ww w) A (.builtin "max.loop" ⟨[.ref I,.none,.ref S],[("default",d)]⟩) R s:=by
 have O:(toString "max" ++ toString ".loop") = "max.loop" :=Va
 refine rH Kj (ab (lH hS U ?_))
 by_cases Ua:0<n
 .refine ab (Eu (W.item 0 s _ _ Ua aV λv h' tk hP C q=>?_));have L:=q S _ (λh=>B (W.sub _ h)) hS;show wpAny _ A.in1 (updateSeq S _ >>= _) _ _ _;refine ab (EI L U ?_);refine aJ ⟨sX Kb _,SF W bt J S B _ 0 _ v _ U Ua (W.frame _ _ _ C λb hbf o e=>((nU _ _ (λh:S=b=>B (by rw[h];exact hbf))).trans e)) hP (lG _ L U) λv' Y F T G=>(hR Ua v' Y F T λb o r D e=>G b o r D ((nU _ _ (eN D)).trans (q b o r e)))⟩
 .have Z:n=0:=Vb
  refine ab (Eu (W.done s _ _ Vc λh' tk q=>(ab (mN (aJ ?_)))));exact h0 Z h' tk λb o r _ e=>q b o r e
end
section
variable {ww:Aq}{w:Au}{A:Ar}{E:Ab}{s:As}{l:Aw}{xs:Array (Int×Tok)}{d:Av}
def Vy(hh:A.handled=none)(J:s.heap.IsList l (intItems xs))(I:xs.size=0->∀h' tk,(∀b o,s.heap.get? b=some o->h'.get? b=some o)->Q d {s with heap:=h',toks:=tk})
  (h:0<xs.size->∀v h' tk,(intItems xs)[argBest (λi j=>decide (numAt xs i>numAt xs j)) (xs.size-1)]?=some v->(∀b o,s.heap.get? b=some o->h'.get? b=some o)->Q v {s with heap:=h',toks:=tk}):
  A9 ww w A (call (.builtin "max") [.ref l] [(Str.ofString "default",d)]) Q E s:=by
 have r:(toString "max" ++ toString ".loop") = "max.loop" :=Va
 refine PyProof.Rows.kmk_tree PySem.F.kind_max PySem.F.plain_max PySem.F.entry_max Ve ?_;refine ab (fK (U) (ab (aJ (ab (iter_intList J λs₂ e st C D=>?_)))));subst e;refine ab (iI ?_);have W:=Walks.list (prog:=ww) (w:=w) (A:=A.in1) hh _ l D (intItems xs);have hsz:(intItems xs).size=xs.size:=by simp[intItems]
 refine aJ ⟨sX Kb _,Zjl W _ (CmpOf.ints_gt _ (λ_ _=>intItems_at)) _ (λL=>iC _ (C _ L)) (W.frame _ _ _ st λb _ o e=>aW _ e) (bX _ U) (λG h' tk B=>(I Vb h' tk (old_kept λb o q e=>B b o q (cI (bH e)) (aW _ e)))) λG v h' tk O B=>(h (by simp_all) v h' tk (by simp_all) (old_kept λb o q e=>B b o q (cI (bH e)) (aW _ e)))⟩
end
def Ea(K:Af)(ta td:TE):TE:=λσ H Q=>ta σ H λx H1=>td σ H1 λy H2=>∃(p:Aw)(ns:Ak),x=.ref p/\aB K H2 p (ns.map V.int)/\(ns=[]->Q y H2)/\∀m∈ns,(∀n∈ns,n<=m)->Q (.int m) H2
def Zn2 {a:Ax}  {pos kp:Pos} (hc:X.calm=true) (hg:Gl X "max") (hm:X.mg "max" = none) (ha:QE X a d) (Ua:QE X e J) (hp:Yi a=true:=by rfl):
  QE X (.Call (.Name "max" p) [a] [⟨some "default",e,kp⟩] pos) (Ea X.K d J):=by
 refine⟨λzn s σ H Q I hw=>(sS (GG I hg hm yi ?_ Va))⟩;have hs:=Z0 (pi:=[]) (env:=X.env) hp;refine callWith_kw ?_ (by rw[hs];rfl) (by rw[hs];rfl);rw[hs];refine sM (aR (ha.out zn s σ H _ I hw) λu s1 ⟨x,H1,Z,r1,q1⟩=>(Dp (kws_cons (aR (Ua.out zn s1 σ H1 _ Z q1) λu2 s2 ⟨y,H2,r,r2,p,ns,ex,hq,hz,q⟩=>kws_nil ?_))));subst ex;cases r1;obtain⟨Y,r',pl,hz'⟩:=r.list hq;have hi:=fB r';obtain⟨xs,L⟩:=hi.allInts.items;have e1:ns=xs.toList.map (·.1):=by
  rw[<-nums_intItems,<-L];exact(hi.numsOf).symm
 refine Vy (r.ok.hd hc) (L ▸ pl.isList) (λh0 h' tk F=>⟨y,H2,r.kept F,r2,hz ?_⟩) λhsz v h' tk D F=>?_
 .grind
 have G:=argBest_gt (numAt xs) (xs.size-1);generalize argBest _ _=b at D G;have at_:∀j (B:j<xs.size),numAt xs j=xs[j].1/\(intItems xs)[j]?=some (.int xs[j].1 xs[j].2):=λj B=>⟨by simp[numAt,B],by simp[intItems,B]⟩;obtain⟨n1,T⟩:=at_ b Vb;rw[T]at D;cases D;refine⟨.int xs[b].1,H2,r.kept F,⟨_,U⟩,q _ ?_ λn O=>?_⟩
 .grind
 .rw[e1]at O;obtain⟨y,hy,rfl⟩:=bB.mp O;obtain⟨j,B⟩:=El hy;have C:j<xs.size:=by
   grind
  have:=G.2 j Vb;rw[(at_ j C).1,n1]at this;have ej:xs[j]=y:=by
   grind
  rw[ej]at this;exact this
def Nk:V->List V->Hp->VK->Prop:=λx xs H Q=>∃i:Int,x=.int i/\xs=[]/\Q (.int ((Builtin.Int.intBits i:Nat):Int)) H
def V5:En X "int.bit_length" Nk:=by
 rintro zn s σ H x xs v C Q I B r ⟨i,rfl,rfl,q⟩;obtain⟨t,rfl⟩:=B;cases r;exact call_int_bit_length ⟨.int _,H,I.tok _,⟨_,U⟩,q⟩
def Zcy {a b:Ax} (B:Gl X "range") (C:X.mg "range" = none) (r:QA X [a,b] t) (D:Yi a=true:=by rfl) (q:Yi b=true:=by rfl):QI X e (.Call (.Name "range" p) [a,b] [] y) (Qx t):=
 ⟨V9 B C r.out (by rw[Z0 D,Z0 q];rfl) (by rw[Z0 q];rfl)⟩
open AutoSeq1 (wpAny_loadPart')
def Fg(K:Af):A8->Hp->VK->Prop:=λxs H Q=>∃(p:Aw)(bs:Am),xs=[.ref p]/\aB K H p (bs.map V.bl)/\Q (.bl (bs.any id)) H
def TK (hc:X.calm=true):YX X (.builtin "any") (Fg X.K):=by
 rintro zn s σ H xs us Q I r ⟨p,bs,rfl,hq,q⟩;obtain⟨u,rfl,Y⟩:=bS r;cases Y;obtain⟨F,O,pl,hz⟩:=I.list hq;have J:=pl.isList;have B:=O.length;rw[aF]at B;refine call_any_walk (Fi J ?_);refine ι7 _ _ _ _ _ _ (λi=>(bs[i]?).getD false) ⟨U,Walks.list (A:=X.A.in1) (I.ok.hd hc) _ p (cI (by obtain⟨_,e,_⟩:=J;exact bH e)) _,
  ⟨⟨_,bX _ U,U,U⟩,J.push _⟩,λi v s' Q' E' T L=>?_,λh' tk Z=>?_⟩
 .have hi:=by simpa using T
  have D:i<bs.length:=Vc
  obtain⟨w',e1,e2⟩:=O.get (by rw[bG,aQ D];rfl);rw[hi]at e1;cases e1;cases e2;simp[aQ D]at L;exact u0 L
 .have e:((List.range F.toArray.size).any λi=>(bs[i]?).getD false)=bs.any id:=by
   rw[eB,<-B,mV,lC,lC];constructor
   .rintro⟨i,hi,z⟩;have C:=e8.mp hi;refine⟨_,dZ C,?_⟩;simpa[aQ C]using z
   .rintro⟨b,D,z⟩;obtain⟨i,hi,rfl⟩:=List.getElem_of_mem D;exact⟨i,e8.mpr hi,Vc⟩
  rw[e];refine⟨.bl _,H,I.kept (λb o G=>Z b o (λUa=>?_) (aW _ G)),U,q⟩;rw[cA.mp Ua]at G;exact absurd (bH G) (iC _)
end L2
namespace L2
open PySem.Calls
open AutoSeq1 (wpAny_loadPart')
section
variable {X:Cx}{o e:Ax}{es:An}{to:TE}{t:TA}{name:Str}{apos pu:Pos}{id:String}{r:V->List V->Hp->VK->Prop}
def VW(r:V->List V->Hp->VK->Prop)(to:TE)(t:TA):TE:=λσ H Q=>to σ H λx H1=>∃a xs,x=.ref a/\H1 a=am xs/\t σ H1 λys H2=>r x ys H2 Q
def FN (D:Slot "tuple" name id) (G:typeOf (.builtin id)=pure (.type "method_descriptor")) (hm:En X id r) (ho:QE X o to) (ha:QA X (e::es) t)
  (q:attributeBase o name X.env (eval o X.env)=eval o X.env:=by rfl) (B:(apos.endLine == pu.line)=true:=by rfl) (L:(e::es).all Yi=true:=by rfl) (hl:(e::es).length<30:=by decide):
  QE X (.Call (.Attribute o name apos) (e::es) [] pu) (VW r to t):=by
 have C:=L;rw[nK,lQ]at C;refine⟨λzn s σ H Q I h=>(MT q (by rw[cH L];exact aZ (hl)) B U (aR (ho.out zn s σ H _ I h) λv s1 ⟨x,H1,J,Ua,a,xs,ex,hx,q1⟩=>?_))⟩;subst ex;cases Ua;obtain⟨_,T,_,ob,Z,g2,g3,g4⟩:=J.aM a _ hx;refine ι2 "tuple" id ⟨PySem.F.plainAttrs_tuple,D,G,⟨ob,Z,g2⟩,λa' e'=>Vc,?_⟩;have O:=ha.out pu zn s1 σ H1 _ J q1;rw[Z0 C.1]at O ⊢;refine Fx (by show(false||(backTo pu _).any _)=false;rw[Xk C.2]<;>rfl) (HW (aR O λus s2 ⟨vs,H2,Y,r2,q2⟩=>hm zn s2 σ H2 (.ref a) vs _ us Q Y U r2 q2))
def zG{M:Model}{A:Ar}{E:Ab}(f:Nat->g->Sem (ForInStep g))(I:Aj->g->Shared->Prop)(Q:g->Shared->Prop)
  (q:∀x pi b s,I (x::pi) b s->wpAny M A (f x b) (λr s'=>match r with|.yield b'=>I pi b' s'|.done b'=>Q b' s') E s)
  (fin:∀b s,I [] b s->Q b s) (b:g) (h:I (List.range n) b s):wpAny M A (forIn [:n] b f) Q E s:=by
 rw[Std.Legacy.Range.forIn_eq_forIn_range'];refine wpAny_forIn_list f I Q q fin _ b ?_;rw[show(List.range' _ _ _)=List.range n by simp[List.range_eq_range']];exact h
def vk(l:Aw)(items:Ah)(n:Nat)(dd:Option Aw)(L:Array (Option Av))(x:Av)(e:Av->Bool)(j:Nat)(Z:j<items.size)
  (D:e items[j]=true) (I:∀m (hm:m<items.size),m<j->e items[m]=false):
  Meets (Builtin.«tuple.index» ⟨[.ref l,x],[]⟩)
   (λA R s=>s.heap.get? l=some {cls:=.type "tuple",dict:=dd,data:=.seq items n,slots:=L}/\(∀y,y∈items->SeqAt.EqAt A.in1 s y x (e y))/\R (.ok (.ret (.int j s.toks))) {s with toks:=s.toks+1}):=
 .of_wp λww w A R s h=>by
  obtain⟨O,g,d,tk,os⟩:=s;obtain⟨T,Ua,h⟩:=h;have Y:∀(i:Nat) y,items[i]?=some y->∃h:i<items.size,y=items[i]:=λi y G=>by
   obtain⟨h1,h2⟩:=Array.getElem?_eq_some_iff.mp G;exact⟨h1,h2.symm⟩
  wp_walk using wpAny_loadPart' T,zG _ (λpi b s'=>b.1=none/\s'=⟨O,g,d,tk,os⟩/\∃i,i<=j/\pi=(List.range (min items.size items.size)).drop i) _
  .rintro y pi b s' ⟨F,rfl,i,hi,C⟩;have r:i<items.size:=Vb
   rw[Bd (by rw[dY,Dx];exact r)]at C;injection C with J B;have G:y=i:=by simpa using J
   subst G;rw[rS r];refine ab (Ua _ (Array.getElem_mem r) ww w _ _ ?_);rcases C9 y j with q|q
   .rw[I y r q]
    wp_walk
    exact⟨U,U,y+1,Vb,B⟩
   .have e1:y=j:=Vb
    subst e1;rw[D]
    wp_walk
    exact⟨_,U,h⟩
  .rintro⟨b1,b2⟩ s' ⟨F,rfl,i,hi,C⟩;have:=congrArg List.length C;rw[Dx]at this;simp at this;lia
  .exact⟨U,U,0,cM _,U⟩
def Vn:V->List V->Hp->VK->Prop:=λx vs H Q=>∃(l:Aw)(xs:A8)(y z:V)(j:Nat),x=.ref l/\vs=[y]/\H l=am xs/\XM y=true/\xs.all XM=true/\xs[j]?=some z/\iR z y=true/\(∀i q,i<j->xs[i]?=some q->iR q y=false)/\Q (.int j) H
def Tu:EM X "tuple.index" Vn:=by
 refine λzn s σ H x vs v us Q I rx Y=>ε5 λl xs y z j=>θ8 λzq0 zq1 hH T fx hj L hno q=>?_;subst zq0;subst zq1;cases rx;obtain⟨u,rfl,ru⟩:=Y.one;obtain⟨_,B,r,⟨oc,od,Ua,D⟩,e,hc,⟨n,O⟩,hn⟩:=I.aM l _ hH;subst hc O hn;have hl:=r.length;have at_:∀(i:Nat)(hi:i<B.toArray.size),∃J,xs[i]?=some J/\tJ y B.toArray[i]=iR J y:=λi hi=>by
  have C:i<xs.length:=(by simp_all)
  obtain⟨w',hw',G⟩:=r.get (aQ C);have e2:B.toArray[i]=w':=by
   grind
  refine⟨xs[i],aQ C,?_⟩;rw[e2];exact KG G (mK.mp fx _ (dZ C))
 refine Dw PySem.F.slot_tuple_index ⟨_,e,U⟩ PySem.F.entry_tuple_index (PySem.F.args_tuple_index_2 _ _) (vk l _ n none D u _ j Vc ?_ (λm hm Z=>?_)) ⟨e,λw hw=>JS ru T r fx w Vc,⟨.int j,H,I.tok _,⟨_,U⟩,q⟩⟩
 .grind
 .grind
end
end L2
namespace L2
theorem Ru:∀{vs:Ag} {q:Ai},vs.length=q.length->(∀(j:Nat)(v:Av),vs[j]?=some v->∃y t,q[j]?=some y/\v=.str y t)->StrsAre vs q
 |[],[],_,_=>.nil
 |v::vs,y::q,h,k=>by
  obtain⟨B,t,e1,e2⟩:=k 0 v rfl;have e1:=Option.some.inj e1;subst e1 e2;exact .cons _ t (Ru (Nat.succ.inj h) λj v r=>k (j+1) v r)
def wj (hc:X.calm=true):YX X (.builtin "sorted") (λxs H Q=>∃(a:Aw)(wl:A0)(S:Ai),xs=[.ref a]/\Rd H a (.dK wl)/\wl.map (·.1)=S.map Sum.inr/\S.length<64 /\
  ∀(l:Aw)(Y:Ai),H l=none->Y.Perm S->sortedS Y=true->Q (.ref l) (aA H l (.lst (Y.map V.str)))):=by
 refine λzn s σ H xs us Q I r=>ε3 λa wl S=>θ4 λzq0 hq hS hn q=>?_;subst zq0;obtain⟨u,rfl,rx⟩:=bS r;cases rx;obtain⟨z,nm,vs,rel,dd⟩:=kI I.aM hq;refine ω (id dd) (ε3 λo es ep=>θ5 λho T Z hk hp Ua=>?_);have B:vs.map (·.1)=S.map Sum.inr:=by rw[<-rel.keys];exact hS
 have F:=by have:=congrArg List.length B;rwa [aF,aF]at this
 refine IL IW IM IK (Ii _) (ab (aJ ?_));refine ab (MS (PySem.W.kdl_dict nm) (I.ok.hd hc) (ι2 o es ⟨ho,T,Z,hk,hp,Ua⟩) (by rw[F];exact bL (Zw Vb)) λh1 tk acc J D=>?_);have hal:acc.toList.length=S.length:=by rw[lE,D.1,F]
 have C:=Ru hal λj v hv=>by
  obtain⟨k,x,e1,e2⟩:=D.2 j v (by simp_all);have e3:(vs.map (·.1))[j]?=some k:=Vc
  rw[B,bG]at e3;obtain⟨y,hy,rfl⟩:=eA.mp e3;obtain⟨t,e4⟩:=N3 e2;exact⟨y,t,hy,e4⟩
 have O:acc.toList.length<64:=(by simp_all)
 generalize hV:acc.toList=ws at O C ⊢;refine ab (DF ?_ (by have:=sI;lia));have I1:aD X zn σ H {s with heap:=h1,toks:=tk}:=I.kept J;have G:(h1.push _).get? _=some (seqObj "list" ws.toArray 0):=bX _ rfl;refine ab (fV (dQ HS ⟨_,G,U⟩ Iq (list_sort_treeK strKind_oneLt G C.keysOf (λv₁ v₂ pi e=>keyKind_strs (by rw[<-e];exact C)) O λst' a1 a2=>⟨_,U,?_⟩) (Hh _)));refine ω (sorted_out_str C a1 a2) (ε1 λss=>θ2 λb1 b2 b3=>?_);obtain⟨e,he⟩:=Ho G;refine aJ ⟨_,U,⟨.ref _,_,I1.laid (λb ob hb=>?_) (aN _) ?_,U,q _ ss (I1.aM.fresh (aN _)) b2 b3⟩⟩
 .have L:=bH hb;rw[Ia (cI L) (by rw[DS];exact pJ L)];exact aW _ hb
 .have hm:=b2.length_eq;exact⟨by rw[aF];exact bL (Zw (by omega)),_,e,Jz b1,he⟩
theorem Lb{α:Type}{P:List α->Prop}(h:∀a b c d e f g,P [a,b,c,d,e,f,g]):∀q:List α,q.length=7->P q
 |[_,_,_,_,_,_,_],_=>h _ _ _ _ _ _ _
theorem Oy{J:FL}{pos':Pos}(hN:b.N.Nodup)(hi:b.N[i]?=some x)(G:o6 b.env.scope x)(he:QE b e d)(ho:MZ b F J)(hf:b.fn x=true\/b.env.scope.names.lookup x=some .local:=by first|exact .inl U|exact .inr U|assumption):QS b (.AugAssign (.Name x pos') F e p) (MU i d J):=⟨by
 rintro zn s σ H D I ⟨v,e1,h⟩;obtain⟨m,hn,hl⟩:=I.loc;obtain⟨u,r,l⟩:=hl i x v hi e1 (by rcases G with k|k;exact .inl k;exact .inr (.inl k));refine wpAny_AugAssign_Name ?_;have go:wpAny (model b.prog b.w) b.A (eval e b.env) (λw s₂=>wpAny (model b.prog b.w) b.A (inplaceOp F u w) (λr C=>wpAny (model b.prog b.w) b.A (storeName b.env x r) (λ_=>SP b zn D .next) b.xe C) b.xe s₂) b.xe s:=by
  refine aR (he.out zn s σ H _ I h) λw Z ⟨y,H1,L,O,q1⟩=>(aR (ho zn Z σ H1 v y u w _ L r O q1) λz s2 ⟨zv,H2,T,r2,q2⟩=>(JQ T hN hi G r2 (λs3 Y=>⟨_,H2,Y,q2⟩) hf))
 rcases l with⟨q,Ua⟩|⟨q,c,hc,B⟩
 .exact wpAny_loadName_local I.ok.kind q hn Ua go
 .rcases q with q|q
  .exact wpAny_loadName_cell I.ok.kind q hc B go
  .rcases G with k|k
   .have:b.env.scope.names.lookup x=some .free:=q;rw[k]at this;cases this
   .have:b.env.scope.names.lookup x=some .free:=q;rw[k]at this;cases this⟩
theorem Ra:∀{vs:Ag} {ns:Ak},vs.length=ns.length->(∀(j:Nat)(v:Av),vs[j]?=some v->∃y t,ns[j]?=some y/\v=.int y t)->IntsAre vs ns
 |[],[],_,_=>.nil
 |v::vs,y::r,h,k=>by
  obtain⟨B,t,e1,e2⟩:=k 0 v rfl;have e1:=Option.some.inj e1;subst e1 e2;exact .cons _ t (Ra (Nat.succ.inj h) λj v q=>k (j+1) v q)
def vm (hc:X.calm=true):YX X (.builtin "sorted") (λxs H Q=>∃(a:Aw)(wl:A0)(S:Ak),xs=[.ref a]/\Rd H a (.dK wl)/\wl.map (·.1)=S.map Sum.inl/\S.length<64 /\
  ∀(l:Aw)(T:Ak),H l=none->T.Perm S->T.Pairwise (·<=·)->Q (.ref l) (aA H l (.lst (T.map V.int)))):=by
 refine λzn s σ H xs us Q I r=>ε3 λa wl S=>θ4 λzq0 hq hS hn q=>?_;subst zq0;obtain⟨u,rfl,rx⟩:=bS r;cases rx;obtain⟨z,nm,vs,rel,dd⟩:=kI I.aM hq;refine ω (id dd) (ε3 λo es ep=>θ5 λho Y hda hk hp Ua=>?_);have B:vs.map (·.1)=S.map Sum.inl:=by rw[<-rel.keys];exact hS
 have C:=by have:=congrArg List.length B;rwa [aF,aF]at this
 refine IL IW IM IK (Ii _) ?_;refine ab (aJ ?_);refine ab (MS (PySem.W.kdl_dict nm) (I.ok.hd hc) (ι2 o es ⟨ho,Y,hda,hk,hp,Ua⟩) (by rw[C];exact bL (Zw Vb)) λh1 tk acc J D=>?_);have hal:acc.toList.length=S.length:=by rw[lE,D.1,C]
 have O:=Ra hal λj v hv=>by
  obtain⟨k,x,e1,e2⟩:=D.2 j v (by simp_all);have e3:(vs.map (·.1))[j]?=some k:=Vc
  rw[B,bG]at e3;obtain⟨y,hy,rfl⟩:=eA.mp e3;obtain⟨t,e4⟩:=N3 e2;exact⟨y,t,hy,e4⟩
 have L:acc.toList.length<64:=(by simp_all)
 generalize hV:acc.toList=ws at L O ⊢;refine ab (DF ?_ (by have:=sI;lia));have I1:aD X zn σ H {s with heap:=h1,toks:=tk}:=I.kept J;have F:(h1.push _).get? _=some (seqObj "list" ws.toArray 0):=bX _ rfl;refine ab (fV (dQ HS ⟨_,F,U⟩ Iq (list_sort_tree F O L λout Z b1 b2 b3=>⟨_,U,?_⟩) (Hh _)));obtain⟨e,he⟩:=Ho F;refine aJ ⟨_,U,⟨.ref _,_,I1.laid (λb ob hb=>?_) (aN _) ?_,U,q _ Z (I1.aM.fresh (aN _)) b2 b3⟩⟩
 .have G:=bH hb;rw[Ia (cI G) (by rw[DS];exact pJ G)];exact aW _ hb
 .have hm:=b2.length_eq;exact⟨by rw[aF];exact bL (Zw Vb),_,e,zt b1,he⟩
open PySem.W
section
variable {ww:Aq}{w:Au}{h:Heap}{d:Aw}{o:Obj}{es:Array DictEntry}{ep:Nat}
def Cb (lo:(d == sysModules)=false) (B:o.ExactDict) (r:o.data=.dict es ep):KdlSrc ww w "dict" d d es.size (λi v=>∃e,es[i]?=some e/\v=e.key) (λh=>h.get? d=some o)where
 type:=λ_ q=>⟨o,q,B.1⟩
 there:=λ_ q=>⟨bH q,bH q⟩
 keep:=λ_ _ q F=>F d (.inl U) o q
 notList:=Va
 notTuple:=Va
 hint:=λ_ _ s _ q J=>kdl_hint_dict ⟨o,q,B.1⟩ J
 iter:=λA s hh q=>ι2 _ (λi h=>h.IsKeyIter _ d i es.size ep/\h.get? d=some o) ⟨(λ_ _ J=>Um lo q B r J),{
  sub:=λb D=>Vc
  frame:=λ_ _ _ st F=>⟨st.1.at λo e=>F _ Vd o e,F d Vd o st.2⟩
  item:=λi G Q E hi st C=>Ss st.1 st.2 r hi λh' I L=>C _ h' G.toks ⟨_,rS hi,U⟩ ⟨I,L.extBut d o (cI (bH q)) st.2⟩ λb o D e=>L.extBut b o (λz=>D (by simp[z])) e
  done:=λG Q E st C=>Sv hh st.1 st.2 r λh' O=>C h' G.toks λb o D e=>O b o (λz=>D (by simp[z])) e
  self:=λ_ _ _ _ st C=>wpAny_pyIter_keyiter st.1 C},⟨⟨_,bX _ U,U,U⟩,aW _ q⟩⟩
end
section
variable {ww:Aq}{w:Au}{h:Heap}
def FZ (h:Heap) (a:Aw):Prop:=∃o n ns q,h.get? a=some o/\o.cls=.type "tuple" /\ o.data=.seq q n/\aH (List.map V.int ns) q.toList/\ns≠[]
theorem OR{A:Ar}{s:As}{B fin:Bool}{C:Bool->Shared->Prop}(q:∀b,C b s):∀{ns r:Ak} {xs ys:Ag} {i:Nat},aH (ns.map V.int) xs->aH (r.map V.int) ys->KatLex ww w A B fin C (xs.zip ys) i s
 |[],_,_,_,_,h,_=>by cases h;exact kat_nil (q _)
 |n::ns,[],_,_,_,h,g=>by cases g;rw[List.zip_nil_right];exact kat_nil (q _)
 |n::ns,m::r,_,_,i,h,g=>by
  cases h with
  |cons h1 F=>
   cases g with
   |cons G D=>
    obtain⟨t,rfl⟩:=h1;obtain⟨u,rfl⟩:=G;exact kat_cons (LH (kat_go (λ_=>kat_yes (OR q F D)) λ_=>kat_no (Tt q)))
theorem wk {as:List Aw} (H:∀a∈as,FZ h a) (h0:0<as.length):mC ww w h (as.map Value.ref) (tuples' (Value.type "int" != Value.type "tuple"))where
 kind:=by
  intro A E Q s hs q;have cB:∀l:List Aw,(∀a∈l,FZ h a)->∃fs:Ag,fs.length=l.length/\(∀v∈fs,∃x t,v=.int x t)/\KatTups s.heap (l.map Value.ref) fs:=by
   intro l
   induction l with
   |nil=>exactλ_=>⟨[],U,(λ_ h=>nomatch h),.nil⟩
   |cons a r ih=>
    intro hl;obtain⟨fs,e1,e2,e3⟩:=ih λb hb=>hl b (b8 _ hb);refine ω (hl a bM) (ε4 λo n ns D=>θ4 λT Y F B Ua=>?_);cases ns with
    |nil=>exact absurd U Ua
    |cons x ns=>
     generalize hi:D.toList=L at B;cases B with
     | @cons _ _ u us h1 ht=>
      obtain⟨t,rfl⟩:=h1;refine⟨_,Vc,λv B=>?_,KatTups.cons (hs _ _ T) Y F (by rw[<-Eb,hi];rfl) e3⟩;rcases bJ.mp B with rfl|B
      .exact⟨x,t,U⟩
      .exact e2 v B
  obtain⟨fs,e1,e2,e3⟩:=cB as H;refine kat_kind e3 Vb (λv B=>?_) U q;obtain⟨x,t,rfl⟩:=e2 v B;exact Looks.of_pure U
 ask:=by
  intro A C s i j hs hi O hC;rw[aF]at hi O;unfold kas_ask;have e1:(as.map Value.ref).getD i Value.none=.ref as[i]:=by simp[hi]
  have e2:(as.map Value.ref).getD j Value.none=.ref as[j]:=by simp[O]
  rw[e1,e2];refine ω (H _ (dZ hi)) (ε4 λo n ns D=>θ4 λT Y F B _=>?_);refine ω (H _ (dZ O)) (ε4 λo' n' ms Z=>θ4 λJ hc' I G _=>?_);exact kat_lt (hs _ _ T) F (hs _ _ J) I (OR hC B G)
end
def vn (hc:X.calm=true):YX X (.builtin "sorted") (λxs H Q=>∃(a:Aw)(wl:List (List aX×V))(S:List (Ak)),xs=[.ref a]/\Rd H a (.dT wl)/\wl.map (·.1)=S.map (·.map Sum.inl)/\(∀t∈S,t≠[])/\S.length<64 /\
  ∀(l:Aw)(bs:List Aw)(T:List (Ak)),H l=none->T.Perm S->bs.length=T.length->(∀(i:Nat)(b:Aw)(t:Ak),bs[i]?=some b->T[i]?=some t->H b=some (.tup (t.map V.int)))->Q (.ref l) (aA H l (.lst (bs.map V.ref)))):=by
 refine λzn s σ H xs us Q I r=>ε3 λa wl S=>θ5 λzq0 hq hS hne hn q=>?_;subst zq0;obtain⟨u,rfl,rx⟩:=bS r;cases rx;refine ω ((LV I.aM hq)) (θ2 λ_ lo=>ε1 λxs=>θ1 λO=>ε3 λo es ep=>θ4 λho Z hda L _=>?_);have G:xs.length=S.length:=by rw[<-Cq O];have:=congrArg List.length hS;rwa [aF,aF]at this
 have hsz:es.size=S.length:=by rw[<-lE,L,aF,G]
 have cB:∀(i:Nat)(t:Ak),S[i]?=some t->∃x:List aX×Aw×Av,xs[i]?=some x/\H x.2.1=some (.tup (t.map V.int)):=λi t Ua=>by
  have hx:=(bW.mp Ua).1;have hx:i<xs.length:=(by simp_all)
  obtain⟨p,hp1,Y⟩:=KT.at O (aQ hx);have e:=congrArg (λl:List (List aX)=>l[i]?) hS;simp only[bG,hp1,Ua,Ew]at e;refine⟨_,aQ hx,?_⟩;rw[Y,Option.some.inj e,bI];rfl
 have inz:∀b∈xs.map (·.2.1),∃t∈S,H b=some (.tup (t.map V.int)):=λb B=>by
  obtain⟨i,hi⟩:=El B;have hil:=(bW.mp hi).1;rw[aF]at hil;obtain⟨x,e1,e2⟩:=cB i S[i] (aQ (by omega));rw[bG,e1]at hi;cases hi;exact⟨_,dZ _,e2⟩
 refine IL IW IM IK (Ii _) ?_;refine ab (m:=checkCount "sorted" 1 1 _) (aJ ?_);refine ab (MS (A:=X.A.in1) (Cb lo Z hda) (I.ok.hd hc) ho (by rw[hsz];exact bL (Zw Vb)) λh1 tk acc F C=>?_);have hV:acc.toList=(xs.map (·.2.1)).map Value.ref:=by
  refine rK λi=>?_
  by_cases hi:i<acc.size
  .obtain⟨e,e1,e2⟩:=C.2 i acc[i] (rS hi);have e3:es.toList[i]?=some e:=by rw[Eb];exact e1
   rw[L,bG]at e3;obtain⟨x,f1,rfl⟩:=eA.mp e3;rw[Eb,rS hi,e2,bG,bG,f1];rfl
  .rw[pF (by rw[lE];simp_all),pF (by rw[aF,aF];have:=C.1;simp_all)]
 generalize acc.toList=ws at hV ⊢;subst hV;have hvl:((xs.map (·.2.1)).map Value.ref).length<64:=by rw[aF,aF];simp_all
 refine ab (DF ?_ (by have:=sI;lia));have I1:aD X zn σ H {s with heap:=h1,toks:=tk}:=I.kept F;have D:(h1.push _).get? h1.objs.size=some (seqObj "list" ((xs.map (·.2.1)).map Value.ref).toArray 0):=bX _ rfl;refine ab (fV (dQ HS ⟨_,D,U⟩ Iq (va (h:=h1) D (aN _) (λb o e=>aW _ e) hvl (λh2=>wk (λb B=>?_) (by rw[aF]at h2;lia)) λout hpm=>⟨_,U,?_⟩) (Hh _)))
 .obtain⟨t,Ua,e⟩:=inz b B;obtain⟨_,its2,rv,o2,ho2,hc2,⟨n,hd⟩,_⟩:=I1.aM b _ e;exact ι4 o2 n t _ ⟨ho2,hc2,hd,rv,hne t Ua⟩
 obtain⟨bs,rfl,B⟩:=Zfn hpm;obtain⟨e,he⟩:=Ho (out:=(bs.map Value.ref).toArray) (n:=0) D;have hbl:bs.length=S.length:=by rw[B.length_eq,aF,G]
 let f:Aw->List Int:=λb=>match H b with|some (.tup vs)=>vs.map (λv=>match v with|.int z=>z|_=>0)|_=>[]
 have hf:∀{b:Aw} {t:Ak},H b=some (.tup (t.map V.int))->f b=t:=λ{b t} e=>by
  show(match H b with|some (.tup vs)=>vs.map _|_=>[])=t;rw[e];show(t.map V.int).map _=t;rw[bI];exact List.map_id' t
 have hfS:(xs.map (·.2.1)).map f=S:=by
  refine rK λi=>?_
  by_cases hi:i<S.length
  .grind(ematch:=2)
  .rw[pF (by rw[aF,aF];simp_all),pF (by simp_all)]
 refine aJ ⟨_,U,⟨.ref h1.objs.size,_,I1.laid (t':=tk) (o:=.lst (bs.map V.ref)) (λb ob B=>?_) (aN _) ?_,U,q _ bs (bs.map f) (I1.aM.fresh (aN _)) (by rw[<-hfS];exact B.map f) (aF ..).symm λi b t e1 e2=>?_⟩⟩
 .have J:=bH B;rw[Ia (cI J) (by rw[DS];exact pJ J)];exact aW _ B
 .exact⟨by rw[aF];exact bL (Zw Vb),_,e,Zfm bs,he⟩
 .grind
end L2
namespace L2
section
variable {ww:Aq}{w:Au}
def GS(ww:Aq)(w:Au)(h:Heap)(ks:List (Ak))(a:Aw):Prop:=
 ∃(o:Obj)(n:Nat)(as:List Aw),h.get? a=some o/\o.cls=.type "tuple" /\ o.data=.seq (as.map Value.ref).toArray n/\as.length=ks.length/\∀(j:Nat)(t:Aw)(k:Ak),as[j]?=some t->ks[j]?=some k->IsTupleKey (Ys ww w) h k t
def gZ(ks:List (Ak)):Int:=reduceHash (Builtin.Tuple.tupleHashOf (ks.map λk=>reduceHash (Builtin.Tuple.tupleHashOf (k.map hashInt))))
def QD(ks:List (Ak)):Nat:=(ks.map λk=>k.length+1).sum+1
def GS.inj{h:Heap}{a:Aw}{x y:List (Ak)}(p:GS ww w h x a)(q:GS ww w h y a):x=y:=by
 revert p;refine ε3 λo n as=>θ4 λe c d l k=>?_;revert q;refine ε3 λo' n' F=>θ4 λB c' r J C=>?_;rw[e]at B;cases B;rw[d]at r;injection r with D I;have G:=by
  have:=congrArg Array.toList D;exact(List.map_inj_right λ_ _ z=>by injection z).mp this
 subst G;refine Mi Vb λi h1 h2=>((tupleKind _).inj (k i as[i] x[i] (aQ _) (aQ h1)) (C i as[i] y[i] (aQ _) (aQ h2)))
def GS.keeps{h h':Heap}{ks:List (Ak)}{a d:Aw}{o:Obj}{es:Array DictEntry}{ep:Nat}(p:GS ww w h ks a)(e:h.get? d=some o)(r:o.data=.dict es ep)(s:Heap.SameBut d h h'):GS ww w h' ks a:=by
 revert p;refine ε3 λD n as=>θ4 λe1 B C F k1=>?_;have q:a≠d:=λz=>by
  grind
 exact ι3 D n as ⟨(s.2 a q).trans e1,B,C,F,λj t k h1 h2=>(tupleKind _).keeps (k1 j t k h1 h2) e r s⟩
def GS.pyHash{A:Ar}{E:Ab}{s:As}{ks:List (Ak)}{a:Aw}{Q:Int->Shared->Prop}(C:A.units+1<cLine)(p:GS ww w s.heap ks a)
  (h:Q (gZ ks) {s with toks:=s.toks+QD ks}):A9 ww w A (PySem.pyHash (.ref a)) Q E s:=by
 revert p;refine ε3 λo n as=>θ4 λe c d l D=>?_;refine Lu ⟨o,e,c⟩ F.slot_tuple_hash F.entry_tuple_hash (F.args_tuple_hash_1 _) Vd (.inr Vb) (ab (fK U (ab (wpAny_tupleItemsOf e d (ab (Fs _ (λpi hs s'=>∃i,i<=ks.length/\pi=(as.drop i).map _/\hs=((ks.take i).map λk=>reduceHash (Builtin.Tuple.tupleHashOf (k.map hashInt))).toArray/\s'={s with toks:=s.toks+((ks.take i).map λk=>k.length+1).sum}) _ ?_ ?_ _ _ ⟨0,cM _,by rfl,U,U⟩))))))
 .refine λx pi b s'=>ε1 λi=>θ3 λhi e1 zq0 zq1=>?_;subst zq0;subst zq1
  by_cases B:i<as.length
  .rw[Bd B]at e1;injection e1 with e2 e3;subst e2 e3;have r:ks[i]?=some ks[i]:=aQ _;have G:=aE r;refine ab (wpAny_pyHash_tuple (C) (D i _ _ (aQ B) r) (aJ ⟨i+1,(by omega),U,?_,?_⟩))
   .rw[G,b0,List.push_toArray];rfl
   .grind
  .grind
 .rintro b s' ⟨i,hi,e1,rfl,rfl⟩;have q:i=ks.length:=by
   have:=congrArg List.length e1;rw[aF,fX]at this;have:0=as.length-i:=this;grind
  subst q;rw[dR];refine ab (Cc (aJ ⟨_,_,U,h⟩))
def GS.eqBool{A:Ar}{E:Ab}{s:As}{x y:List (Ak)}{a b:Aw}{Q:Bool->Shared->Prop}(T:A.units+1<cLine)(p:GS ww w s.heap x a)(q:GS ww w s.heap y b)
  (h:Q (decide (x=y)) s):A9 ww w A (PySem.eqBool (.ref a) (.ref b)) Q E s:=by
 by_cases C:a=b
 .subst C;rw[aZ (p.inj q)]at h;exact IX _ ww w E Q h
 .revert p;refine ε3 λo n as=>θ4 λe c d l Y=>?_;revert q;refine ε3 λo' n' bs=>θ4 λI c' J l' D=>?_;have sz1:(as.map Value.ref).toArray.size=x.length:=Vc
  have Ua:(bs.map Value.ref).toArray.size=y.length:=Vc
  have it:∀j (h1:j<(as.map _).toArray.size) (h2:j<(bs.map Value.ref).toArray.size),SeqAt.EqAt A.in1 s (as.map Value.ref).toArray[j] (bs.map _).toArray[j] (decide (x[j]?=y[j]?)):=by
   intro j h1 h2;rw[List.getElem_toArray,List.getElem_toArray,LC,LC];have G:=Y j as[j] _ (aQ Vb) (aQ Vb);have L:=D j bs[j] _ (aQ Vb) (aQ Vb);have Z:decide (x[j]?=y[j]?)=decide (x[j]=y[j]):=Vc
   rw[Z];exactλB F E' Q' h'=>wpAny_eqBool_tuple (T) (G.any B F) (L.any B F) h'
  have r:=MD ⟨o,e,c,n,d⟩ ⟨o',I,c',n',J⟩ Vb it;have O:((List.range (min (as.map Value.ref).toArray.size (bs.map Value.ref).toArray.size)).all (λj=>decide (x[j]?=y[j]?))&&(as.map Value.ref).toArray.size == (bs.map Value.ref).toArray.size)=decide (x=y):=by
   rw[mV,lQ,rY,beq_iff_eq];constructor
   .rintro⟨h1,h2⟩;refine rK λi=>?_
    by_cases hi:i<x.length
    .simp_all
    .simp_all
   .grind
  rw[O]at r;exact KR C r ww w E Q h
def GS.quiet{A:Ar}{E:Ab}{k:List (Ak)}{Q:Bool->Shared->Prop}(p:GS ww w s.heap k a)(h:Q true s):A9 ww w A (eqIsQuiet 8 (.ref a)) Q E s:=by
 revert p;refine ε3 λo n as=>θ4 λe c d l B=>?_;rw[eqIsQuiet.eq_2];have q:s.TypeIs (.ref a) "tuple" :=⟨o,e,c⟩;refine ab (tW q K8.lookup (ab (oH (b:=true) q Ve (ab (lH e d (ab (Fs _ (λpi b s'=>(∃i,pi=(as.drop i).map Value.ref)/\b=(none,())/\s'=s) _ ?_ ?_ _ _ ⟨⟨0,by rfl⟩,U,U⟩)))))))
 .rintro x pi b s' ⟨⟨i,e1⟩,rfl,rfl⟩
  by_cases r:i<as.length
  .rw[Bd r]at e1;injection e1 with e2 e3;subst e2 e3;exact ab (yr 6 (B i _ _ (aQ r) (aQ Vb)) (aJ ⟨⟨i+1,U⟩,U,U⟩))
  .rw[List.drop_eq_nil_of_le Vb]at e1;cases e1
 .rintro b s' ⟨_,rfl,rfl⟩;exact aJ h
end
def Vo(ww:Aq)(w:Au):HeapKind ww w (List (Ak))where
 is:=GS ww w
 hash:=gZ
 draws:=QD
 room:=λA=>A.units+1<cLine
 inj:=λp q=>p.inj q
 keeps:=λp e B s=>p.keeps e B s
 pyHash:=λr p h=>p.pyHash r h
 eqBool:=λr p q h=>p.eqBool r q h
 quiet:=λp h=>p.quiet h
def Qw(H:Hp)(ks:List (Ak))(a:Aw):Prop:=∃as:List Aw,H a=am (as.map V.ref)/\as.length=ks.length/\∀(j:Nat)(t:Aw)(k:Ak),as[j]?=some t->ks[j]?=some k->kX H k t
theorem yw:∀{as:List Aw} {q:Ag},aH (as.map V.ref) q->q=as.map Value.ref
 |[],_,h=>by cases h;rfl
 |a::r,_,h=>by
  cases h with
  |cons h t=>rw[yw t];congr 1
def IF:KN (List (Ak))where
 knd:=Vo
 CO:=gZ
 at_:=Qw
 hash_eq:=λP w k=>U
 ok:=λP w H h k a ok ⟨as,e,l,b⟩=>by
  obtain⟨_,q,r,o,h1,h2,⟨n,D⟩,_⟩:=(show XJ P w H h a (.tup (as.map V.ref))from ok a _ e);have F:q=as.map Value.ref:=yw r;subst F;exact ι3 o n as ⟨h1,h2,D,l,λj t k h1 h2=>(b j t k h1 h2).is ok⟩
 room:=λP w A C=>by show A.units+1+1<cLine;lia
 iF:=λP w A C=>by show A.units+1<cLine;lia
 keep:=λH H' k a B ⟨as,e,l,b⟩=>⟨as,B _ _ e,l,λj t k h1 h2=>let⟨vs,e2,hv⟩:=b j t k h1 h2;⟨vs,B _ _ e2,hv⟩⟩
def nZ(bs:Am):List (Int×Av):=bs.map λb=>(lD b,.bool true)
def Kq(d:Aw)(bs:Am)(h:Heap):Prop:=(d == sysModules)=false/\∀(P:Aq)(w:Au),h.DictOf (Ys P w) d (nZ bs)
def jG(H:Hp)(d:Aw)(bs:Am):Prop:=(bs=[]/\H d=some (.dK []))\/H d=some (.ext (Kq d bs))
def Rq{a b:Bool}(h:lD a=lD b):a=b:=by
 cases a<;>cases b<;>first|rfl|cases h
def RL(bs:Am)(b:Bool):(valueAt (nZ bs) (lD b)).isSome=decide (b∈bs):=by
 unfold valueAt nZ;rw[Hg,mV,List.find?_isSome,rY];constructor
 .rintro⟨x,h1,h2⟩;obtain⟨c,q,rfl⟩:=bB.mp h1;rw[<-Rq (dB h2)];exact q
 .exact λh=>⟨_,bB.mpr ⟨b,h,U⟩,aZ U⟩
def S9(bs:Am)(b:Bool):stored (nZ bs) (lD b) (.bool true)=nZ (if b∈bs then bs else bs++[b]):=by
 have e:((nZ bs).any λq=>decide (q.1=lD b))=decide (b∈bs):=by
  unfold nZ;rw[List.any_map,mV,lC,rY];exact⟨λ⟨x,h1,h2⟩=>by rw[<-Rq (dB h2)];exact h1,λh=>⟨b,h,aZ U⟩⟩
 unfold stored;rw[e]
 by_cases h:b∈bs
 .rw[aZ h,aK h];unfold nZ;rw[bI];refine fE λx _=>?_;show(if lD x=lD b then _ else _)=_
  split<;>rfl
 .rw[bF h,aG h];unfold nZ;rw[b0];rfl
theorem Td{B:Aq}{r:Au}{d:Aw}{wl:List (Int×Av)}(x:h.DictOf (Ys P w) d wl):h.DictOf (Ys B r) d wl:=by
 revert x;refine ε3 λo es ep=>θ5 λe1 ex e2 k q D=>?_;refine ι3 o es ep ⟨e1,ex,e2,k,?_,D⟩;have go:∀{l:List _} {m:List _},Pairs (Ys P w) l m->Pairs (Ys B r) l m:=by
  intro l m q
  induction q with
  |nil=>exact .nil
  |cons h1 h2 _ C=>exact .cons h1 h2 C
 exact go q
def SH{d:Aw}(x:Kq d m h):XJ P w H h d (.ext (Kq d m)):=by
 refine ω (x.2 P w) (ε3 λo es ep=>θ1 λe _=>?_);refine⟨x,⟨o,e⟩,λh1 h2 y k=>⟨y.1,λP w=>?_⟩⟩;refine ω (y.2 P w) (ε3 λo' r q=>θ1 λC B=>?_);exact ι3 o' r q ⟨k _ C,B⟩
section
variable {X:Cx}{zn:Ac}{σ:St}{H:Hp}{s:As}{d:Aw}{bs:Am}
def jG.dict(n:jG H d bs)(I:aD X zn σ H s):s.heap.DictOf (Ys X.prog X.w) d (nZ bs)/\tI (H d)/\(d == sysModules)=false:=by
 rcases n with⟨rfl,e⟩|e
 .obtain⟨z,D,vs,r,dd⟩:=Iw I.aM e;cases r;revert dd;refine ε3 λo es ep=>θ5 λe1 ex e2 _ B _=>?_;have q:es.toList=[]:=by
   generalize es.toList=l at B;cases B;rfl
  refine⟨ι3 o es ep ⟨e1,ex,e2,λe F=>?_,?_,fL⟩,by rw[e];exact True.intro,D⟩
  .have:=Array.mem_toList_iff.mpr F;rw[q]at this;cases this
  .rw[q];exact .nil
 .obtain⟨⟨C,x⟩,_,_⟩:=(I.aM d _ e);exact⟨x _ _,by rw[e];exact True.intro,C⟩
def Vu:R2:=λx y H Q=>∃(d:Aw)(b:Bool)(bs:Am),x=.bl b/\y=.ref d/\jG H d bs/\Q (.bl (!decide (b∈bs))) H
def Md:R2:=λx y H Q=>∃(d:Aw)(b:Bool)(bs:Am),x=.bl b/\y=.ref d/\jG H d bs/\Q (.bl (decide (b∈bs))) H
def Ls(b:Bool):(Ys P w).is (lD b) (.bool b)=true:=by cases b<;>rfl
def Zcz:bZ X (compareOp .NotIn) Vu:=by
 refine λzn s σ H x y v u Q I r B=>ε3 λd b bs=>θ3 λzq0 zq1 n q=>?_;subst zq0;subst zq1;cases r;cases B;obtain⟨dd,D,C⟩:=n.dict I;refine wpAny_notIn_of (Ls b) C dd.mapOf ?_;rw[RL];exact⟨.bl _,H,I.tok _,U,q⟩
def Zn9:bZ X (compareOp .In) Md:=by
 rintro zn s σ H x y v u Q I r B ⟨d,b,bs,rfl,rfl,n,q⟩;cases r;cases B;obtain⟨dd,D,C⟩:=n.dict I;refine wpAny_in_of (Ls b) C dd.mapOf ?_;rw[RL];exact⟨.bl _,H,I.tok _,U,q⟩
def DY(td ty tv:TE):TS:=λD σ H=>tv σ H λv H1=>td σ H1 λx H2=>ty σ H2 λy q=>∃(d:Aw)(b:Bool)(bs:Am),x=.ref d/\y=.bl b/\v=.bl true/\jG q d bs /\
 ∀H',jG H' d (if b∈bs then bs else bs++[b])->(∀c o,q c=some o->c≠d->H' c=some o)->(∃o,H'=aA q d o)->D.nx σ H'
def TY{i value:Ax}{ty tv:TE}{pos':Pos}(ho:QE X o J)(hi:QE X i ty)(hv:QE X value tv)(hs:swapsWith value (some (.Subscript o i pos')) p.line X.env=pure false):QS X (.Assign [.Subscript o i pos'] value p) (DY J ty tv):=⟨by
 intro zn s σ H D I h;refine L5 (aR (hv.out zn s σ H _ I h) λr s1 ⟨v,H1,G,L,q1⟩=>aR (ho.out zn s1 σ H1 _ G q1) λu s2 ⟨x,H2,O,rx,q2⟩=>aR (hi.out zn s2 σ H2 _ O q2) λiv s3 ⟨y,H3,C,ry,d,b,bs,ex,Ua,T,n,q3⟩=>?_) hs;subst ex Ua T;obtain rfl:u=Value.ref d:=rx;cases ry;cases L;obtain⟨dd,mu,Y⟩:=n.dict C;have hz:(nZ bs).length<=sizeLine:=by
  revert dd;refine ε3 λ_ _ _=>θ5 λ_ _ _ _ _ B=>?_;unfold nZ at B ⊢;rw[bI]at B;have h2:bs.length<=2:=by
   have B:bs.Nodup:=List.Pairwise.of_map _ (λa b h e=>h (by rw[e])) B
   match bs,B with
   |[],_=>exact cM _
   |[_],_=>exact(by decide:1<=2)
   |[_,_],_=>exact aN _
   |a::b::c::r,B=>
    simp at B;obtain⟨⟨h1,h2,_⟩,⟨Z,_⟩,_⟩:=B;cases a<;>cases b<;>cases c<;>simp at h1 h2 Z
  rw[aF];exact cC h2 Va
 refine wpAny_setItem_pairs (Ls b) dd λh' dd' F=>?_;rw[S9]at dd';refine⟨σ,_,z6 C mu F (let⟨q,_,_,hq,_⟩:=dd';⟨q,hq⟩) (SH ⟨Y,λ_ _=>Td dd'⟩),q3 _ (.inr Zb) (λc o e hc=>by rw[Zk hc];exact e) ⟨_,U⟩⟩⟩
end
def MP:R2:=λx y H Q=>∃(Kk:Type)(_:DecidableEq Kk)(kn:KN Kk)(d a:Aw)(k:Kk)(wl:List (Kk×V)),x=.ref a/\y=.ref d/\G3 kn H d wl/\kn.at_ H k a/\Q (.bl (Ym wl k).isSome) H
def Cs(r:X.A.units+2<cLine):bZ X (compareOp .In) MP:=by
 rintro zn s σ H x y v u Q I B C ⟨Kk,_,kn,d,a,k,wl,rfl,rfl,n,D,q⟩;cases B;cases C;refine ω (n.dict I) (ε1 λxs=>θ3 λdd F J G=>?_);refine wpAny_in_heap (kn.room _ _ _ r) (kn.ok _ _ _ _ _ _ I.aM D) G dd ?_;rw[O7 F k];exact⟨.bl _,H,I.tok _,U,q⟩
end L2
namespace Lw
open PySem L2
def top(i:Nat):Ay:=PySem.Challenge.pw_everywidth_k27_whole_all_widths.main.body.getD i (.Pass ⟨0,0,0,0⟩)
abbrev yx:Ay:=top 1
abbrev zH:Ay:=top 2
abbrev Gh:Ay:=top 5
abbrev qZ:Ay:=top 9
abbrev J7:Ay:=top 10
abbrev zI:Ay:=top 11
abbrev GU:Ay:=top 18
abbrev J8:Ay:=top 19
abbrev GV:Ay:=top 20
abbrev J9:Ay:=top 21
abbrev JA:Ay:=top 23
abbrev zJ:Ay:=top 29
abbrev yy:Ay:=top 33
abbrev GW:Ay:=top 35
abbrev WU:Ay:=top 39
abbrev zK:Ay:=top 40
abbrev Ny:Ay:=top 47
abbrev yz:Ay:=top 49
abbrev GX:Ay:=top 51
abbrev x4:Ay:=top 53
abbrev y1:Ay:=top 54
abbrev zL:Ay:=top 56
abbrev G4:Ay:=top 60
abbrev GY:Ay:=top 61
abbrev Gi:Ay:=top 62
abbrev Gj:Ay:=top 63
abbrev zM:Ay:=top 64
abbrev GZ:Ay:=top 66
abbrev Gk:Ay:=top 69
abbrev Xt:Ay:=top 70
abbrev X9:Ay:=top 8
abbrev y3:Ay:=top 22
abbrev wm:Ay:=top 24
abbrev Wj:Ay:=top 30
abbrev zN:Ay:=top 32
abbrev qa:Ay:=top 34
abbrev y4:Ay:=top 50
abbrev zP:Ay:=top 55
abbrev WV:Ay:=top 57
abbrev Gm:Ay:=top 58
abbrev y6:Ay:=top 65
abbrev x5:Ay:=top 67
abbrev WM:Ay:=top 26
abbrev xa:Ay:=top 42
abbrev zQ:Ay:=top 59
abbrev JB:Ay:=top 68
abbrev wo:Ay:=top 31
abbrev XA:Ay:=top 4
abbrev zR:Ay:=top 7
abbrev Yf:Ay:=top 38
abbrev JC:Ay:=top 37
abbrev WW:Ay:=top 46
abbrev Xz:Ay:=top 48
abbrev wq:Ay:=top 44
abbrev y7:Ay:=top 45
abbrev Lz:Ay:=top 71
def Y1:Pos:=⟨30,50,30,102⟩
def Y2:Str:=(("least" : Str) ++ ".<locals>.") ++ "<lambda>"
def Zy:Pos:=⟨157,4,161,77⟩
def Zu:Str:=(("machine_telling" : Str) ++ ".<locals>.") ++ "step_of"
abbrev YV:Ay:=(Xr Yf).getD 3 (.Pass ⟨0,0,0,0⟩)
def Za{p:Aw}{o:HO}(h:H p=none):Z8 H (aA H p o):=λb u e=>by rw[Zk (Zo e h)];exact e
def qb(w:Nat):(0:Int)<2^w:=by
 have h2:(2^w)=((2^w):Int):=by rfl
 have:=Nat.two_pow_pos w;rw[h2];lia
def ua(w:Nat)(r:Int):Ak:=(List.range w).map λi=>r/2^i%2
def ub{u:TS}{b c:A7}{σ:L2.St}(J:A7)(h1:∀N:A7,(∀σ H,J σ H->N σ H)->A {Ua with nx:=N} σ H)(h2:∀σ H,J σ H->u Ua σ H):({nx:=ZR A u Ua,rt:=Z,bk:=b,ct:=c}:Ends).nx σ H:=h1 _ h2
def Zf{Q:A7}(h:Q (c.set i (some v)) H):Js i v c H Q:=h
theorem Z7{p:Aw}{o:HO}(s:Z8 H q)(r:H p=none):Z8 H (aA q p o):=λb u e=>by
 rw[Zk (Zo e r)];exact s b u e
def ZK{ns:Ak}(j:Nat)(q:z=(j:Int))(r:j<ns.length):dA (ns.map V.int) z=ad (ns.getD j 0):=by
 subst q;refine Y7 ?_;rw[bG,bO,aQ r];rfl
def UD{z:Str}{i:Int}(n:Nat)(r:z.cps.toList.length=n)(B:0<=i)(h1:i<(n:Int)):∃c,c∈z.cps.toList/\dA z.cps.toList i=some c:=by
 obtain⟨j,rfl⟩:∃j:Nat,i=j:=⟨i.toNat,Vb⟩;have q:j<z.cps.toList.length:=(by simp_all)
 exact⟨_,dZ q,Y7 (aQ q)⟩
def AD(xs:List g)(lo hi:Option Int):List g:=(xs.drop (HT.iJ xs.length 0 lo)).take (HT.iJ xs.length xs.length hi-HT.iJ xs.length 0 lo)
def YF(f:g->V)(xs:List g)(lo hi:Option Int):pT (xs.map f) lo hi=(AD xs lo hi).map f:=by
 unfold pT AD;rw[aF,nR,oM]
def Xl(xs:List g)(k:Nat):(AD xs none (some (k:Int)))=xs.take k:=by
 unfold AD;rw[HT.i9,HT.mG,DT,Dq,<-List.take_take,dR]
def zS(xs:List g)(k:Nat):(AD xs (some (k:Int)) none)=xs.drop k:=by
 unfold AD;rw[HT.i9,HT.mG,rD Vd]
 by_cases h:k<=xs.length
 .rw[sP h]
 .rw[Nat.min_eq_right Vb,tK,List.drop_eq_nil_of_le Vb]
def fI(g:Int->V):V->V
 |.int x=>g x
 |v=>v
def fY(a:Str):a.length=a.cps.toList.length:=by
 unfold Str.length;rw[lE]
def oX:Str:= "abcdefghijklmnopqrstuvwxyz"
def HZ(c:Nat):Prop:=c∈oX.cps.toList
instance (c:Nat):Decidable (HZ c):=inferInstanceAs (Decidable (c∈_))
def Z6:Ai:=["not","neg","twice","low","and","or","odd","add","sub","pick","same","under","beneath","sign","nought","both","either","so","never","yes"]
def nV(y:Str):Prop:=(1<=y.length/\y.length<=8)/\∀c∈y.cps.toList,HZ c
instance (y:Str):Decidable (nV y):=inferInstanceAs (Decidable (_/\_))
structure BG(y:Str):Prop where
 l:nV y
 k:y∉Z6
def TJ:oX.cps.toList.length=26:=Wm
def VM:oX.length<=sizeLine:=Wm
def Zjp:∀y∈Z6,(1<=y.length/\y.length<=7)/\∀c∈y.cps.toList,HZ c:=Wm
def CT{i:Int}(r:0<=i)(h1:i<26):∃c,HZ c/\dA oX.cps.toList i=some c:=by
 obtain⟨c,q,e⟩:=UD 26 TJ r h1;exact⟨c,q,e⟩
def OZ(c:Nat):(⟨#[c]⟩:Str).length=1:=rfl
theorem ZG(y:Str):∀ys:Ai,bP (.str y) (ys.map V.str)=decide (y∈ys)
 |[]=>rfl
 |z::r=>by
  have e:bP (.str y) ((z::r).map V.str)=((z == y)||bP _ _):=rfl;rw[e,ZG y r]
  by_cases h:z=y
  .grind
  .grind
def JD{c:TT}{σ:L2.St}(r:A7)(μ:L2.St->Hp->Nat)(C:r σ H)
  (hs:∀σ H,r σ H->c σ H λb H1=>if b=true then∃N:A7,(∀q H',N q H'->∃B,B<μ σ H/\B=μ q H'/\r q H')/\A {Ua with nx:=N,ct:=N,bk:=Ua.nx} σ H1 else Ua.nx σ H1):NF c A Ua σ H:=by
 refine⟨λm σ H=>m=μ σ H/\r σ H,⟨_,U,C⟩,?_⟩;rintro m σ H ⟨rfl,p⟩;exact hs σ H p
def Fc:List (Str×Nat):=[("not",1),("neg",1),("twice",1),("low",1),("and",2),("or",2),("odd",2),("add",2),("sub",2),("pick",3)]
def Jp:Ai:=Fc.map (·.1)
def Y4(y:Str):Nat:=((Fc.find? λp=>decide (p.1=y)).map (·.2)).getD 0
def zc:∀y∈Jp,y∈Z6:=Wm
def T1:List (Str×Int):=[("not",1),("neg",1),("twice",1),("low",1),("and",2),("or",2),("odd",2),("add",2),("sub",2),("pick",3)]
def T2:List (Str×Int):=[("same",2),("under",2),("beneath",2),("sign",1),("nought",1)]
def T3:List (Str×Int):=[("both",2),("either",2),("so",2),("never",1),("yes",0)]
def Z2:Ai:=["same","under","beneath","sign","nought","both","either","so","never","yes"]
theorem Oc(l:List (Str×Int))(y:Str):(Ym (bK l) (.inr y)).isSome=decide (y∈l.map (·.1)):=by
 induction l with
 |nil=>rfl
 |cons p r q=>
  by_cases h:p.1=y
  .have e:Ym (bK (p::r)) _=some _:=Yo (p:=((Sum.inr p.1),V.int p.2)) (by rw[h]);rw[e,aZ Vc];rfl
  .have e:Ym (bK (p::r)) _=Ym (bK r) _:=ZZ (λz=>h (Sum.inr.inj z))
   by_cases m:y∈r.map (·.1)
   .grind
   .grind
def G5:List (Str×Int)->aX->Int
 |[],_=>0
 |p::r,k=>if(Sum.inr p.1:aX)=k then p.2 else G5 r k
theorem BF(l:List (Str×Int))(k:aX):(Ym (bK l) k).getD (.int 0)=.int (G5 l k):=by
 induction l with
 |nil=>rfl
 |cons p r q=>
  unfold G5
  by_cases h:(Sum.inr p.1)=k
  .have e:Ym (bK (p::r)) k=some _:=Yo h;rw[e,aK h];rfl
  .have e:Ym (bK (p::r)) k=Ym (bK r) k:=ZZ h;rw[e,q,aG h]
theorem zT{y:Str}(h:y∉l.map (·.1)):G5 l (.inr y)=0:=by
 induction l with
 |nil=>rfl
 |cons p r q=>
  unfold G5;rw[aG (λz=>h Vc),q (λz=>h (b8 _ z))]
def WN(k:aX):Int:=G5 T1 k+G5 T2 k+G5 T3 k
def uc:∀y,y∈Z6↔y∈Jp\/y∈Z2:=λy=>by
 have e:Z6=Jp++Z2:=Wm
 rw[e,cT]
def vo:(∀y∈T1.map (·.1),y∈Z6)/\(∀y∈T2.map (·.1),y∈Z6)/\∀y∈T3.map (·.1),y∈Z6:=Wm
def cG:V->aX
 |.int i=>.inl i
 |.str y=>.inr y
 |_=>.inl 0
def Tb(x:Str)(c:Nat):(!(Builtin.Str.occurrences x ⟨#[c]⟩ 0 x.length 1).isEmpty)=decide (c∈x.cps.toList):=by
 have h:=PyProof.Rows.in_closes (x:=x) (c:=c) U rfl;rw[beq_iff_eq]at h;rw[h]
 by_cases m:c∈x.cps.toList
 .rw[aZ m,aZ ((PyProof.Rows.countIn_signs c _).mpr m)]
 .rw[bF m,bF (λz=>m ((PyProof.Rows.countIn_signs c _).mp z))]
def y8(y q:Str):Prop:=y.cps.toList≠[]/\∀c∈y.cps.toList,c∈q.cps.toList
instance (y sg:Str):Decidable (y8 y sg):=inferInstanceAs (Decidable (_/\_))
def BX(l:Aj)(p:Nat->Bool):(l.map p).all id=decide (∀c∈l,p c=true):=by
 rw[mV,mK,rY];constructor
 .exact λh c q=>h _ (oa q)
 .grind
def zU {y:Str}:y.cps.toList=[]↔y=("" : Str):=by
 constructor
 .intro h;obtain⟨a⟩:=y;have:a=#[]:=by
   grind
  subst this;decide +kernel
 .rintro rfl;decide +kernel
def sQ:V->Bool
 |.str y=>decide (y∉Z6/\nV y)
 |_=>false
def rP:V->Str
 |.str y=>y
 |_=> ""
def x6(w:V):Prop:=(∃y,w=.str y/\y.length<=1000)\/∃z,w=.int z
theorem wt(ys:Ai):(Jo ys).length<=ys.length:=by
 have h:∀(ys S:Ai),(ys.foldl ins S).length<=S.length+ys.length:=by
  intro ys
  induction ys with
  |nil=>intro S;exact aN _
  |cons y r q=>
   intro S;have h1:=q (ins S y);have h2:(ins S y).length<=S.length+1:=by
    unfold ins;split
    .simp_all
    .simp_all
   rw[pU,cQ];lia
 have:=h ys [];rw[nL,tN]at this;exact this
def Zog(q:A8):((q.filter sQ).map rP).map V.str=q.filter sQ:=by
 rw[bI];refine(fE λw hw=>?_).trans (CH _);cases w with
 |str y=>rfl
 |_=>cases(oD.mp hw).2
def YG:∀y∈Z2,y∈Z6:=Wm
def xb(w:V):Nat:=(G5 T1 (cG w)+G5 T2 (cG w)).toNat
def g9(w:V):Nat:=(G5 T3 (cG w)).toNat
def l9(w:V):Am:=List.replicate (xb w) false++List.replicate (g9 w) true
theorem ud(h:∀p∈l,0<=p.2/\p.2<=3)(k:aX):0<=G5 l k/\G5 l k<=3:=by
 induction l with
 |nil=>exact⟨Int.le_refl _,(by decide:(0:Int)<=3)⟩
 |cons p r q=>
  unfold G5;split
  .exact h p bM
  .simp_all
def RE(k:aX):0<=G5 T1 k/\G5 T1 k<=3:=ud Wm k
def N7(k:aX):0<=G5 T2 k/\G5 T2 k<=3:=ud Wm k
def Qe(k:aX):0<=G5 T3 k/\G5 T3 k<=3:=ud Wm k
def aP(w:V):Nat:=(WN (cG w)).toNat
def zV(k:aX):0<=WN k/\WN k<=9:=by
 have h1:=RE k;have h2:=N7 k;have q:=Qe k;unfold WN;lia
def Zjr(w:V):(l9 w).length=aP w:=by
 have h1:=RE (cG w);have h2:=N7 (cG w);have q:=Qe (cG w);unfold l9 aP xb g9 WN;rw[bA,eJ,eJ];grind
def SG(h:i<r.length):(r.drop i).reverse=(r.drop (i+1)).reverse++[r[i]]:=Vd
def Xm(l:A8)(y:V):(l++[y])[(l++[y]).length-1]?=some y:=(by simp_all)
def QX{x:V}(h:r.reverse[i]?=some x):i<r.length/\r[r.length-1-i]?=some x:=Vc
def iV:V->Int
 |.int a=>a
 |_=>0
def bV:V->Bool
 |.bl b=>b
 |_=>false
def DR (y:Str) (a:Int):Int:=if y = "not" then Builtin.bitNot a else if y = "neg" then -a else if y = "twice" then a+a else Builtin.bitAnd a (-a)
def FU (y:Str) (a b:Int):Int:=if y = "and" then Builtin.bitAnd a b else if y = "or" then Builtin.bitOr a b else if y = "odd" then Builtin.bitXor a b else if y = "add" then a+b else a-b
def hJ(ρ:Str->Int):V->List Int->Int
 |.int z,_=>z
 |.str y,[]=>ρ y
 |.str y,[a]=>DR y a
 |.str y,[a,b]=>FU y a b
 |.str _,a::b::c::_=>Builtin.bitOr (Builtin.bitAnd a b) (Builtin.bitAnd (Builtin.bitNot a) c)
 |_,_=>0
def sU(m a:Int):Int:=if a*2>=m then a-m else a
def D5(m:Int)(y:Str)(xs:Ak):Bool:=
 if y = "nought" then decide (xs.getD 0 0=0)else if y = "sign" then decide (sU m (xs.getD 0 0)<0)else if y = "same" then decide (xs.getD 0 0=xs.getD 1 0)
 else if y = "under" then decide (xs.getD 0 0<xs.getD 1 0)else decide (sU m (xs.getD 0 0)<sU m (xs.getD 1 0))
def Hj(y:Str)(bs:Am):Bool:=
 if y = "yes" then true else if y = "never" then !(bs.getD 0 false)else if y = "both" then bs.getD 0 false&&bs.getD 1 false else if y = "either" then bs.getD 0 false||bs.getD 1 false else bs.getD 1 false || !(bs.getD 0 false)
def lO(m:Int)(ρ:Str->Int)(w:V)(xs:A8):V:=
 match w with
 |.str y=>if y∈Z2 then(if 0<xb w then .bl (D5 m y (xs.map iV))else .bl (Hj y (xs.map bV)))else .int (hJ ρ w (xs.map iV)%m)
 |_=>.int (hJ ρ w (xs.map iV)%m)
def qL(m:Int)(ρ:Str->Int)(r:A8)(q:A8):A8:=r.foldr (λw s=>lO m ρ w (s.take (aP w))::s.drop (aP w)) q
def XB(m:Int)(ρ:Str->Int)(w:V)(r q:A8):qL m ρ (w::r) q=lO m ρ w ((qL m ρ r q).take (aP w))::(qL m ρ r q).drop (aP w):=rfl
def Ir:aX->Bool
 |.inr y=>decide (y∈Z2)
 |.inl _=>false
def RH(m n:Nat):(m &&& n)/2=m/2 &&& n/2/\(m &&& n)%2=m%2*(n%2):=by
 refine⟨Nat.and_div_two_pow (n:=1),?_⟩;rw[Nat.and_mod_two_pow (n:=1)];rcases Dn m with e|e<;>rcases Dn n with f|f<;>rw[e,f]<;>rfl
def Fz(m n:Nat):(m ||| n)/2=m/2 ||| n/2/\(m ||| n)%2=m%2+n%2-m%2*(n%2):=by
 refine⟨Nat.or_div_two_pow (n:=1),?_⟩;rw[Nat.or_mod_two_pow (n:=1)];rcases Dn m with e|e<;>rcases Dn n with f|f<;>rw[e,f]<;>rfl
def Ez(m n:Nat):Builtin.bitAnd m n=((m &&& n:Nat):Int):=by
 rfl
def Hv(n:Nat):¬(0:Int)<=-(n:Int)-1:=Vb
def HQ(n:Nat):(Builtin.bitNot (-(n:Int)-1)).toNat=n:=by
 unfold Builtin.bitNot;lia
def Ox(m n:Nat):Builtin.bitAnd m (-(n:Int)-1)=(m:Int)-((m &&& n:Nat):Int):=by
 unfold Builtin.bitAnd;rw[bF (Hv n)];rw[HQ];rfl
def KO(m n:Nat):Builtin.bitAnd (-(m:Int)-1) n=(n:Int)-((n &&& m:Nat):Int):=by
 unfold Builtin.bitAnd;rw[bF (Hv m)];rw[HQ];rfl
def RC(m n:Nat):Builtin.bitAnd (-(m:Int)-1) (-(n:Int)-1)=-((m ||| n:Nat):Int)-1:=by
 unfold Builtin.bitAnd;rw[bF (Hv n),bF (Hv m)];rw[HQ,HQ];rfl
def vp(a:Int):(∃m:Nat,a=m)\/∃m:Nat,a=-(m:Int)-1:=by
 by_cases h:0<=a
 .exact .inl ⟨a.toNat,Vb⟩
 .exact .inr ⟨(-a-1).toNat,Vb⟩
def Dc(a:Int):a%2=0\/a%2=1:=Vb
def E5(m A:Int)(h:A%2=0\/m%2=1):(m-A)/2=m/2-A/2/\(m-A)%2=m%2-A%2:=Vb
def cN(m:Nat):(m:Int)/2=((m/2:Nat):Int)/\(m:Int)%2=((m%2:Nat):Int):=⟨U,U⟩
def pO(x:Int):(-x-1)/2=-(x/2)-1/\(-x-1)%2=1-x%2:=Vb
def QK(m n:Nat):(((m &&& n:Nat):Int))/2=((m/2 &&& n/2:Nat):Int)/\(((m &&& n:Nat):Int))%2=(m:Int)%2*((n:Int)%2):=by
 rw[(cN _).1,(cN _).2,(RH m n).1,(RH m n).2];exact⟨U,U⟩
def tG(m n:Nat):((m:Int)-((m &&& n:Nat):Int))/2=((m/2:Nat):Int)-((m/2 &&& n/2:Nat):Int)/\((m:Int)-((m &&& n:Nat):Int))%2=(m:Int)%2*(1-(n:Int)%2):=by
 have l:=QK m n;have h:((m &&& n):Int)%2=0\/(m:Int)%2=1:=by
  grind
 have z:=E5 _ _ h;rw[z.1,z.2,l.1,l.2];refine⟨U,?_⟩;rcases Dc m with e|e<;>rcases Dc _ with f|f<;>rw[e,f]<;>rfl
def D6(a b:Int):Builtin.bitAnd a b/2=Builtin.bitAnd (a/2) (b/2)/\Builtin.bitAnd a b%2=a%2*(b%2):=by
 rcases vp a with⟨m,rfl⟩|⟨m,rfl⟩<;>rcases vp b with⟨n,rfl⟩|⟨n,rfl⟩
 .exact QK m n
 .rw[(cN m).1,(pO _).1,(pO _).2,(cN n).1,Ox,Ox];exact tG m n
 .rw[(cN n).1,(pO _).1,(pO _).2,(cN m).1,KO,KO,HX];exact tG n m
 .rw[(pO _).1,(pO _).2,(pO _).1,(pO _).2,(cN m).1,(cN n).1,RC,RC,(pO _).1,(pO _).2,(cN _).1,(cN _).2,(Fz m n).1,(Fz m n).2];refine⟨U,?_⟩;rw[(cN m).2,(cN n).2];rcases Dn m with e|e<;>rcases Dn n with f|f<;>rw[e,f]<;>rfl
def y2(a:Int):Builtin.bitNot a/2=Builtin.bitNot (a/2)/\Builtin.bitNot a%2=1-a%2:=by
 unfold Builtin.bitNot;lia
def L3(a b:Int):Builtin.bitOr a b/2=Builtin.bitOr (a/2) (b/2)/\Builtin.bitOr a b%2=1-(1-a%2)*(1-b%2):=by
 unfold Builtin.bitOr;have h:=D6 (Builtin.bitNot a) (Builtin.bitNot b);rw[(y2 a).1,(y2 b).1,(y2 a).2,(y2 b).2]at h;rw[(y2 _).1,(y2 _).2,h.1,h.2];exact⟨U,U⟩
def DG(a b:Int):Builtin.bitXor a b/2=Builtin.bitXor (a/2) (b/2)/\Builtin.bitXor a b%2=(a%2+b%2)%2:=by
 unfold Builtin.bitXor;have h:=D6 a b;have g:=L3 a b;have q:Builtin.bitAnd a b%2=0\/Builtin.bitOr a b%2=1:=by
  rw[h.2,g.2];rcases Dc a with e|e<;>rcases Dc b with f|f<;>rw[e,f]<;>decide
 have z:=E5 _ _ q;rw[z.1,z.2,h.1,h.2,g.1,g.2];refine⟨U,?_⟩;rcases Dc a with e|e<;>rcases Dc b with f|f<;>rw[e,f]<;>rfl
def wu(w:Nat)(n:Int):ua (w+1) n=n%2::ua w (n/2):=by
 unfold ua;rw[List.range_succ_eq_map,fW,bI,pN,mO];congr 1;refine fE λi _=>?_;show n/2^(i+1)%2=n/2/2^i%2;rw[FD,HX,C3 Va]
theorem UI(w:Nat)(n:Int):ua w (n%2^w)=ua w n:=by
 induction w generalizing n with
 |zero=>rfl
 |succ w r=>
  rw[wu,wu,<-r (n/2)];have e1:n%2^(w+1)%2=n%2:=by
   rw[Int.emod_emod_of_dvd];exact⟨2^w,Vc⟩
  have e2:n%2^(w+1)/2=n/2%2^w:=by
   have q:(0:Int)<2^w:=tH Va;have h2:=IB (n/2) (2^w);have C:=lL (n/2) (E3 q);have B:=l7 (n/2) q;have e:n%2^(w+1)=n%2+2*(n/2%2^w):=by
    have:n=n%2+2*(n/2%2^w)+2^(w+1)*(n/2/2^w):=Vc
    conv=>lhs;rw[this]
    rw[M8];refine Hr Vb ?_;lia
   rw[e];lia
  rw[e1,e2]
def gV(w:Nat)(n:Int)(i:Nat)(h:i<w):(ua w n).getD i 0=n/2^i%2:=by
 unfold ua;rw[bO,bG,M0 h];rfl
theorem Ow{j:Nat}(h:i<=j):(2:Int)^i<=2^j:=by
 obtain⟨d,rfl⟩:∃d,j=i+d:=⟨j-i,(by simp_all)⟩;clear h
 induction d with
 |zero=>exact Int.le_refl _
 |succ d q=>
  lia
def bt(x:Int)(k:Nat):Int:=x/2^k%2
def YB(x:Int)(k:Nat):bt x (k+1)=bt (x/2) k:=by
 unfold bt;rw[FD,HX,C3 Va]
def YI(x:Int)(k:Nat):bt x k=0\/bt x k=1:=by
 unfold bt;lia
theorem WX(k:Nat):∀a b:Int,bt (Builtin.bitAnd a b) k=bt a k*bt b k:=by
 induction k with
 |zero=>
  intro a b;unfold bt;rw[pN,mO,mO,mO,(D6 a b).2]
 |succ k q=>
  intro a b;rw[YB,YB,YB,(D6 a b).1,q]
theorem jH(k:Nat):∀a b:Int,bt (Builtin.bitOr a b) k=1-(1-bt a k)*(1-bt b k):=by
 induction k with
 |zero=>
  intro a b;unfold bt;rw[pN,mO,mO,mO,(L3 a b).2]
 |succ k q=>
  intro a b;rw[YB,YB,YB,(L3 a b).1,q]
theorem zW(k:Nat):∀a b:Int,bt (Builtin.bitXor a b) k=(bt a k+bt b k)%2:=by
 induction k with
 |zero=>
  intro a b;unfold bt;rw[pN,mO,mO,mO,(DG a b).2]
 |succ k q=>
  intro a b;rw[YB,YB,YB,(DG a b).1,q]
theorem qc(k:Nat):∀a:Int,bt (Builtin.bitNot a) k=1-bt a k:=by
 induction k with
 |zero=>
  intro a;unfold bt;rw[pN,mO,mO,(y2 a).2]
 |succ k q=>
  intro a;rw[YB,YB,(y2 a).1,q]
def xc(k:Nat):bt 0 k=0:=by
 unfold bt;rw[Int.zero_ediv];rfl
theorem QY(k:Nat):bt (-1) k=1:=by
 induction k with
 |zero=>rfl
 |succ k q=>rw[YB];exact q
def x8(x:Int)(w k:Nat)(h:k<w):bt (x%2^w) k=bt x k:=by
 have h1:=gV w (x%2^w) k h;rw[UI w x,gV w x k h]at h1;exact h1.symm
def lo(x:Int)(k:Nat):Int:=x%2^k
def jI(x:Int)(k:Nat):0<=lo x k/\lo x k<2^k:=⟨lL _ (E3 (tH Va)),l7 _ (tH Va)⟩
def zX(x:Int)(k:Nat):lo x (k+1)=lo x k+2^k*bt x k:=by
 unfold lo bt;have q:(0:Int)<2^k:=tH Va;have e1:=IB x (2^k);have B:=lL x (E3 q);have b1:=l7 x q;have e3:x=(x%2^k+2^k*(x/2^k%2))+2^(k+1)*(x/2^k/2):=by
  grind
 conv=>lhs;rw[e3]
 rw[M8];have r:x/2^k%2=0\/x/2^k%2=1:=Vb
 refine Hr ?_ ?_
 .rcases r with h|h<;>rw[h]<;>lia
 .grind
def LJ(x:Int)(k:Nat):x=lo x k+2^k*(x/2^k):=(IB x _).symm
def BL{x y:Int}{k:Nat}{c:Int}(q:c=0\/c=1)(e:lo z k+2^k*c=lo x k+lo y k)(r:z=x+y):bt z k=(bt x k+bt y k+c)%2:=by
 have e1:=LJ x k;have e2:=LJ y k;have e3:=LJ z k;have h:2^k*(z/2^k)=2^k*(x/2^k+y/2^k+c):=Vc
 unfold bt;rw[Int.eq_of_mul_eq_mul_left (E3 (tH Va)) h];lia
def lT(x y:Int)(k:Nat):Int:=(lo x k+lo y k)/2^k
def Lh(x y:Int)(k:Nat):lo (x+y) k+2^k*lT x y k=lo x k+lo y k:=by
 have e:lo (x+y) k=(lo x k+lo y k)%2^k:=by
  unfold lo;rw[<-Int.emod_add_emod,<-Mu]
 rw[e];exact IB _ _
def LB(x y:Int)(k:Nat):lT x y k=0\/lT x y k=1:=by
 have q:(0:Int)<2^k:=tH Va;have a:=jI x k;have b:=jI y k;have B:0<=lT x y k:=Int.ediv_nonneg Vb (D9 q);have r:lT x y k<2:=Int.ediv_lt_of_lt_mul q Vb;lia
def Pp(x y:Int)(k:Nat):bt (x+y) k=(bt x k+bt y k+lT x y k)%2:=BL (LB x y k) (Lh x y k) U
def Ph(x y:Int):lT x y 0=0:=by
 unfold lT lo;rw[pN,Ie,Ie];rfl
def Qy(x y:Int)(k:Nat):lT x y (k+1)=(bt x k+bt y k+lT x y k)/2:=by
 have q:(0:Int)<2^k:=tH Va;have e1:=zX x k;have e2:=zX y k;have e3:=Lh x y k;have b:=jI (x+y) k;have e:lo x (k+1)+lo y (k+1)=lo (x+y) k+2^k*(bt x k+bt y k+lT x y k):=by
  lia
 unfold lT;rw[e,FD,<-C3 (D9 q),KA _ _ (E3 q),Et b.1 b.2,IQ];rfl
def iG(x y:Int)(k:Nat):Int:=if lo x k<lo y k then 1 else 0
def Ik(x y:Int)(k:Nat):iG x y k=lT (x-y) y k:=by
 have e:=Lh (x-y) y k;have b:=jI (x-y) k;unfold iG;rcases LB _ y k with h|h<;>rw[h]at e ⊢
 .rw[aG Vb]
 .rw[aK Vb]
def wx(x y:Int)(k:Nat):iG x y k=0\/iG x y k=1:=by
 unfold iG;split
 .exact .inr U
 .exact .inl U
def ME(x y:Int)(k:Nat):bt (x-y) k=(bt x k+bt y k+iG x y k)%2:=by
 have h:=Pp (x-y) y k;rw[Int.sub_add_cancel,<-Ik]at h;have a:=YI (x-y) k;rw[h];lia
def Ol(x y:Int):iG x y 0=0:=by
 rw[Ik,Ph]
def PN(x y:Int)(k:Nat):iG x y (k+1)=1-(1-(1-bt x k)*bt y k)*(1-iG x y k*(1-(bt x k+bt y k)%2)):=by
 rw[Ik,Qy,<-Ik,ME];rcases YI x k with a|a<;>rcases YI y k with b|b<;>rcases wx x y k with c|c<;>rw[a,b,c]<;>rfl
def l6(x:Int)(k:Nat):Int:=iG 0 x k
def Mz(x:Int)(k:Nat):l6 x k=0\/l6 x k=1:=wx 0 x k
def Zjt(x:Int):l6 x 0=0:=Ol 0 x
def R3(x:Int)(k:Nat):l6 x (k+1)=1-(1-bt x k)*(1-l6 x k):=by
 unfold l6;rw[PN,xc];rcases YI x k with a|a<;>rcases wx 0 x k with c|c<;>rw[a,c]<;>rfl
def N8(x:Int)(k:Nat):bt (-x) k=(bt x k+l6 x k)%2:=by
 have h:=ME 0 x k;rw[Int.zero_sub,xc,IQ]at h;exact h
def BI(x:Int)(k:Nat):bt (Builtin.bitAnd x (-x)) k=bt x k*(1-l6 x k):=by
 rw[WX,N8];rcases YI x k with a|a<;>rcases Mz x k with c|c<;>rw[a,c]<;>rfl
def tw(x:Int):Nat->Int
 |0=>0
 |k+1=>bt x k
theorem EY(x:Int):∀k,tw x k=0\/tw x k=1
 |0=>.inl U
 |k+1=>YI x k
theorem V4(x:Int):∀k,bt (x+x) k=tw x k
 |0=>by
  unfold bt;rw[pN,mO];show(x+x)%2=0;lia
 |k+1=>by
  rw[YB,show(x+x)/2=x by lia];rfl
def Ri(y:Str)(is:Ak)(k:Nat):Int:=
 if y = "twice" then tw (is.getD 0 0) k else if y = "neg" \/ y = "low" then l6 (is.getD 0 0) k else if y = "add" then lT (is.getD 0 0) (is.getD 1 0) k else iG (is.getD 0 0) (is.getD 1 0) k
def zY:Ai:=["neg","twice","low","add","sub"]
def Fu(y:Str)(bs:Ak):Int:=
 if y = "not" then 1-bs.getD 0 0 else if y = "and" then bs.getD 0 0*bs.getD 1 0 else if y = "or" then 1-(1-bs.getD 0 0)*(1-bs.getD 1 0)else if y = "odd" then(bs.getD 0 0+bs.getD 1 0)%2
 else 1-(1-bs.getD 0 0*bs.getD 1 0)*(1-(1-bs.getD 0 0)*bs.getD 2 0)
def EG(y:Str)(bs:Ak)(h:Int):Int:=
 if y = "twice" then h else if y = "neg" then(bs.getD 0 0+h)%2 else if y = "low" then bs.getD 0 0*(1-h)else(bs.getD 0 0+bs.getD 1 0+h)%2
def JE(is:Ak)(k i:Nat):(is.map λx=>bt x k).getD i 0=bt (is.getD i 0) k:=by
 rw[bO,bO,bG];cases is[i]? with
 |none=>exact(xc k).symm
 |some x=>rfl
def y9:∀y∈Jp,y∉zY->(y = "not" /\ Y4 y=1)\/(y = "and" /\ Y4 y=2)\/(y = "or" /\ Y4 y=2)\/(y = "odd" /\ Y4 y=2)\/(y = "pick" /\ Y4 y=3):=Wm
def BD(ρ:Str->Int){y:Str}(r:y∈zY){is:Ak}(q:is.length=Y4 y)(k:Nat):EG y (is.map λx=>bt x k) (Ri y is k)=bt (hJ ρ (.str y) is) k:=by
 unfold zY at r;simp at r;rcases r with rfl|rfl|rfl|rfl|rfl
 .match is,q with
  |[a],_=>exact(N8 a k).symm
 .match is,q with
  |[a],_=>exact(V4 a k).symm
 .match is,q with
  |[a],_=>exact(BI a k).symm
 .match is,q with
  |[a,b],_=>exact(Pp a b k).symm
 .match is,q with
  |[a,b],_=>exact(ME a b k).symm
def SR(ρ:Str->Int){y:Str}(r:y∈Jp)(B:y∉zY){is:Ak}(q:is.length=Y4 y)(k:Nat):Fu y (is.map λx=>bt x k)=bt (hJ ρ (.str y) is) k:=by
 rcases y9 y r B with⟨rfl,e⟩|⟨rfl,e⟩|⟨rfl,e⟩|⟨rfl,e⟩|⟨rfl,e⟩<;>skip
 .match is,q with
  |[a],_=>exact(qc k a).symm
 .match is,q with
  |[a,b],_=>exact(WX k a b).symm
 .match is,q with
  |[a,b],_=>exact(jH k a b).symm
 .match is,q with
  |[a,b],_=>exact(zW k a b).symm
 .match is,q with
  |[a,b,c],_=>
   show 1-(1-bt a k*bt b k)*(1-(1-bt a k)*bt c k)=bt (Builtin.bitOr _ _) k;rw[jH,WX,WX,qc]
def mQ:A8->Nat
 |[]=>0
 |w::r=>mQ r-aP w+1
def JF:A8->Prop
 |[]=>True
 |w::r=>aP w<=mQ r/\JF r
def wy(ys:Ai)(B:Nat)(w:V):Prop:=(∃y,w=.str y/\y∈Jp/\y∉ys/\aP w=Y4 y)\/(∃y,w=.str y/\y∈ys/\y∉zY/\aP w=0)\/∃z:Int,w=.int z/\0<=z/\z<2^B/\aP w=0
def PJ(r:0<=z)(h:z<2^i)(q:i<=k):bt z k=0:=by
 have B:=Ow q;unfold bt;rw[Et r Vb];rfl
def Fn(a b h:Int):Int:=Builtin.bitOr (Builtin.bitAnd (Builtin.bitNot a) b) (Builtin.bitAnd h (Builtin.bitNot (Builtin.bitXor a b)))
def allR:Ai:=["neg","twice","low","add","sub","same","under","beneath","nought"]
def Dr:Ai:=["add","sub","same","under","beneath"]
def iY(y:Str)(is:Ak)(h:Int):Int:=
 if y = "twice" then is.getD 0 0 else if y = "neg" \/ y = "low" \/ y = "nought" then Builtin.bitOr (is.getD 0 0) h else if y = "same" then Builtin.bitOr (Builtin.bitXor (is.getD 0 0) (is.getD 1 0)) h
 else if y = "add" then Builtin.bitOr (Builtin.bitAnd (is.getD 0 0) (is.getD 1 0)) (Builtin.bitAnd h (Builtin.bitOr (is.getD 0 0) (is.getD 1 0)))else Fn (is.getD 0 0) (is.getD 1 0) h
def CS(y:Str)(is:Ak)(h n:Int):Int:=
 if y = "add" \/ y = "sub" then Builtin.bitXor (Builtin.bitXor (is.getD 0 0) (is.getD 1 0)) h else if y = "neg" then Builtin.bitXor (is.getD 0 0) h else if y = "twice" then h else if y = "low" then Builtin.bitAnd (is.getD 0 0) (Builtin.bitNot h)
 else if y = "same" \/ y = "nought" then Builtin.bitNot n else if y = "under" then n else Fn (is.getD 1 0) (is.getD 0 0) h
def Be(y:Str)(is:Ak):Int:=
 if y = "yes" then -1 else if y = "sign" then is.getD 0 0 else if y = "not" \/ y = "never" then Builtin.bitNot (is.getD 0 0)else if y = "and" \/ y = "both" then Builtin.bitAnd (is.getD 0 0) (is.getD 1 0)else if y = "or" \/ y = "either" then Builtin.bitOr (is.getD 0 0) (is.getD 1 0)
 else if y = "odd" then Builtin.bitXor (is.getD 0 0) (is.getD 1 0)else if y = "so" then Builtin.bitOr (Builtin.bitNot (is.getD 0 0)) (is.getD 1 0)else Builtin.bitOr (Builtin.bitAnd (is.getD 0 0) (is.getD 1 0)) (Builtin.bitAnd (Builtin.bitNot (is.getD 0 0)) (is.getD 2 0))
def DE (y:Str):Nat:=if y = "yes" then 0 else if y = "sign" \/ y = "not" \/ y = "never" then 1 else if y = "pick" then 3 else 2
def N5:∀y∈allR,¬y = "twice" ->¬(y = "neg" \/ y = "low" \/ y = "nought")->y∈Dr:=Wm
def DK:Ai:=["not","and","or","odd","pick","both","either","so","never","yes","sign"]
def Th:∀y∈DK,¬y = "yes" ->¬y = "sign" ->¬(y = "not" \/ y = "never")->¬(y = "and" \/ y = "both")->¬(y = "or" \/ y = "either")->¬y = "odd" ->¬y = "so" ->3<=DE y:=Wm
def zZ{m:Nat}{is:Ak}(h:is.length=m)(h2:n<=m):n<=is.length:=Vc
def and_zero(x:Int):Builtin.bitAnd x 0=0:=by
 rcases vp x with⟨m,rfl⟩|⟨m,rfl⟩
 .rw[show 0=((0:Nat):Int)from U,Ez,Nat.and_zero]
 .rw[show 0=((0:Nat):Int)from U,KO,Nat.zero_and];rfl
def mP(x:Int):Builtin.bitAnd x 1=x%2:=by
 obtain⟨h1,h2⟩:=D6 x 1;rw[show(1:Int)/2=0 from U,and_zero]at h1;lia
def XT(ys:Ai)(sw:Str->Int)(pl:Nat)(kp:Ak):A8->List Int×Ak
 |[]=>([],[])
 |w::r=>
  let p:=XT ys sw pl kp r
  match w with
  |.str y=>
   if y∈allR then(CS y (p.1.take (aP w)) (-(kp.getD p.2.length 0)) (iY y (p.1.take (aP w)) (-(kp.getD p.2.length 0)))::p.1.drop (aP w),p.2++[iY y (p.1.take (aP w)) (-(kp.getD p.2.length 0))])
   else if y∈ys then(sw y::p.1.drop (aP w),p.2)
   else(Be y (p.1.take (aP w))::p.1.drop (aP w),p.2)
  |.int z=>(-(bt z pl)::p.1.drop (aP w),p.2)
  |_=>p
def Ec(wl:A0)(ys:Ai)(sw:Str->Int):Prop:=(∀y∈ys,Ym wl (.inr y)=ad (sw y))/\∀y,y∉ys->Ym wl (.inr y)=none
def vq(ys:Ai)(w:V):Prop:=(∃y,w=.str y/\y∈allR/\y∉ys/\1<=aP w/\(y∈Dr->2<=aP w))\/(∃y,w=.str y/\y∈DK/\y∉allR/\y∉ys/\aP w=DE y)\/(∃y,w=.str y/\y∈ys/\y∉allR/\aP w=0)\/∃z:Int,w=.int z/\0<=z/\aP w=0
theorem vt:∀q:A8,(∀w∈q,vq ys w)->(XT ys sw pl kp q).1.length=mQ q
 |[],_=>rfl
 |w::r,hw=>by
  have C:=vt (sw:=sw) (pl:=pl) (kp:=kp) r λw h=>hw w (b8 _ h);have go:∀x,(x::(XT ys sw pl kp r).1.drop (aP w)).length=mQ r-aP w+1:=λx=>Vc
  rcases hw w bM with⟨y,rfl,h1,_⟩|⟨y,rfl,h1,h2,B,_⟩|⟨y,rfl,h1,h2,_⟩|⟨z,rfl,_⟩
  .show(if y∈allR then _ else _:Ak×Ak).1.length=_;rw[aK h1];exact go _
  .show(if y∈allR then _ else if y∈ys then _ else _:Ak×Ak).1.length=_;rw[aG h2,aG B];exact go _
  .show(if y∈allR then _ else if y∈ys then _ else _:Ak×Ak).1.length=_;rw[aG h2,aK h1];exact go _
  .exact go _
def wz(ys:Ai)(sw:Str->Int)(pl:Nat)(kp:Ak)(w:V)(r:A8):(XT ys sw pl kp r).2.length<=(XT ys sw pl kp (w::r)).2.length:=by
 cases w with
 |str y=>
  show _<=(if y∈allR then _ else if y∈ys then _ else _:Ak×Ak).2.length;split
  .simp_all
  .split<;>exact aN _
 |_=>exact aN _
theorem wB(ys:Ai)(sw:Str->Int)(pl:Nat)(kp:Ak):∀(q:A8)(j:Nat),(XT ys sw pl kp (q.drop j)).2.length<=(XT ys sw pl kp q).2.length
 |[],j=>Vd
 |w::r,0=>aN _
 |w::r,j+1=>cC (wB ys sw pl kp r j) (wz ys sw pl kp w r)
theorem ja:∀(q:A8)(j:Nat),JF q->JF (q.drop j)
 |[],j,_=>Vc
 |w::r,0,h=>h
 |w::r,j+1,h=>ja r j h.2
theorem ue:∀q:A8,mQ q<=q.length
 |[]=>aN _
 |w::r=>by
  have:=ue r;show mQ r-aP w+1<=r.length+1;lia
def uf(z:Int)(ys:Ai):bP (.int z) (ys.map V.str)=false:=by
 cases q:bP _ _ with
 |false=>rfl
 |true=>
  obtain⟨x,r,e⟩:=lC.mp q;obtain⟨y,_,rfl⟩:=bB.mp r;cases e
theorem Pr(ys:Ai)(sw:Str->Int)(pl:Nat)(kp:Ak):∀q:A8,(XT ys sw pl kp q).2.length<=q.length
 |[]=>aN _
 |w::r=>by
  have B:=Pr ys sw pl kp r;cases w with
  |str y=>
   show(if y∈allR then _ else if y∈ys then _ else _:Ak×Ak).2.length<=r.length+1;split
   .simp_all
   .split<;>exact Nat.le_succ_of_le B
  |_=>exact Nat.le_succ_of_le B
def ug{x:Int}(h:x=0\/x=1)(l:Nat):bt (-x) l=x:=by
 rcases h with rfl|rfl
 .exact xc l
 .exact QY l
def O3:∀y∈Jp,(y∈allR↔y∈zY):=Wm
def oA(q:Ak):Int:=q.foldl (λa b=>a*2+b) 0
def Q2(q:Ak)(b:Int):oA (q++[b])=oA q*2+b:=by
 unfold oA;rw[r9];rfl
def Zjw{b:Int}(h:B[i]?=some b):oA (B.take (i+1))=oA (B.take i)*2+b:=by
 rw[Kv,h];exact Q2 _ b
def sm(b:Nat->Int):Nat->Int
 |0=>0
 |n+1=>sm b n+b n*2^n
theorem OG{b c:Nat->Int}:∀{n:Nat},(∀i,i<n->b i=c i)->sm b n=sm c n
 |0,_=>rfl
 |n+1,h=>by
  show sm b n+b n*2^n=sm c n+c n*2^n;rw[OG λi hi=>h i (pJ hi),h n (pE n)]
theorem vv{b:Nat->Int}(q:∀i,b i=0\/b i=1):∀n,0<=sm b n/\sm b n<2^n
 |0=>⟨Int.le_refl _,(show 0<2^0 by decide)⟩
 |n+1=>by
  have r:=vv q n;have e:sm b (n+1)=sm b n+b n*2^n:=rfl;rw[e];rcases q n with z|z<;>rw[z]<;>constructor<;>omega
theorem LP{b:Nat->Int}(q:∀i,b i=0\/b i=1)(p:Nat):∀n,p<n->sm b n/2^p%2=b p
 |0,h=>absurd h (AL _)
 |n+1,h=>by
  have e:sm b (n+1)=sm b n+b n*2^n:=rfl;have D:=qb p;rw[e]
  by_cases r:p<n
  .obtain⟨k,rfl⟩:∃k,n=p+(k+1):=⟨n-p-1,Vc⟩;have e2:b (p+(k+1))*2^(p+(k+1))=2^p*(2^k*b (p+(k+1))*2):=Vc
   rw[e2,KA _ _ Vb];have C:=LP q p _ r;simp_all
  .have e3:p=n:=Vb
   subst e3;obtain⟨B,h1⟩:=vv q p;rw[HX,KA _ _ Vb,Et B h1];rcases q p with z|z<;>rw[z]<;>rfl
def Vs{ys:Ai}{x:V}(h:(ys.map V.str)[i]?=some x):∃y:Str,x=V.str y/\ys[i]?=some y:=Vc
abbrev Jq(l:Nat):V:=.int l
def yA(q:Bool)(v:V):Prop:=(q=true/\∃x,v=.bl x)\/(q=false/\∃x,v=.int x)
def G6(H:Hp)(p:Aw)(q:Az):Prop:=∃as:A8,H p=am as/\as.length=q.length/\∀(i:Nat)(r:A8),q[i]?=some r->∃a,as[i]?=some (V.ref a)/\H a=am r
def G6.same{p:Aw}{q:Az}(R:G6 H p q)(e:Z8 H H'):G6 H' p q:=by
 obtain⟨as,h1,h2,C⟩:=R;refine⟨as,e _ _ h1,h2,λi r hi=>?_⟩;obtain⟨a,B,D⟩:=C i r hi;exact⟨a,B,e _ _ D⟩
def jc(r:Aj):A8:=r.map Jq
structure M4(H:Hp)(m:Aw)(nm:Ai)(b:Nat)(nx:Ad)(ot:Az):Prop where
 ex:∃pn ps po,H m=am [.ref pn,.int b,.ref ps,.ref po]/\H pn=am (nm.map V.str)/\G6 H ps (nx.map jc)/\G6 H po ot
structure Wf(nm:Ai)(b:Nat)(nx:Ad)(ot:Az)(tr:Bool):Prop where
 n3:nm.length<=3
 b:b<nx.length
 le:nx.length<=1000000
 ol:ot.length=nx.length
 nr:∀r∈nx,r.length=2^nm.length
 nl:∀r∈nx,∀s∈r,s<nx.length
 or:∀r∈ot,r.length=2^nm.length
 ok:∀r∈ot,∀v∈r,yA tr v
 bit:∀r∈ot,∀v∈r,vB v=some 0\/vB v=some 1
def Ds{A B:Hp->Prop}(h:A H):AG c H λb H2=>if b=true then A H2 else B H2:=by
 show if true=true then A H else B H;exact Yl h
def p8(h:n<=3):2^n<=8:=tD Va h
def Qk{q:List (List g)}(h:i<q.length):q[i]?=some (q.getD i []):=Vc
def vw{p:Aw}{q:Az}(R:G6 H p q)(h:i<q.length):∃as a,H p=some (HO.tup as)/\dA as (i:Int)=some (V.ref a)/\H a=am (q.getD i []):=by
 revert R;refine ε1 λas=>θ2 λh1 h2 B=>?_;obtain⟨a,r,C⟩:=B i _ (Qk h);exact⟨as,a,h1,Y7 r,C⟩
def wC(nx:Ad)(i:Nat):(nx.map jc).getD i []=jc (nx.getD i []):=by
 rw[bO,bO,bG];cases nx[i]?<;>rfl
def aO{q:List (List g)}(h:i<q.length):q.getD i []∈q:=Vc
def qd{f:Nat->g}(h:i<n):((List.range n).map f)[i]?=some (f i):=(by simp_all)
def X0(H:Hp)(zs:A8)(q:Az):Prop:=zs.length=q.length/\∀(i:Nat)(r:A8),q[i]?=some r->∃a,zs[i]?=some (V.ref a)/\H a=am r
def X0.same{zs:A8}{q:Az}(z:X0 H zs q)(e:Z8 H H'):X0 H' zs q:=by
 refine⟨z.1,λi r B=>?_⟩;obtain⟨a,C,D⟩:=z.2 i r B;exact⟨a,C,e _ _ D⟩
def X0.snoc{C:Az}(z:X0 H Y C)(h:H a=am r):X0 H (Y++[.ref a]) (C++[r]):=by
 refine⟨by rw[bA,bA,z.1];rfl,λi q B=>?_⟩
 by_cases e:i<C.length
 .rw[iX e]at B;rw[iX (by rw[z.1];exact e)];exact z.2 i q B
 .rw[dU Vb]at B;have D:i-C.length=0:=by
   grind
  rw[D]at B;cases B;refine⟨a,?_,h⟩;rw[dU (by rw[z.1];lia),z.1,D];rfl
def X0.nil:X0 H [] []:=⟨U,λi r q=>by cases q⟩
def nk(l:Ak):A0:=XN (l.map (Sum.inl:Int->aX))
def uh{l:Ak}{s:Int}:(Sum.inl s:aX)∈l.map Sum.inl↔s∈l:=(by simp_all)
def MQ{s:Int}(h:s∈l)(q:l.Nodup):Ym (nk l) (.inl s)=ad (l.idxOf s:Int):=by
 have:=J6 _ _ (uh.mpr h) Vc;rw[mH Sum.inl (λ_ _=>Sum.inl.inj) s l]at this;exact this
def UM{s:Int}(h:s∉l):Ym (nk l) (.inl s)=none:=qX _ _ λz=>h (uh.mp z)
def Cj(l:Ak):(nk l).length=l.length:=by
 unfold nk;rw[J5,aF]
def B6{s:Int}(h:s∉l):bD (nk l) (.inl s) (.int (l.length:Int))=nk (l++[s]):=by
 unfold nk;rw[b0];show _=XN (l.map Sum.inl++[Sum.inl s]);rw[qW,aF];unfold bD;rw[aG λz=>?_];rw[lC]at z;obtain⟨p,q,e⟩:=z;have:p.1∈(XN _).map _:=oa q;rw[qV,dB e]at this;exact h (uh.mp this)
def jd(nx:Ad)(cs:Aj):List (Int×Ak):=List.zipWith (λ(c:Nat) (row:Aj)=>((c:Int),row.map λs=>(cs.getD s 0:Int))) cs nx
def vx(h:S.length=nx.length):(jd nx S).length=S.length:=by
 unfold jd;rw[List.length_zipWith,h,Dx]
theorem NU(h:S.length=nx.length):(jd nx S).map (·.1)=S.map λc:Nat=>(c:Int):=by
 unfold jd;rw[List.map_zipWith];have:∀(S:Aj)(nx:Ad),S.length=nx.length->List.zipWith (λ(c:Nat) _=>(c:Int)) S nx=S.map λc:Nat=>(c:Int):=by
  intro S
  induction S with
  |nil=>intro nx _;rfl
  |cons c r q=>
   intro nx h;cases nx with
   |nil=>cases h
   |cons x y=>rw[List.zipWith_cons_cons,fW,q y Vc]
 exact this S nx h
def UX(h:S.length=nx.length)(q:WD S=S)(r:(Z9 (jd nx S)).length<=(Z9 S).length):WD (jd nx S)=S:=by
 have e1:Z9 ((jd nx S).map (·.1))=(Z9 S).map λc:Nat=>(c:Int):=by
  rw[NU h];exact vh _ _ λa _ b _ e=>Int.ofNat.inj e
 have hi:=kZ (·.1) (jd nx S) (by simp_all);rw[<-vi _ _ hi,NU h,vi (λc:Nat=>(c:Int)) S λa _ b _ e=>Int.ofNat.inj e,q]
theorem wD{p:Aw}{q:Az}(R:G6 H p q):∃bs:List Aw,H p=am (bs.map V.ref)/\bs.length=q.length/\∀(i:Nat)(r:A8)(b:Aw),q[i]?=some r->bs[i]?=some b->H b=am r:=by
 revert R;refine ε1 λas=>θ2 λh1 h2 D=>?_;have go:∀(as:A8)(q:List _),as.length=q.length->(∀(i:Nat)(r:A8),q[i]?=some r->∃a,as[i]?=some (V.ref a)/\H a=am r)->∃bs:List Aw,as=bs.map V.ref/\∀(i:Nat)(r:A8)(b:Aw),q[i]?=some r->bs[i]?=some b->H b=am r:=by
  intro as
  induction as with
  |nil=>
   exactλq C _=>⟨[],U,λi r b _ B=>by cases B⟩
  |cons v r F=>
   intro q C hh;cases q with
   |nil=>cases C
   |cons x y=>
    obtain⟨a,O,L⟩:=hh 0 x rfl;obtain⟨bs,e,B⟩:=F y (by simp_all) λi r hi=>by
     obtain⟨a,J,I⟩:=hh (i+1) r (by simp_all);exact⟨a,Vc,I⟩
    refine⟨a::bs,?_,λi r b T G=>?_⟩
    .grind
    .grind(gen:=1)
 obtain⟨bs,e,B⟩:=go as q h2 D;subst e;exact⟨bs,h1,Vc,B⟩
def wF[DecidableEq g](ks:List g):(ks.map λk=>((Z9 ks).idxOf k:Int)).map V.int=(WD ks).map Jq:=by
 unfold WD;rw[bI,bI];rfl
def qe{nx:Ad}{c:Nat}{row:Aj}(r:S[i]?=some c)(q:nx[i]?=some row):(jd nx S)[i]?=some ((c:Int),row.map λs=>(S.getD s 0:Int)):=by
 unfold jd;rw[List.getElem?_zipWith,r,q]
def Tr{q:List (Ak)}{nx:Ad}(I:S.length=nx.length)(G:q.length=nx.length)(h:∀(i j:Nat)(a b:Ak),q[i]?=some a->q[j]?=some b->S[i]?=S[j]?->a=b):∀(i j:Nat)(a b:Ak),q[i]?=some a->q[j]?=some b->(WD (jd nx S))[i]?=(WD (jd nx S))[j]?->a=b:=λi j a b F D e=>by
 have hi:i<nx.length:=Vc
 have C:j<nx.length:=Vc
 have B:=aQ (l:=S) (i:=i) (by simp_all);have r:=aQ (l:=S) (i:=j) Vb;have:=(vg (qe B (aQ hi)) (qe r (aQ C))).mp e;refine h i j a b F D ?_;rw[B,r];exact congrArg some (Int.ofNat.inj (congrArg Prod.fst this))
def sO(nx:Ad)(l:Aj)(i:Nat):Aj:=(nx.getD (l.getD i 0) []).foldl YK l
def jJ(nx:Ad)(b:Nat):Nat->List Nat
 |0=>[b]
 |i+1=>sO nx (jJ nx b i) i
structure yB(nx:Ad)(b:Nat)(l:Aj):Prop where
 e:l=jJ nx b l.length
 go:∀i,i<l.length->i<(jJ nx b i).length
theorem Vh(r:Aj):∀l:Aj,l.Nodup->(r.foldl YK l).Nodup:=by
 induction r with
 |nil=>exactλl h=>h
 |cons k r q=>exactλl h=>q _ (Wv h k)
theorem vy(r:Aj){x:Nat}:∀l:Aj,x∈r.foldl YK l↔x∈l\/x∈r:=by
 induction r with
 |nil=>intro l;simp
 |cons k r q=>
  intro l;rw[pU,q,XS,bJ,or_assoc]
theorem je(nx:Ad)(b:Nat):∀i,(jJ nx b i).Nodup
 |0=>fZ.mpr ⟨fG,fL⟩
 |i+1=>Vh _ _ (je nx b i)
theorem Ly{b:Nat}(q:b<nx.length)(r:∀row∈nx,∀s∈row,s<nx.length):∀i,∀s∈jJ nx b i,s<nx.length
 |0,s,h=>by rw[cA.mp h];exact q
 |i+1,s,h=>by
  rcases(vy _ _).mp h with z|z
  .exact Ly q r i s z
  .grind
theorem ui(nx:Ad)(b j:Nat):∀d,∃r,jJ nx b (j+d)=jJ nx b j++r
 |0=>⟨[],(dW _).symm⟩
 |d+1=>by
  obtain⟨r,e⟩:=ui nx b j d;obtain⟨q,e2⟩:=JW _ (jJ nx b _);refine⟨r++q,?_⟩;show sO nx (jJ nx b (j+d)) _=_;unfold sO;rw[e2,e,i4]
def Bt{b j:Nat}(B:j<i)(q:j<(jJ nx b j).length):(jJ nx b i)[j]?=some ((jJ nx b j).getD j 0):=by
 obtain⟨r,e⟩:=ui nx b j _;rw[show j+(i-j)=i by lia]at e;rw[e,iX q,bO,aQ q];rfl
def iH{α β:Type}(l:List α)(i:Nat)(r:l.length=i)(f:α->β)(g:Nat->β)(h:∀j a,l[j]?=some a->g j=f a):(List.range i).map g=l.map f:=by
 refine rK λj=>?_
 by_cases q:j<i
 .simp_all
 .simp_all
theorem yC{B:Az}(h:∀b xs,H b=am xs->H' b=am xs)(z:X0 H r B):X0 H' r B:=⟨z.1,λi q C=>by
 obtain⟨a,h1,h2⟩:=z.2 i q C;exact⟨a,h1,h _ _ h2⟩⟩
inductive SK(κ:Type)[DecidableEq κ]where
 |int (f:κ->Int) (inj:∀a b,f a=f b->a=b)
 |key (kn:KN κ)
def Y5(h:n<=10000000):n<sizeLine:=Ek h Va
section
variable {κ:Type}[DecidableEq κ]
def SK.at_:SK κ->Hp->κ->V->Prop
 |.int f _,_,k,v=>v=.int (f k)
 |.key kn,H,k,v=>∃a,v=.ref a/\kn.at_ H k a
def SK.lN:SK κ->Hp->Addr->List κ->Prop
 |.int f _,H,d,l=>H d=some (.dK (nk (l.map f)))
 |.key kn,H,d,l=>G3 kn H d (XN l)
def SK.keep{sk:SK κ}{H H':Hp}{k:κ}{v:V}(h:sk.at_ H k v)(e:∀b xs,H b=am xs->H' b=am xs):sk.at_ H' k v:=by
 cases sk with
 |int f _=>exact h
 |key kn=>
  obtain⟨a,rfl,q⟩:=h;exact⟨a,U,kn.keep _ _ _ _ e q⟩
def Mv{d:Aw}{wl:List (κ×V)}(n:G3 kn H d wl):∃o,H d=some o/\(∀xs,o≠.tup xs)/\∀xs,o≠.lst xs:=by
 rcases n.2.2 with⟨_,e⟩|⟨ys,e,_⟩
 .simp_all
 .simp_all
def SK.ne{sk:SK κ}{d:Aw}{l:List κ}(h:sk.lN H d l):∃o,H d=some o/\(∀xs,o≠.tup xs)/\∀xs,o≠.lst xs:=by
 cases sk with
 |int f _=>exact⟨_,h,(λ_ z=>nomatch z),λ_ z=>nomatch z⟩
 |key kn=>exact Mv h
def qf{d:Aw}{wl:List (κ×V)}(n:G3 kn H d wl)(r:∀o,H d=some o->H' d=some o)(e:∀b xs,H b=am xs->H' b=am xs):G3 kn H' d wl:=by
 obtain⟨B,C,D⟩:=n;refine⟨B,C,?_⟩;rcases D with⟨e1,e2⟩|⟨ys,e1,e2⟩
 .exact .inl ⟨e1,r _ e2⟩
 .exact .inr ⟨ys,r _ e1,Paired.rN e2 λp q h=>⟨h.1,kn.keep _ _ _ _ e h.2.1,h.2.2⟩⟩
def SK.cW{sk:SK κ}{H':Hp}{d:Aw}{l:List κ}(h:sk.lN H d l)(q:∀o,H d=some o->H' d=some o)(e:∀b xs,H b=am xs->H' b=am xs):sk.lN H' d l:=by
 cases sk with
 |int f _=>exact q _ h
 |key kn=>exact qf h q e
def SK.off{sk:SK κ}{d:Aw}{l:List κ}{xs:A8}{o:HO}(h:sk.lN H d l)(e:H f=ap xs):sk.lN (aA H f o) d l:=by
 obtain⟨u,B,_,C⟩:=SK.ne h;have r:d≠f:=λz=>by
  grind
 exact SK.cW h (λo e=>by rw[Zk r];exact e) λb ys q=>by rw[Zk (Yg q e nofun)];exact q
def lB(sk:SK κ)(H:Hp)(l:List κ)(vs:A8):Prop:=vs.length=l.length/\∀(i:Nat)(k:κ),l[i]?=some k->∃v,vs[i]?=some v/\sk.at_ H k v
theorem lB.keep{H H':Hp}{l:List κ}{vs:A8}(h:lB sk H l vs)(e:∀b xs,H b=am xs->H' b=am xs):lB sk H' l vs:=⟨h.1,λi k q=>by
 obtain⟨v,h1,h2⟩:=h.2 i k q;exact⟨v,h1,SK.keep h2 e⟩⟩
def lB.snoc{k:κ}(h:lB sk H l vs)(C:sk.at_ H k v):lB sk H (l++[k]) (vs++[v]):=by
 refine⟨by rw[bA,bA,h.1];rfl,λi q r=>?_⟩
 by_cases e:i<l.length
 .rw[iX e]at r;rw[iX (by rw[h.1];exact e)];exact h.2 i q r
 .rw[dU Vb]at r;have B:i-l.length=0:=by
   grind
  rw[B]at r;cases r;refine⟨v,?_,C⟩;rw[dU (by rw[h.1];lia),h.1,B];rfl
def lB.one{k:κ}(r:sk.at_ H k v):lB sk H [k] [v]:=lB.snoc (l:=[]) (vs:=[]) ⟨U,λi q B=>by cases B⟩ r
def rQ(nx:κ->List κ)(l:List κ)(i:Nat):List κ:=match l[i]? with
 |some s=>(nx s).foldl YK l
 |none=>l
def bE(nx:κ->List κ)(b:κ):Nat->List κ
 |0=>[b]
 |i+1=>rQ nx (bE nx b i) i
structure dN(nx:κ->List κ)(b:κ)(l:List κ):Prop where
 e:l=bE nx b l.length
 go:∀i,i<l.length->i<(bE nx b i).length
theorem jf(r:List κ):∀l:List κ,l.Nodup->(r.foldl YK l).Nodup:=by
 induction r with
 |nil=>exactλl h=>h
 |cons k r q=>exactλl h=>q _ (Wv h k)
theorem jg(r:List κ){x:κ}:∀l:List κ,x∈r.foldl YK l↔x∈l\/x∈r:=by
 induction r with
 |nil=>intro l;simp
 |cons k r q=>
  intro l;rw[pU,q,XS,bJ,or_assoc]
theorem Zgr(r:List κ):∀l:List κ,(r.foldl YK l).length<=l.length+r.length:=by
 induction r with
 |nil=>exactλl=>aN _
 |cons k r q=>
  intro l;have h1:=q (YK l k);have h2:=za l k;rw[pU,cQ];lia
variable {nx:κ->List κ}{b:κ}
theorem qg:∀i,(bE nx b i).Nodup
 |0=>fZ.mpr ⟨fG,fL⟩
 |i+1=>by
  show(rQ nx _ i).Nodup;unfold rQ;split
  .exact jf _ _ (qg i)
  .exact qg i
set_option tactic.hygienic true in
theorem Eo{Ua:List κ}(r:b∈Ua)(B:∀s∈Ua,∀x∈nx s,x∈Ua):∀i,∀s∈bE nx b i,s∈Ua
 |0,s,h=>by rw[cA.mp h];exact r
 |i+1,s,h=>by
  have h:s∈rQ nx _ i:=h;unfold rQ at h;split at h
  .rename_i q C;rcases(jg _ _).mp h with z|z
   .exact Eo r B i s z
   .exact B q (Eo r B i q (cY C)) s z
  .exact Eo r B i s h
def K4{Ua:List κ}(r:b∈Ua)(q:∀s∈Ua,∀x∈nx s,x∈Ua)(i:Nat):(bE nx b i).length<=Ua.length:=Xe (qg i) (Eo r q i)
def vz{s:κ}(h:(bE nx b i)[i]?=some s):bE nx b (i+1)=(nx s).foldl YK (bE nx b i):=by
 show rQ nx _ i=_;unfold rQ;rw[h]
theorem IG(j:Nat):∀d,∃r,bE nx b (j+d)=bE nx b j++r
 |0=>⟨[],(dW _).symm⟩
 |d+1=>by
  obtain⟨r,e⟩:=IG j d;show∃r,rQ nx (bE nx b (j+d)) _=_;unfold rQ;split
  .obtain⟨q,e2⟩:=JW (nx _) _;exact⟨r++q,by rw[e2,e,i4]⟩
  .exact⟨r,e⟩
def OA{j:Nat}{s:κ}(q:j<=i)(hs:(bE nx b j)[j]?=some s):(bE nx b i)[j]?=some s:=by
 obtain⟨r,e⟩:=IG (b:=b) j _;rw[show j+(i-j)=i by lia]at e;rw[e,iX (bW.mp hs).1];exact hs
def Ce(nx:κ->List κ)(b:κ)(j:Nat):Aj:=match (bE nx b j)[j]? with
 |some s=>(nx s).map λx=>(bE nx b (j+1)).idxOf x
 |none=>[]
def jK(nx:κ->List κ)(b:κ)(i:Nat):Az:=(List.range i).map λj=>jc (Ce nx b j)
def HV(nx:κ->List κ)(ot:κ->List V)(b:κ)(j:Nat):A8:=match (bE nx b j)[j]? with
 |some s=>ot s
 |none=>[]
def v3(nx:κ->List κ)(ot:κ->List V)(b:κ)(i:Nat):Az:=(List.range i).map (HV nx ot b)
def Ue{s:κ}(h:(bE nx b i)[i]?=some s):jK nx b (i+1)=jK nx b i++[((nx s).map λx=>Jq ((bE nx b (i+1)).idxOf x))]:=by
 unfold jK;rw[tM,b0];show _++[jc _]=_;unfold Ce jc;rw[h];rw[bI];rfl
def Ut{s:κ}(h:(bE nx b i)[i]?=some s):v3 nx ot b (i+1)=v3 nx ot b i++[ot s]:=by
 unfold v3;rw[tM,b0];show _++[HV nx ot b i]=_;unfold HV;rw[h]
def dG(nx:κ->List κ)(l:List κ):Ad:=l.map λs=>(nx s).map λx=>l.idxOf x
def jh(nx:κ->List κ)(l:List κ):(dG nx l).length=l.length:=aF _
def uj{j:Nat}{a:κ}(C:(bE nx b i).length=i)(B:∀j,j<i->j<(bE nx b j).length)(r:(bE nx b i)[j]?=some a):j<i/\(bE nx b j)[j]?=some a:=by
 have q:j<i:=Vc
 refine⟨q,?_⟩;have e:=aQ (B j q);rw[OA (bL q) e]at r;rw[e];exact r
def Zgu(q:(bE nx b i).length=i)(D:∀j,j<i->j<(bE nx b j).length):jK nx b i=(dG nx (bE nx b i)).map jc:=by
 unfold jK dG;rw[bI];refine iH _ i q _ _ λj a C=>?_;obtain⟨F,e⟩:=uj q D C;unfold Ce;rw[e];congr 1;refine fE λx B=>?_;obtain⟨r,e2⟩:=IG (b:=b) _ _;rw[show j+1+(i-(j+1))=i by grind]at e2;rw[e2,vf];rw[vz e];exact(jg _ _).mpr (.inr B)
def VE(q:(bE nx b i).length=i)(B:∀j,j<i->j<(bE nx b j).length):v3 nx ot b i=(bE nx b i).map ot:=by
 refine iH _ i q _ _ λj a r=>?_;obtain⟨C,e⟩:=uj q B r;unfold HV;rw[e]
end
def K9(H1 H2:Hp)(r:Aw)(q:A8):Prop:=H2 r=am q\/(H2 r=ap q/\H1 r=none)
def Zjy{xs:A8}{is:Aj}{Q:VK}(B:∀R:VK,R (.ref a) H->d c H R)(r:H a=am xs\/H a=ap xs)(q:Nat->List V->Hp->Prop)(D:q 0 [] H)(F:∀i zs H,q i zs H->zs.length<=sizeLine)(G:∀i zs H',q i zs H'->∀o,H a=some o->H' a=some o)
  (hs:∀i x zs H (R:A8->Hp->Prop),(∀zs H,q (i+1) zs H->R zs H)->xs[i]?=some x->q i zs H->M (j9 is c (some x)) H λb H2=>if b=true then J (j9 is c (some x)) H2 λy I=>R (zs++[y]) I else R zs H2)
  (C:∀zs H,q xs.length zs H->∀p,H p=none->Q (.ref p) (aA H p (.lst zs))):II K d c H (qM is M J c Q)\/FQ K d c H (qM is M J c Q):=by
 rcases r with r|r
 .exact .inr (B _ ⟨a,U,⟨_,aL.of r⟩,XQ q D F (λi zs H' h=>aL.of (G i zs H' h _ r)) hs C⟩)
 .exact .inl (B _ ⟨a,U,⟨_,aB.of r⟩,X7 q D F (λi zs H' h=>aB.of (G i zs H' h _ r)) hs C⟩)
def xf:A8->List Int
 |[]=>[]
 |.int z::r=>((Builtin.Int.intBits z:Nat):Int)::xf r
 |_::r=>xf r
theorem wG:∀q:A8,(xf q).length<=q.length
 |[]=>aN _
 |w::r=>by
  have:=wG r;cases w<;>simp[xf]<;>lia
theorem ji:∀(a b:A8),xf (a++b)=xf a++xf b
 |[],_=>rfl
 |w::r,b=>by
  have:=ji r b;cases w<;>simp[xf,this]
theorem jj:∀{q:A8},V.int z∈q->((Builtin.Int.intBits z:Nat):Int)∈xf q
 |w::r,h=>by
  rcases bJ.mp h with rfl|h
  .exact bM
  .have:=jj h;cases w<;>skip<;>first|exact this|exact b8 _ this
theorem Qg{m:Int}:∀{q:A8},m∈xf q->∃z:Int,V.int z∈q/\m=((Builtin.Int.intBits z:Nat):Int)
 |w::r,h=>by
  have go:m∈xf r->∃z:Int,V.int z∈w::r/\m=((Builtin.Int.intBits z)):=λh=>let⟨z,h1,h2⟩:=Qg h;⟨z,b8 _ h1,h2⟩;cases w with
  |int z=>
   rcases bJ.mp h with rfl|h
   .exact⟨z,bM,U⟩
   .exact go h
  |_=>exact go h
theorem bits_le(h:0<=z)(B:z<2^i):Builtin.Int.intBits z<=i:=by
 unfold Builtin.Int.intBits;split
 .exact cM _
 .rename_i e;obtain⟨n,rfl⟩:=Int.eq_ofNat_of_zero_le h;have r:n≠0:=λq=>e (by rw[q];rfl);exact(Nat.log2_lt r).mpr Vc
theorem Q5:∀(bs:Ak)(l:Nat),(∀b∈bs,b=0\/b=1)->bt (oA bs.reverse) l=bs.getD l 0
 |[],l,_=>xc l
 |b::r,l,h=>by
  rw[oE,Q2];have q:=h b bM;cases l with
  |zero=>
   unfold bt;show _=b;lia
  |succ l=>
   rw[YB,show(oA _*2+b)/2=oA r.reverse by lia,Q5 r l λb q=>h b (b8 _ q)];rfl
def Xu(L:Nat)(ys:Ai)(y:Str):Int:=oA ((List.range L).map λl:Nat=>bt (l:Int) (ys.idxOf y)).reverse
def Ww[DecidableEq g]{l:List g}{x:g}(q:l.Nodup)(h:l[i]?=some x):l.idxOf x=i:=Vc
def SU{y:Str}(q:ys.Nodup)(h:ys[i]?=some y)(B:l<L):bt (Xu L ys y) l=bt (l:Int) i:=by
 unfold Xu;rw[Ww q h,Q5 _ _ λb r=>by
  obtain⟨c,_,rfl⟩:=bB.mp r;exact YI _ _]
 rw[bO,bG,M0 B];rfl
def b9:A8->Nat
 |[]=>0
 |.int z::r=>max (Builtin.Int.intBits z) (b9 r)
 |_::r=>b9 r
theorem MN:∀{q:A8},V.int z∈q->Builtin.Int.intBits z<=b9 q
 |w::r,h=>by
  rcases bJ.mp h with rfl|h
  .exact Nat.le_max_left _ _
  .have:=MN h;cases w<;>simp[b9]<;>lia
theorem M6:∀q:A8,b9 q=0\/∃z:Int,V.int z∈q/\b9 q=Builtin.Int.intBits z
 |[]=>.inl U
 |w::r=>by
  have go:(b9 _=b9 r)->b9 _=0\/∃z:Int,V.int z∈w::r/\b9 (w::r)=Builtin.Int.intBits z:=λe=>by
   rw[e];rcases M6 r with h|⟨z,h1,h2⟩
   .exact .inl h
   .grind
  cases w with
  |int z=>
   by_cases h:b9 r<=Builtin.Int.intBits z
   .exact .inr ⟨z,bM,Nat.max_eq_left h⟩
   .exact go (Nat.max_eq_right Vb)
  |_=>exact go U
def RN(h1:∀z:Int,V.int z∈r->Builtin.Int.intBits z<=L)(h2:L=0\/∃z:Int,V.int z∈r/\L=Builtin.Int.intBits z):L=b9 r:=by
 refine Mq ?_ ?_
 .rcases h2 with h|⟨z,q,h⟩
  .lia
  .rw[h];exact MN q
 .rcases M6 r with h|⟨z,q,h⟩
  .lia
  .rw[h];exact h1 z q
def Jr(q:A8):Nat:=(q.filter λw=>bP w (allR.map V.str)).length
def C7(nm:Ai)(sw:Str->Int)(q:A8)(s:Int×Ak):Ak×Ak:=XT nm sw s.1.toNat s.2 q
def eZ(nm:Ai)(sw:Str->Int)(q:A8)(L:Nat)(s:Int×Ak):List (Int×Ak):=(List.range (2^nm.length)).map λl=>(min (s.1+1) (L:Int),(C7 nm sw q s).2.map λc=>bt c l)
def lF(nm:Ai)(sw:Str->Int)(B:A8)(q r:V)(s:Int×Ak):A8:=(List.range (2^nm.length)).map λl=>if bt ((C7 nm sw B s).1.getD 0 0) l=1 then r else q
def tU(q:Aw)(H H':Hp):Prop:=∀b o,H b=some o->b≠q->H' b=some o
def Nb(H:Hp)(k:Int×Ak)(a:Aw):Prop:=∃t,H a=am [.int k.1,.ref t]/\H t=am (k.2.map V.int)
def Nb.bits(h:Nb H k a):KU H k a:=by
 obtain⟨t,h1,h2⟩:=h;refine⟨t,h1,_,h2,?_⟩;rw[bI];rfl
def PV:KN (Int×Ak)where
 knd:=r4.knd
 CO:=r4.CO
 at_:=Nb
 hash_eq:=r4.hash_eq
 ok:=λP w H h k a ok b=>r4.ok P w H h k a ok b.bits
 room:=r4.room
 iF:=r4.iF
 keep:=λH H' k a q ⟨t,e,e2⟩=>⟨t,q _ _ e,q _ _ e2⟩
def xF:Nat->List (Ak)
 |0=>[[]]
 |n+1=>(xF n).map (List.cons 0)++(xF n).map (List.cons 1)
theorem wH:∀n,(xF n).length=2^n
 |0=>rfl
 |n+1=>by
  show((xF n).map _++(xF n).map _).length=_;rw[bA,aF,aF,wH n];lia
theorem Xn:∀{n:Nat} {ks:Ak},ks∈xF n↔ks.length=n/\∀x∈ks,x=0\/x=1
 |0,ks=>by
  constructor
  .intro h;rw[cA.mp h];exact⟨U,λx q=>by cases q⟩
  .rintro⟨h,_⟩;rw[pI h];exact cA.mpr U
 |n+1,ks=>by
  show ks∈(xF n).map _++(xF n).map _↔_;rw[cT,bB,bB];constructor
  .rintro(⟨r,B,rfl⟩|⟨r,B,rfl⟩)
   .obtain⟨h1,h2⟩:=Xn.mp B;refine⟨Vc,λx q=>?_⟩;rcases bJ.mp q with rfl|q
    .exact .inl U
    .exact h2 x q
   .obtain⟨h1,h2⟩:=Xn.mp B;refine⟨Vc,λx q=>?_⟩;rcases bJ.mp q with rfl|q
    .exact .inr U
    .exact h2 x q
  .rintro⟨h1,h2⟩;cases ks with
   |nil=>cases h1
   |cons x r=>
    have B:=Xn.mpr ⟨by simpa using h1,λy C=>h2 y (b8 _ C)⟩;rcases h2 x bM with rfl|rfl
    .exact .inl ⟨r,B,U⟩
    .exact .inr ⟨r,B,U⟩
def oG(q:Nat):Nat->List (Int×Ak)
 |0=>[]
 |n+1=>oG q n++(xF q).map λks=>((n:Int),ks)
theorem vA(q:Nat):∀n,(oG q n).length=n*2^q
 |0=>by rw[FK];rfl
 |n+1=>by
  show(oG q n++(xF q).map _).length=_;rw[bA,aF,vA q n,wH,D4]
theorem G7{q:Nat}{s:Int×Ak}:∀{n:Nat},s∈oG q n↔∃p:Nat,p<n/\s.1=(p:Int)/\s.2∈xF q
 |0=>⟨(λh=>nomatch h),λ⟨p,h,_⟩=>absurd h (AL _)⟩
 |n+1=>by
  show s∈oG q n++(xF q).map _↔_;rw[cT,G7];constructor
  .grind
  .grind
def wI(w:V)(r:A8):Jr (w::r)=Jr r+if bP w (allR.map V.str)=true then 1 else 0:=by
 unfold Jr;rw[bU];split<;>rfl
theorem vC:∀B:A8,(∀w∈B,vq ys w)->(XT ys sw pl kp B).2.length=Jr B
 |[],_=>rfl
 |w::r,hw=>by
  have q:=vC (sw:=sw) (pl:=pl) (kp:=kp) r λw h=>hw w (b8 _ h);rw[wI];rcases hw w bM with⟨y,rfl,h1,_⟩|⟨y,rfl,h1,h2,C,_⟩|⟨y,rfl,h1,h2,_⟩|⟨z,rfl,_⟩
  .show(if y∈allR then _ else _:Ak×Ak).2.length=_;rw[aK h1,ZG,aZ h1,bA,q];rfl
  .show(if y∈allR then _ else if y∈ys then _ else _:Ak×Ak).2.length=_;rw[aG h2,aG C,ZG,bF h2];exact q
  .show(if y∈allR then _ else if y∈ys then _ else _:Ak×Ak).2.length=_;rw[aG h2,aK h1,ZG,bF h2];exact q
  .exact q
def vD(hw:∀w∈r,vq nm w)(C:i=Jr r){s:Int×Ak}(hs:s∈oG i (L+1)):∀x∈eZ nm sw r L s,x∈oG i (L+1):=λx B=>by
 obtain⟨l,_,rfl⟩:=bB.mp B;obtain⟨p,h1,h2,D⟩:=G7.mp hs;refine G7.mpr ⟨min (p+1) L,Vb,?_,Xn.mpr ⟨?_,λb q=>?_⟩⟩
 .lia
 .rw[aF,C];exact vC r hw
 .obtain⟨c,_,rfl⟩:=bB.mp q;exact YI c l
def Zc6(s:Z8 (aY D H) H')(r:∀c∈D,H' c=none):Z8 H (WT D H H')/\(∀t o,H' t=some o->WT D H H' t=some o)/\∀t o,H' t=some o->aY D H t=none->H t=none:=by
 have m:∀t o,H' t=some o->t∉D:=λt o e m=>Vc
 refine⟨λb o e=>?_,λt o e=>by rw[Yu (m t o e)];exact e,λt o e h=>by rw[ZJ (m t o e)]at h;exact h⟩
 by_cases q:b∈D
 .rw[J3 q];exact e
 .rw[Yu q];exact s _ _ (by rw[ZJ q];exact e)
def yD{p:Aw}{q:Az}(R:G6 H p q)(e:∀b xs,H b=am xs->H' b=am xs):G6 H' p q:=by
 obtain⟨as,h1,h2,D⟩:=R;refine⟨as,e _ _ h1,h2,λi r hi=>?_⟩;obtain⟨a,C,B⟩:=D i r hi;exact⟨a,C,e _ _ B⟩
def F6(q:∀z:Int,V.int z∈r->0<=z/\z<2^i):b9 r<=i:=by
 rcases M6 r with h|⟨z,B,h⟩
 .lia
 .rw[h];exact bits_le (q z B).1 (q z B).2
theorem CF(h:V.int z∈r)(q:0<=z):z<2^b9 r:=Int.lt_of_lt_of_le (by
       unfold Builtin.Int.intBits;split
       . grind
       . obtain⟨n,rfl⟩:=Int.eq_ofNat_of_zero_le q;have:=Nat.lt_log2_self (n:=n)
         exact_mod_cast this) (Ow (MN h))
def Nm:∀y∈allR,y∈Z6:=Wm
def Ry:∀y∈Jp,y∉allR->y∈DK/\aP (.str y)=DE y:=Wm
def Zop:∀y∈allR,y∈Jp->1<=aP (.str y)/\(y∈Dr->2<=aP (.str y)):=Wm
def Ov{w:V}(B:∀y∈ys,y∉Z6)(h:wy ys i w):vq ys w:=by
 rcases h with⟨y,rfl,h1,h2,r⟩|⟨y,rfl,h1,h2,r⟩|⟨z,rfl,C,_,r⟩
 .by_cases q:y∈allR
  .exact .inl ⟨y,U,q,h2,Zop y q h1⟩
  .exact .inr (.inl ⟨y,U,(Ry y h1 q).1,q,h2,(Ry y h1 q).2⟩)
 .exact .inr (.inr (.inl ⟨y,U,h1,λz=>B y h1 (Nm y z),r⟩))
 .exact .inr (.inr (.inr ⟨z,U,C,r⟩))
def zd(ls:Aj)(ys:Ai)(y:Str):Int:=sm (λk=>bt ((ls.getD k 0:Nat):Int) (ys.idxOf y)) ls.length
def QP(ls:Aj)(ys:Ai)(y:Str):0<=zd ls ys y/\zd ls ys y<2^ls.length:=vv (λ_=>YI _ _) _
def QN{ys:Ai}{k l:Nat}{y:Str}(r:ys.Nodup)(h:ys[i]?=some y)(q:ls[k]?=some l):bt (zd ls ys y) k=bt (l:Int) i:=by
 unfold zd;rw[Ww r h];have:=LP (b:=λk=>bt ((ls.getD k 0)) i) (λ_=>YI _ _) k _ (bW.mp q).1;rw[bO,q]at this;exact this
structure Runs(nx:Ad)(ot:Az)(n:Nat):Prop where
 pos:0<nx.length
 ol:ot.length=nx.length
 nr:∀r∈nx,r.length=2^n
 nl:∀r∈nx,∀s∈r,s<nx.length
 or:∀r∈ot,r.length=2^n
def iZ(nx:Ad):Nat->List Nat->Nat
 |s,[]=>s
 |s,c::r=>iZ nx ((nx.getD s []).getD c 0) r
def oN(nx:Ad)(ot:Az):Nat->List Nat->List V
 |_,[]=>[]
 |s,c::r=>(ot.getD s []).getD c .bN::oN nx ot ((nx.getD s []).getD c 0) r
theorem qh(nx:Ad):∀(s:Nat)(ls:Aj)(c:Nat),iZ nx s (ls++[c])=(nx.getD (iZ nx s ls) []).getD c 0
 |_,[],_=>rfl
 |s,d::r,c=>qh nx _ r c
theorem Oz(nx:Ad)(ot:Az):∀(s:Nat)(ls:Aj)(c:Nat),oN nx ot s (ls++[c])=oN nx ot s ls++[(ot.getD (iZ nx s ls) []).getD c .bN]
 |_,[],_=>rfl
 |s,d::r,c=>congrArg _ (Oz nx ot _ r c)
theorem uk(nx:Ad)(ot:Az):∀(s:Nat)(ls:Aj),(oN nx ot s ls).length=ls.length
 |_,[]=>rfl
 |s,d::r=>congrArg _ (uk nx ot _ r)
def cJ{l:List g}{d:g}(h:i<l.length):l[i]?=some (l.getD i d):=Vc
section
variable {κ:Type}[DecidableEq κ]{nx:κ->List κ}{b:κ}{l:List κ}
def jk{x:κ}(h:x∈l):l[l.idxOf x]?=some x:=Vc
def dN.len(B:dN nx b l):(bE nx b l.length).length=l.length:=by rw[<-B.e]
def dN.here(B:dN nx b l){j:Nat}{s:κ}(h:l[j]?=some s):j<l.length/\(bE nx b j)[j]?=some s:=uj B.len B.go (by rw[<-B.e];exact h)
def dN.sub(B:dN nx b l){j:Nat}(q:j<=l.length){x:κ}(h:x∈bE nx b j):x∈l:=by
 obtain⟨r,e⟩:=IG (b:=b) j _;rw[show j+(l.length-j)=l.length by simp_all,<-B.e]at e;rw[e];exact Er _ h
def dN.begin(B:dN nx b l):l[0]?=some b/\b∈l:=by
 have q:=B.sub (cM _) (cA.mpr U);have e:=OA (nx:=nx) (i:=l.length) (cM _) (s:=b) rfl;rw[<-B.e]at e;exact⟨e,q⟩
def dN.next(B:dN nx b l){s x:κ}(h:s∈l)(r:x∈nx s):x∈l:=by
 obtain⟨j,q⟩:=pC.mp h;obtain⟨h1,h2⟩:=B.here q;refine B.sub h1 ?_;rw[vz h2];exact(jg _ _).mpr (.inr r)
def dN.nodup(B:dN nx b l):l.Nodup:=by
 rw[B.e];exact qg _
def n9(l:List κ)(x:κ):Nat:=l.idxOf x
def dN.zero(B:dN nx b l):n9 l b=0:=Ww B.nodup B.begin.1
def NX(h:∀s∈l,∀x∈nx s,x∈l){s:κ}(hs:s∈l):(dG nx l).getD (n9 l s) []=(nx s).map λx=>n9 l x:=by
 unfold dG n9;rw[bO,bG,jk hs];rfl
def Zoq{ot:κ->List V}{s:κ}(hs:s∈l):(l.map ot).getD (n9 l s) []=ot s:=by
 unfold n9;rw[bO,bG,jk hs];rfl
end
abbrev eY(nm:Ai)(q:A8):Int×Ak->List (Int×Ak):=eZ nm (Xu (2^nm.length) nm) q (b9 q)
def Zor(nm:Ai)(sw:Str->Int)(q:A8)(L:Nat)(s:Int×Ak):(eZ nm sw q L s).length=2^nm.length:=by
 unfold eZ;rw[aF,dY]
def Zos(nm:Ai)(sw:Str->Int)(B:A8)(q r:V)(s:Int×Ak):(lF nm sw B q r s).length=2^nm.length:=by
 unfold lF;rw[aF,dY]
section
variable {κ:Type}[DecidableEq κ]{nx:κ->List κ}{b:κ}{l:List κ}
def Zot(B:dN nx b l)(D:∀s,(nx s).length=n):(∀r∈dG nx l,r.length=n)/\∀r∈dG nx l,∀s∈r,s<(dG nx l).length:=by
 constructor
 .intro r q;obtain⟨s,_,rfl⟩:=bB.mp q;rw[aF,D]
 .intro r q x C;obtain⟨s,hs,rfl⟩:=bB.mp q;obtain⟨y,F,rfl⟩:=bB.mp C;rw[jh];exact nS (B.next hs F)
end
def qi{xs:A8}(h:aB K H a xs)(s:Z8 H H'):aB K H' a xs:=by
 rcases h with h|h
 .rcases h with h|⟨u,h⟩
  .exact .inl (.inl (s _ _ h))
  .exact .inl (.inr ⟨u,s _ _ h⟩)
 .exact .inr h
def nO(x y:Int)(k:Nat):Int:=if lo x k=lo y k then 0 else 1
def Nz(x y:Int)(k:Nat):nO x y k=0\/nO x y k=1:=by
 unfold nO;split
 .exact .inl U
 .exact .inr U
def Zj0(x y:Int):nO x y 0=0:=by
 unfold nO lo;rw[pN,Ie,Ie];rfl
def UN(x y:Int)(k:Nat):nO x y (k+1)=1-(1-(bt x k+bt y k)%2)*(1-nO x y k):=by
 have e1:=zX x k;have e2:=zX y k;have b1:=jI x k;have b2:=jI y k;unfold nO;rcases YI x k with a|a<;>rcases YI y k with b|b<;>rw[a]at e1 ⊢ <;> rw[b]at e2 ⊢ <;> by_cases h:lo x k=lo y k
 all_goals first
  |rw[aK h,aK Vb];rfl
  |rw[aG h,aG Vb];rfl
  |rw[aK h,aG Vb];rfl
def Dm(x:Int)(k:Nat):Int:=lo x k-2^k*bt x k
def rM(x y:Int)(k:Nat):Int:=if Dm x k<Dm y k then 1 else 0
def AZ(x y:Int)(k:Nat):rM x y k=0\/rM x y k=1:=by
 unfold rM;split
 .exact .inr U
 .exact .inl U
def Bc(x y:Int)(k:Nat):rM x y k=1-(1-(1-bt y k)*bt x k)*(1-iG x y k*(1-(bt y k+bt x k)%2)):=by
 have b1:=jI x k;have b2:=jI y k;unfold rM Dm iG;rcases YI x k with a|a<;>rcases YI y k with b|b<;>rw[a,b]<;>by_cases h:lo x k<lo y k
 all_goals first
  |rw[aK h,aK Vb];rfl
  |rw[aG h,aG Vb];rfl
  |rw[aK h,aG Vb];rfl
  |rw[aG h,aK Vb];rfl
def JG(y:Str)(is:Ak)(k:Nat):Int:=
 if y = "twice" then tw (is.getD 0 0) k else if y = "neg" \/ y = "low" \/ y = "nought" then l6 (is.getD 0 0) k else if y = "same" then nO (is.getD 0 0) (is.getD 1 0) k else if y = "add" then lT (is.getD 0 0) (is.getD 1 0) k else iG (is.getD 0 0) (is.getD 1 0) k
def jl(y:Str)(is:Ak)(k:Nat):JG y is k=0\/JG y is k=1:=by
 unfold JG
 repeat' split
 .exact EY _ _
 .exact Mz _ _
 .exact Nz _ _ _
 .exact LB _ _ _
 .exact wx _ _ _
def wK(y:Str)(is:Ak):JG y is 0=0:=by
 unfold JG
 repeat' split
 .rfl
 .exact Zjt _
 .exact Zj0 _ _
 .exact Ph _ _
 .exact Ol _ _
def l5(y:Str)(bs:Ak)(h:Int):Int:=
 if y = "twice" then bs.getD 0 0 else if y = "neg" \/ y = "low" \/ y = "nought" then 1-(1-bs.getD 0 0)*(1-h)else if y = "same" then 1-(1-(bs.getD 0 0+bs.getD 1 0)%2)*(1-h)else if y = "add" then(bs.getD 0 0+bs.getD 1 0+h)/2 else 1-(1-(1-bs.getD 0 0)*bs.getD 1 0)*(1-h*(1-(bs.getD 0 0+bs.getD 1 0)%2))
def Xo(y:Str)(is:Ak)(k:Nat):JG y is (k+1)=l5 y (is.map λx=>bt x k) (JG y is k):=by
 unfold JG l5;rw[JE,JE]
 repeat' split
 .rfl
 .exact R3 _ _
 .exact UN _ _ _
 .exact Qy _ _ _
 .exact PN _ _ _
def Bs(y:Str)(bs:Ak)(h:Int):Int:=
 if y = "add" \/ y = "sub" then(bs.getD 0 0+bs.getD 1 0+h)%2 else if y = "neg" then(bs.getD 0 0+h)%2 else if y = "twice" then h else if y = "low" then bs.getD 0 0*(1-h)
 else if y = "same" \/ y = "nought" then 1-l5 y bs h else if y = "under" then l5 y bs h else 1-(1-(1-bs.getD 1 0)*bs.getD 0 0)*(1-h*(1-(bs.getD 1 0+bs.getD 0 0)%2))
def jL(y:Str)(bs:Ak):Int:=
 if y = "yes" then 1 else if y = "sign" then bs.getD 0 0 else if y = "not" \/ y = "never" then 1-bs.getD 0 0 else if y = "and" \/ y = "both" then bs.getD 0 0*bs.getD 1 0 else if y = "or" \/ y = "either" then 1-(1-bs.getD 0 0)*(1-bs.getD 1 0)
 else if y = "odd" then(bs.getD 0 0+bs.getD 1 0)%2 else if y = "so" then 1-(1-(1-bs.getD 0 0))*(1-bs.getD 1 0)else 1-(1-bs.getD 0 0*bs.getD 1 0)*(1-(1-bs.getD 0 0)*bs.getD 2 0)
def Np(a b h:Int)(l:Nat):bt (Fn a b h) l=1-(1-(1-bt a l)*bt b l)*(1-bt h l*(1-(bt a l+bt b l)%2)):=by
 unfold Fn;rw[jH,WX,WX,qc,qc,zW]
def NH(y:Str)(is:Ak)(h:Int)(l:Nat):bt (iY y is h) l=l5 y (is.map λx=>bt x l) (bt h l):=by
 unfold l5 iY;rw[JE,JE]
 repeat' split
 .rfl
 .exact jH l _ _
 .rw[jH,zW]
 .rw[jH,WX,WX,jH];rcases YI _ l with a|a<;>rcases YI _ l with b|b<;>rcases YI h l with c|c<;>rw[a,b,c]<;>rfl
 .exact Np _ _ _ _
def AF(y:Str)(is:Ak)(h:Int)(l:Nat):bt (CS y is h (iY y is h)) l=Bs y (is.map λx=>bt x l) (bt h l):=by
 unfold Bs CS;rw[<-NH,JE,JE]
 repeat' split
 .rw[zW,zW];simp_all
 .exact zW l _ _
 .rfl
 .rw[WX,qc]
 .exact qc l _
 .rfl
 .exact Np _ _ _ _
def Qt(y:Str)(is:Ak)(l:Nat):bt (Be y is) l=jL y (is.map λx=>bt x l):=by
 unfold jL Be;rw[JE,JE,JE]
 repeat' split
 .exact QY l
 .rfl
 .exact qc l _
 .exact WX l _ _
 .exact jH l _ _
 .exact zW l _ _
 .rw[jH,qc]
 .rw[jH,WX,WX,qc]
def Ck(y:Str)(is:Ak)(k:Nat):Int:=
 if y = "same" then 1-nO (is.getD 0 0) (is.getD 1 0) (k+1)else if y = "nought" then 1-l6 (is.getD 0 0) (k+1)else if y = "under" then iG (is.getD 0 0) (is.getD 1 0) (k+1)else if y = "beneath" then rM (is.getD 0 0) (is.getD 1 0) k
 else jL y (is.map λx=>bt x k)
def Bo(y:Str)(is:Ak)(k:Nat):jL y (is.map λx=>bt x k)=0\/jL y (is.map λx=>bt x k)=1:=by
 rw[<-Qt];exact YI _ _
def Hq(y:Str)(is:Ak)(k:Nat):Ck y is k=0\/Ck y is k=1:=by
 unfold Ck
 repeat' split
 .have:=Nz (is.getD 0 0) (is.getD 1 0) (k+1);lia
 .have:=Mz (is.getD 0 0) (k+1);lia
 .exact wx _ _ _
 .exact AZ _ _ _
 .exact Bo _ _ _
def mS(W:Nat)(ρ:Str->Int)(w:V)(is:Ak):Int:=
 match w with
 |.str y=>if y∈Z2 then sm (Ck y is) W else hJ ρ w is%2^W
 |_=>hJ ρ w is%2^W
def Xq(W:Nat)(ρ:Str->Int):A8->List Int
 |[]=>[]
 |w::r=>mS W ρ w ((Xq W ρ r).take (aP w))::(Xq W ρ r).drop (aP w)
theorem vE(W:Nat)(ρ:Str->Int):∀q:A8,(Xq W ρ q).length=mQ q
 |[]=>rfl
 |w::r=>by
  show((Xq W ρ r).drop _).length+1=_;rw[fX,vE W ρ r];rfl
def Yw:V->Bool
 |.str y=>decide (y∈allR)
 |_=>false
def WY(W:Nat)(ρ:Str->Int):A8->Nat->List Int
 |[],_=>[]
 |w::r,k=>WY W ρ r k++if Yw w=true then[JG (rP w) ((Xq W ρ r).take (aP w)) k]else[]
def oQ(ys:Ai)(ν:Str->Int)(pl:Nat)(kp:Ak):A8->List Int×Ak
 |[]=>([],[])
 |w::r=>
  let p:=oQ ys ν pl kp r
  match w with
  |.str y=>
   if y∈allR then(Bs y (p.1.take (aP w)) (kp.getD p.2.length 0)::p.1.drop (aP w),p.2++[l5 y (p.1.take (aP w)) (kp.getD p.2.length 0)])
   else if y∈ys then(ν y::p.1.drop (aP w),p.2)
   else(jL y (p.1.take (aP w))::p.1.drop (aP w),p.2)
  |.int z=>(bt z pl::p.1.drop (aP w),p.2)
  |_=>p
noncomputable def wL(D:∀i:Nat,kp.getD i 0=0\/kp.getD i 0=1)(l:Nat):∀C:A8,
  (XT ys sw pl kp C).1.map (λx=>bt x l)=(oQ ys (λy=>bt (sw y) l) pl kp C).1/\(XT ys sw pl kp C).2.map (λx=>bt x l)=(oQ ys (λy=>bt (sw y) l) pl kp C).2
 |[]=>⟨U,U⟩
 |w::r=>by
  obtain⟨e1,e2⟩:=wL (ys:=ys) (sw:=sw) (pl:=pl) D l r;have F:(XT ys sw pl kp r).2.length=(oQ ys (λy=>bt (sw y) l) pl kp r).2.length:=Vc
  cases w with
  |str y=>
   show(if y∈allR then _ else if y∈ys then _ else _:Ak×Ak).1.map _=(if y∈allR then _ else if y∈ys then _ else _:Ak×Ak).1/\(if y∈allR then _ else if y∈ys then _ else _:Ak×Ak).2.map _=(if y∈allR then _ else if y∈ys then _ else _:Ak×Ak).2
   by_cases B:y∈allR
   .rw[aK B,aK B];constructor
    .show bt _ l::_=_::_;rw[AF,ug (D _),nR,oM,e1,F]
    .rw[b0,e2];show _++[bt _ l]=_;rw[NH,ug (D _),nR,e1,F]
   .rw[aG B,aG B]
    by_cases q:y∈ys
    .rw[aK q,aK q];refine⟨?_,e2⟩;show bt _ l::List.map _ _=_::_;rw[oM,e1]
    .rw[aG q,aG q];refine⟨?_,e2⟩;show bt _ l::List.map _ _=_::_;rw[Qt,nR,oM,e1]
  |int z=>
   refine⟨?_,e2⟩;show bt _ l::List.map _ _=bt z pl::_;rw[oM,e1,ug (YI z pl)]
  |_=>exact⟨e1,e2⟩
def JY:∀y∈Jp,y∉Z2:=Wm
def Zj2{y:Str}(q:y∈zY)(is:Ak)(k:Nat):JG y is k=Ri y is k:=by
 unfold zY at q;simp at q;rcases q with rfl|rfl|rfl|rfl|rfl<;>rfl
def Vj{y:Str}(q:y∈zY)(bs:Ak)(h:Int):Bs y bs h=EG y bs h:=by
 unfold zY at q;simp at q;rcases q with rfl|rfl|rfl|rfl|rfl<;>rfl
def Sx{y:Str}(q:y∈Jp)(r:y∉zY)(bs:Ak):jL y bs=Fu y bs:=by
 rcases y9 y q r with⟨rfl,_⟩|⟨rfl,_⟩|⟨rfl,_⟩|⟨rfl,_⟩|⟨rfl,_⟩<;>rfl
def Zg2:∀y∈Z2,y∈allR->y = "same" \/ y = "under" \/ y = "beneath" \/ y = "nought" :=Wm
def Zc7:∀y∈Z2,y∉allR->¬y = "same" /\ ¬y = "under" /\ ¬y = "beneath" /\ ¬y = "nought" :=Wm
def Ht{f:Nat->Int}(q:∀i,f i=0\/f i=1){k W:Nat}(h:k<W):bt (sm f W) k=f k:=LP q k W h
def ze(ρ:Str->Int){y:Str}{W k:Nat}(r:k<W)(C:y∈allR){is:Ak}(h:y∈Z2\/(y∈Jp/\is.length=Y4 y)):Bs y (is.map λx=>bt x k) (JG y is k)=bt (mS W ρ (.str y) is) k:=by
 rcases h with B|⟨hs,D⟩
 .show _=bt (if y∈Z2 then _ else _) k;rw[aK B,Ht (Hq y is) r];have hs:=Xo y is k;rcases Zg2 y B C with rfl|rfl|rfl|rfl
  .show 1-l5 "same" _ _=1-nO _ _ _;rw[<-hs];rfl
  .show l5 "under" _ _=iG _ _ _;rw[<-hs];rfl
  .show 1-(1-(1-List.getD _ 1 0)*List.getD _ 0 0)*(1-iG _ _ k*(1-(List.getD _ 1 0+List.getD _ 0 0)%2))=rM _ _ k;rw[JE,JE,Bc]
  .show 1-l5 _ _ _=1-l6 _ _;rw[<-hs];rfl
 .have q:=(O3 y hs).mp C;show _=bt (if y∈Z2 then _ else _) k;rw[aG (JY y hs),Vj q,Zj2 q,BD ρ q D,x8 _ _ _ r]
def wM(ρ:Str->Int){y:Str}{W k:Nat}(q:k<W)(B:y∉allR){is:Ak}(h:y∈Z2\/(y∈Jp/\is.length=Y4 y)):jL y (is.map λx=>bt x k)=bt (mS W ρ (.str y) is) k:=by
 rcases h with r|⟨hs,G⟩
 .show _=bt (if y∈Z2 then _ else _) k;refine ω (Zc7 y r B) (θ3 λh1 h2 F D=>?_);rw[aK r,Ht (Hq y is) q];unfold Ck;rw[aG h1,aG D,aG h2,aG F]
 .have C:=λz=>B ((O3 y hs).mpr z)
  show _=bt (if y∈Z2 then _ else _) k;rw[aG (JY y hs),Sx hs C,SR ρ hs C G,x8 _ _ _ q]
def C5(ys:Ai)(B:Nat)(w:V):Prop:=wy ys B w\/∃y,w=.str y/\y∈Z2/\y∉ys
theorem Zj5(W:Nat)(ρ:Str->Int)(q:A8)(k:Nat):(WY W ρ q k).length=(q.filter Yw).length:=by
 induction q with
 |nil=>rfl
 |cons w r B=>
  show(WY W ρ r k++_).length=_;rw[bA,B,bU];split<;>rfl
theorem PX{B W k pl:Nat}{ρ:Str->Int}(T:k<W)(Ua:pl=k\/(B<=pl/\B<=k))(G:∀y∈ys,y∉Z6)(kp:Ak):∀J:A8,(∀w∈J,C5 ys B w)->JF J->(∃r,kp=WY W ρ J k++r)->oQ ys (λy=>bt (ρ y) k) pl kp J=((Xq W ρ J).map (λx=>bt x k),WY W ρ J (k+1))
 |[],_,_,_=>rfl
 |w::r,hw,he,hkp=>by
  obtain⟨r0,L⟩:=hkp;have ih:=PX T Ua G kp r (λw h=>hw w (b8 _ h)) he.2 ⟨_,by rw[L];show(_++_)++_=_;rw[i4]⟩;have htk:((Xq W ρ r).take (aP w)).length=aP w:=by rw[c8,vE W ρ r];exact sP he.1
  have ml:=Zj5 W ρ r;have D:∀y,w=.str y->y∉ys->(y∈Z2\/(y∈Jp/\aP w=Y4 y))->oQ ys (λy=>bt (ρ y) k) pl kp (w::r)=((Xq W ρ (w::r)).map (λx=>bt x k),WY W ρ (w::r) (k+1)):=by
   rintro y rfl C F;have O:y∈Z2\/(y∈Jp/\((Xq W ρ r).take (aP (.str y))).length=Y4 y):=Vc
   by_cases I:y∈allR
   .have q:Yw (.str y)=true:=aZ I;have hg:kp.getD (WY W ρ r (k+1)).length 0=JG y ((Xq W ρ r).take (aP (.str y))) k:=by
     have e:WY W ρ (.str y::r) k=WY W ρ r k++[JG y ((Xq W ρ r).take (aP (.str y))) k]:=by
      show _++(if Yw _=true then _ else _)=_;rw[aK q];rfl
     rw[L,e,ml,<-ml k,i4,bO,dU (aN _),pM];rfl
    show(if y∈allR then _ else _)=_;rw[aK I,ih];rw[hg,<-nR,ze ρ T I O,<-Xo];refine Dk ?_ ?_
    .show _::_=bt _ k::((Xq W ρ r).drop _).map _;rw[oM]
    .show _=_++(if Yw _=true then _ else _);rw[aK q];rfl
   .have q:¬Yw (.str y)=true:=λz=>I (dB z)
    show(if y∈allR then _ else if y∈ys then _ else _)=_;rw[aG I,aG C,ih];rw[<-nR,wM ρ T I O];refine Dk ?_ ?_
    .show _::_=bt _ k::((Xq W ρ r).drop _).map _;rw[oM]
    .show _=_++(if Yw _=true then _ else _);rw[aG q,dW]
  rcases hw w bM with(⟨y,rfl,F,C,Z⟩|⟨y,rfl,F,hnr,Z⟩|⟨z,rfl,z0,z1,Z⟩)|⟨y,rfl,F,C⟩
  .exact D y U C (.inr ⟨F,Z⟩)
  .have Y:=λz=>G y F (Nm y z)
   have q:¬Yw (.str y)=true:=λz=>Y (dB z);show(if y∈allR then _ else if y∈ys then _ else _)=_;rw[aG Y,aK F,ih];refine Dk ?_ ?_
   .show _::_=bt (if y∈Z2 then _ else _) k::((Xq W ρ r).drop _).map _;rw[aG λz=>G y F (YG y z),x8 _ _ _ T,Z];rfl
   .show _=_++(if Yw _=true then _ else _);rw[aG q,dW]
  .show(bt z pl::(oQ ys _ pl kp r).1.drop _,(oQ ys _ pl kp r).2)=_;rw[ih];have ez:bt z pl=bt z k:=by
    rcases Ua with h|⟨h1,h2⟩
    .rw[h]
    .rw[PJ z0 z1 h1,PJ z0 z1 h2]
   refine Dk ?_ ?_
   .show bt z pl::_=bt (hJ ρ _ _%2^W) k::((Xq W ρ r).drop _).map _;rw[x8 _ _ _ T,ez];rfl
   .show _=_++(if Yw _=true then _ else _);rw[aG nofun,dW]
  .exact D y U C (.inl F)
theorem yE{ν q:Str->Int}{pl:Nat}{kp:Ak}(h:∀y∈ys,ν y=q y):∀B:A8,oQ ys ν pl kp B=oQ ys q pl kp B
 |[]=>rfl
 |w::r=>by
  unfold oQ;rw[yE h r];cases w with
  |str y=>
   by_cases C:y∈allR
   .simp[aK C]
   .grind
  |_=>rfl
theorem Oh:∀{q:A8},∀x∈WY W ρ q k,x=0\/x=1
 |w::r,x,h=>by
  rcases cT.mp h with h|h
  .exact Oh x h
  .split at h
   .rw[cA.mp h];exact jl _ _ _
   .cases h
def Zov(W:Nat)(ρ:Str->Int)(q:A8)(k i:Nat):(WY W ρ q k).getD i 0=0\/(WY W ρ q k).getD i 0=1:=by
 rw[bO];cases e:(WY W ρ q k)[i]? with
 |none=>exact .inl U
 |some x=>exact Oh x (cY e)
theorem jm(W:Nat)(ρ:Str->Int):∀q:A8,WY W ρ q 0=List.replicate (q.filter Yw).length 0
 |[]=>rfl
 |w::r=>by
  show WY W ρ r 0++_=_;rw[jm W ρ r,bU];split
  .rw[wK,cQ,F7]
  .rw[dW]
theorem Wx{B:Nat}:∀{q:A8},(∀w∈q,C5 ys B w)->Jr q=(q.filter Yw).length
 |[],_=>rfl
 |w::r,h=>by
  rw[wI,Wx (λv C=>h v (b8 _ C)),bU];have e:bP w (allR.map V.str)=Yw w:=by
   rcases h w bM with(⟨y,rfl,_⟩|⟨y,rfl,_⟩|⟨z,rfl,_⟩)|⟨y,rfl,_⟩
   .exact ZG _ _
   .exact ZG _ _
   .exact uf z _
   .exact ZG _ _
  rw[e];split<;>rfl
def G8{W k c:Nat}(q:nm.Nodup)(J:∀y∈nm,y∉Z6)(hw:∀w∈r,C5 nm 10 w)(T:JF r)(G:k<W)(O:ls[k]?=some c)(C:c<2^nm.length):
  (C7 nm (Xu (2^nm.length) nm) r (min (k:Int) (b9 r:Int),WY W (zd ls nm) r k)).1.map (λx=>bt x c)=(Xq W (zd ls nm) r).map (λx=>bt x k)/\(C7 nm (Xu (2^nm.length) nm) r (min (k:Int) (b9 r:Int),WY W (zd ls nm) r k)).2.map (λx=>bt x c)=WY W (zd ls nm) r (k+1):=by
 have D:∀w∈r,C5 nm _ w:=λw h=>by
  rcases hw w h with(z|z|⟨z,rfl,F,_,I⟩)|z
  .exact .inl (.inl z)
  .exact .inl (.inr (.inl z))
  .exact .inl (.inr (.inr ⟨z,U,F,CF h F,I⟩))
  .exact .inr z
 obtain⟨e1,e2⟩:=wL (Zov W _ r k) c r;have B:∀y∈nm,bt _ c=bt _ k:=λy L=>by
  obtain⟨i,hi⟩:=pC.mp L;rw[SU q hi C,QN q hi O]
 rw[yE B r,PX (pl:=(min (k:Int) (b9 r)).toNat) G Vc J _ r D T ⟨[],(dW _).symm⟩]at e1 e2;exact⟨e1,e2⟩
theorem Zg4{nm:Ai}{ls:Aj}{W:Nat}{o:Int}{L:V}{l:List (Int×Ak)}(G:nm.Nodup)(Ua:∀y∈nm,y∉Z6)(hw:∀w∈r,C5 nm 10 w)(he:JF r)(hW:W<=ls.length)(T:∀x∈ls,x<2^nm.length)(ho:Xq W (zd (ls.take W) nm) r=[o])
  (B:dN (eZ nm (Xu (2^nm.length) nm) r (b9 r)) (0,List.replicate (Jr r) 0) l):
  ∀k,k<W->(oN (dG (eZ nm (Xu (2^nm.length) nm) r (b9 r)) l) (l.map (lF nm (Xu (2^nm.length) nm) r v L)) 0 ls)[k]?=some (if bt o k=1 then L else v):=by
 generalize hρ:zd _ nm=ρ at *;have e0:(0,List.replicate (Jr r) 0)=(min ((0:Nat):Int) (b9 r:Int),WY W ρ r 0):=by
  rw[jm,Wx hw,show min _ (b9 r:Int)=0 by lia]
 have at_:∀k,k<W->∃c,ls[k]?=some c/\(ls.take W)[k]?=some c/\c<2^nm.length:=λk Ua=>by
  have h1:ls[k]?=some ls[k]:=aQ _;exact⟨_,h1,Vc,T _ (cY h1)⟩
 have step:∀k,k<=W->iZ (dG (eZ nm (Xu (2^nm.length) nm) r (b9 r)) l) 0 (ls.take k)=n9 l (min k (b9 r:Int),WY W ρ r k)/\(min (k:Int) (b9 r:Int),WY W ρ r k)∈l:=by
  intro k
  induction k with
  |zero=>
   intro _;rw[<-e0];exact⟨B.zero.symm,B.begin.2⟩
  |succ k O=>
   intro hk1;obtain⟨i1,i2⟩:=O Vb;obtain⟨c,Y,F,C⟩:=at_ k Vb;obtain⟨_,e2⟩:=G8 G Ua hw he (show k<W by lia) F C;rw[hρ]at e2;have Z:(eZ nm (Xu (2^nm.length) nm) r (b9 r) (min k (b9 r:Int),WY W ρ r k))[c]?=some (min ((k+1:Nat):Int) (b9 r:Int),WY W ρ r (k+1)):=by
    unfold eZ;rw[qd C,e2];congr 2;grind
   refine⟨?_,B.next i2 (cY Z)⟩;rw[aE Y,qh,i1,NX (λs hs x hx=>B.next hs hx) i2,bO,bG,Z];rfl
 intro k J;obtain⟨i1,i2⟩:=step k Vb;obtain⟨c,Y,F,C⟩:=at_ k J;obtain⟨e1,_⟩:=G8 G Ua hw he J F C;rw[hρ]at e1;have I:k<ls.length:=Vb
 have ek:ls=ls.take k++c::ls.drop (k+1):=by
  rw[show c::ls.drop (k+1)=ls.drop k by rw[Bd I];congr 1;exact(bW.mp Y).2.symm,tE]
 have go:∀(nx:List _)(ot:Az)(s:Nat)(a:Aj)(c:Nat)(D:Aj),(oN nx ot s (a++c::D))[a.length]?=some ((ot.getD (iZ nx s a) []).getD c .bN):=λnx ot s a c D=>by
  induction a generalizing s with
  |nil=>rfl
  |cons d a O=>exact O _
 have g:=go (dG (eZ nm (Xu (2^nm.length) nm) r (b9 r)) l) (l.map (lF nm (Xu (2^nm.length) nm) r v L)) 0 (ls.take k) c (ls.drop (k+1));rw[<-ek,c8,sP Vb,i1,Zoq i2]at g;rw[g];congr 1;unfold lF;rw[bO,qd C];rw[ho]at e1;generalize (C7 nm _ r _).1=q at e1 ⊢;have hq:=by
  have:=congrArg List.length e1;rw[aF]at this;exact this
 match q,hq,e1 with
 |[x],_,e1=>
  have e1:bt x c=bt o k:=Vc
  show(if bt x c=1 then L else v)=_;rw[e1]
inductive bQ(ys:Ai):A8->List Bool->Prop
 |nil:bQ ys [] []
 |sum {w:V} {r:A8} {ks:Am}:wy ys 10 w->bQ ys r (List.replicate (aP w) false++ks)->bQ ys (w::r) (false::ks)
 |mY {y:Str} {r:A8} {ks:Am}:y∈Z2->y∉ys->bQ ys r (List.replicate (xb (.str y)) false++(List.replicate (g9 (.str y)) true++ks))->bQ ys (.str y::r) (true::ks)
def qj:∀y∈Z2,aP (.str y)=xb (.str y)+g9 (.str y):=Wm
theorem bQ.facts(h:bQ ys r m):(∀w∈r,C5 ys 10 w)/\JF r/\mQ r=m.length:=by
 induction h with
 |nil=>exact⟨(λ_ h=>nomatch h),trivial,U⟩
 | @sum w q m hw _ D=>
  obtain⟨h1,h2,C⟩:=D;rw[bA,eJ]at C;refine⟨λv B=>?_,⟨(by simp_all),h2⟩,?_⟩
  .rcases bJ.mp B with rfl|B
   .exact .inl hw
   .exact h1 v B
  .show mQ q-aP w+1=m.length+1;simp_all
 | @mY y q m F G _ D=>
  obtain⟨h1,h2,C⟩:=D;rw[bA,bA,eJ,eJ]at C;have e:=qj y F;refine⟨λv B=>?_,⟨(by simp_all),h2⟩,?_⟩
  .rcases bJ.mp B with rfl|B
   .exact .inr ⟨y,U,F,G⟩
   .exact h1 v B
  .show mQ q-aP _+1=m.length+1;lia
def RlV(W:Nat):Bool->V->Int->Prop
 |false,v,x=>v=.int x/\0<=x/\x<2^W
 |true,v,x=>v=.bl (decide (bt x (W-1)=1))
inductive nT(W:Nat):Am->List V->List Int->Prop
 |nil:nT W [] [] []
 |cons {b:Bool} {bs:Am} {v:V} {vs:A8} {x:Int} {xs:Ak}:RlV W b v x->nT W bs vs xs->nT W (b::bs) (v::vs) (x::xs)
theorem nT.cut:∀{vs:A8} {xs:Ak},nT W (as++m) vs xs->nT W as (vs.take as.length) (xs.take as.length)/\nT W m (vs.drop as.length) (xs.drop as.length):=by
 induction as with
 |nil=>exactλh=>⟨.nil,h⟩
 |cons a as q=>
  intro vs xs h;cases h with
  |cons h1 h2=>
   obtain⟨r,B⟩:=q h2;exact⟨.cons h1 r,B⟩
theorem nT.ints:∀{vs:A8} {xs:Ak},nT W (List.replicate n false) vs xs->vs=xs.map V.int/\xs.length=n/\∀x∈xs,0<=x/\x<2^W:=by
 induction n with
 |zero=>
  intro vs xs h;cases h;exact⟨U,U,(λ_ h=>nomatch h)⟩
 |succ n C=>
  intro vs xs h;cases h with
  |cons h1 h2=>
   obtain⟨e1,e2,e3⟩:=C h2;obtain⟨rfl,B,r⟩:=h1;refine⟨Vc,Vc,λx q=>?_⟩;rcases bJ.mp q with rfl|q
   .exact⟨B,r⟩
   .exact e3 x q
theorem nT.Rn:∀{vs:A8} {xs:Ak},nT W (List.replicate n true) vs xs->vs=xs.map (λx=>V.bl (decide (bt x (W-1)=1)))/\xs.length=n:=by
 induction n with
 |zero=>
  intro vs xs h;cases h;exact⟨U,U⟩
 |succ n q=>
  intro vs xs h;cases h with
  |cons h1 h2=>
   obtain⟨e1,e2⟩:=q h2;cases h1;exact⟨Vc,Vc⟩
def CZ{x:Int}{W:Nat}(q:0<=x)(h1:x<2^W):lo x W=x:=Hr q h1
def MJ{x:Int}{k:Nat}(q:0<=x)(h1:x<2^(k+1)):Dm x k=sU (2^(k+1)) x:=by
 have e:=zX x k;rw[CZ q h1]at e;have b:=jI x k;unfold Dm sU;rcases YI x k with a|a<;>skip
 .lia
 .lia
def xg:∀y∈Z2,0<xb (.str y)->g9 (.str y)=0/\((y = "same" /\ xb (.str y)=2)\/(y = "under" /\ xb (.str y)=2)\/(y = "beneath" /\ xb (.str y)=2)\/(y = "sign" /\ xb (.str y)=1)\/(y = "nought" /\ xb (.str y)=1)):=Wm
def Vi:∀y∈Z2,¬0<xb (.str y)->(y = "both" /\ g9 (.str y)=2)\/(y = "either" /\ g9 (.str y)=2)\/(y = "so" /\ g9 (.str y)=2)\/(y = "never" /\ g9 (.str y)=1)\/(y = "yes" /\ g9 (.str y)=0):=Wm
def Zj6(D:1<=W){y:Str}(C:y∈Z2)(hs:0<xb (.str y)){xs:Ak}(B:xs.length=xb (.str y))(q:∀x∈xs,0<=x/\x<2^W):D5 (2^W) y xs=decide (Ck y xs (W-1)=1):=by
 obtain⟨k,rfl⟩:∃k,W=k+1:=⟨W-1,(by simp_all)⟩;obtain⟨_,h⟩:=xg y C hs;rcases h with⟨rfl,e⟩|⟨rfl,e⟩|⟨rfl,e⟩|⟨rfl,e⟩|⟨rfl,e⟩<;>skip
 .match xs,B with
  |[a,b],_=>
   have r:=q a bM;have q:=q b (b8 _ bM);show decide (a=b)=decide (1-nO a b (k+1)=1);refine z4.mpr ?_;unfold nO;rw[CZ r.1 r.2,CZ q.1 q.2];split<;>simp_all
 .match xs,B with
  |[a,b],_=>
   have r:=q a bM;have q:=q b (b8 _ bM);show decide (a<b)=decide (iG a b (k+1)=1);refine z4.mpr ?_;unfold iG;rw[CZ r.1 r.2,CZ q.1 q.2];split<;>simp_all
 .match xs,B with
  |[a,b],_=>
   have r:=q a bM;have q:=q b (b8 _ bM);show decide (sU _ a<sU _ b)=decide (rM a b k=1);refine z4.mpr ?_;unfold rM;rw[MJ r.1 r.2,MJ q.1 q.2];split<;>simp_all
 .match xs,B with
  |[a],_=>
   have r:=q a bM;show decide (sU _ a<0)=decide (bt a k=1);refine z4.mpr ?_;rw[<-MJ r.1 r.2];have b:=jI a k;unfold Dm;rcases YI a k with h|h<;>rw[h]<;>lia
 .match xs,B with
  |[a],_=>
   have r:=q a bM;show decide (a=0)=decide (1-l6 a (k+1)=1);refine z4.mpr ?_;unfold l6 iG;rw[CZ r.1 r.2,show lo 0 _=0 from Int.zero_emod _];split<;>lia
def Zj7{y:Str}(r:y∈Z2)(hs:¬0<xb (.str y)){xs:Ak}(q:xs.length=g9 (.str y)):Hj y (xs.map λx=>decide (bt x k=1))=decide (Ck y xs k=1):=by
 rcases Vi y r hs with⟨rfl,e⟩|⟨rfl,e⟩|⟨rfl,e⟩|⟨rfl,e⟩|⟨rfl,e⟩<;>skip
 .match xs,q with
  |[a,b],_=>
   show(decide _&&decide _)=decide (bt a k*bt b k=1);rcases YI a k with h|h<;>rcases YI b k with g|g<;>rw[h,g]<;>rfl
 .match xs,q with
  |[a,b],_=>
   show(decide _||decide _)=decide (1-(1-bt a k)*(1-bt b k)=1);rcases YI a k with h|h<;>rcases YI b k with g|g<;>rw[h,g]<;>rfl
 .match xs,q with
  |[a,b],_=>
   show(decide _ || !decide _)=decide (1-(1-(1-bt a k))*(1-bt b k)=1);rcases YI a k with h|h<;>rcases YI b k with g|g<;>rw[h,g]<;>rfl
 .match xs,q with
  |[a],_=>
   show(!decide _)=decide (1-bt a k=1);rcases YI a k with h|h<;>rw[h]<;>rfl
 .match xs,q with
  |[],_=>rfl
theorem vF{ys:Ai}{W:Nat}(Y:1<=W)(L:∀y∈ys,y∉Z6)(ρ:Str->Int)(h:bQ ys r m):nT W m (qL (2^W) ρ r []) (Xq W ρ r):=by
 have Z:(0:Int)<2^W:=tH Va
 induction h with
 |nil=>exact .nil
 | @sum w q m hw _ F=>
  obtain⟨C,D⟩:=F.cut;rw[eJ]at C D;obtain⟨e1,e2,_⟩:=C.ints;rw[XB];have O:∀xs,lO (2^W) ρ w xs=.int (hJ ρ w (xs.map iV)%2^W)/\∀is,mS W ρ w is=hJ ρ w is%2^W:=by
   intro xs;have T:∀y,w=.str y->y∉Z2->lO (2^W) ρ w xs=.int (hJ ρ w (xs.map iV)%2^W)/\∀is,mS W ρ w is=hJ ρ w is%2^W:=by
    rintro y rfl Ua;exact⟨aG Ua,λis=>aG Ua⟩
   rcases hw with⟨y,rfl,B,_⟩|⟨y,rfl,B,_⟩|⟨z,rfl,_⟩
   .exact T y U (JY y B)
   .exact T y U λz=>L y B (YG y z)
   .exact⟨U,λ_=>U⟩
  refine .cons ?_ D;have I:((Xq W ρ q).take (aP w) |>.map V.int).map iV=(Xq W ρ q).take (aP w):=by
   rw[bI];exact DJ (λ_=>U) _
  refine⟨?_,?_⟩
  .rw[(O _).1,e1,I,(O []).2]
  .rw[(O []).2];exact⟨by omega,l7 _ Z⟩
 | @mY y q m B hn _ F=>
  have G:=qj y B;rw[XB]
  by_cases hs:0<xb (.str y)
  .have J:=(xg y B hs).1;rw[J]at F;obtain⟨C,D⟩:=F.cut;rw[eJ]at C D;rw[J,Fp]at G;rw[<-G]at C D;obtain⟨e1,e2,e3⟩:=C.ints;refine .cons ?_ D;have I:((Xq W ρ q).take (aP (.str y)) |>.map V.int).map iV=(Xq W ρ q).take (aP (.str y)):=by
    rw[bI];exact DJ (λ_=>U) _
   show(if y∈Z2 then _ else _)=V.bl (decide (bt (if y∈Z2 then _ else _) _=1));rw[aK B,aK B,aK hs,e1,I,Zj6 Y B hs (by rw[e2,G]) e3,Ht (Hq _ _) Vb]
  .have J:xb (.str y)=0:=(by simp_all)
   rw[J,List.replicate_zero,List.nil_append]at F;obtain⟨C,D⟩:=F.cut;rw[eJ]at C D;rw[J,tN]at G;rw[<-G]at C D;obtain⟨e1,e2⟩:=C.Rn;refine .cons ?_ D;have I:((Xq W ρ q).take (aP (.str y)) |>.map λx=>V.bl (decide (bt x (W-1)=1))).map bV=((Xq W ρ q).take (aP (.str y))).map λx=>decide (bt x (W-1)=1):=by
    rw[bI];rfl
   show(if y∈Z2 then _ else _)=V.bl (decide (bt (if y∈Z2 then _ else _) _=1));rw[aK B,aK B,aG hs,e1,I,Zj7 B hs (by rw[e2,G]),Ht (Hq _ _) Vb]
def yF{W:Nat}(B:1<=W)(q:∀y∈ys,y∉Z6)(ρ:Str->Int)(h:bQ ys r [true]):∃o,Xq W ρ r=[o]/\qL (2^W) ρ r []=[.bl (decide (bt o (W-1)=1))]:=by
 have g:=vF B q ρ h;generalize qL _ ρ r []=vs at g;generalize Xq W ρ r=xs at g;cases g with
 |cons h1 h2=>
  cases h2;cases h1;exact⟨_,U,U⟩
def bQ.tail{w:V}(h:bQ ys (w::r) m):∃q,bQ ys r q:=by
 cases h with
 |sum _ h=>exact⟨_,h⟩
 |mY _ _ h=>exact⟨_,h⟩
theorem bQ.drop:∀{B:A8} {ks:Am},bQ ys B ks->∀j,∃q,bQ ys (B.drop j) q
 |[],ks,h,j=>by
  rw[List.drop_nil];exact⟨_,h⟩
 |w::r,ks,h,0=>⟨_,h⟩
 |w::r,ks,h,j+1=>by
  obtain⟨_,h'⟩:=h.tail;exact bQ.drop h' j
theorem Po(m:Int)(ρ:Str->Int):∀q:A8,(qL m ρ q []).length=mQ q
 |[]=>rfl
 |w::r=>by
  rw[XB,cQ,fX,Po m ρ r];rfl
def Dj{st:Aw}{l:A8}(h:H st=ap (v::l).reverse):H st=ap (l.reverse++[v]):=Vc
structure Yz(nm:Ai)(ws:A8):Prop where
 n3:nm.length<=3
 nd:nm.Nodup
 kp:∀y∈nm,y∉Z6
 ln:ws.length<=100
 ty:bQ nm ws [true]
 rm:Jr ws<=15
abbrev Ih(nm:Ai)(q:A8):Int×Ak->List V:=lF nm (Xu (2^nm.length) nm) q (.bl false) (.bl true)
structure Hk(nm:Ai)(ws:A8)(l:List (Int×Ak))(H:Hp)(m:Aw):Prop where
 b:dN (eY nm ws) (0,List.replicate (Jr ws) 0) l
 m:M4 H m nm 0 (dG (eY nm ws) l) (l.map (Ih nm ws))
def BZ:∀y∈Z2,(y∈allR/\1<=aP (.str y)/\(y∈Dr->2<=aP (.str y)))\/(y∈DK/\y∉allR/\aP (.str y)=DE y):=Wm
theorem Yz.wc(S:Yz nm r):∀w∈r,vq nm w:=λw h=>by
 rcases S.ty.facts.1 w h with h|⟨y,rfl,C,B⟩
 .exact Ov S.kp h
 .rcases BZ y C with⟨h1,h2,q⟩|⟨h1,h2,q⟩
  .exact .inl ⟨y,U,h1,B,h2,q⟩
  .exact .inr (.inl ⟨y,U,h1,h2,B,q⟩)
theorem Yz.iz(S:Yz nm r):∀z:Int,V.int z∈r->0<=z/\z<2^10:=λz h=>by
 rcases S.ty.facts.1 _ h with(⟨y,e,_⟩|⟨y,e,_⟩|⟨B,e,q,h1,_⟩)|⟨y,e,_⟩
 .cases e
 .cases e
 .cases e;exact⟨q,h1⟩
 .cases e
def Yz.big(S:Yz nm r):(10+1)*2^Jr r<=1000000:=by
 have:2^Jr r<=2^15:=tD Va S.rm;lia
def Yz.len(S:Yz nm r)(B:dN (eY nm r) (0,List.replicate (Jr r) 0) l):l.length<=1000000:=by
 have h:=K4 (nx:=eY nm r) (b:=(0,List.replicate _ 0)) (G7.mpr ⟨0,Vb,U,Xn.mpr ⟨eJ,λx q=>.inl (Ki q)⟩⟩) (λs hs=>vD S.wc U hs) l.length;rw[<-B.e,vA]at h;have h2:=F6 S.iz;exact cC h (cC (Ic _ Vb) S.big)
def Hk.wf{m:Aw}(S:Yz nm r)(M:Hk nm r l H m):Wf nm 0 (dG (eY nm r) l) (l.map (Ih nm r)) true:=by
 obtain⟨G,F⟩:=Zot M.b (Zor _ _ _ _);have D:∀q∈l.map (Ih nm r),∀v∈q,v=.bl false\/v=.bl true:=λq B v C=>by
  obtain⟨s,_,rfl⟩:=bB.mp B;obtain⟨c,_,rfl⟩:=bB.mp C;split
  .exact .inr U
  .exact .inl U
 refine⟨S.n3,by rw[jh];exact IY M.b.begin.2,by rw[jh];exact S.len M.b,by rw[jh,aF],G,F,λq B=>?_,λq B v C=>?_,λq B v C=>?_⟩
 .obtain⟨s,_,rfl⟩:=bB.mp B;exact Zos _ _ _ _ _ _
 .rcases D q B v C with e|e<;>rw[e]<;>exact .inl ⟨U,_,U⟩
 .rcases D q B v C with e|e<;>rw[e]
  .exact .inl U
  .exact .inr U
def Zg6{nm:Ai}{l:List (Int×Ak)}{m:Aw}{ls:Aj}{W:Nat}(S:Yz nm r)(M:Hk nm r l H m)(C:1<=W)(B:W<=ls.length)(q:∀x∈ls,x<2^nm.length):
  ∃b:Bool,qL (2^W) (zd (ls.take W) nm) r []=[.bl b]/\(oN (dG (eY nm r) l) (l.map (Ih nm r)) 0 ls)[W-1]?=some (.bl b):=by
 obtain⟨o,e1,e2⟩:=yF C S.kp _ S.ty;refine⟨_,e2,?_⟩;have f:=S.ty.facts;rw[Zg4 S.nd S.kp f.1 f.2.1 B q e1 M.b _ Vb];rcases YI o _ with z|z<;>rw[z]<;>rfl
def BU{y:Str}{is:Ak}(h:y∈Jp)(r:is.length=Y4 y)(ρ q:Str->Int):hJ ρ (.str y) is=hJ q (.str y) is:=by
 have B:=(by decide +kernel:∀y∈Jp,1<=Y4 y) y h
 match is,r with
 |[],r=>rw[<-r]at B;cases B
 |[a],_=>rfl
 |[a,b],_=>rfl
 |a::b::c::_,_=>rfl
def Di(q:List (Ak))(cs:Aj):Prop:=∀(i j:Nat)(a b:Ak),q[i]?=some a->q[j]?=some b->cs[i]?=cs[j]?->a=b
def pL(nx:Ad)(q:List (Ak)):Nat->List Nat
 |0=>WD q
 |i+1=>WD (jd nx (pL nx q i))
theorem Zj8{q:List (Ak)}{j:Nat}(h:WD (jd nx (pL nx q i))=pL nx q i)(B:i<=j):pL nx q j=pL nx q i:=by
 obtain⟨d,rfl⟩:∃d,j=i+d:=⟨j-i,Vb⟩
 induction d with
 |zero=>rfl
 |succ d r=>
  show WD (jd nx (pL nx q (i+d)))=_;rw[r Vb,h]
def jn:Ak->Nat->List Nat->List Nat
 |[],_,acc=>acc
 |c::r,i,acc=>jn r (i+1) (if c=(acc.length:Int)then acc++[i]else acc)
structure mI(R:Ad):Prop where
 ord:∀(r p t:Nat)(row:Aj),R[r]?=some row->row[p]?=some t->∀t',t'<t->t'=0\/(∃r' row',r'<r/\R[r']?=some row'/\t'∈row')\/t'∈row.take p
 reach:∀t,0<t->t<R.length->∃r row,r<t/\R[r]?=some row/\t∈row
 lt:∀row∈R,∀s∈row,s<R.length
theorem jo{b x:Nat}:∀i,x∈jJ nx b i↔x=b\/∃j,j<i/\x∈nx.getD ((jJ nx b j).getD j 0) []
 |0=>by
  constructor
  .exact λh=>.inl (cA.mp h)
  .rintro(h|⟨j,q,_⟩)
   .exact cA.mpr h
   .exact absurd q (AL _)
 |i+1=>by
  show x∈sO nx _ i↔_;unfold sO;rw[vy,jo i];constructor
  .grind
  .grind
def cS(nx:Ad)(l:Aj):Ad:=l.map λs=>(nx.getD s []).map λx=>l.idxOf x
def fJ(ot:Az)(l:Aj):Az:=l.map λs=>ot.getD s []
def G9(nx:Ad)(l:Aj):(cS nx l).length=l.length:=aF ..
def yB.nodup{b:Nat}{l:Aj}(B:yB nx b l):l.Nodup:=by
 rw[B.e];exact je nx b _
def yB.at{b:Nat}{l:Aj}(B:yB nx b l){j:Nat}(q:j<l.length):l[j]?=some ((jJ nx b j).getD j 0):=by
 have:=Bt q (B.go j q);rw[<-B.e]at this;exact this
def yB.next{b:Nat}{l:Aj}(B:yB nx b l){s x:Nat}(hi:l[i]?=some s)(r:x∈nx.getD s []):x∈l:=by
 have q:=(bW.mp hi).1;rw[B.at q]at hi;rw[B.e,jo];refine .inr ⟨i,q,?_⟩;rw[Option.some.inj hi];exact r
def yB.zero{b:Nat}{l:Aj}(B:yB nx b l):l[0]?=some b:=by
 have:b∈l:=by rw[B.e,jo];exact .inl U
 exact B.at (IY this)
def yB.pre{b:Nat}{l:Aj}(B:yB nx b l){j:Nat}(q:j<=l.length):∃r,l=jJ nx b j++r:=by
 obtain⟨r,e⟩:=ui nx b j _;rw[show j+(l.length-j)=l.length by simp_all,<-B.e]at e;exact⟨r,e⟩
def vG{b:Nat}{l:Aj}(B:yB nx b l):mI (cS nx l):=by
 have T:=B.nodup;have C:∀{r:Nat} {row:Aj},(cS nx l)[r]?=some row->∃s,l[r]?=some s/\row=(nx.getD s []).map _:=λ{r row} h=>by
  unfold cS at h;rw[bG]at h;obtain⟨s,hs,e⟩:=eA.mp h;exact⟨s,hs,e.symm⟩
 have inRow:∀{j:Nat} {x:Nat},j<l.length->x∈nx.getD _ []->∃row,(cS nx l)[j]?=some row/\l.idxOf x∈row:=λ{j x} hj O=>by
  refine⟨_,?_,oa (f:=λx=>l.idxOf x) O⟩;unfold cS;rw[bG,B.at hj];rfl
 refine⟨λr p t row Ua hp t' ht=>?_,λt h1 h2=>?_,λrow J s hs=>?_⟩
 .obtain⟨s,hs,rfl⟩:=C Ua;have F:=(bW.mp hs).1;rw[bG]at hp;obtain⟨x,O,rfl⟩:=eA.mp hp;have es:=by
   have:=B.at F;rw[hs]at this;exact(Option.some.inj this).symm
  obtain⟨q,eq⟩:=B.pre F;have eb:jJ nx b (r+1)=((nx.getD s []).drop (p+1)).foldl YK (YK (((nx.getD s []).take p).foldl YK (jJ nx b r)) x):=by
   show sO nx _ r=_;unfold sO;rw[es];have:=tE (p+1) (nx.getD s [])
   conv=>lhs;rw[<-this]
   rw[r9,aE O,r9];rfl
  obtain⟨q2,e2⟩:=JW ((nx.getD s []).drop _) _;rw[e2]at eb;rw[eb,i4]at eq;generalize hL:((nx.getD s []).take p).foldl YK _=L at *;obtain⟨q3,e3⟩:=ve L x;have D:t'<L.length:=by
   have Z:x∈YK L x:=XS.mpr (.inr U);have hlt:=nS Z;have h3:=za L x;have h4:l.idxOf x=(YK L x).idxOf x:=Vc
   lia
  have hy:l[t']?=some L[t']:=by
   rw[eq,e3,i4,iX D,aQ D]
  have I:=dZ D;have G:=Ww T hy;generalize L[t']=y at *;rw[<-hL]at I;rcases(vy _ _).mp I with h|h
  .rcases(jo r).mp h with h|⟨j,hj,h⟩
   .refine .inl ?_;rw[<-G,h];exact Ww T B.zero
   .grind(gen:=1)
  .refine .inr (.inr ?_);rw[<-nR,<-G];exact oa h
 .rw[G9]at h2;have hg:=B.go t h2;have hm:(jJ nx b t).getD t 0∈jJ nx b t:=by
   rw[bO,aQ hg];exact dZ hg
  have hi:=Ww T (B.at h2);rcases(jo t).mp hm with h|⟨j,hj,h⟩
  .rw[h,Ww T B.zero]at hi;simp_all
  .grind
 .obtain⟨r,Ua⟩:=pC.mp J;obtain⟨s',Y,rfl⟩:=C Ua;obtain⟨x,O,rfl⟩:=bB.mp hs;rw[G9];exact nS (B.next Y O)
structure Lk(cs fs:Aj):Prop where
 at_:∀c f:Nat,fs[c]?=some f->cs[f]?=some c/\∀j d:Nat,j<f->cs[j]?=some d->d<c
 lt:∀j d:Nat,cs[j]?=some d->d<fs.length
theorem Pb[DecidableEq g](ks:List g)(i d:Nat)(h:(WD ks)[i]?=some d)(c:Nat)(hc:c<d):∃j,j<i/\(WD ks)[j]?=some c:=by
 rw[zb]at h;obtain⟨k,O,rfl⟩:=eA.mp h;obtain⟨r,T⟩:=yu ks _;have e1:Z9 (ks.take (i+1))=YK (Z9 (ks.take i)) k:=by rw[aE O,yt]
 rw[e1]at T;obtain⟨q,Ua⟩:=ve (Z9 (ks.take i)) k;have C:k∈YK (Z9 (ks.take i)) k:=XS.mpr (.inr U);have I:=nS C;have Y:=za (Z9 (ks.take i)) k;have Z:(Z9 ks).idxOf k=(YK (Z9 (ks.take i)) k).idxOf k:=Vc
 have J:(Z9 ks)[c]?=some (Z9 (ks.take i))[c]:=by
  grind
 have L:(Z9 (ks.take i))[c]∈Z9 _:=dZ _;generalize (Z9 (ks.take i))[c]=y at *;obtain⟨j,B⟩:=pC.mp ((Yp _ y).mp L);rw[lI]at B;split at B
 .rename_i D;refine⟨j,D,?_⟩;rw[zb,B];obtain⟨F,G⟩:=bW.mp J;show some ((Z9 ks).idxOf y)=_;rw[<-G,List.Nodup.idxOf_getElem (X8 ks) c F]
 .cases B
theorem TX(J:WD S=S):∀(q pre acc:Aj),S=pre++q->(∀c f:Nat,acc[c]?=some f->pre[f]?=some c/\∀j d:Nat,j<f->pre[j]?=some d->d<c)->(∀j d:Nat,pre[j]?=some d->d<acc.length)->Lk S (jn (q.map λc:Nat=>(c:Int)) pre.length acc):=λq=>by
 induction q with
 |nil=>
  intro pre acc e h1 h2;rw[dW]at e;subst e;exact⟨h1,h2⟩
 |cons x r G=>
  intro pre acc e h1 h2;have Z:S[pre.length]?=some x:=by
   rw[e,dU (aN _),pM];rfl
  have T:x<=acc.length:=by
   rcases C9 acc.length x with h|h
   .obtain⟨j,I,L⟩:=Pb S pre.length x (by rw[J];exact Z) acc.length h;rw[J,e,iX I]at L;have:=h2 j _ L;lia
   .exact h
  have O:S=(pre++[x])++r:=Vc
  have Y:∀{j d:Nat},pre[j]?=some d->(pre++[x])[j]?=some d:=λ{j d} h=>by
   rw[iX (bW.mp h).1];exact h
  have D:∀{α:Type} {l:List α} {y z:α} {j:Nat},(l++[y])[j]?=some z->l[j]?=some z\/(j=l.length/\z=y):=λ{α l y z j} h=>by
   grind
  have Ua:(pre++[x]).length=pre.length+1:=bA;show Lk S (jn _ (pre.length+1) _);rw[<-Ua]
  by_cases C:x=acc.length
  .rw[aK (by rw[C])];refine G _ _ O (λc f F=>?_) λj d B=>?_
   .rcases D F with F|⟨rfl,rfl⟩
    .grind
    .refine⟨by rw[dU (aN _),pM,C];rfl,λj d I B=>?_⟩;rcases D B with B|⟨rfl,rfl⟩
     .exact h2 j d B
     .lia
   .grind(ematch:=1)
  .rw[aG Vb];refine G _ _ O (λc f F=>?_) λj d B=>?_
   .grind
   .grind
def Xp(cs:Aj):Aj:=jn (cs.map λc:Nat=>(c:Int)) 0 []
def zf(q:WD S=S):Lk S (Xp S):=TX q S [] [] U (λc f h=>by cases h) λj d h=>by cases h
theorem wN:∀(cs:Ak)(i:Nat)(acc:Aj),(jn cs i acc).length<=acc.length+cs.length
 |[],_,acc=>aN _
 |c::r,i,acc=>by
  have:=wN r (i+1) (if c=acc.length then acc++[i]else acc);show(jn r _ _).length<=_;have h2:(if c=acc.length then acc++[i]else acc).length<=acc.length+1:=by
   grind
  rw[cQ];lia
def wO(cs:Aj):(Xp cs).length<=cs.length:=by
 have:=wN (cs.map λc:Nat=>c) 0 [];unfold Xp;simpa using this
def eI(R:Ad)(cs:Aj):Ad:=(Xp cs).map λs=>(R.getD s []).map λx=>cs.getD x 0
def nX(O:Az)(cs:Aj):Az:=(Xp cs).map λs=>O.getD s []
structure pD(R:Ad)(cs:Aj):Prop where
 len:cs.length=R.length
 st:WD (jd R cs)=cs
def pD.nn(S:pD R cs):WD cs=cs:=by
 have:=zF (jd R cs);rw[S.st]at this;exact this
def pD.row(S:pD R cs){j c:Nat}(hi:cs[i]?=some c)(q:cs[j]?=some c):(R.getD i []).map (λx=>cs.getD x 0)=(R.getD j []).map λx=>cs.getD x 0:=by
 have:=congrArg Prod.snd ((vg (qe hi (aQ (by rw[<-S.len];exact(bW.mp hi).1))) (qe q (aQ (by rw[<-S.len];exact(bW.mp q).1)))).mp (by rw[S.st,hi,q]));have h2:=congrArg (List.map Int.toNat) this;simp at h2;rw[bO,bO,aQ _,aQ _];exact h2
def um{l:Aj}{x:Nat}(h:l[i]?=some x):l.getD i 0=x:=(by simp_all)
def dE{l:Aj}(h:i<l.length):l[i]?=some (l.getD i 0):=Vc
def Zj9(C:mI R)(S:pD R cs):mI (eI R cs):=by
 have F:=zf S.nn;have ll:(eI R cs).length=(Xp cs).length:=aF ..;have B:∀{c:Nat} {row:Aj},(eI R cs)[c]?=some row->∃f,(Xp cs)[c]?=some f/\row=(R.getD f []).map λx=>cs.getD x 0:=λ{c row} h=>by
  unfold eI at h;rw[bG]at h;obtain⟨s,hs,e⟩:=eA.mp h;exact⟨s,hs,e.symm⟩
 have cls:∀{j:Nat},j<R.length->∃c f,cs[j]?=some c/\(Xp cs)[c]?=some f/\(eI R cs)[c]?=some _:=λ{j} hj=>by
  obtain⟨c,G⟩:∃c,cs[j]?=some c:=⟨_,aQ (by rw[S.len];exact hj)⟩;obtain⟨f,D⟩:∃f,(Xp cs)[c]?=some f:=⟨_,aQ (F.lt j c G)⟩;refine⟨c,f,G,D,?_⟩;unfold eI;rw[bG,D];exact congrArg some (S.row (F.at_ c f D).1 G)
 have Ua:∀{f x:Nat},x∈R.getD f []->x<R.length:=λ{f x} h=>by
  rw[bO]at h;cases q:R[f]? with
  |none=>rw[q]at h;cases h
  |some row=>rw[q]at h;exact C.lt row (cY q) x h
 have O:=λ{x} h=>by
  exact F.lt x _ (dE (by rw[S.len];exact h))
 have z0:0<R.length->cs.getD 0 0=0:=λh=>by
  obtain⟨c,f,G,D,_⟩:=cls h;obtain⟨Z,L⟩:∃Z,(Xp cs)[0]?=some Z:=⟨_,aQ (by have:=F.lt 0 c G;lia)⟩;have h0:=F.at_ 0 Z L
  by_cases e:Z=0
  .rw[e]at h0;exact um h0.1
  .have:=h0.2 0 c Vb G;lia
 refine⟨λc p t row hr hp t' ht=>?_,λt h1 h2=>?_,λrow T s hs=>?_⟩
 .obtain⟨f,D,rfl⟩:=B hr;obtain⟨g1,g2⟩:=F.at_ c f D;have J:f<R.length:=by rw[<-S.len];exact(bW.mp g1).1
  rw[bG]at hp;obtain⟨x,hx,rfl⟩:=eA.mp hp;have Y:=Ua (cY hx);have htl:=O Y;obtain⟨I,hf'⟩:∃I,(Xp cs)[t']?=some I:=⟨_,aQ Vb⟩;obtain⟨k1,k2⟩:=F.at_ t' I hf';have hcx:=dE (by rw[S.len];exact Y);have hfx:I<x:=by
   rcases Nat.lt_trichotomy I x with h|h|h
   .exact h
   .lia
   .have:=k2 x _ h hcx;lia
  rcases C.ord f p x _ (Qk J) hx I hfx with h|⟨r',row',h3,h4,h5⟩|h
  .grind
  .grind
  .refine .inr (.inr ?_);rw[<-nR];exact bB.mpr ⟨I,h,um k1⟩
 .rw[ll]at h2;obtain⟨f,D⟩:∃f,(Xp cs)[t]?=some f:=⟨_,aQ h2⟩;obtain⟨g1,g2⟩:=F.at_ t f D;have J:f<R.length:=by rw[<-S.len];exact(bW.mp g1).1
  have L:0<f:=by
   grind
  obtain⟨r,row,h3,h4,h5⟩:=C.reach f L J;obtain⟨c',f2,q1,q2,q3⟩:=cls (j:=r) Vb;refine⟨c',_,g2 r c' h3 q1,q3,?_⟩;rw[bO,h4];exact bB.mpr ⟨f,h5,um g1⟩
 .obtain⟨c,G⟩:=pC.mp T;obtain⟨f,D,rfl⟩:=B G;obtain⟨x,hx,rfl⟩:=bB.mp hs;rw[ll];exact O (Ua hx)
def G6.cB{p:Aw}{q:Az}(R:G6 H p q)(e:∀b xs,H b=am xs->H' b=am xs):G6 H' p q:=by
 obtain⟨as,h1,h2,D⟩:=R;refine⟨as,e _ _ h1,h2,λi r hi=>?_⟩;obtain⟨a,C,B⟩:=D i r hi;exact⟨a,C,e _ _ B⟩
def M4.cB{m:Aw}{nm:Ai}{b:Nat}{nx:Ad}{ot:Az}(M:M4 H m nm b nx ot)(e:∀b xs,H b=am xs->H' b=am xs):M4 H' m nm b nx ot:=by
 refine ω M.ex (ε3 λpn ps B=>θ3 λh1 h2 r q=>?_);exact⟨ι3 pn ps B ⟨e _ _ h1,e _ _ h2,r.cB e,q.cB e⟩⟩
def UQ{o:HO}(r:aY D H a=none)(B:∀c∈D,aA (aY D H) a o c=none):Z8 H (WT D H (aA (aY D H) a o))/\WT D H (aA (aY D H) a o) a=some o:=by
 have m:a∉D:=λm=>by
  have:=B a m;rw[Zb]at this;cases this
 refine⟨λb u e=>?_,by rw[Yu m];exact Zb⟩
 by_cases q:b∈D
 .rw[J3 q];exact e
 .rw[ZJ m]at r;rw[Yu q,Zk (Zo e r),ZJ q];exact e
def oS(ot:Az):List (Ak):=ot.map λr=>r.map λv=>(vB v).getD 0
def Zo0(h:∀r∈ot,∀v∈r,∃x,vB v=some x):ot.map (λr=>r.map vB)=(oS ot).map (λk=>k.map some):=by
 unfold oS;rw[bI];refine fE λr q=>?_;show _=(r.map _).map some;rw[bI];refine fE λv B=>?_;obtain⟨x,e⟩:=h r q v B;show vB v=some ((vB v).getD 0);rw[e]
 rfl
def yB.lt{b:Nat}{l:Aj}(B:yB nx b l)(q:b<nx.length)(r:∀row∈nx,∀s∈row,s<nx.length){s:Nat}(h:s∈l):s<nx.length:=by
 rw[B.e]at h;exact Ly q r _ s h
def yB.len{b:Nat}{l:Aj}(B:yB nx b l)(r:b<nx.length)(C:∀row∈nx,∀s∈row,s<nx.length):l.length<=nx.length:=by
 have:=(by
    have:=Xe (je nx b _) λx q=>e8.mpr (Ly r C l.length x q);rw[dY]at this;exact this)
 rw[<-B.e]at this;exact this
def Nj{b:Nat}{nx:Ad}{ot:Az}{l:Aj}(W:Wf nm b nx ot j)(B:yB nx b l):Wf nm 0 (cS nx l) (fJ ot l) j:=by
 have D:∀s∈l,s<nx.length:=λs h=>B.lt W.b W.nl h;have C:∀r∈fJ ot l,r∈ot:=λr h=>by
  obtain⟨s,hs,rfl⟩:=bB.mp h;exact aO (by rw[W.ol];exact D s hs)
 refine⟨W.n3,?_,?_,?_,λr q=>?_,(vG B).lt,λr q=>W.or r (C r q),λr q=>W.ok r (C r q),λr q=>W.bit r (C r q)⟩
 .rw[G9];exact(bW.mp B.zero).1
 .rw[G9];exact cC (B.len W.b W.nl) W.le
 .rw[G9];exact aF ..
 .obtain⟨s,hs,rfl⟩:=bB.mp q;rw[aF];exact W.nr _ (aO (D s hs))
def DU{O:Az}{cs:Aj}(W:Wf nm 0 R O j)(C:mI R)(S:pD R cs):Wf nm 0 (eI R cs) (nX O cs) j:=by
 have F:=zf S.nn;have G:∀f∈Xp cs,f<R.length:=λf h=>by
  obtain⟨c,I⟩:=pC.mp h;rw[<-S.len];exact(bW.mp (F.at_ c f I).1).1
 have D:∀r∈nX O cs,r∈O:=λr h=>by
  obtain⟨s,hs,rfl⟩:=bB.mp h;exact aO (by rw[W.ol];exact G s hs)
 have B:(eI R cs).length=(Xp cs).length:=aF ..;refine⟨W.n3,?_,?_,?_,λr q=>?_,(Zj9 C S).lt,λr q=>W.or r (D r q),λr q=>W.ok r (D r q),λr q=>W.bit r (D r q)⟩
 .rw[B];exact Ek (cM _) (F.lt 0 _ (dE (by rw[S.len];exact W.b)))
 .rw[B];have:=wO cs;have h2:=W.le;rw[S.len]at this;lia
 .rw[B];exact aF ..
 .obtain⟨s,hs,rfl⟩:=bB.mp q;rw[aF];exact W.nr _ (aO (G s hs))
theorem Zo1{b:Nat}{nx:Ad}{ot:Az}(W:Wf nm b nx ot j):ot.map (λr=>r.map vB)=(oS ot).map (λk=>k.map some):=Zo0 λr B v q=>by
 rcases W.bit r B v q with h|h
 .exact⟨_,h⟩
 .exact⟨_,h⟩
def Vg(cs:Aj)(s:Nat):(cs.map λc:Nat=>(c:Int)).getD s 0=((cs.getD s 0:Nat):Int):=Vc
structure IC(nx nx':Ad)(ot ot':Az)(b b':Nat)(A:Nat->Nat->Prop):Prop where
 b:A b b'
 lt:∀s c,A s c->s<nx.length/\c<nx'.length
 fn:∀s c c':Nat,A s c->A s c'->c=c'
 out:∀s c,A s c->ot'.getD c []=ot.getD s []
 next:∀s c p x y:Nat,A s c->(nx.getD s [])[p]?=some x->(nx'.getD c [])[p]?=some y->A x y
def BH{r:V}(h:yA j v)(h':yA j r)(e:(vB v).getD 0=(vB r).getD 0):v=r:=by
 rcases h with⟨B,x,rfl⟩|⟨B,x,rfl⟩<;>rcases h' with⟨q,y,rfl⟩|⟨q,y,rfl⟩
 .cases x<;>cases y
  .rfl
  .cases e
  .cases e
  .rfl
 .rw[B]at q;cases q
 .rw[B]at q;cases q
 .have e:x=y:=e;rw[e]
theorem Qm{C:Bool}:∀{r q:A8},(∀v∈r,yA C v)->(∀v∈q,yA C v)->r.map (λv=>(vB v).getD 0)=q.map (λv=>(vB v).getD 0)->r=q
 |[],[],_,_,_=>rfl
 |[],_::_,_,_,e=>by cases e
 |_::_,[],_,_,e=>by cases e
 |v::r,D::q,h,h',e=>by
  injection e with e1 e2;rw[BH (h v bM) (h' D bM) e1,Qm (λv B=>h v (b8 _ B)) (λv B=>h' v (b8 _ B)) e2]
def Al(l cs:Aj)(s c:Nat):Prop:=∃i:Nat,l[i]?=some s/\cs[i]?=some c
def ED{nm:Ai}{b:Nat}{nx:Ad}{ot:Az}{tr:Bool}{l cs:Aj}(W:Wf nm b nx ot tr)(B:yB nx b l)(S:pD (cS nx l) cs)(hc:Di (oS (fJ ot l)) cs):IC nx (eI (cS nx l) cs) ot (nX (fJ ot l) cs) b 0 (Al l cs):=by
 have F:=zf S.nn;have Y:=B.nodup;have q:cs.length=l.length:=by rw[S.len,G9]
 have C:∀{s c:Nat},Al l cs s c->∃i f,l[i]?=some s/\cs[i]?=some c/\(Xp cs)[c]?=some f/\cs[f]?=some c:=λ{s c} h=>by
  obtain⟨i,h1,h2⟩:=h;obtain⟨f,T⟩:∃f,(Xp cs)[c]?=some f:=⟨_,aQ (F.lt i c h2)⟩;exact⟨i,f,h1,h2,T,(F.at_ c f T).1⟩
 refine⟨⟨0,B.zero,?_⟩,λs c h=>?_,λs c c' h h'=>?_,λs c h=>?_,λs c p x y h Ua O=>?_⟩
 .have h0:=dE (by rw[q];exact(bW.mp B.zero).1);rw[h0];rcases Nat.eq_zero_or_pos (cs.getD 0 0)with h|h
  .rw[h]
  .obtain⟨j,hj,_⟩:=Pb cs 0 _ (by rw[S.nn];exact h0) 0 h;exact absurd hj (AL _)
 .obtain⟨i,f,h1,h2,G,_⟩:=C h;refine⟨B.lt W.b W.nl (cY h1),?_⟩;show c<((Xp cs).map _).length;rw[aF];exact(bW.mp G).1
 .obtain⟨i,h1,h2⟩:=h;obtain⟨i',L,D⟩:=h';have e2:=Ww Y L;rw[<-Ww Y h1]at h2;rw[<-e2,h2]at D;exact Option.some.inj D
 .obtain⟨i,f,h1,h2,G,I⟩:=C h;have J:f<l.length:=by rw[<-q];exact(bW.mp I).1
  have g:∀{j s':Nat},l[j]?=some s'->(oS (fJ ot l))[j]?=some _:=λ{j s'} e=>by
   unfold oS fJ;rw[bI,bG,e];rfl
  obtain⟨s',r⟩:∃s',l[f]?=some s':=⟨_,aQ J⟩;have e:=hc f i _ _ (g r) (g h1) (by rw[I,h2]);have Z:∀{s:Nat},s∈l->∀v∈ot.getD s [],yA tr v:=λ{s} h=>W.ok _ (aO (by rw[W.ol];exact B.lt W.b W.nl h));have e2:=Qm (Z (cY r)) (Z (cY h1)) e;unfold nX fJ;rw[bO,bG,G];show(l.map _).getD f []=_;rw[bO,bG,r];exact e2
 .obtain⟨i,f,h1,h2,G,I⟩:=C h;have er:(eI (cS nx l) cs).getD c []=((cS nx l).getD f []).map λx=>cs.getD x 0:=by
   unfold eI;rw[bO,bG,G];rfl
  have ei:(cS nx l).getD i []=(nx.getD s []).map λx=>l.idxOf x:=by
   unfold cS;rw[bO,bG,h1];rfl
  rw[er,S.row I h2,ei,bI,bG,Ua]at O;have hm:=B.next h1 (cY Ua);refine⟨l.idxOf x,Vc,?_⟩;rw[<-O];exact dE (by rw[q];exact nS hm)
structure MA(nx nx':Ad)(ot ot':Az)(b b':Nat)(A:Nat->Nat->Prop):Prop where
 b:A b b'
 lt:∀s c,A s c->s<nx.length/\c<nx'.length
 out:∀s c,A s c->ot'.getD c []=ot.getD s []
 next:∀s c p x y:Nat,A s c->(nx.getD s [])[p]?=some x->(nx'.getD c [])[p]?=some y->A x y
def IC.MM{nx r:Ad}{ot q:Az}{b b':Nat}{A:Nat->Nat->Prop}(R:IC nx r ot q b b' A):MA nx r ot q b b' A:=⟨R.b,R.lt,R.out,R.next⟩
structure AU(nm:Ai)(b:Nat)(nx:Ad)(ot:Az)(tr:Bool)(l cs:Aj):Prop where
 W:Wf nm b nx ot tr
 B:yB nx b l
 e:cs=pL (cS nx l) (oS (fJ ot l)) l.length
 S:pD (cS nx l) cs
 C:Di (oS (fJ ot l)) cs
def AU.al{nm:Ai}{b:Nat}{nx:Ad}{ot:Az}{l cs:Aj}(L:AU nm b nx ot j l cs):IC nx (eI (cS nx l) cs) ot (nX (fJ ot l) cs) b 0 (Al l cs):=ED L.W L.B L.S L.C
def AU.W2{nm:Ai}{b:Nat}{nx:Ad}{ot:Az}{l cs:Aj}(L:AU nm b nx ot j l cs):Wf nm 0 (eI (cS nx l) cs) (nX (fJ ot l) cs) j:=DU (Nj L.W L.B) (vG L.B) L.S
def Wf.row{b:Nat}{nx:Ad}{ot:Az}(W:Wf nm b nx ot j){s:Nat}(h:s<nx.length):(nx.getD s []).length=2^nm.length:=W.nr _ (aO h)
theorem Vl{b:Nat}{l:Aj}(B:dN (λs=>nx.getD s []) b l):yB nx b l:=by
 have e:∀i,i<=l.length->jJ nx b i=bE (λs=>nx.getD s []) b i:=by
  intro i
  induction i with
  |zero=>exactλ_=>U
  |succ i q=>
   intro h;obtain⟨s,hs⟩:∃s,(bE _ b i)[i]?=some s:=⟨_,aQ (B.go i Vb)⟩;show sO nx _ i=_;rw[q Vb,vz hs];unfold sO;have:(bE (λs=>nx.getD s []) b i).getD i 0=s:=(by simp_all)
   rw[this]
 exact⟨by rw[e _ (aN _)];exact B.e,λi hi=>by rw[e i Vb];exact B.go i hi⟩
theorem K0{n:Nat}(R:Runs nx ot n):∀{ls:Aj} {s:Nat},s<nx.length->(∀x∈ls,x<2^n)->iZ nx s ls<nx.length
 |[],s,h,_=>h
 |c::ls,s,h,q=>by
  have B:=q c bM;have C:=R.nr _ (aO h);exact K0 (ls:=ls) R (R.nl _ (aO h) _ (cY (cJ Vb))) λx r=>q x (b8 _ r)
theorem Q0{nx q:Ad}{ot B:Az}{b b' n:Nat}{A:Nat->Nat->Prop}(M:MA nx q ot B b b' A)(D:∀r∈nx,r.length=2^n)(C:∀r∈q,r.length=2^n):∀{ls:Aj} {s s':Nat},A s s'->(∀x∈ls,x<2^n)->oN nx ot s ls=oN q B s' ls
 |[],_,_,_,_=>rfl
 |c::ls,s,s',h,F=>by
  have L:=F c bM;obtain⟨G,J⟩:=M.lt s s' h;have O:=D _ (aO G);have l2:=C _ (aO J);show _::_=_::_;rw[M.out s s' h,Q0 M D C (M.next s s' c _ _ h (cJ Vb) (cJ Vb)) λx I=>F x (b8 _ I)]
def GA(n:Nat)(f:Nat->Nat):Nat:=((List.range n).map f).sum
def YL(n:Nat)(f:Nat->Nat):GA (n+1) f=GA n f+f n:=by
 unfold GA;rw[tM,b0,List.sum_append,List.map_singleton,List.sum_singleton]
def Xf{f g:Nat->Nat}(h:∀i,i<n->f i=g i):GA n f=GA n g:=by
 unfold GA;rw[fE λi hi=>h i (e8.mp hi)]
theorem jq(n:Nat)(f g:Nat->Nat):GA n (λi=>f i+g i)=GA n f+GA n g:=by
 induction n with
 |zero=>rfl
 |succ n q=>rw[YL,YL,YL];lia
theorem Uy(n:Nat):GA n (λ_=>0)=0:=by
 induction n with
 |zero=>rfl
 |succ n q=>rw[YL,q]
theorem wQ(n m:Nat)(f:Nat->Nat->Nat):GA n (λi=>GA m (f i))=GA m λj=>GA n λi=>f i j:=by
 induction n with
 |zero=>exact(Uy m).symm
 |succ n q=>
  rw[YL,q,<-jq];exact Xf λj _=>(YL n _).symm
theorem Rx(a b:Nat)(f:Nat->Nat):GA (a+b) f=GA a f+GA b λi=>f (a+i):=by
 induction b with
 |zero=>rfl
 |succ b q=>rw[<-Dz,YL,YL,q,Dz]
def SQ(n:Nat):Nat->(Aj->Nat)->Nat
 |0,g=>g []
 |W+1,g=>SQ n W λls=>GA n λl=>g (ls++[l])
theorem vH:∀{W:Nat} {g h:Aj->Nat},(∀ls,ls.length=W->(∀x∈ls,x<n)->g ls=h ls)->SQ n W g=SQ n W h
 |0,g,h,e=>e [] U (λ_ z=>nomatch z)
 |W+1,g,h,e=>vH (W:=W) λls h1 h2=>Xf λl r=>e _ (by simp_all) λx q=>by
   grind
def eK(m:Nat):Nat->List Nat->List Nat
 |_,[]=>[]
 |l,v::vs=>(v+l%2*m)::eK m (l/2) vs
theorem Qn(m:Nat):∀(l:Nat)(vs:Aj),(eK m l vs).length=vs.length
 |_,[]=>rfl
 |l,_::vs=>congrArg Nat.succ (Qn m _ vs)
theorem vI(m w:Nat):∀(l:Nat)(vs:Aj),eK m l (vs++[w])=eK m l vs++[w+l/2^vs.length%2*m]
 |l,[]=>by show[w+l%2*m]=[w+l/2^0%2*m];rw[Nat.div_one]
 |l,v::vs=>by
  show(v+l%2*m)::eK m _ (vs++[w])=(v+l%2*m)::(eK m _ vs++[w+l/2^(vs.length+1)%2*m]);rw[vI m w _ vs,Nat.div_div_eq_div_mul,show 2*2^vs.length=2^(vs.length+1) by rw[DC,Hi]]
theorem NQ(m:Nat):∀(l c:Nat)(vs:Aj),eK m (l+2^vs.length*c) vs=eK m l vs
 |_,_,[]=>rfl
 |l,c,v::vs=>by
  have e:l+2^(vs.length+1)*c=l+2*(2^vs.length*c):=Vc
  show(v+(l+2^(vs.length+1)*c)%2*m)::eK m ((l+2^(vs.length+1)*c)/2) vs=(v+l%2*m)::eK m _ vs;rw[e,show(l+2*(2^vs.length*c))%2=l%2 by simp_all,show(l+2*(2^vs.length*c))/2=l/2+2^vs.length*c by lia,NQ m _ c vs]
theorem QQ(m:Nat):∀(k:Nat)(g:Aj->Nat),SQ m k (λvs=>GA (2^k) λl=>g (eK m l vs))=SQ (m+m) k g
 |0,g=>by show GA _ _=g [];rw[YL];exact tN _
 |k+1,g=>by
  have e:SQ m (k+1) (λvs=>GA (2^(k+1)) λl=>g (eK m l vs))=SQ m k λvs=>GA (2^k) λl=>GA (m+m) λw=>g (eK m l vs++[w]):=by
   show SQ m k _=_;refine vH λvs q _=>?_;have e1:∀w,(GA (2^(k+1)) λl=>g (eK m l _))=(GA _ λl=>g (eK m l vs++[w]))+GA _ λl=>g (eK m l vs++[m+w]):=λw=>by
    rw[DC,Nat.mul_two,Rx];congr 1
    .refine Xf λl h=>?_
     rw[vI,q,Nat.div_eq_of_lt h,FK,Fp]
    .refine Xf λl h=>?_
     have h1:=NQ m l 1 vs;rw[Nat.mul_one,q]at h1;rw[vI,q,rL _ l,h1,Nat.add_div_right _ (Nat.two_pow_pos k),Nat.div_eq_of_lt h,rL m w];rw[Nat.one_mul]
   rw[Xf λw _=>e1 w,jq,wQ,wQ m _ _,<-jq];exact Xf λl _=>(Rx m m _).symm
  rw[e];exact QQ m k λvs=>GA _ λw=>g (vs++[w])
theorem Nn:∀(k:Nat)(g:Aj->Nat),SQ 1 k g=g (List.replicate k 0)
 |0,_=>rfl
 |k+1,g=>by
  show SQ 1 k _=_;rw[Nn k,F7,YL];exact tN _
def AW(k:Nat)(ls:Aj):Aj×Nat:=ls.foldl (λp l=>(eK p.2 l p.1,p.2+p.2)) (List.replicate k 0,1)
def eV(k:Nat)(ls:Aj):Aj:=(AW k ls).1
theorem Sn(k:Nat)(ls:Aj):(AW k ls).2=2^ls.length:=by
 have go:∀(ls:Aj)(p:Aj×Nat),(ls.foldl (λp l=>(eK p.2 l p.1,p.2+p.2)) p).2=p.2*2^ls.length:=by
  intro ls
  induction ls with
  |nil=>intro p;exact(Nat.mul_one _).symm
  |cons l ls q=>
   intro p;rw[pU,q];show(p.2+p.2)*2^ls.length=p.2*2^(ls.length+1);rw[DC,<-Nat.mul_two,Nat.mul_assoc,Hi 2]
 have:=go ls (List.replicate k 0,1);rw[Nat.one_mul]at this;exact this
def Nh(k:Nat)(ls:Aj)(l:Nat):eV k (ls++[l])=eK (2^ls.length) l (eV k ls):=by
 unfold eV;rw[<-Sn k ls];unfold AW;rw[r9];rfl
theorem Zo3(k:Nat)(ls:Aj):(eV k ls).length=k:=by
 have go:∀(ls:Aj)(p:Aj×Nat),(ls.foldl (λp l=>(eK p.2 l p.1,p.2+p.2)) p).1.length=p.1.length:=by
  intro ls
  induction ls with
  |nil=>intro p;rfl
  |cons l ls q=>
   intro p;rw[pU,q];exact Qn _ _ _
 have:=go ls (List.replicate k 0,1);rw[eJ]at this;exact this
theorem uo:∀(k W:Nat)(g:Aj->Nat),SQ (2^k) W (λls=>g (eV k ls))=SQ (2^W) k g
 |k,0,g=>(Nn k g).symm
 |k,W+1,g=>by
  have e:SQ (2^k) (W+1) (λls=>g (eV k ls))=SQ (2^k) W λls=>(λvs=>GA (2^k) λl=>g (eK (2^W) l vs)) (eV k ls):=by
   refine vH λls q _=>Xf λl _=>?_;show g _=_;rw[Nh,q]
  rw[e,uo k W λvs=>GA _ λl=>g (eK _ l vs),QQ,DC,Nat.mul_two]
def cV(m:Nat):Nat->List (Aj)
 |0=>[[]]
 |k+1=>(cV m k).flatMap λvs=>(List.range m).map λw=>vs++[w]
theorem uq(m:Nat):∀(k:Nat)(g:Aj->Nat),((cV m k).map g).sum=SQ m k g
 |0,g=>Fp _
 |k+1,g=>by
  have go:∀l:List _,((l.flatMap λvs=>(List.range m).map λw=>vs++[w]).map g).sum=(l.map λvs=>GA m λw=>g (vs++[w])).sum:=by
   intro l
   induction l with
   |nil=>rfl
   |cons v l q=>
    rw[sY,b0,List.sum_append];congr 1;rw[bI];rfl
  exact(go _).trans (uq m k _)
theorem ur(m k:Nat):(cV m k).length=m^k:=by
 induction k with
 |zero=>rfl
 |succ k q=>
  have go:∀l:List _,(l.flatMap λvs=>(List.range m).map λw=>vs++[w]).length=l.length*m:=by
   intro l
   induction l with
   |nil=>exact(FK _).symm
   |cons v l q=>rw[sY,bA,q,aF,dY,cQ,D4,rL]
  show((cV m k).flatMap _).length=_;rw[go,q,DC]
theorem Rk{m k:Nat}{vs:Aj}(h:vs∈cV m k):vs.length=k/\∀x∈vs,x<m:=by
 induction k generalizing vs with
 |zero=>
  have:=cA.mp h;subst this;exact⟨U,λ_ z=>nomatch z⟩
 |succ k r=>
  obtain⟨C,h1,h2⟩:=LY.mp h;obtain⟨w,D,rfl⟩:=bB.mp h2;obtain⟨F,B⟩:=r h1;refine⟨(by simp_all),λx q=>?_⟩;rcases cT.mp q with z|z
  .exact B x z
  .simp_all
theorem Qq:∀{n:Nat} {l:Aj},l.Nodup->(∀x∈l,x<n)->l.length<=n
 |0,[],_,_=>aN _
 |0,x::_,_,h=>absurd (h x bM) (AL _)
 |n+1,l,q,h=>by
  have h1:=Qq (n:=n) (l:=l.erase n) (q.erase _) λx r=>by
   grind
  have h2:=List.length_erase (a:=n) (l:=l);split at h2<;>lia
theorem Ot(m:Nat):∀(l:Nat)(vs:Aj)(j:Nat),j<vs.length->(eK m l vs).getD j 0=vs.getD j 0+l/2^j%2*m
 |l,v::vs,0,_=>by show v+l%2*m=v+l/2^0%2*m;rw[Nat.div_one]
 |l,v::vs,j+1,h=>by
  show(eK m _ vs).getD j 0=vs.getD j 0+l/2^(j+1)%2*m;rw[Ot m _ vs j (Nat.lt_of_succ_lt_succ h),Nat.div_div_eq_div_mul,DC,Hi 2]
theorem AS{k j:Nat}(B:j<k)(ls:Aj):(((eV k ls).getD j 0:Nat):Int)=sm (λi=>bt ((ls.getD i 0:Nat):Int) j) ls.length:=by
 have go:∀q:Aj,(((eV k q.reverse).getD j 0))=sm (λi=>bt ((q.reverse.getD i 0)) j) q.reverse.length:=by
  intro q
  induction q with
  |nil=>
   show(((List.replicate k 0).getD j 0:Nat):Int)=0;rw[bO,List.getElem?_replicate];split<;>rfl
  |cons r q C=>
   rw[oE,Nh,Ot _ _ _ _ (by rw[Zo3];exact B),Ku,C,bA];show _=sm _ _+bt _ j*2^q.reverse.length;congr 1
   .exact OG λi hi=>Vc
   .rw[bO,dU (aN _),pM];rfl
 have:=go ls.reverse
 rwa [KH]at this
def nD(nm:Ai)(vs:Aj)(y:Str):Int:=((vs.getD (nm.idxOf y) 0:Nat):Int)
def GB{y:Str}(h:y∈nm)(ls:Aj):zd ls nm y=nD nm (eV nm.length ls) y:=(AS (nS h) ls).symm
def EH{ys:Ai}{m:Int}{ρ q:Str->Int}(e:∀y∈ys,ρ y=q y){w:V}(hw:wy ys 10 w){xs:A8}(C:xs.length=aP w):lO m ρ w xs=lO m q w xs:=by
 have key:hJ ρ w (xs.map iV)=hJ q w (xs.map iV):=by
  rcases hw with⟨y,rfl,r,_,B⟩|⟨y,rfl,r,_,B⟩|⟨z,rfl,_,_,_⟩
  .exact BU r Vc ρ q
  .rw[B]at C
   match xs,C with
   |[],_=>exact e y r
  .rfl
 unfold lO;split
 .rw[key]
 .rw[key]
theorem vJ{m:Int}{ρ q:Str->Int}(e:∀y∈ys,ρ y=q y){ks:Am}(h:bQ ys r ks):qL m ρ r []=qL m q r []:=by
 induction h with
 |nil=>rfl
 | @sum w B ks hw F C=>
  rw[XB,XB,C,EH e hw];have:=F.facts.2.2;rw[c8,Po,this,bA,eJ];lia
 | @mY y B ks D G _ C=>
  rw[XB,XB,C];congr 1;unfold lO;try dsimp only
  rw[aK D,aK D]
def i5(r:A8)(q:Ai):Prop:=q.Perm (Jo ((r.filter sQ).map rP))/\PyProof.Rows.sortedS q=true
def IT(q pl:Aw)(H H':Hp):Prop:=∀b o,H b=some o->b≠q->b≠pl->H' b=some o
def tY(r:A8)(q:Ai)(nx:Ad)(ot:Az):Prop:=∀(W:Nat)(ls:Aj),1<=W->ls.length=W->(∀x∈ls,x<2^q.length)->∃b:Bool,qL (2^W) (zd ls q) r []=[.bl b]/\(oN nx ot 0 ls)[W-1]?=some (.bl b)
def eM(f:Aw)(H H':Hp):Prop:=∀b o,b≠f->H b=some o->H' b=some o
def JZ{y:Str}(h:y∉Z6):aP (.str y)=0:=by
 rw[<-Zjr];show(List.replicate (G5 T1 (.inr y)+G5 T2 (.inr y)).toNat false++List.replicate (G5 T3 (.inr y)).toNat true).length=0;rw[zT λz=>h (vo.1 y z),zT λz=>h (vo.2.1 y z),zT λz=>h (vo.2.2 y z)];rfl
def jW:Ai:=["same","under","beneath","sign","nought"]
def aU(y:Str):Am:=
 if y∈(["both","either","so"]:Ai)then[true,true]else if y = "never" then[true]else if y∈(["same","under","beneath","and","or","odd","add","sub"]:Ai)then[false,false]
 else if y∈(["sign","nought","not","neg","twice","low"]:Ai)then[false]else if y = "pick" then[false,false,false]else[]
def j3:V->List Bool
 |.str y=>aU y
 |_=>[]
def ql:∀y∈Z2,aU y=List.replicate (xb (.str y)) false++List.replicate (g9 (.str y)) true:=Wm
def jr:∀y∈Jp,aU y=List.replicate (Y4 y) false/\aP (.str y)=Y4 y:=Wm
def uv:∀y∈Z6,(aU y).reverse=aU y/\(aU y).length<=3:=Wm
def Px{y:Str}(h:y∉Z6):aU y=[]:=by
 have q:∀y∈(["both","either","so"]:Ai),y∈Z6:=Wm
 have B:∀y∈(["same","under","beneath","and","or","odd","add","sub"]:Ai),y∈Z6:=Wm
 have r:∀y∈(["sign","nought","not","neg","twice","low"]:Ai),y∈Z6:=Wm
 unfold aU;rw[aG (λz=>h (q y z)),aG (λz=>h (by rw[z];decide +kernel)),aG (λz=>h (B y z)),aG (λz=>h (r y z)),aG (λz=>h (by rw[z];decide +kernel))]
def P8(w:V):(j3 w).reverse=j3 w/\(j3 w).length<=3:=by
 cases w with
 |str y=>
  by_cases h:y∈Z6
  .exact uv y h
  .show(aU y).reverse=aU y/\(aU y).length<=3;rw[Px h];exact⟨U,Va⟩
 |_=>exact⟨U,cM _⟩
def Zo4:∀y∈Z2,y∈allR->y∈jW:=Wm
def Zo5:∀y∈Jp,y∈allR->y∈zY:=Wm
def YN:∀y∈allR,y∈Z6:=Wm
theorem bQ.re(h:bQ ys r m)(F:∀y∈ys,V.str y∈r->y∈N)(I:∀y∈N,y∉Z6):bQ N r m:=by
 induction h with
 |nil=>exact .nil
 | @sum w B m hw _ D=>
  refine .sum ?_ (D λy q G=>F y q (b8 _ G));rcases hw with⟨y,rfl,h1,_,C⟩|⟨y,rfl,h1,h2,C⟩|h
  .exact .inl ⟨y,U,h1,λz=>I y z (zc y h1),C⟩
  .exact .inr (.inl ⟨y,U,F y h1 bM,h2,C⟩)
  .exact .inr (.inr h)
 | @mY y B m q _ _ D=>exact .mY q (λz=>I y z (YG y q)) (D λy q G=>F y q (b8 _ G))
def pY(y:Str)(l:Ai):Int:=if y∈l then 1 else 0
structure p9(M:Nat)(B:Int)(nm:Ai)(ws:A8)(ks:Am)(l0 l1:Int):Prop where
 ty:∀pi,bQ nm pi ks->bQ nm (ws++pi) [true]
 rm:(Jr ws:Int)+l0+l1<=B
 ln:ws.length+ks.length<=M
def qm(q:A8)(w:V):Jr (q++[w])=Jr q+if bP w (allR.map V.str)=true then 1 else 0:=by
 unfold Jr;rw[oW,bA];congr 1;rw[bU];split<;>rfl
def p9.mY{M:Nat}{B:Int}{nm:Ai}{C:A8}{ks:Am}{F G q:Int}{y:Str}(W:p9 M B nm C (true::ks) F G)(J:∀y∈nm,y∉Z6)(r:y∈Z2)(L:((aU y).length:Int)<=(M:Int)-C.length-(true::ks).length)(I:q+pY y jW=G):p9 M B nm (C++[.str y]) (aU y++ks) F q:=by
 refine⟨λpi D=>?_,?_,?_⟩
 .rw[i4];refine W.ty _ (.mY r (λz=>J y z (YG y r)) ?_);rw[ql y r,i4]at D;exact D
 .rw[qm,ZG];have:=W.rm;unfold pY at I
  by_cases h:y∈allR
  .rw[aK (Zo4 y r h)]at I;lia
  .grind
 .grind
def p9.sum{M:Nat}{B:Int}{nm:Ai}{C:A8}{ks:Am}{F T q:Int}{w:V}(W:p9 M B nm C (false::ks) F T)(L:∀y∈nm,y∉Z6)
  (hw:(∃y,w=.str y/\y∈Jp/\((aU y).length:Int)<=(M:Int)-C.length-(false::ks).length/\q+pY y zY=F)\/(∃y,w=.str y/\y∈nm/\q=F)\/∃z:Int,w=.int z/\0<=z/\z<1000/\q=F):p9 M B nm (C++[w]) (j3 w++ks) q T:=by
 have hs:=W.rm;have hl:=W.ln;rw[cQ]at hl;have go:∀{w:V},wy nm 10 w->j3 w=List.replicate _ false->∀pi,bQ nm pi (j3 w++ks)->bQ nm (C++[w]++pi) [true]:=λhw e pi J=>by
  rw[i4];rw[e]at J;exact W.ty _ (.sum hw J)
 have G:∀{w:V},(j3 w).length+C.length+ks.length+1<=M->(C++[w]).length+(j3 w++ks).length<=M:=λ{w} h=>by
  grind
 rcases hw with⟨y,rfl,r,hr,O⟩|⟨y,rfl,r,rfl⟩|⟨z,rfl,Z,z1,rfl⟩
 .have h2:=jr y r;refine⟨go (.inl ⟨y,U,r,λz=>L y z (zc y r),h2.2⟩) (by rw[h2.2];exact h2.1),?_,G (by show(aU y).length+_+_+1<=M;rw[cQ]at hr;lia)⟩;rw[qm,ZG];unfold pY at O
  by_cases h:y∈allR
  .rw[aK (Zo5 y r h)]at O;lia
  .grind
 .have D:=L y r;have Ua:∀y∈zY,y∈Z6:=Wm
  have Y:j3 (.str y)=[]:=Px D;refine⟨go (.inr (.inl ⟨y,U,r,λz=>D (Ua y z),JZ D⟩)) (by rw[JZ D,Y];rfl),?_,G Vc⟩;rw[qm,ZG,aG (λz=>D (YN y (dB z)))];omega
 .have I:aP (.int z)=0:=by
   show(List.replicate (G5 T1 (.inl z)+G5 T2 (.inl z)).toNat false++List.replicate (G5 T3 (.inl z)).toNat true).length=0;rfl
  refine⟨go (.inr (.inr ⟨z,U,Z,Vb,I⟩)) (by rw[I];rfl),?_,G (by show 0+_+_+1<=M;lia)⟩;rw[qm,uf];simp_all
def mB(nm:Ai)(vs:Aj):A0:=(nm.zip vs).map λp=>(.inr p.1,.int (p.2:Int))
def WZ(H:Hp)(p:Aw)(nm:Ai)(L:Ad):Prop:=∃ds:List Aw,H p=ap (ds.map V.ref)/\ds.length=L.length/\∀(i:Nat)(d:Aw)(v:Aj),ds[i]?=some d->L[i]?=some v->H d=some (.dK (mB nm v))
def pH:V->Bool
 |.str y=>decide (y∉Z6)
 |_=>false
def B7 {w:V} (hw:(∃y,w=.str y)\/∃z:Int,w=.int z):j3 w=if bP w ((["both","either","so"]:Ai).map V.str)=true then[true,true]else if decide (w=.str "never")=true then[true]else if bP w ((["same","under","beneath","and","or","odd","add","sub"]:Ai).map V.str)=true then[false,false]
  else if bP w ((["sign","nought","not","neg","twice","low"]:Ai).map V.str)=true then[false]else if decide (w=.str "pick")=true then[false,false,false]else[]:=by
 rcases hw with⟨y,rfl⟩|⟨z,rfl⟩
 .rw[ZG,ZG,ZG];simp;show aU y=_;unfold aU;have e:∀c,(V.str y=V.str c)=(y=c):=λc=>propext ⟨λz=>by injection z,λz=>by rw[z]⟩;simp
 .rfl
def js{l:Ai}{i:Int}(q:0<=i)(h1:i<(l.length:Int)):∃y,y∈l/\dA (l.map V.str) i=some (.str y):=by
 obtain⟨j,rfl⟩:∃j:Nat,i=j:=⟨i.toNat,Vb⟩;exact⟨l[j],dZ _,Y7 (by simp_all)⟩
def DD:Ai:=["same","same","under","under","beneath","sign","nought","nought","both","both","either","either","so","never","never","yes"]
def Vm:∀y∈DD,y∈Z2:=Wm
def uw:Ai:=["not","neg","twice","low","and","or","odd","add","sub","add","pick"]
def Zkd:∀y∈uw,y∈Jp/\(y∈(["add","sub","neg","twice","low"]:Ai)↔y∈zY):=Wm
def eM.same{f:Aw}{H H' H2:Hp}(h:eM f H H')(s:Z8 H' H2):eM f H H2:=λb o q e=>s _ _ (h b o q e)
def eM.of(s:Z8 H H'):eM f H H':=λb o _ e=>s _ _ e
def eM.put{o:HO}(s:eM f H H'):eM f H (aA H' f o):=λb u q e=>by rw[Zk q];exact s b u q e
def Zo6(nm:Ai)(vs:Aj):(mB nm vs).length<=nm.length:=by
 unfold mB;rw[aF,DL];exact Nat.min_le_left _ _
def SJ{y:Str}{vs:Aj}{w:Nat}(r:y∉nm)(C:vs.length=nm.length):bD (mB nm vs) (.inr y) (.int w)=mB (nm++[y]) (vs++[w]):=by
 unfold bD;rw[aG]
 .unfold mB;rw[List.zip_append C.symm,b0];rfl
 .intro z;obtain⟨q,h1,h2⟩:=lC.mp z;obtain⟨p,B,rfl⟩:=bB.mp h1;have:=dB h2;injection this with this;exact r (by rw[<-this];exact(BN B).1)
theorem VL(C:nm.Nodup){vs:Aj}(r:vs.length=nm.length):Ec (mB nm vs) nm (nD nm vs):=by
 have go:∀{nm:Ai} {vs:Aj},vs.length=nm.length->∀y,y∉nm->Ym (mB nm vs) (.inr y)=none:=by
  intro nm vs r y B;have:=XR (.inr y) (mB nm vs);cases e:Ym (mB nm vs) _ with
  |none=>rfl
  |some v=>
   rw[e]at this;obtain⟨q,h1,h2⟩:=lC.mp this;obtain⟨p,D,rfl⟩:=bB.mp h1;have:=dB h2;injection this with this;exact absurd (by rw[<-this];exact(BN D).1) B
 refine⟨?_,go r⟩
 induction nm generalizing vs with
 |nil=>intro y B;cases B
 |cons x nm F=>
  match vs,r with
  |v::vs,r=>
   intro y B;show Ym (((.inr x),V.int _)::mB nm vs) _=ad (((v::vs).getD _ 0))
   by_cases h:x=y
   .subst h;rw[Yo U,List.idxOf_cons_self];rfl
   .rw[ZZ (λz=>h (Sum.inr.inj z)),show(x::nm).idxOf y=nm.idxOf y+1 by rw[Ln,beq_false_of_ne h];rfl];exact F (fZ.mp C).2 (Nat.succ.inj r) y Vc
def WZ.same{p:Aw}{nm:Ai}{L:Ad}(h:WZ H p nm L)(s:Z8 H H'):WZ H' p nm L:=by
 obtain⟨ds,h1,h2,B⟩:=h;exact⟨ds,s _ _ h1,h2,λi d v q r=>s _ _ (B i d v q r)⟩
def WZ.snoc{p:Aw}{nm:Ai}{v:Aj}(h:WZ H a nm R)(keep:∀d r,H d=some (.dK r)->q d=some (.dK r))(G:∀ds:List Aw,H a=ap (ds.map V.ref)->q a=ap (ds.map V.ref++[V.ref p]))(F:q p=some (.dK (mB nm v))):WZ q a nm (R++[v]):=by
 obtain⟨ds,h1,h2,D⟩:=h;refine⟨ds++[p],Vc,(by simp_all),λi d u B C=>?_⟩
 by_cases hi:i<ds.length
 .grind
 .grind
def K6(y:Str)(q:Int):Nat->Str->Prop
 |0,z=>z=y
 |i+1,z=>∃r c,K6 y q i r/\dA oX.cps.toList ((q+7*(i:Int))%26)=some c/\z=r++⟨#[c]⟩
def AO:Ai:=["","","","a","xy","so","not","yes","add","nought"]
def Nv:∀y∈AO,∀j∈List.range 26,∀c∈(dA oX.cps.toList (j:Int)).toList,(nV (y++⟨#[c]⟩)/\y++⟨#[c]⟩∉Z6)/\∀d∈(dA oX.cps.toList (((j+7:Nat):Int)%26)).toList,nV (y++⟨#[c]⟩++⟨#[d]⟩)/\y++⟨#[c]⟩++⟨#[d]⟩∉Z6:=Wm
def Cn{y z:Str}{q:Int}(C:y∈AO)(D:n=1\/n=2)(h:K6 y q n z):BG z:=by
 obtain⟨j,J,r⟩:∃j:Nat,q%26=j/\j<26:=⟨(q%26).toNat,Vb,Vb⟩;rcases D with rfl|rfl
 .obtain⟨B,c,rfl,F,rfl⟩:=h;obtain⟨h1,_⟩:=Nv B C j (e8.mpr r) c Vc;exact⟨h1.1,h1.2⟩
 .obtain⟨I,d,⟨B,c,rfl,F,rfl⟩,G,rfl⟩:=h;obtain⟨_,h1⟩:=Nv B C j (e8.mpr r) c Vc;have:=h1 d Vc;exact⟨this.1,this.2⟩
theorem VY{wl:A0}{S:Ai}(D:wl.map (·.1)=S.map Sum.inr)(C:S.Nodup)(y:Str):∃r:Ai,(bD wl (.inr y) v).map (·.1)=r.map Sum.inr/\r.Nodup/\r.length<=S.length+1/\∀z∈r,z∈S\/z=y:=by
 unfold bD;split
 .refine⟨S,?_,C,pR _,λz h=>.inl h⟩;rw[<-D,bI];refine fE λB _=>?_;show(if B.1=Sum.inr y then(B.1,v)else B).1=B.1
  split<;>rfl
 .rename_i h;have F:y∉S:=λz=>h (lC.mpr (by
   have:(Sum.inr y)∈wl.map (·.1):=(by simp_all)
   obtain⟨q,h1,h2⟩:=bB.mp this;exact⟨q,h1,aZ h2⟩))
  refine⟨S++[y],(by simp_all),Bu.mpr ⟨C,fZ.mpr ⟨nofun,fL⟩,λa J b I e=>F Vc⟩,(by simp_all),λz G=>?_⟩;rcases cT.mp G with z|z
  .exact .inl z
  .exact .inr (cA.mp z)
def Fl(h:bQ nm r m)(B:∀y∈nm,BG y):(∀w∈r,x6 w)/\r.filter pH=r.filter sQ:=by
 have cs:∀w∈r,(∃y,w=.str y/\(y∈Z6\/y∈nm))\/∃z:Int,w=.int z:=λw hw=>by
  rcases h.facts.1 w hw with(⟨y,e,q,_⟩|⟨y,e,q,_⟩|⟨z,e,_⟩)|⟨y,e,q,_⟩
  .exact .inl ⟨y,e,.inl (zc y q)⟩
  .exact .inl ⟨y,e,.inr q⟩
  .exact .inr ⟨z,e⟩
  .exact .inl ⟨y,e,.inl (YG y q)⟩
 refine⟨λw hw=>?_,List.filter_congr λw hw=>?_⟩
 .rcases cs w hw with⟨y,rfl,q⟩|⟨z,rfl⟩
  .refine .inl ⟨y,U,?_⟩;rcases q with q|q
   .have:=(Zjp y q).1.2;lia
   .have:=(B y q).l.1.2;lia
  .exact .inr ⟨z,U⟩
 .rcases cs w hw with⟨y,rfl,q⟩|⟨z,rfl⟩
  .refine z4.mpr ⟨λh=>⟨h,?_⟩,λh=>h.1⟩;rcases q with q|q
   .exact absurd q h
   .exact(B y q).l
  .rfl
def AN{nm D:Ai}(h:bQ nm r [true])(F:∀y∈nm,BG y)(I:nm.length<=3)(J:r.length<=60)(L:Jr r<=15)(N:i5 r D):Yz D r:=by
 have q:∀y,y∈D↔V.str y∈r/\y∉Z6/\nV y:=λy=>by
  rw[N.1.mem_iff,kQ];constructor
  .intro h;obtain⟨w,hw,rfl⟩:=bB.mp h;obtain⟨h1,h2⟩:=oD.mp hw;cases w with
   |str y=>exact⟨h1,dB h2⟩
   |_=>cases h2
  .exact λh=>bB.mpr ⟨.str y,oD.mpr ⟨h.1,aZ h.2⟩,U⟩
 have G:=N.1.nodup_iff.mpr (gR _);have sub:∀y∈D,y∈nm:=λy B=>by
  obtain⟨h1,h2,_⟩:=(q y).mp B;rcases h.facts.1 _ h1 with(⟨z,e,C,_⟩|⟨z,e,C,_⟩|⟨z,e,_⟩)|⟨z,e,C,_⟩
  .cases e;exact absurd (zc y C) h2
  .cases e;exact C
  .cases e
  .cases e;exact absurd (YG y C) h2
 have kp:=λy B=>((q y).mp B).2.1;exact⟨cC (Xe G sub) I,G,kp,Vb,h.re (λy B hw=>(q y).mpr ⟨hw,(F y B).k,(F y B).l⟩) kp,Vb⟩
def rW(m:Nat)(q:Am):Am:=q.drop m++q.take m
def xG(q:Am)(m:Nat):Prop:=q.length%m=0/\rW m q=q
structure EO(rs:Am)(L:Nat):Prop where
 one:1<=L
 le:L<=rs.length
 t:xG rs L
 least:∀m,1<=m->m<L->¬xG rs m
def Pq(q:Am):rW q.length q=q:=by
 unfold rW;rw[tK,dR];rfl
def IA{q:Am}{m j:Nat}(B:m<=q.length)(r:j<q.length):(rW m q)[j]?=q[(j+m)%q.length]?:=by
 unfold rW
 by_cases h:j<q.length-m
 .rw[iX (by simp_all),Ig,nP Vb,rL]
 .rw[dU (by simp_all),fX,lI,aK Vc];congr 1;rw[Iz (by simp_all),nP Vb];grind
theorem xG.at{r:Am}{m:Nat}(h:xG r m)(G:1<=m)(F:m<=r.length):∀i,r[i%r.length]?=r[i%m]?:=by
 have step:∀j,j<r.length->r[(j+m)%r.length]?=r[j]?:=λj B=>by rw[<-IA F B,h.2]
 obtain⟨q,C⟩:∃q,r.length=m*q:=⟨r.length/m,by have:=HM r.length m;rw[h.1]at this;simp_all⟩;have go:∀k j,j<m->j+m*k<r.length->r[j+m*k]?=r[j]?:=by
  intro k
  induction k with
  |zero=>intro j _ _;rw[Nat.mul_zero,Fp]
  |succ k D=>
   intro j B I;have:=step (j+m*k) Vb;rw[nP Vb]at this;rw[Nat.mul_succ,<-Dz,this];exact D j B Vb
 intro i;have hi:i%r.length<r.length:=oI _ Vb;have e:i%r.length%m=i%m:=by
  rw[C];exact Nat.mod_mul_right_mod i m q
 have d:=HM (i%r.length) m;have:=go (i%r.length/m) (i%m) (oI _ G) Vb;rw[show i%m+m*(i%r.length/m)=i%r.length by lia]at this;exact this
def lP(tl q:Am)(i:Nat):Bool:=if i<tl.length then tl.getD i false else q.getD ((i-tl.length)%q.length) false
structure Ya(T:Nat->Bool)(tl rg:Am):Prop where
 at_:∀i,lP tl rg i=T i
 pos:1<=rg.length
 prim:∀m,1<=m->m<rg.length->¬xG rg m
 last:tl≠[]->tl.getD (tl.length-1) false≠rg.getD (rg.length-1) false
def jt(bs:Am):(bs.map V.bl).all XM=true:=mK.mpr λv q=>by obtain⟨y,_,rfl⟩:=bB.mp q;rfl
theorem vK:∀as bs:Am,gL (as.map V.bl) (bs.map V.bl)=decide (as=bs)
 |[],[]=>rfl
 |[],_::_=>rfl
 |_::_,[]=>rfl
 |a::as,b::bs=>by
  show(iR _ _&&gL _ _)=_;rw[vK as bs];have e:iR (.bl a) (.bl b)=decide (a=b):=by cases a<;>cases b<;>rfl
  rw[e,<-Bool.decide_and];exact z4.mpr Vd
def cD(z:Int)(L:Nat):Nat:=(z%(L:Int)).toNat
def yG(h:1<=L):cD z L<L:=by
 unfold cD;have:=l7 z (show(0:Int)<L by lia);lia
def Q3(i L:Nat):cD (i:Int) L=i%L:=by
 unfold cD;rw[<-BR,lJ]
def vL{j:Nat}(h:1<=L):(cD z L+j)%L=cD (z+j) L:=by
 rw[<-Q3];unfold cD;congr 1;rw[Ku,FR (lL z Vb),Int.emod_add_emod]
def dX(q:Am)(b L:Nat):Am:=(q.take L).drop b++q.take b
def xh{b:Nat}(r:b<L)(q:L<=m.length):(dX m b L).length=L:=by
 unfold dX;rw[bA,fX,c8,c8];grind
def wR{b j:Nat}(r:b<L)(B:L<=m.length)(q:j<L):(dX m b L)[j]?=m[(b+j)%L]?:=by
 unfold dX
 by_cases h:j<L-b
 .rw[iX (by simp_all),Ig,lI,aK Vb,nP Vb]
 .rw[dU (by simp_all),fX,c8,lI,aK Vc];congr 1;rw[Iz Vb,nP Vb];grind
def iT{xs ys:Am}{j:Nat}(h:xs[i]?=ys[j]?):xs.getD i false=ys.getD j false:=Vc
def VR{r:Am}{b:Nat}(R:EO r L)(I:b<L):∀m,1<=m->m<(dX r b L).length->¬xG (dX r b L) m:=λm O D J=>by
 have B:=xh I R.le;have F:=J.at O (bL D);rw[B]at D F;have T:=J.1;rw[B]at T;obtain⟨q,Ua⟩:∃q,r.length=L*q:=⟨r.length/L,by have:=HM r.length L;rw[R.t.1]at this;simp_all⟩;refine R.least m O D ⟨?_,?_⟩
 .rw[Ua];exact Nat.mod_eq_zero_of_dvd (Nat.dvd_trans (by omega) (Nat.dvd_mul_right _ _))
 .refine rK λj=>?_
  by_cases G:j<r.length
  .rw[IA (cC (bL D) R.le) G,R.t.at R.one R.le];have e1:r[j]?=r[j%L]?:=by rw[<-R.t.at R.one R.le,nP G]
   rw[e1];have C:∀i,r[i%L]?=(dX r b L)[(i+(L-b))%L]?:=λi=>by
    rw[wR I R.le (oI _ R.one)];congr 1;rw[Nat.add_mod_mod,show b+(i+(L-b))=i+L by lia,Nf]
   rw[C,C,F,F];congr 1;rw[show j+m+(L-b)=j+(L-b)+m by lia,Nf]
  .rw[pF (by unfold rW;rw[bA,fX,c8];omega),pF (by simp_all)]
def Rc{r:Am}{kp:Nat}(R:EO r L)(G:∀i,lP m r i=T i)(O:kp<=m.length)(hs:∀i,kp<=i->i<m.length->m.getD i false=r.getD (cD ((i:Int)-m.length) L) false)
  (J:1<=kp->m.getD (kp-1) false≠r.getD (cD ((kp:Int)-1-m.length) L) false):Ya T (m.take kp) (dX r (cD ((kp:Int)-m.length) L) L):=by
 have D:=yG (z:=kp-m.length) R.one;have q:=xh D R.le;have C:∀j,j<L->(dX r _ L).getD j false=r.getD (cD _ L) false:=λj F=>by
  rw[<-vL R.one];exact iT (wR D R.le F)
 have B:(m.take kp).length=kp:=by rw[c8];simp_all
 refine⟨λi=>?_,Vc,VR R D,λI=>?_⟩
 .rw[<-G i];unfold lP;rw[B,q]
  by_cases h:i<kp
  .rw[aK h,aK Vb,bO,bO,lI,aK h]
  .rw[aG h,C _ (oI _ R.one)];have e:cD (kp-m.length+((i-kp)%L:Nat)) L=cD (i-m.length) L:=by
    unfold cD;congr 1;rw[BR,Mu];congr 1;grind
   rw[e]
   by_cases h2:i<m.length
   .simp_all
   .rw[aG h2];refine iT ?_;rw[R.t.at R.one R.le,show i-m.length=((i-m.length:Nat):Int) by grind,Q3]
 .have k1:1<=kp:=by
   grind
  rw[B,q,C _ Vb];have e:cD (kp-m.length+((L-1:Nat))) L=cD (kp-1-m.length) L:=by
   unfold cD;congr 1;rw[show kp-m.length+((L-1:Nat):Int)=kp-1-m.length+L*1 by lia,M8]
  rw[e,bO,lI,aK Vb];exact J k1
def Tw(r:A8)(q:Ai)(wb:Bool)(i:Nat):Bool:=(cV (2^(i+1)) q.length).any λvs=>decide (qL (2^(i+1)) (nD q vs) r []=[.bl wb])
def N6(l:Am)(i:Nat)(h:i<l.length):(l.map λb=>!b).getD i false=!l.getD i false:=(by simp_all)
theorem Ya.not{tl D:Am}(S:Ya T tl D):Ya (λi=>!T i) (tl.map λb=>!b) (D.map λb=>!b):=by
 have F:=S.pos;have nn:∀l:Am,((l.map λb=>!b).map λb=>!b)=l:=λl=>by
  rw[bI];exact(fE λb _=>Vd).trans (CH _)
 refine⟨λi=>?_,(by simp_all),λm G B C=>?_,λr=>?_⟩
 .rw[<-S.at_ i];unfold lP;rw[aF,aF];split
  .exact N6 _ _ (by assumption)
  .exact N6 _ _ (oI _ F)
 .rw[aF]at B;refine S.prim m G B ⟨by have:=C.1;rwa [aF]at this,?_⟩;have:=congrArg (List.map λb=>!b) C.2;unfold rW at this ⊢;rw[b0,<-oM,<-nR,nn,nn]at this;rw[nn]at this;exact this
 .have q:tl≠[]:=λz=>r (by rw[z];rfl)
  have I:=List.length_pos_iff.mpr q;intro e;exact S.last q (by
   grind)
def Zkf{b:Nat}(r:b<=L)(q:L<=m.length):pT (m.map V.bl) (some (b:Int)) (some (L:Int))=((m.take L).drop b).map V.bl:=by
 unfold pT;simp only[HT.iJ];rw[aG Vb,aG Vb,aF,lJ,lJ,sP Vb,sP Vb,<-oM,<-nR,List.drop_take]
def Cf{y:Nat}(h:y∈S):bD (S.map λx:Nat=>((.inl (x:Int):aX),V.bl true)) (.inl (y:Int)) (.bl true)=S.map λx:Nat=>((.inl (x:Int):aX),V.bl true):=by
 have e:((S.map λx:Nat=>((.inl x:aX),V.bl true)).any λr=>decide (r.1=.inl _))=true:=lC.mpr ⟨_,bB.mpr ⟨y,h,U⟩,aZ U⟩;unfold bD;rw[aK e];refine(fE λr q=>?_).trans (CH _);obtain⟨x,_,rfl⟩:=bB.mp q;split<;>rfl
def Uc{y:Nat}(h:y∉S):bD (S.map λx:Nat=>((.inl (x:Int):aX),V.bl true)) (.inl (y:Int)) (.bl true)=(S++[y]).map λx:Nat=>((.inl (x:Int):aX),V.bl true):=by
 unfold bD;rw[aG,b0]
 .rfl
 .grind
def Zkg(h:B.Perm (S.map λx:Nat=>(x:Int))):∃ns:Aj,B=ns.map (λx:Nat=>(x:Int))/\ns.Perm S:=by
 refine⟨B.map Int.toNat,?_,?_⟩
 .rw[bI];refine((fE λz q=>?_).trans (CH _)).symm;obtain⟨x,_,rfl⟩:=bB.mp (h.mem_iff.mp q);rfl
 .have:=h.map Int.toNat;rw[bI]at this;exact this.trans (.of_eq ((fE λx _=>U).trans (CH _)))
def Uk{ns:Aj}(h:(ns.map λx:Nat=>(x:Int)).Pairwise (·<=·))(q:ns.Nodup):ns.Pairwise (· < ·):=by
 rw[Eg]at h;exact(h.and q).imp λ⟨a,b⟩=>Vb
def AV(nx:Ad)(n k s:Nat):Prop:=∃ls:Aj,ls.length=k/\(∀x∈ls,x<n)/\iZ nx 0 ls=s
def Wk(nx:Ad)(n k:Nat):Aj:=(List.range nx.length).filter λs=>@decide (AV nx n k s) (Classical.propDecidable _)
structure rE(nx:Ad)(n:Nat):Prop where
 row:∀s,s<nx.length->(nx.getD s []).length=n
 st:∀ls:Aj,(∀x∈ls,x<n)->iZ nx 0 ls<nx.length
def qo(ls:Aj):ls=[]\/∃(q:Aj)(c:Nat),ls=q++[c]:=by
 rcases LF ls with h|⟨q,c,h⟩
 .exact .inl h
 .grind
theorem Hy:∀{a b:Aj},a.Pairwise (· < ·)->b.Pairwise (· < ·)->(∀x,x∈a↔x∈b)->a=b
 |[],[],_,_,_=>rfl
 |[],y::b,_,_,h=>absurd ((h y).mpr bM) fG
 |x::a,[],_,_,h=>absurd ((h x).mp bM) fG
 |x::a,y::b,C,B,h=>by
  have r:=List.pairwise_cons.mp C;have q:=List.pairwise_cons.mp B;have e:x=y:=by
   rcases bJ.mp ((h x).mp bM)with z|z
   .exact z
   .rcases bJ.mp ((h y).mpr bM)with w|w
    .exact w.symm
    .grind
  subst e;refine congrArg _ (Hy r.2 q.2 λz=>⟨λD=>?_,λD=>?_⟩)
  .grind
  .grind
def Y6{k s:Nat}(M:rE nx n):s∈Wk nx n k↔AV nx n k s:=by
 unfold Wk;rw[oD,e8,@decide_eq_true_iff _ (Classical.propDecidable _)];exact⟨λh=>h.2,λh=>⟨by obtain⟨ls,_,q,rfl⟩:=h;exact M.st ls q,h⟩⟩
def Ga(nx:Ad)(n k:Nat):(Wk nx n k).Pairwise (· < ·):=List.pairwise_lt_range.filter _
def rE.succ{n k x:Nat}(M:rE nx n):AV nx n (k+1) x↔∃s,AV nx n k s/\x∈nx.getD s []:=by
 constructor
 .rintro⟨ls,q,r,rfl⟩;rcases qo ls with rfl|⟨C,c,rfl⟩
  .cases q
  .rw[bA]at q;have D:=λx B=>r x (cT.mpr (.inl B));refine⟨_,⟨C,Nat.succ.inj q,D,U⟩,?_⟩;rw[qh];exact cY (cJ (by rw[M.row _ (M.st C D)];exact r c (cT.mpr (.inr (cA.mpr U)))))
 .rintro⟨s,⟨ls,rfl,r,rfl⟩,B⟩;obtain⟨c,F⟩:=pC.mp B;have q:=(bW.mp F).1;rw[M.row _ (M.st ls r)]at q;refine⟨ls++[c],bA,λy G=>?_,?_⟩
  .grind
  .rw[qh,bO,F];rfl
theorem Zhl(M:rE nx n):Wk nx n 0=[0]:=Hy (Ga nx n 0) (List.pairwise_singleton _ _) λx=>by
 rw[Y6 M,cA];constructor
 .rintro⟨ls,q,_,rfl⟩;rw[pI q];rfl
 .rintro rfl;exact⟨[],U,(λ_ z=>nomatch z),U⟩
theorem wU(M:rE nx n)(h1:S.Pairwise (· < ·))(h2:∀x,x∈S↔∃s∈Wk nx n k,x∈nx.getD s []):S=Wk nx n (k+1):=Hy h1 (Ga nx n _) λx=>by
 rw[h2,Y6 M,M.succ];exact⟨λ⟨s,a,b⟩=>⟨s,(Y6 M).mp a,b⟩,λ⟨s,a,b⟩=>⟨s,(Y6 M).mpr a,b⟩⟩
theorem P7{n j k:Nat}(M:rE nx n)(e:Wk nx n k=Wk nx n j):∀i,Wk nx n (k+i)=Wk nx n (j+i)
 |0=>e
 |i+1=>wU (k:=j+i) M (Ga nx n _) λx=>by
  rw[Y6 M,show k+(i+1)=(k+i)+1 from U,M.succ,<-P7 M e i];exact⟨λ⟨s,a,b⟩=>⟨s,(Y6 M).mpr a,b⟩,λ⟨s,a,b⟩=>⟨s,(Y6 M).mp a,b⟩⟩
theorem ux{j k:Nat}(r:j<k)(B:∀i,T (k+i)=T (j+i))(i:Nat):lP (((List.range k).map T).take j) (((List.range k).map T).drop j) i=T i:=by
 have D:((List.range k).map T).length=k:=Vd
 have h1:(((List.range k).map T).take j).length=j:=Vc
 have h2:(((List.range k).map T).drop j).length=k-j:=Vd
 have q:∀m,m<k->((List.range k).map T)[m]?=some (T m):=λm F=>(by simp_all)
 have mW:∀m,T (j+m%(k-j))=T (j+m):=by
  intro m
  induction m using Nat.strongRecOn with
  |_ m C=>
   by_cases h:m<k-j
   .rw[nP h]
   .rw[Iz (by simp_all),C _ Vc,<-B];congr 1;lia
 unfold lP;rw[h1,h2]
 by_cases h:i<j
 .simp_all
 .have:=oI (i-j) (show 0<k-j by lia);rw[aG h,bO,Ig,q _ Vb];show T _=_;rw[mW];congr 1;simp_all
def AX{l:List g}{f:g->Nat}(h:l.Nodup)(q:∀x∈l,∀y∈l,f x=f y->x=y):(l.map f).Nodup:=Eg.mpr (h.imp_of_mem λr C B e=>B (q _ r _ C e))
theorem Lq{nx q:Ad}{ot C:Az}{b b' n:Nat}{A:Nat->Nat->Prop}(M:MA nx q ot C b b' A)(D:∀r∈nx,r.length=2^n)(B:∀r∈q,r.length=2^n):∀{ls:Aj} {s s':Nat},A s s'->(∀x∈ls,x<2^n)->A (iZ nx s ls) (iZ q s' ls)
 |[],_,_,h,_=>h
 |c::ls,s,s',h,F=>by
  have L:=F c bM;obtain⟨G,J⟩:=M.lt s s' h;have O:=D _ (aO G);have l2:=B _ (aO J);exact Lq M D B (ls:=ls) (M.next s s' c _ _ h (cJ Vb) (cJ Vb)) λx I=>F x (b8 _ I)
theorem GC{α:Type}{g:α->Nat}:∀{l:List α},0<(l.map g).sum↔∃x∈l,0<g x
 |[]=>⟨λz=>absurd z (iC 0),λ⟨_,z,_⟩=>nomatch z⟩
 |a::l=>by
  rw[fW,List.sum_cons];constructor
  .intro h;rcases Nat.eq_zero_or_pos (g a)with z|z
   .obtain⟨x,h1,h2⟩:=GC.mp (show 0<(l.map g).sum by simp_all);exact⟨x,b8 _ h1,h2⟩
   .exact⟨a,bM,z⟩
  .rintro⟨x,h1,h2⟩;rcases bJ.mp h1 with rfl|z
   .lia
   .have:=GC.mpr ⟨x,z,h2⟩;lia
theorem Qb:∀{W:Nat} {g:Aj->Nat},0<SQ n W g↔∃ls:Aj,ls.length=W/\(∀x∈ls,x<n)/\0<g ls
 |0,g=>⟨λz=>⟨[],U,(λ_ z=>nomatch z),z⟩,ε1 λls=>θ2 λh _ z=>by rw[pI h]at z;exact z⟩
 |W+1,g=>by
  show 0<SQ n W _↔_;rw[Qb];constructor
  .refine ε1 λls=>θ2 λh1 h2 r=>?_;obtain⟨c,D,B⟩:=GC.mp r;refine⟨_,Vc,λx q=>?_,B⟩;rcases cT.mp q with z|z
   .exact h2 x z
   .grind
  .rintro⟨ls,h1,h2,r⟩;rcases qo ls with rfl|⟨C,c,rfl⟩
   .cases h1
   .rw[bA]at h1;exact⟨C,Nat.succ.inj h1,λx q=>h2 x (cT.mpr (.inl q)),GC.mpr ⟨c,e8.mpr (h2 c (cT.mpr (.inr (cA.mpr U)))),r⟩⟩
theorem Qc:Tw r N wb i=true↔∃ls:Aj,ls.length=i+1/\(∀x∈ls,x<2^N.length)/\0<(if qL (2^(i+1)) (nD N (eV N.length ls)) r []=[.bl wb]then 1 else 0):=by
 have q:Tw r N wb i=true↔0<((cV (2^(i+1)) N.length).map λvs=>if qL (2^(i+1)) (nD N vs) r []=[.bl wb]then 1 else 0).sum:=by
  unfold Tw;rw[lC,GC];refine HH λvs=>and_congr_right λ_=>?_
  split<;>simp_all
 rw[q,uq,<-uo,Qb]
theorem Bb(S:Yz N r)(G:tY r N nx ot)(M:rE nx (2^N.length))(L:∀s,s<nx.length->(ot.getD s []).length=2^N.length):
  Tw r N wb i=true↔∃s∈Wk nx (2^N.length) i,V.bl wb∈ot.getD s []:=by
 have B:∀(q:Aj)(c:Nat),q.length=i->(oN nx ot 0 (q++[c]))[i+1-1]?=some _:=λq c h=>by
  rw[Oz,Nat.add_sub_cancel,dU (by rw[uk,h];exact aN _),uk,h,pM];rfl
 rw[Qc];constructor
 .refine ε1 λls=>θ2 λh1 h2 D=>?_;obtain⟨b,e1,e2⟩:=G _ ls Vb h1 h2;rw[<-vJ (λy F=>GB F ls) S.ty,e1]at D;split at D
  .rename_i C;cases C;rcases qo ls with rfl|⟨q,c,rfl⟩
   .cases h1
   .rw[bA]at h1;rw[B q c (Nat.succ.inj h1)]at e2;refine⟨_,(Y6 M).mpr ⟨q,Nat.succ.inj h1,λx I=>h2 x (cT.mpr (.inl I)),U⟩,?_⟩;rw[<-Option.some.inj e2];exact cY (cJ Vc)
  .exact absurd D (iC 0)
 .rintro⟨s,hs,T⟩;obtain⟨q,h1,h2,rfl⟩:=(Y6 M).mp hs;obtain⟨c,J⟩:=pC.mp T;have O:=(bW.mp J).1;rw[L _ (M.st q h2)]at O;have C:∀x∈q++[c],x<2^N.length:=λx I=>by
   grind
  obtain⟨b,e1,e2⟩:=G (i+1) _ Vb Vc C;rw[B q c h1,bO,J]at e2;cases e2;refine⟨_,Vc,C,?_⟩;rw[<-vJ (λy F=>GB F _) S.ty,e1,aK U];exact Nat.one_pos
def nB(S:Aj):List aX:=S.map λx:Nat=>(.inl (x:Int):aX)
def Bl(S:Aj):(nB S).map kV=S.map Jq:=by
 unfold nB;rw[bI];rfl
theorem uy:∀{a b:Aj},nB a=nB b->a=b
 |[],[],_=>rfl
 |[],_::_,h=>nomatch h
 |_::_,[],h=>nomatch h
 |x::a,y::b,h=>by
  injection h with h1 h2;rw[Int.ofNat.inj (Sum.inl.inj h1),uy h2]
def fU(nx:Ad)(n k:Nat):List (List aX×V):=(List.range k).map λi:Nat=>(nB (Wk nx n i),V.int i)
def Ug(nx:Ad)(n k:Nat):(fU nx n k).length=k:=by
 unfold fU;rw[aF,dY]
def CI(h:(Ym (fU nx n k) (nB S)).isSome=true):∃j,j<k/\Wk nx n j=S:=by
 rw[<-XR]at h;obtain⟨q,h1,h2⟩:=lC.mp h;obtain⟨j,r,rfl⟩:=bB.mp h1;exact⟨j,e8.mp r,uy (dB h2)⟩
def AA(h:(Ym (fU nx n k) (nB S)).isSome=false):∀j,j<k->Wk nx n j≠S:=by
 rw[<-XR]at h;intro j q e;have:=List.any_eq_false.mp h _ (bB.mpr ⟨j,e8.mpr q,U⟩);exact this (aZ (by rw[e]))
def SX(h:(Ym (fU nx n k) (nB (Wk nx n k))).isSome=false):bD (fU nx n k) (nB (Wk nx n k)) (.int k)=fU nx n (k+1):=by
 rw[<-XR]at h;unfold bD;rw[h];unfold fU;rw[tM,b0];rfl
def QZ{k:Nat}(B:∀i j,i<j->j<k->Wk nx n i≠Wk nx n j){j:Nat}(r:j<k):Ym (fU nx n k) (nB (Wk nx n j))=ad j:=by
 refine xX (wl:=fU nx n k) ?_ _ (bB.mpr ⟨j,e8.mpr r,U⟩);unfold fU;rw[bI];refine Eg.mpr ((List.pairwise_lt_range).imp_of_mem λD C q e=>B _ _ q (e8.mp C) (uy e))
def AB{ot:Az}{wb b:Bool}(r:∀s∈S,∀v∈ot.getD s [],∃b:Bool,v=.bl b)(h:b=true↔∃s∈S,V.bl wb∈ot.getD s []):(S.map λs=>bP (.bl wb) (ot.getD s [])).any id=b:=by
 rw[mV,h,List.any_map,lC];refine HH λs=>and_congr_right λhs=>?_;show bP _ _=true↔_;unfold bP;rw[lC]
 constructor
 .rintro⟨v,q,e⟩;obtain⟨c,rfl⟩:=r s hs v q;have:c=wb:=by cases c<;>cases wb<;>first|rfl|cases e
  rw[<-this];exact q
 .exact λq=>⟨_,q,by cases wb<;>rfl⟩
def VJ{q:Am}{s:Nat}(h1:1<=s)(h2:s<q.length)(h:q.length%s=0)(e:q=(List.replicate (q.length/s) (q.take s)).flatten):xG q s:=by
 obtain⟨m,r⟩:∃m,q.length/s=m+1:=⟨q.length/s-1,by have:=Nat.div_pos (bL h2) h1;grind⟩;rw[r]at e;refine⟨h,?_⟩;have B:q.drop s=(List.replicate m (q.take s)).flatten:=by
  grind
 unfold rW;rw[B];rw[F7,List.flatten_append]at e;rw[show[q.take s].flatten=q.take s by rw[List.flatten_cons,List.flatten_nil,dW]]at e;exact e.symm
def BA(k:Nat)(u:Am):(List.replicate k (u.map V.bl)).flatten=((List.replicate k u).flatten).map V.bl:=Vd
theorem Ya.mW{q:Am}(S:Ya T m q):∀i,m.length<=i->T (i+q.length)=T i:=λi hi=>by
 rw[<-S.at_,<-S.at_];unfold lP;rw[aG Vb,aG (by simp_all),show i+q.length-m.length=(i-m.length)+q.length by lia,Nf]
theorem vM{T:Nat->Bool}{N p:Nat}(h:∀i,N<=i->T (i+p)=T i):∀k i,N<=i->T (i+p*k)=T i
 |0,_,_=>rfl
 |k+1,i,hi=>by
  rw[Nat.mul_succ,<-Dz,h _ Vb];exact vM h k i hi
theorem Tf{T:Nat->Bool}{N:Nat}(a b:Nat):(∀i,N<=i->T (i+a)=T i)->(∀i,N<=i->T (i+b)=T i)->∀i,N<=i->T (i+Nat.gcd a b)=T i:=by
 induction a,b using Nat.gcd.induction with
 |H0 n=>
  intro _ h;rw[Nat.gcd_zero_left];exact h
 |H1 m n r q=>
  intro h1 h2;rw[Nat.gcd_rec];refine q (λi hi=>?_) h1;have e:=vM h1 (n/m) (i+n%m) Vb;rw[show i+n%m+m*(n/m)=i+n by have:=Nat.mod_add_div n m;lia,h2 i hi]at e;exact e.symm
def Ya.le{T:Nat->Bool}{B q r:Am}(S:Ya T m B)(G:Ya T q r):B.length<=r.length:=by
 have p1:=S.pos;have L:=Tf (N:=max m.length q.length) _ _ (λi hi=>S.mW i Vb) λi hi=>G.mW i Vb;have J:0<Nat.gcd _ r.length:=Nat.gcd_pos_of_pos_left _ p1;have I:Nat.gcd _ r.length∣B.length:=Nat.gcd_dvd_left _ _;have O:=Nat.le_of_dvd G.pos (Nat.gcd_dvd_right B.length _);generalize Nat.gcd _ _=g at *;rcases C9 g _ with h|h
 .exfalso;have all:∀i,m.length<=i->T (i+g)=T i:=λi hi=>by
   have:=Nat.le_mul_of_pos_left (max m.length q.length) p1;rw[<-vM S.mW _ i hi,<-vM S.mW (max m.length q.length) _ Vb,<-L _ (by lia:max _ _<=i+B.length*max m.length q.length)];congr 1;lia
  have D:∀j,B[j%B.length]?=some (T (m.length+j)):=λj=>by
   have C:=oI j p1;rw[<-S.at_];unfold lP;rw[aG Vd,Nat.add_sub_cancel_left,bO,aQ C];rfl
  refine S.prim g J h ⟨by omega,rK λj=>?_⟩
  by_cases C:j<B.length
  .have F:=D j;rw[nP C]at F;rw[IA (Nat.le_of_dvd p1 I) C,D,F,<-Dz,all _ Vd]
  .rw[pF (by unfold rW;rw[bA,fX,c8];grind),pF (by simp_all)]
 .lia
def Ya.tail{C q r:Am}(S:Ya T m C)(B:Ya T q r)(D:C.length=r.length):q.length<=m.length:=by
 rcases C9 m.length q.length with h|h
 .exfalso;have p:=B.pos;refine B.last λz=>by simp_all ?_
  have e:=S.mW (q.length-1) Vb;rw[D,<-B.at_,<-B.at_]at e;unfold lP at e;rw[aG Vb,aK Vb,show q.length-1+r.length-q.length=r.length-1 by lia,nP Vb]at e;exact e.symm
 .exact h
def Ya.one{F q r:Am}(S:Ya T m F)(C:Ya T q r):m=q/\F=r:=by
 have D:=Mq (S.le C) (C.le S);have G:=Mq (C.tail S D.symm) (S.tail C D);have B:∀{a b:Am},a.length=b.length->(∀i,i<a.length->a.getD i false=b.getD i false)->a=b:=λ{a b} I h=>rK λi=>by
  grind
 have same:∀i,lP m F i=lP q r i:=λi=>by rw[S.at_,C.at_]
 refine⟨B G λi hi=>?_,B D λi hi=>?_⟩
 .have:=same i;unfold lP at this
  rwa [aK hi,aK (by simp_all)]at this
 .have:=same (m.length+i);unfold lP at this
  rwa [aG Vb,aG (by simp_all),<-G,Nat.add_sub_cancel_left,<-D,nP hi]at this
def Pe{F B r:Aw}{G:Am}(h1:H f=am (m.map V.bl))(h2:H F=am (G.map V.bl))(I:H B=am (m.map V.bl))(J:H r=am (G.map V.bl)):
  ∀(j:Nat)(u v:V),[V.ref f,V.ref F][j]?=some u->[V.ref B,V.ref r][j]?=some v->DZ H 3 u v:=by
 have go:∀{q q':Aw} {bs:Am},H q=am (bs.map V.bl)->H q'=some _->DZ H 3 _ _:=λ{q q' bs} a b=>.inr (ι4 q q' _ _ ⟨U,U,a,b,U,λj u v C D=>.inl ⟨by
  rw[bG]at C;obtain⟨x,_,rfl⟩:=eA.mp C;rfl,Vc⟩⟩)
 intro j u v C D
 match j,C,D with
 |0,rfl,rfl=>exact go h1 I
 |1,rfl,rfl=>exact go h2 J
def vb(b:Bool)(x:Int):V:=if b=true then .bl (decide (x=1))else .int x
def iD(ks:Am)(xs:Ak):A8:=List.zipWith vb ks xs
def sT(y:Str)(h a:Int):Int×Int:=
 if y = "not" then(1-a,0)else if y = "neg" then((1-a+h)%2,(1-a+h)/2)else if y = "twice" then(h,a)else if y = "low" then(a*(1-h),if h>a then h else a)
 else if y = "sign" then(a,0)else if y = "nought" then(h*(1-a),h*(1-a))else(1-a,0)
def sW(y:Str)(h a b:Int):Int×Int:=
 if y = "and" then(if b<a then b else a,0)else if y = "or" then(if b>a then b else a,0)else if y = "odd" then((a+b)%2,0)else if y = "add" then((a+b+h)%2,(a+b+h)/2)
 else if y = "sub" then((a-b-h)%2,if decide (a-b-h<0)=true then 1 else 0)else if y = "same" then(if a=b then h else 0,if a=b then h else 0)
 else if y = "under" then(if a=b then h else if a<b then 1 else 0,if a=b then h else if a<b then 1 else 0)
 else if y = "beneath" then(if a=b then h else if a<b then 0 else 1,if a=b then h else if a<b then 1 else 0)
 else if y = "both" then(if a=1 then b else 0,0)else if y = "either" then(if a=1 then 1 else b,0)else(if b=1 then 1 else 1-a,0)
def c6(y:Str)(h:Int)(bs:Ak):Int×Int:=
 if y = "yes" then(1,0)else if y = "pick" then(if bs.getD 0 0=1 then bs.getD 1 0 else bs.getD 2 0,0)else if(aU y).length=1 then sT y h (bs.getD 0 0)else sW y h (bs.getD 0 0) (bs.getD 1 0)
def lst(ys:Ai)(β:Str->Int):A8->List Int->List Int×Ak
 |w::r,h::hs=>
  let p:=lst ys β r hs
  match w with
  |.str y=>if y∈ys then(β y::p.1,0::p.2)else((c6 y h (p.1.take (aU y).length)).1::p.1.drop (aU y).length,(c6 y h (p.1.take (aU y).length)).2::p.2)
  |_=>(h%2::p.1,h/2::p.2)
 |_,_=>([],[])
def GD(y:Str)(is:Ak)(k:Nat):Int:=
 if y = "neg" \/ y = "same" \/ y = "nought" then 1-JG y is k else if y = "twice" \/ y = "low" \/ y = "add" \/ y = "sub" \/ y = "under" \/ y = "beneath" then JG y is k else 0
def bR(ys:Ai)(W:Nat)(ρ:Str->Int):A8->Nat->List Int
 |[],_=>[]
 |w::r,k=>(match w with|.str y=>if y∈ys then 0 else GD y ((Xq W ρ r).take (aU y).length) k|.int z=>z/2^k|_=>0)::bR ys W ρ r k
def wV:V->Int
 |.str y=>if y = "neg" \/ y = "same" \/ y = "nought" then 1 else 0
 |.int z=>z
 |_=>0
def mM:Ai:=["not","neg","twice","low","and","or","odd","add","sub","pick","same","under","beneath","sign","nought","both","either","so","never","yes"]
def qp:∀y,(y∈Jp\/y∈Z2)->y∈mM:=by
 have h1:∀y∈Jp,y∈mM:=Wm
 have h2:∀y∈Z2,y∈mM:=Wm
 exactλy h=>h.elim (h1 y) (h2 y)
def FF{y:Str}(I:y∈Jp\/y∈Z2){is:Ak}(q:is.length=(aU y).length)(ρ:Str->Int){W k:Nat}(F:k<W):
  c6 y (GD y is k) (is.map λx=>bt x k)=(bt (mS W ρ (.str y) is) k,GD y is (k+1)):=by
 have hs:∀y∈Jp,(aU y).length=Y4 y:=λy h=>by rw[(jr y h).1,eJ]
 have G:y∈Z2\/(y∈Jp/\is.length=Y4 y):=by
  grind
 have C:=λx=>YI x k;have hh:=jl y is k;have e:bt (mS W ρ (.str y) is) k=if y∈allR then Bs y (is.map λx=>bt x k) (JG y is k)else jL y (is.map λx=>bt x k):=by
  by_cases D:y∈allR
  .rw[aK D,ze ρ F D G]
  .rw[aG D,wM ρ F D G]
 have e2:GD y is (k+1)=if y = "neg" \/ y = "same" \/ y = "nought" then 1-l5 y (is.map λx=>bt x k) (JG y is k)else if y = "twice" \/ y = "low" \/ y = "add" \/ y = "sub" \/ y = "under" \/ y = "beneath" then l5 y (is.map λx=>bt x k) (JG y is k)else 0:=by
  unfold GD;rw[Xo]
 rw[e,e2];unfold GD;generalize JG y is k=h at *;have r:=qp y I;have go:∀y∈mM,∀a∈([0,1]),∀b∈([0,1]),∀c∈([0,1]),∀h∈([0,1]),c6 y (if y = "neg" \/ y = "same" \/ y = "nought" then 1-h else if y = "twice" \/ y = "low" \/ y = "add" \/ y = "sub" \/ y = "under" \/ y = "beneath" then h else 0) ([a,b,c].take (aU y).length)=(if y∈allR then Bs y ([a,b,c].take (aU y).length) h else jL y ([a,b,c].take (aU y).length),if y = "neg" \/ y = "same" \/ y = "nought" then 1-l5 y ([a,b,c].take (aU y).length) h else if y = "twice" \/ y = "low" \/ y = "add" \/ y = "sub" \/ y = "under" \/ y = "beneath" then l5 y ([a,b,c].take (aU y).length) h else 0):=Wm
 have B:∀{x:Int},(x=0\/x=1)->x∈([0,1]):=λh=>(by simp_all)
 have J:=(uv y r).2
 match is,q with
 |[],q=>have e:=go y r 0 Va 0 Va 0 Va h (B hh);rw[<-q]at e;exact e
 |[a],q=>have e:=go y r _ (B (C a)) 0 Va 0 Va h (B hh);rw[<-q]at e;exact e
 |[a,b],q=>have e:=go y r _ (B (C a)) _ (B (C b)) 0 Va h (B hh);rw[<-q]at e;exact e
 |[a,b,c],q=>have e:=go y r _ (B (C a)) _ (B (C b)) _ (B (C c)) h (B hh);rw[<-q]at e;exact e
 |_::_::_::_::_,q=>simp at q;lia
def YM{x:V}(D:∀y∈ys,y∉Z6)(h:bQ ys (x::r) m):
  (∃z:Int,∃k0,x=.int z/\0<=z/\z<2^10/\m=false::k0/\bQ ys r k0)\/(∃y k0,x=.str y/\y∈ys/\m=false::k0/\bQ ys r k0)\/∃y k0,x=.str y/\y∉ys/\(y∈Jp\/y∈Z2)/\aP (.str y)=(aU y).length/\m=decide (y∈Z2)::k0/\bQ ys r (aU y++k0):=by
 cases h with
 | @sum _ _ m hw h=>
  rcases hw with⟨y,rfl,q,C,B⟩|⟨y,rfl,q,I,B⟩|⟨z,rfl,G,F,B⟩
  .refine .inr (.inr ⟨y,m,U,C,.inl q,by rw[(jr y q).1,eJ,B],by rw[bF (JY y q)],?_⟩);rw[(jr y q).1,<-B];exact h
  .simp_all
  .simp_all
 | @mY y _ m q C h=>
  refine .inr (.inr ⟨y,m,U,C,.inr q,?_,Vc,?_⟩)
  .rw[ql y q,bA,eJ,eJ,qj y q]
  .rw[ql y q,i4];exact h
noncomputable def wW{W k:Nat}(B:k<W)(q:∀y∈ys,y∉Z6)(ρ:Str->Int):∀{F:A8} {ks:Am},bQ ys F ks->
  lst ys (λy=>bt (ρ y) k) F (bR ys W ρ F k)=((Xq W ρ F).map (λx=>bt x k),bR ys W ρ F (k+1))
 |[],_,_=>rfl
 |w::r,ks,h=>by
  rcases YM q h with⟨z,k0,rfl,T,O,rfl,I⟩|⟨y,k0,rfl,C,rfl,I⟩|⟨y,k0,rfl,L,C,J,rfl,I⟩
  .have G:=wW B q ρ I;show((z/2^k)%2::(lst ys _ r _).1,(z/2^k)/2::(lst ys _ r _).2)=(bt _ k::((Xq W ρ r).drop _).map _,z/2^(k+1)::bR ys W ρ r _);rw[G];refine Dk ?_ ?_
   .show bt z k::_=bt (hJ ρ _ []%2^W) k::_;rw[x8 _ _ _ B];rfl
   .rw[C3 (D9 (qb k)),FD]
  .have G:=wW B q ρ I;have J:=JZ (q y C);show(if y∈ys then _ else _)=(bt (if y∈Z2 then _ else _) k::((Xq W ρ r).drop _).map _,(if y∈ys then _ else _)::bR ys W ρ r _);rw[aK C,aK C,aG λz=>q y C (YG y z),G,J,x8 _ _ _ B];rfl
  .have G:=wW B q ρ I;have D:((Xq W ρ r).take (aU y).length).length=(aU y).length:=by
    rw[c8,vE,<-J];exact sP h.facts.2.1.1
   show(if y∈ys then _ else _)=(bt _ k::((Xq W ρ r).drop _).map _,(if y∈ys then _ else _)::bR ys W ρ r _);rw[aG L,aG L,J];try dsimp only
   rw[G,<-nR,oM];rw[aG L,FF C D ρ B]
theorem wX(q:∀y∈ys,y∉Z6):∀{B:A8} {ks:Am},bQ ys B ks->bR ys W ρ B 0=B.map wV
 |[],_,_=>rfl
 |w::r,ks,h=>by
  have F:bR ys W ρ r 0=r.map wV:=by
   obtain⟨I,h'⟩:=h.tail;exact wX q h'
  rcases YM q h with⟨z,k0,rfl,O,J,rfl,D⟩|⟨y,k0,rfl,C,rfl,D⟩|⟨y,k0,rfl,G,C,L,rfl,D⟩
  .show z/2^0::_=z::_;rw[F,pN,mO]
  .show(if y∈ys then _ else _)::_=wV _::_;rw[aK C];congr 1;show _=if _ then _ else _;have:=q y C;rw[aG];rintro(rfl|rfl|rfl)<;>exact this Wm
  .show(if y∈ys then _ else _)::_=wV _::_;rw[aG G];congr 1;show(if _ then 1-JG y _ 0 else if _ then JG y _ 0 else 0)=if _ then 1 else 0;rw[wK]
   split
   .rfl
   .split<;>rfl
theorem qr{β q:Str->Int}(e:∀y∈ys,β y=q y):∀(C:A8)(hs:Ak),lst ys β C hs=lst ys q C hs
 |[],_=>rfl
 |_::_,[]=>rfl
 |w::r,h::hs=>by
  unfold lst;rw[qr e r hs];cases w with
  |str y=>
   by_cases B:y∈ys
   .simp[e y B]
   .simp[aG B]
  |_=>rfl
def nG(nm:Ai)(q:A8)(h:Ak)(vs:Aj):Ak:=(lst nm (nD nm vs) q h).2
def nQ(nm:Ai)(q:A8)(h:Ak)(vs:Aj):Int:=(lst nm (nD nm vs) q h).1.getD 0 0
def aV(nm:Ai)(q:A8)(ls:Aj):Ak:=ls.foldl (λh l=>nG nm q h (eV nm.length [l])) (q.map wV)
def WO(nm:Ai)(q:A8)(ls:Aj)(l:Nat):aV nm q (ls++[l])=nG nm q (aV nm q ls) (eV nm.length [l]):=by
 unfold aV;rw[r9];rfl
theorem wY(q:nm.Nodup){ls:Aj}{k c:Nat}(B:ls[k]?=some c):∀y∈nm,nD nm (eV nm.length [c]) y=bt (zd ls nm y) k:=λy r=>by
 obtain⟨i,hi⟩:=pC.mp r;rw[QN q hi B,<-GB r [c]];unfold zd;rw[Ww q hi];show 0+bt _ i*2^0=_;rw[pN,Int.mul_one,IQ];rfl
theorem yH(S:Yz nm r){ls:Aj}{W:Nat}(C:ls.length=W):∀k,k<=W->aV nm r (ls.take k)=bR nm W (zd ls nm) r k:=λk=>by
 induction k with
 |zero=>
  intro _;rw[wX S.kp S.ty];rfl
 |succ k B=>
  intro D;obtain⟨c,q⟩:∃c,ls[k]?=some c:=⟨_,aQ Vb⟩;rw[aE q,WO,B Vb];unfold nG;rw[qr (wY S.nd q),wW Vb S.kp _ S.ty]
def wZ(S:Yz nm r)(ls:Aj)(l:Nat):
  (nQ nm r (aV nm r ls) (eV nm.length [l])=0\/nQ nm r (aV nm r ls) (eV nm.length [l])=1) /\
  qL (2^(ls.length+1)) (zd (ls++[l]) nm) r []=[.bl (decide (nQ nm r (aV nm r ls) (eV nm.length [l])=1))]:=by
 have B:(ls++[l]).length=ls.length+1:=bA;obtain⟨o,e1,e2⟩:=yF (W:=ls.length+1) Vb S.kp _ S.ty;have h1:=yH S B ls.length Vb;rw[List.take_left' U]at h1;have q:(ls++[l])[ls.length]?=some l:=Vc
 have e3:nQ nm r (aV nm r ls) (eV nm.length [l])=bt o ls.length:=by
  unfold nQ;rw[h1,qr (wY S.nd q),wW (pE _) S.kp _ S.ty,e1];rfl
 rw[e3,e2];exact⟨YI _ _,U⟩
def uz(k:Nat)(g:Aj->Nat):((cV 2 k).map g).sum=GA (2^k) λl=>g (eV k [l]):=by
 rw[uq];exact(uo k 1 g).symm
abbrev HK:=Ak
def kH(h:HK):List aX:=h.map Sum.inl
def L7{a b:HK}(h:kH a=kH b):a=b:=(List.map_inj_right λ_ _ z=>Sum.inl.inj z).mp h
def F8(h:HK):(kH h).map kV=h.map V.int:=by
 unfold kH;rw[bI];rfl
def dH(f:g->V)(wl:List (HK×g)):List (List aX×V):=wl.map λq=>(kH q.1,f q.2)
theorem Mb{f:β->V}:∀{wl:List (HK×β)},(wl.map (·.1)).Nodup->∀{q:HK×β},q∈wl->Ym (dH f wl) (kH q.1)=some (f q.2)
 |p::r,B,q,h=>by
  have h':=fZ.mp B;show Ym ((kH p.1,f p.2)::dH f r) _=_;rcases bJ.mp h with rfl|h
  .exact Yo U
  .rw[ZZ λz=>h'.1 (bB.mpr ⟨q,h,(L7 z).symm⟩)];exact Mb h'.2 h
theorem NL{f:β->V}:∀{wl:List (HK×β)} {s:HK},s∉wl.map (·.1)->Ym (dH f wl) (kH s)=none
 |[],_,_=>rfl
 |p::r,s,h=>by
  show Ym ((kH p.1,f p.2)::dH f r) _=_;rw[ZZ λz=>h (bB.mpr ⟨p,bM,L7 z⟩)];exact NL λz=>h (b8 _ z)
def QM{f:g->V}{wl:List (HK×g)}{s:HK}{b:g}(h:s∉wl.map (·.1)):bD (dH f wl) (kH s) (f b)=dH f (wl++[(s,b)]):=by
 unfold bD;rw[aG]
 .unfold dH;rw[b0];rfl
 .intro z;obtain⟨q,h1,h2⟩:=lC.mp z;obtain⟨x,r,rfl⟩:=bB.mp h1;exact h (bB.mpr ⟨x,r,L7 (dB h2)⟩)
def o7 (y:Str):Bool:=decide (y∈(["never","both","either","so"]:Ai))
def HU:Ai:=["not","neg","twice","low","sign","nought","never"]
def Ke:Ai:=["and","or","odd","add","sub","same","under","beneath","both","either","so"]
def V6:∀y∈mM,y = "yes" /\ aU y=[]\/y = "pick" /\ aU y=[false,false,false]\/(y ≠ "yes" /\ y ≠ "pick" /\ y∈HU/\aU y=[o7 y])\/(y ≠ "yes" /\ y ≠ "pick" /\ y∈Ke/\aU y=[o7 y,o7 y]):=Wm
def Sl:∀y∈mM,∀h∈([0,1]:Ak),∀a∈([0,1]:Ak),∀b∈([0,1]:Ak),∀c∈([0,1]:Ak),((c6 y h ([a,b,c].take (aU y).length)).1=0\/(c6 y h ([a,b,c].take (aU y).length)).1=1)/\((c6 y h ([a,b,c].take (aU y).length)).2=0\/y∈allR/\(c6 y h ([a,b,c].take (aU y).length)).2=1):=Wm
def Tq:V->Int->Prop
 |.int _,h=>0<=h/\h<2^10
 |.str _,h=>h=0\/h=1
 |_,_=>False
inductive lM:A8->List Int->Prop
 |nil:lM [] []
 |cons {w:V} {h:Int} {r:A8} {hs:Ak}:Tq w h->lM r hs->lM (w::r) (h::hs)
theorem lM.len{hs:Ak}(h:lM r hs):hs.length=r.length:=by
 induction h with
 |nil=>rfl
 |cons _ _ q=>rw[cQ,cQ,q]
theorem lM.drop{q:A8}{hs:Ak}(h:lM q hs)(j:Nat):lM (q.drop j) (hs.drop j):=by
 induction h generalizing j with
 |nil=>rw[List.drop_nil,List.drop_nil];exact .nil
 |cons h1 h2 r=>
  cases j with
  |zero=>exact .cons h1 h2
  |succ j=>exact r j
def Wl{x:Int}(h:x=0\/x=1):x∈([0,1]:Ak):=Vc
noncomputable def XU(C:∀y∈ys,y∉Z6){β:Str->Int}(D:∀y∈ys,β y=0\/β y=1):∀{F:A8} {ks:Am} {hs:Ak},bQ ys F ks->lM F hs->
  (lst ys β F hs).1.length=ks.length/\(∀x∈(lst ys β F hs).1,x=0\/x=1)/\lM F (lst ys β F hs).2
 |[],ks,hs,h,B=>by
  cases h;cases B;exact⟨U,(λ_ z=>nomatch z),.nil⟩
 |w::r,ks,hs,h,B=>by
  cases B with
  | @cons _ x _ hs h1 h2=>
  rcases YM C h with⟨z,k0,rfl,z0,Ua,rfl,I⟩|⟨y,k0,rfl,L,rfl,I⟩|⟨y,k0,rfl,T,L,Y,rfl,I⟩
  .obtain⟨i1,i2,G⟩:=XU C D I h2;have h1:0<=x/\x<2^10:=h1;refine⟨congrArg Nat.succ i1,λv B=>?_,.cons (show 0<=x/2/\x/2<2^10 by lia) G⟩;rcases bJ.mp B with rfl|B
   .lia
   .exact i2 v B
  .obtain⟨i1,i2,G⟩:=XU C D I h2;have e:lst ys β (.str y::r) (x::hs)=(β y::(lst ys β r hs).1,0::(lst ys β r hs).2):=by
    show(if y∈ys then _ else _)=_;rw[aK L]
   rw[e];refine⟨congrArg Nat.succ i1,λv B=>?_,.cons (.inl U) G⟩;rcases bJ.mp B with rfl|B
   .exact D y L
   .exact i2 v B
  .obtain⟨i1,i2,G⟩:=XU C D I h2;have e:lst ys β (.str y::r) (x::hs)=((c6 y x ((lst ys β r hs).1.take (aU y).length)).1::(lst ys β r hs).1.drop (aU y).length,(c6 y x ((lst ys β r hs).1.take (aU y).length)).2::(lst ys β r hs).2):=by
    show(if y∈ys then _ else _)=_;rw[aG T]
   rw[bA]at i1;have O:((c6 y x ((lst ys β r hs).1.take (aU y).length)).1=0\/(c6 y x ((lst ys β r hs).1.take (aU y).length)).1=1)/\((c6 y x ((lst ys β r hs).1.take (aU y).length)).2=0\/y∈allR/\(c6 y x ((lst ys β r hs).1.take (aU y).length)).2=1):=by
    have J:=qp y L;have Z:=(uv y J).2;have tl:((lst ys β r hs).1.take (aU y).length).length=(aU y).length:=(by simp_all)
    have tb:∀v∈(lst ys β r hs).1.take (aU y).length,v=0\/v=1:=λv B=>i2 v (Ng B);have go:=Sl y J x (Wl h1);generalize (lst ys β r hs).1.take _=q at *
    match q,tl with
    |[],tl=>have g:=go 0 Va 0 Va 0 Va;rw[<-tl]at g;exact g
    |[a],tl=>have g:=go a (Wl (tb a Vd)) 0 Va 0 Va;rw[<-tl]at g;exact g
    |[a,b],tl=>have g:=go a (Wl (tb a Vd)) b (Wl (tb b Vd)) 0 Va;rw[<-tl]at g;exact g
    |[a,b,c],tl=>have g:=go a (Wl (tb a Vd)) b (Wl (tb b Vd)) c (Wl (tb c Vd));rw[<-tl]at g;exact g
    |_::_::_::_::_,tl=>simp at tl;lia
   rw[e];refine⟨?_,λv B=>?_,.cons ?_ G⟩
   .simp_all
   .grind
   .rcases O.2 with z|⟨_,z⟩
    .exact .inl z
    .exact .inr z
def Zph(h:xs.length=m.length):(iD m xs).length=m.length:=by
 unfold iD;rw[List.length_zipWith];lia
def Zkh{ys:Ai}(B:∀y∈ys,y∉Z6){β:Str->Int}(G:∀y∈ys,β y=0\/β y=1){x:V}{ks:Am}{h:Int}{hs:Ak}(O:bQ ys (x::r) ks)(L:lM (x::r) (h::hs)):
  ∃k0,bQ ys r k0/\(((∃z:Int,x=.int z)/\0<=h/\iD ks (lst ys β (x::r) (h::hs)).1=.int (h%2)::iD k0 (lst ys β r hs).1/\(lst ys β (x::r) (h::hs)).2=h/2::(lst ys β r hs).2)\/∃y,x=.str y /\
   ((y∈ys/\iD ks (lst ys β (x::r) (h::hs)).1=.int (β y)::iD k0 (lst ys β r hs).1/\(lst ys β (x::r) (h::hs)).2=0::(lst ys β r hs).2) \/
   (y∉ys/\(h=0\/h=1)/\(lst ys β (x::r) (h::hs)).2=(c6 y h ((lst ys β r hs).1.take (aU y).length)).2::(lst ys β r hs).2 /\
    ((y = "yes" /\ (c6 y h ((lst ys β r hs).1.take (aU y).length)).2=0/\iD ks (lst ys β (x::r) (h::hs)).1=.bl true::iD k0 (lst ys β r hs).1) \/
    (y = "pick" /\ (c6 y h ((lst ys β r hs).1.take (aU y).length)).2=0/\∃(a b c:Int)(l:A8),(a=0\/a=1)/\iD k0 (lst ys β r hs).1=.int a::.int b::.int c::l/\iD ks (lst ys β (x::r) (h::hs)).1=.int (if a=1 then b else c)::l) \/
    (y ≠ "yes" /\ y ≠ "pick" /\ y∈HU/\(aU y).length=1/\∃(a:Int)(l:A8),(a=0\/a=1)/\iD k0 (lst ys β r hs).1=vb (o7 y) a::l/\iD ks (lst ys β (x::r) (h::hs)).1=vb (decide (y∈Z2)) (sT y h a).1::l/\(c6 y h ((lst ys β r hs).1.take (aU y).length)).2=(sT y h a).2) \/
    (y ≠ "yes" /\ y ≠ "pick" /\ y∈Ke/\(aU y).length≠1/\∃(a b:Int)(l:A8),(a=0\/a=1)/\(b=0\/b=1)/\iD k0 (lst ys β r hs).1=vb (o7 y) a::vb (o7 y) b::l/\iD ks (lst ys β (x::r) (h::hs)).1=vb (decide (y∈Z2)) (sW y h a b).1::l/\(c6 y h ((lst ys β r hs).1.take (aU y).length)).2=(sW y h a b).2))))):=by
 cases L with
 |cons h1 h2=>
 rcases YM B O with⟨z,k0,rfl,Y,T,rfl,q⟩|⟨y,k0,rfl,F,rfl,q⟩|⟨y,k0,rfl,J,F,Ua,rfl,q⟩
 .exact⟨k0,q,.inl ⟨⟨z,U⟩,(show 0<=h/\h<2^10 from h1).1,U,U⟩⟩
 .have e:lst ys β (.str y::r) (h::hs)=(β y::(lst ys β r hs).1,0::(lst ys β r hs).2):=by
   show(if y∈ys then _ else _)=_;rw[aK F]
  rw[e];exact⟨k0,q,.inr ⟨y,U,.inl ⟨F,U,U⟩⟩⟩
 .have e:lst ys β (.str y::r) (h::hs)=((c6 y h ((lst ys β r hs).1.take (aU y).length)).1::(lst ys β r hs).1.drop (aU y).length,(c6 y h ((lst ys β r hs).1.take (aU y).length)).2::(lst ys β r hs).2):=by
   show(if y∈ys then _ else _)=_;rw[aG J]
  obtain⟨i1,i2,_⟩:=XU B G q h2;rw[e];refine⟨_,q,.inr ⟨y,U,.inr ⟨J,h1,U,?_⟩⟩⟩;generalize (lst ys β r hs).1=P at *;have I:=qp y F;rcases V6 y I with⟨rfl,e2⟩|⟨rfl,e2⟩|⟨C,D,m,e2⟩|⟨C,D,m,e2⟩
  .exact .inl ⟨U,U,U⟩
  .rw[e2,bA]at i1
   match P,i1 with
   |[],i1=>simp only[cQ,nL]at i1;lia
   |[_],i1=>simp only[cQ,nL]at i1;lia
   |[_,_],i1=>simp only[cQ,nL]at i1;lia
   |a::b::c::l,_=>exact .inr (.inl ⟨U,U,a,b,c,iD k0 l,i2 a Vd,U,U⟩)
  .rw[e2,bA]at i1
   match P,i1 with
   |[],i1=>simp only[cQ,nL]at i1;lia
   |a::l,_=>
    have hw:c6 y h ((a::l).take (aU y).length)=sT y h a:=by
     unfold c6;rw[aG C,aG D,e2];rfl
    refine .inr (.inr (.inl ⟨C,D,m,by rw[e2];rfl,a,iD k0 l,i2 a Vd,by rw[e2];rfl,?_,by rw[hw]⟩));rw[hw,e2];rfl
  .rw[e2,bA]at i1
   match P,i1 with
   |[],i1=>simp only[cQ,nL]at i1;lia
   |[_],i1=>simp only[cQ,nL]at i1;lia
   |a::b::l,_=>
    have hw:c6 y h ((a::b::l).take (aU y).length)=sW y h a b:=by
     unfold c6;rw[aG C,aG D,e2];rfl
    refine .inr (.inr (.inr ⟨C,D,m,by rw[e2];exact(by decide:(2:Nat)≠1),a,b,iD k0 l,i2 a Vd,i2 b Vd,by rw[e2];rfl,?_,by rw[hw]⟩));rw[hw,e2];rfl
def Ei(k:Nat):V->List Int
 |.int z=>[z/2^k]
 |.str y=>if y∈allR then[0,1]else[0]
 |_=>[0]
def xH(k:Nat):A8->List HK
 |[]=>[[]]
 |w::r=>(Ei k w).flatMap λh=>(xH k r).map (h::·)
def FC(q:A8):List HK:=(List.range 11).flatMap λk=>xH k q
theorem gf(k:Nat):∀q:A8,(xH k q).length=2^(q.filter Yw).length
 |[]=>rfl
 |w::r=>by
  have B:=gf k r;rw[bU];have one:∀{x:Int},((([x]).flatMap λh=>(xH k r).map (h::·)).length)=2^(r.filter Yw).length:=λ{x}=>by
   simp_all
  cases w with
  |str y=>
   by_cases h:y∈allR
   .rw[aK (show Yw (.str y)=true from aZ h),cQ];show((if y∈allR then _ else _:Ak).flatMap _).length=_;rw[aK h,sY,sY,Lc,dW,bA,aF,aF];grind
   .rw[aG (show¬Yw (.str y)=true fromλz=>h (dB z))];show((if y∈allR then _ else _:Ak).flatMap _).length=_;rw[aG h];exact one
  |_=>exact one
theorem Uq(q:A8):(FC q).length=11*2^(q.filter Yw).length:=by
 have go:∀l:Aj,(l.flatMap λk=>xH k q).length=l.length*2^(q.filter Yw).length:=by
  intro l
  induction l with
  |nil=>exact(FK _).symm
  |cons a l r=>rw[sY,bA,r,gf,cQ,D4,rL]
 exact(go _).trans Vd
theorem JH(q:∀y∈ys,y∉Z6){W:Nat}{ρ:Str->Int}{k:Nat}:∀{D:A8} {ks:Am},bQ ys D ks->bR ys W ρ D k∈xH (min k 10) D
 |[],_,_=>cA.mpr U
 |w::r,ks,h=>by
  have put:∀{x:Int} {t:HK},x∈Ei _ w->t∈xH (min k 10) r->x::t∈xH _ (w::r):=λh1 h2=>LY.mpr ⟨_,h1,bB.mpr ⟨_,h2,U⟩⟩;rcases YM q h with⟨z,k0,rfl,G,F,rfl,B⟩|⟨y,k0,rfl,C,rfl,B⟩|⟨y,k0,rfl,J,C,L,rfl,B⟩
  .refine put (cA.mpr ?_) (JH q B)
   by_cases I:k<=10
   .rw[sP I]
   .rw[Nat.min_eq_right Vb,Et G F];exact Et G (Int.lt_of_lt_of_le F (by
     have:=tD (show 0<2 by decide) (show 10<=k by lia);exact Int.ofNat_le.mpr this))
  .refine put ?_ (JH q B);show(if y∈ys then _ else _)∈(if y∈allR then _ else _);rw[aK C,aG λz=>q y C (YN y z)];exact cA.mpr U
  .refine put ?_ (JH q B);show(if y∈ys then _ else _)∈(if y∈allR then _ else _);rw[aG J];have hh:=jl y ((Xq W ρ r).take (aU y).length) k;unfold GD;generalize JG y _ k=g at *;have go:∀y∈mM,∀g∈([0,1]),(if y = "neg" \/ y = "same" \/ y = "nought" then 1-g else if y = "twice" \/ y = "low" \/ y = "add" \/ y = "sub" \/ y = "under" \/ y = "beneath" then g else 0)∈(if y∈allR then[0,1]else[0]:Ak):=Wm
   exact go y (qp y C) g (Wl hh)
theorem Ib(S:Yz nm r)(ls:Aj):lM r (aV nm r ls):=by
 have F:∀{r:A8} {ks:Am},bQ nm r ks->lM r (r.map wV):=by
  intro r
  induction r with
  |nil=>exactλ_=>.nil
  |cons w C B=>
   intro ks h;obtain⟨J,h'⟩:=h.tail;refine .cons ?_ (B h');rcases YM S.kp h with⟨z,k0,rfl,G,D,_⟩|⟨y,k0,rfl,_⟩|⟨y,k0,rfl,_⟩
   .exact⟨G,D⟩
   .show(if _ then(1:Int)else 0)=0\/(if _ then(1:Int)else 0)=1;split<;>simp
   .show(if _ then(1:Int)else 0)=0\/(if _ then(1:Int)else 0)=1;split<;>simp
 have go:∀q:Aj,lM r (aV nm r q.reverse):=by
  intro q
  induction q with
  |nil=>exact F S.ty
  |cons l q B=>
   rw[oE,WO];exact(XU S.kp (λy I=>by
    rw[<-GB I [l]];have:=QP [l] nm y;simp at this;lia) S.ty B).2.2
 have:=go ls.reverse
 rwa [KH]at this
theorem ju(q:∀y∈ys,y∉Z6):∀{F:A8} {ks B:Am},bQ ys F ks->bQ ys F B->ks=B
 |[],_,_,h,h'=>by
  cases h;cases h';rfl
 |w::r,_,_,h,h'=>by
  rcases YM q h with⟨z,k0,rfl,_,_,rfl,t⟩|⟨y,k0,rfl,J,rfl,t⟩|⟨y,k0,rfl,I,_,_,rfl,t⟩<;>rcases YM q h' with⟨L,k1,e,_,_,rfl,t'⟩|⟨G,k1,e,D,rfl,t'⟩|⟨G,k1,e,C,_,_,rfl,t'⟩<;>cases e
  .rw[ju q t t']
  .rw[ju q t t']
  .exact absurd J C
  .exact absurd D I
  .rw[List.append_cancel_left (ju q t t')]
def O9{l:List g}{x:g}(h:l[l.length-1-i]?=some x)(hi:i<l.length):l.drop (l.length-(i+1))=x::l.drop (l.length-i):=by
 rw[show l.length-(i+1)=l.length-1-i by lia,Bd _,show l.length-1-i+1=l.length-i by grind];congr 1;exact(bW.mp h).2
def uA(nm:Ai)(q:A8)(H:Hp)(h:HK)(a:Aw):Prop:=∃as:List Aw,H a=ap (as.map V.ref)/\as.length=(cV 2 nm.length).length /\
 ∀(i:Nat)(b:Aw)(vs:Aj),as[i]?=some b->(cV 2 nm.length)[i]?=some vs->∃c,H b=am [vb true (nQ nm q h vs),.ref c]/\H c=am ((nG nm q h vs).map V.int)
def mL(nm:Ai)(q:A8)(h:HK):Prop:=∃ls,aV nm q ls=h
def uA.same{nm:Ai}{q:A8}{H H':Hp}{h:HK}{a:Aw}(R:uA nm q H h a)(s:Z8 H H'):uA nm q H' h a:=by
 revert R;refine ε1 λas=>θ2 λh1 h2 C=>?_;refine⟨as,s _ _ h1,h2,λi b vs r D=>?_⟩;obtain⟨c,F,B⟩:=C i b vs r D;exact⟨c,s _ _ F,s _ _ B⟩
def Uh(S:Yz nm r){l:List HK}(B:l.Nodup)(h:∀x∈l,mL nm r x):l.length<=360448:=by
 have h1:=Xe B (l2:=FC r) λx q=>by
  obtain⟨ls,rfl⟩:=h x q;have h:=yH S U ls.length (aN _);rw[dR]at h;rw[h];exact LY.mpr ⟨_,e8.mpr Vb,JH S.kp S.ty⟩
 have C:2^(r.filter Yw).length<=2^15:=tD Va (by rw[<-Wx S.ty.facts.1];exact S.rm);rw[Uq]at h1;lia
def gg(H:Hp)(as:List Aw)(q:List HK):Prop:=as.length=q.length/\∀(i:Nat)(a:Aw)(h:HK),as[i]?=some a->q[i]?=some h->H a=am (h.map V.int)
def Pz(f:g->V)(wl:List (HK×g)):(dH f wl).length=wl.length:=aF ..
def Ex{y:Str}(q:y∈Jp)(B:y∉nm)(h:bQ nm r (List.replicate (Y4 y) false++m)):bQ nm (.str y::r) (false::m):=by
 have e:=(jr y q).2;exact .sum (.inl ⟨y,U,q,B,e⟩) Vc
structure ZN(nm:Ai)(b:Bool)(n c:Nat)(ws:A8):Prop where
 ln:ws.length<=n
 rm:(ws.filter Yw).length<=c
 ty:∀pi ks,bQ nm pi ks->bQ nm (ws++pi) (b::ks)
def uB{y:Str}{b:Bool}(h:decide (y∈allR)=b):((V.str y::r).filter Yw).length=(if b=true then 1 else 0)+(r.filter Yw).length:=by
 rw[bU,show Yw (.str y)=b from h];cases b
 .simp
 .simp[rL]
def ZN.name{y:Str}(r:y∈nm)(q:y∉Z6):ZN nm false 1 0 [.str y]:=⟨aN _,by rw[uB (bF λz=>q (YN y z))];exact aN _,λpi ks h=>(by
       have B:∀z∈zY,z∈Z6:=Wm
       exact .sum (.inr (.inl ⟨y,U,r,λz=>q (B y z),JZ q⟩)) (by rw[JZ q];exact h))⟩
def ZN.int{z:Int}(q:0<=z)(h1:z<2^10):ZN nm false 1 0 [.int z]:=⟨aN _,aN _,λpi ks h=>(.sum (.inr (.inr ⟨z,U,q,h1,U⟩)) h)⟩
def ZN.one(F:∀y∈nm,y∉Z6){y:Str}{b b':Bool}{c:Nat}(D:y∈mM)(e:aU y=[b])(B:decide (y∈Z2)=b')(P:ZN nm b n c r):ZN nm b' (n+1) (c+if y∈allR then 1 else 0) (.str y::r):=by
 have C:=λz=>F y z D;refine⟨Kr P.ln,?_,λpi ks h=>?_⟩
 .rw[uB U];have:=P.rm
  by_cases h:y∈allR
  .lia
  .grind
 .have h2:=P.ty pi ks h;have hs:=(by decide +kernel:∀y∈mM,y∈Jp\/y∈Z2) y D
  by_cases q:y∈Z2
  .rw[aZ q]at B;subst B;refine .mY q C ?_;rw[<-i4,<-ql y q,e];exact h2
  .rw[bF q]at B;subst B;refine Ex (hs.resolve_right q) C ?_;rw[<-(jr y (hs.resolve_right q)).1,e];exact h2
def ZN.two(G:∀y∈nm,y∉Z6){y:Str}{b b':Bool}{c n' c':Nat}(D:y∈mM)(e:aU y=[b,b])(B:decide (y∈Z2)=b')(P:ZN nm b n c r)(C:ZN nm b n' c' Y):ZN nm b' (n+n'+1) (c+c'+if y∈allR then 1 else 0) (.str y::(r++Y)):=by
 have F:=λz=>G y z D;refine⟨?_,?_,λpi ks h=>?_⟩
 .have h1:=P.ln;have h2:=C.ln;rw[cQ,bA];lia
 .rw[uB U];have h1:=P.rm;have h2:=C.rm
  by_cases h:y∈allR
  .grind
  .grind
 .have h2:=P.ty _ _ (C.ty pi ks h);rw[<-i4]at h2;have hs:=(by decide +kernel:∀y∈mM,y∈Jp\/y∈Z2) y D
  by_cases q:y∈Z2
  .rw[aZ q]at B;subst B;refine .mY q F ?_;rw[<-i4,<-ql y q,e];exact h2
  .rw[bF q]at B;subst B;refine Ex (hs.resolve_right q) F ?_;rw[<-(jr y (hs.resolve_right q)).1,e];exact h2
def ZN.le{b:Bool}{c n' c':Nat}(P:ZN nm b n c r)(h1:n<=n')(h2:c<=c'):ZN nm b n' c' r:=⟨cC P.ln h1,cC P.rm h2,P.ty⟩
def ZN.claim{c:Nat}(P:ZN nm true n c r):bQ nm r [true]:=by
 have:=P.ty [] [] .nil
 rwa [dW]at this
def T7(r:∀y∈nm,y∉Z6){y:Str}(D:y∈nm)(F:0<=z)(h1:z<2^10):
  ZN nm false 8 3 [.str "twice",.str "not",.str y]/\ZN nm false 8 3 [.str "twice",.str "twice",.str "not",.str y]/\ZN nm false 8 3 [.str "odd",.int 1,.str "twice",.str "odd",.str y,.str "twice",.str y] /\
  ZN nm false 8 3 [.str "odd",.int z,.str "twice",.str "twice",.str y]/\ZN nm false 8 3 [.str "odd",.int 1,.str "twice",.str "odd",.str y,.str "twice",.str "twice",.str y]/\ZN nm false 8 3 [.str "odd",.int z,.str "twice",.str "twice",.str "twice",.str y]:=by
 have N:=ZN.name D (r y D);have I:=ZN.int (nm:=nm) F h1;have J:=ZN.int (nm:=nm) (z:=1) Va Va;have tw:∀{n c:Nat} {q:A8},ZN nm false n c q->ZN nm false (n+1) (c+1) _:=λP=>(P.one r (y:= "twice") Wm Wm Wm).le (aN _) (by split<;>lia);have C:∀{n c:Nat} {q:A8},ZN nm false n c q->ZN nm false (n+1) c _:=λP=>(P.one r (y:= "not") Wm Wm Wm).le (aN _) (aN _);have od:∀{n c n' c':Nat} {q B:A8},ZN nm false n c q->ZN nm false n' c' B->ZN nm false _ (c+c') _:=λP G=>(P.two r (y:= "odd") Wm Wm Wm G).le (aN _) (aN _);exact⟨(tw (C N)).le Va Va,(tw (tw (C N))).le Va Va,(od J (tw (od N (tw N)))).le Va Va,(od I (tw (tw N))).le Va Va,(od J (tw (od N (tw (tw N))))).le Va Va,(od I (tw (tw (tw N)))).le Va Va⟩
def uC (q:∀y∈nm,y∉Z6) {y:Str} (r:y∈nm):ZN nm true 3 1 [.str "sign",.str y]/\ZN nm true 3 1 [.str "never",.str "sign",.str y]/\ZN nm true 3 1 [.str "under",.int 5,.str y]:=by
 have N:=ZN.name r (q y r);have B:=(N.one q (y:= "sign") Wm Wm Wm:ZN nm true 2 _ _);refine⟨B.le Va Va,(B.one q Wm Wm Wm).le Va (by split<;>decide),((ZN.int Va Va).two q Wm Wm Wm N).le Va Vc⟩
def Zdg (q:∀y∈nm,y∉Z6) {y w v:Str} (D:y∈nm) (F:x∈nm) (hw:w∈(["both","so"]:Ai)) (G:v∈(["both","either","so"]:Ai)) {ot:A8} (R:ZN nm false 8 3 r) (O:ZN nm false 8 3 ot) (A:ZN nm true 3 1 Y):
  ZN nm true 40 15 ([V.str w,.str "nought",.str "or",.str "odd",.str y]++r++[V.str "odd",.str x]++ot++[V.str v,.str "sign",.str x]++Y):=by
 have X:=ZN.name F (q x F);have C:=(by decide +kernel:∀w∈(["both","so"]:Ai),w∈mM/\aU w=[true,true]/\decide (w∈Z2)=true) w hw;have B:=(by decide +kernel:∀w∈(["both","either","so"]:Ai),w∈mM/\aU w=[true,true]/\decide (w∈Z2)=true) v G;have b:∀(p:Prop) [Decidable p],(if p then 1 else 0)<=1:=λp _=>Vc
 have:=(((((ZN.name D (q y D)).two q (y:= "odd") (b':=false) Wm Wm Wm R).two q (y:= "or") (b':=false) Wm Wm Wm (X.two q (y:= "odd") (b':=false) Wm Wm Wm O)).one q (y:= "nought") Wm Wm Wm).two q C.1 C.2.1 C.2.2 ((X.one q (y:= "sign") Wm Wm Wm).two q (y:=v) B.1 B.2.1 B.2.2 A)).le (n':=40) (c':=15) Va Vb;simpa using this
def eU:A8->HK->List Int
 |w::r,h::hs=>if Yw w=true then h::eU r hs else eU r hs
 |_,_=>[]
def lZ:Nat->List (Ak)
 |0=>[[]]
 |n+1=>([0,1]:Ak).flatMap λb=>(lZ n).map (b::·)
theorem NT(k:Nat):∀q:A8,(xH k q).map (eU q)=lZ (q.filter Yw).length
 |[]=>rfl
 |w::r=>by
  have C:=NT k r;have one:∀{x:Int},Yw w=false->((([x]).flatMap λh=>(xH k r).map (h::·)).map (eU (w::r)))=lZ _:=λ{x} e=>by
   rw[sY,Lc,dW,bI,<-C];refine fE λt _=>?_;show(if Yw w=true then _ else _)=_;rw[e]
   rfl
  rw[bU];cases hw:Yw w with
  |false=>
   cases w with
   |str y=>
    have B:=rX hw;show((if y∈allR then _ else _:Ak).flatMap _).map _=_;rw[aG B];exact one hw
   |_=>exact one hw
  |true=>
   rw[aK U,cQ];cases w with
   |str y=>
    have B:=dB hw;show((if y∈allR then _ else _:Ak).flatMap _).map _=_;rw[aK B,List.map_flatMap];unfold lZ;rw[<-C];congr 1;funext b;rw[bI,bI];refine fE λt _=>?_;show(if Yw _=true then _ else _)=_;rw[hw]
    rfl
   |_=>cases hw
def mF(nm:Ai)(q:A8):Prop:=∀k,∃L:List HK,L.length<=63/\∀ls:Aj,ls.length=k->aV nm q ls∈L
def uD(S:Yz nm r)(q:Ak->Bool)(C:((lZ (r.filter Yw).length).filter q).length<=62)
  (one:∀ls ls':Aj,ls.length=ls'.length->q (eU r (aV nm r ls))=false->q (eU r (aV nm r ls'))=false->aV nm r ls=aV nm r ls'):mF nm r:=by
 intro k;have cnt:=λj=>by
  rw[<-NT j r,List.filter_map,aF]at C;exact C
 have B:∀ls,ls.length=k->aV nm r ls∈xH (min k 10) r:=λls e=>by
  have h:=yH S U ls.length (aN _);rw[dR]at h;rw[h,<-e];exact JH S.kp S.ty
 rcases Classical.em (∃ls:Aj,ls.length=k/\q _=false)with⟨G,F,D⟩|I
 .refine⟨aV nm r G::(xH (min k 10) r).filter _,Kr (cnt _),λls e=>?_⟩;cases hf:q _ with
  |false=>exact bJ.mpr (.inl (one _ _ (e.trans F.symm) hf D))
  |true=>exact b8 _ (oD.mpr ⟨B ls e,hf⟩)
 .grind
def T4(S:Yz nm r)(q:(r.filter Yw).length<=5):mF nm r:=by
 refine uD S (λ_=>true) ?_ λ_ _ _ h=>nomatch h;have go:∀n,n<=5->((lZ n).filter λ_=>true).length<=62:=Wm
 exact go _ q
def Xj(q:∀y∈ys,y∉Z6){β:Str->Int}{y:Str}(B:y∈Z6)(r:A8)(h:Int)(hs:Ak):
  lst ys β (.str y::r) (h::hs)=((c6 y h ((lst ys β r hs).1.take (aU y).length)).1::(lst ys β r hs).1.drop (aU y).length,(c6 y h ((lst ys β r hs).1.take (aU y).length)).2::(lst ys β r hs).2):=by
 show(if y∈ys then _ else _)=_;rw[aG λz=>q y z B]
def zg{y:Str}(q:y∈ys)(r:A8)(h:Int)(hs:Ak):
  lst ys β (.str y::r) (h::hs)=(β y::(lst ys β r hs).1,0::(lst ys β r hs).2):=by
 show(if y∈ys then _ else _)=_;rw[aK q]
theorem Qd(C:∀y∈ys,y∉Z6){β:Str->Int}(r:A8):∀{S:A8} {ks:Am} {hs:Ak},bQ ys S ks->S.length<=hs.length->∃a:Ak,a.length=ks.length/\(lst ys β (S++r) hs).1=a++(lst ys β r (hs.drop S.length)).1
 |[],_,hs,h,_=>by
  cases h;exact⟨[],U,U⟩
 |w::S,_,[],_,B=>absurd B (Nat.not_succ_le_zero _)
 |w::S,_,q::hs,h,B=>by
  rcases YM C h with⟨z,k0,rfl,_,_,rfl,t⟩|⟨y,k0,rfl,F,rfl,t⟩|⟨y,k0,rfl,D,_,_,rfl,t⟩<;>obtain⟨a,e1,e2⟩:=Qd C r t (Nat.le_of_succ_le_succ B)
  .exact⟨q%2::a,congrArg _ e1,congrArg _ e2⟩
  .exact⟨β y::a,congrArg _ e1,(congrArg _ (zg F _ q hs)).trans (congrArg _ e2)⟩
  .refine⟨(c6 y q ((a++(lst ys β r (hs.drop S.length)).1).take (aU y).length)).1::a.drop (aU y).length,?_,?_⟩
   .simp_all
   .show(if y∈ys then _ else _:Ak×Ak).1=_;rw[aG D];show(c6 y q ((lst ys β (S++r) hs).1.take _)).1::(lst ys β (S++r) hs).1.drop _=_;rw[e2,List.drop_append_of_le_length (by simp_all)];rfl
def AQ(ys:Ai)(R:A8):Prop:=∀(r:A8)(hs:Ak),∃g:Int,∀β:Str->Int,(lst ys β (R++r) hs).1.getD 0 0=g
theorem gh (q:∀y∈ys,y∉Z6) (S:A8):AQ ys (.str "twice" :: S)
 |r,[]=>⟨0,λ_=>U⟩
 |r,h::hs=>⟨h,λβ=>by
  show(lst ys β (.str "twice" :: (S++r)) _).1.getD 0 0=h;rw[Xj q Va];rfl⟩
def xi (q:∀y∈ys,y∉Z6) (z:Int) (S:A8):AQ ys (.str "odd" :: .int z::.str "twice" :: S):=λr hs=>by
 have c:∀h (a b:Ak),a.getD 0 0=b.getD 0 0->a.getD 1 0=b.getD 1 0->(c6 "odd" h _).1=(c6 "odd" h _).1:=λh a b e1 e2=>by
  show(((a.take 2).getD 0 0+(a.take 2).getD 1 0)%2)=((b.take 2).getD 0 0+(b.take 2).getD 1 0)%2;rw[bO,bO,bO,bO,lI,lI,lI,lI,aK Va,aK Va,aK Va,aK Va,<-bO,<-bO,<-bO,<-bO,e1,e2]
 match hs with
 |[]=>exact⟨0,λ_=>U⟩
 |h0::hs=>
  refine⟨(c6 "odd" h0 ((lst ys (λ_=>0) (.int z::.str "twice" :: (S++r)) hs).1.take 2)).1,λβ=>?_⟩;show(lst ys β (.str "odd" :: .int z::.str "twice" :: (S++r)) _).1.getD 0 0=_;rw[Xj q Va];refine c h0 _ _ ?_ ?_
  .match hs with
   |[]=>rfl
   |h1::hs=>rfl
  .match hs with
   |[]=>rfl
   |[h1]=>rfl
   |h1::h2::hs=>
    show(lst ys β _ _).1.getD 0 0=(lst ys _ _ _).1.getD 0 0;rw[Xj q Va,Xj q Va];rfl
def PY{y:Str}(q:y∈nm)(l:Nat):nD nm (eV nm.length [l]) y=0\/nD nm (eV nm.length [l]) y=1:=by
 rw[<-GB q [l]];have:=QP [l] nm y;simp at this;lia
def UA(l:Ak):(l.take 1).getD 0 0=l.getD 0 0:=Vd
def Qa(l:Ak):(l.take 2).getD 0 0=l.getD 0 0/\(l.take 2).getD 1 0=l.getD 1 0:=(by simp_all)
def CN(q:∀y∈ys,y∉Z6)(β:Str->Int)(r:A8)(h:Int)(hs:Ak):
  (lst ys β (.str "odd" :: r) (h::hs)).1.getD 0 0=((lst ys β r hs).1.getD 0 0+(lst ys β r hs).1.getD 1 0)%2:=by
 rw[Xj q Va,<-(Qa (lst ys β r hs).1).1,<-(Qa _).2];rfl
def Ey(nm:Ai)(B:A8):Prop:=∀hs:Ak,hs.length=B.length->∀β q:Str->Int,(∀y∈nm,β y=0\/β y=1)->(∀y∈nm,q y=0\/q y=1)->(lst nm β B hs).1.getD 0 0=0->(lst nm q B hs).1.getD 0 0=0->∀y∈nm,β y=q y
def Ts  (I:∀y∈nm,y∉Z6) (D:x∈nm) (all:∀y∈nm,y=x) {R:A8} (G:AQ nm R) (A:A8):Ey nm (.str "odd" :: .str x::(R++A)):=λhs q β r F C e B y J=>by
 rw[all y J]
 match hs,q with
 |[],q=>cases q
 |[_],q=>cases q
 |h0::h1::hs,q=>
  obtain⟨g,L⟩:=G A hs;rw[CN I,zg D]at e B;have e:(β x+(lst nm β _ hs).1.getD 0 0)%2=0:=e;have B:(r x+(lst nm r _ hs).1.getD 0 0)%2=0:=B;rw[L]at e B;rcases F x D with a|a<;>rcases C x D with b|b<;>rw[a]<;>skip<;>skip<;>lia
def UR{z:Str}(F:∀y∈nm,y∉Z6)(Ua:x∈nm)(L:z∈nm)(all:∀y∈nm,y=x\/y=z){R:A8}(G:AQ nm R)(T:bQ nm R [false])(GO:AQ nm r)(A:A8):
  Ey nm (.str "or" :: .str "odd" :: .str x::(R++.str "odd" :: .str z::(r++A))):=by
 intro hs q
 match hs,q with
 |[],q=>cases q
 |[_],q=>cases q
 |[_,_],q=>cases q
 |h0::h1::h2::hs,q=>
  have q:hs.length=R.length+((r++A).length+1+1):=by
   simp_all
  obtain⟨g,I⟩:=G _ hs;obtain⟨k0,k1,C,J⟩:∃k0 k1 C,hs.drop R.length=k0::k1::C:=by
   have:(hs.drop R.length).length=(r++A).length+1+1:=(by simp_all)
   match hs.drop _,this with
   |k0::k1::C,_=>exact ι3 k0 k1 C U
  obtain⟨f,hf⟩:=GO A C;have key:∀β,(∀y∈nm,β y=0\/β y=1)->(lst nm β (.str "or" :: .str "odd" :: .str x::(R++.str "odd" :: .str z::(r++A))) (h0::h1::h2::hs)).1.getD 0 0=0->(β x+g)%2=0/\(β z+f)%2=0:=by
   intro β D e;obtain⟨a,e1,e2⟩:=Qd F (.str "odd" :: .str z::(r++A)) (hs:=hs) T Vb;have I:=I β;rw[e2]at I
   match a,e1 with
   |[b],_=>
    have eb:b=g:=I;rw[Xj F Va,Xj F Va,zg Ua,e2,J,Xj F Va,zg L,eb]at e;have ez:(c6 "odd" k0 ((β z::(lst nm β (r++A) C).1).take (aU "odd").length)).1=(β z+f)%2:=by
     rw[<-hf β];exact congrArg (λt=>(β z+t)%2) (UA _)
    have e:(if(c6 "odd" k0 _).1>(β x+g)%2 then(c6 "odd" k0 _).1 else(β x+g)%2)=0:=e;split at e<;>grind
  intro β O D B e Z y Y;obtain⟨a1,a2⟩:=key β D e;obtain⟨b1,b2⟩:=key O B Z;have hx1:=D x Ua;have hx2:=B x Ua;have Co:=D z L;have sZ:=B z L;rcases all y Y with rfl|rfl<;>lia
theorem Rt  (S:Yz nm r) {w:Str} (hw:w∈(["both","so"]:Ai)) (e:r=.str w::.str "nought" :: Y) (D:Ey nm Y):
  ∀k (ls ls':Aj),ls.length=k->ls'.length=k->(aV nm r ls).getD 1 0=1->(aV nm r ls').getD 1 0=1->aV nm r ls=aV nm r ls':=by
 have F:=by
  have:∀w∈(["both","so"]:Ai),w∈Z6:=Va
  exact this w hw
 have step:∀(B:Aj)(l:Nat),(aV nm r (B++[l])).getD 1 0=1->(aV nm r B).getD 1 0=1/\(lst nm (nD nm (eV nm.length [l])) Y ((aV nm r B).drop 2)).1.getD 0 0=0:=by
  intro B l h;rw[WO]at h;have I:=Ib S B;unfold nG at h;generalize aV nm r B=hh at *;rw[e]at I h;cases I with
  | @cons _ h0 _ t Z O=>
   cases O with
   | @cons _ h1 _ t T V3=>
    rw[Xj S.kp F,Xj S.kp Va]at h;have h:h1*(1-((lst nm _ Y t).1.take 1).getD 0 0)=1:=h;rcases T with rfl|rfl
    .rw[Int.zero_mul]at h;cases h
    .grind
 intro k
 induction k with
 |zero=>
  intro ls ls' h h' _ _;rw[pI h,pI h']
 |succ k J=>
  intro ls ls' h h' g L;rcases LF ls with rfl|⟨B,l,q⟩
  .cases h
  rcases LF ls' with rfl|⟨C,Ua,q'⟩
  .cases h'
  rw[List.concat_eq_append]at q q';subst q q';rw[bA]at h h';obtain⟨a1,a2⟩:=step _ _ g;obtain⟨b1,b2⟩:=step _ _ L;have E:=J B C (Nat.succ.inj h) (Nat.succ.inj h') a1 b1;rw[WO,WO,<-E];rw[<-E]at b2;refine congrArg Prod.snd (qr (D _ ?_ _ _ (λy G=>PY G l) (λy G=>PY G Ua) a2 b2) r _);rw[fX,(Ib S B).len,e];rfl
def Zdh {f x:Int} {k:Nat} (h1:bt x (k+1)=1) (B:bt x k=1) (q:bt f (k+1)=1->bt f k=0):JG "under" [f,x] (k+1+1)=1:=by
 have e1:JG "under" [f,x] _=1-(1-(1-bt f (k+1))*bt x _)*(1-JG "under" [f,x] _*(1-(bt f _+bt x _)%2)):=Xo _ _ _;have r:JG "under" [f,x] _=1-(1-(1-bt f k)*bt x k)*(1-JG "under" [f,x] k*(1-(bt f k+bt x k)%2)):=Xo _ _ _;rw[e1,h1];rcases YI f _ with a|a
 .rw[a];simp
 .simp_all
theorem Zpi:∀k,bt 5 (k+1)=1->bt 5 k=0
 |0,h=>absurd h Va
 |1,_=>Va
 |k+2,h=>by
  rw[YB,YB,YB,show(5:Int)/2/2/2=0 by decide,xc]at h;cases h
def So(D:x∉Z6)(r q:A8):
  GD "under" ((Xq W ρ (.int 5::.str x::q)).take 2) W=1\/¬(GD "twice" ((Xq W ρ (.str "twice" :: .str x::r)).take 1) W=1/\GD "twice" ((Xq W ρ (.str x::r)).take 1) W=1):=by
 have G:aP (.str x)=0:=JZ D;have C:x∉Z2:=λz=>D (YG x z);have ex:∀r,Xq W ρ (.str x::r)=(ρ x%2^W)::Xq W ρ r:=λr=>by
  show mS W ρ (.str x) ((Xq W ρ r).take (aP (.str x)))::(Xq W ρ r).drop (aP (.str x))=_;rw[G];show(if x∈Z2 then _ else _)::_=_;rw[aG C];rfl
 have F:Xq W ρ (.int 5::.str x::q)=(5%2^W)::(ρ x%2^W)::Xq W ρ q:=by
  rw[<-ex q];rfl
 have e2:Xq W ρ (.str "twice" :: .str x::r)=mS W ρ (.str "twice") [ρ x%2^W]::Xq W ρ r:=by
  show mS W ρ (.str "twice") ((Xq W ρ (.str x::r)).take 1)::(Xq W ρ (.str x::r)).drop 1=_;rw[ex r];rfl
 rw[F,e2,ex r];show JG "under" [5%2^W,ρ x%2^W] W=1\/¬(JG "twice" [mS W ρ (.str "twice") [ρ x%2^W]] W=1/\JG "twice" [ρ x%2^W] W=1)
 match W with
 |0=>exact .inr λh=>absurd h.2 (by show¬(0:Int)=1;decide)
 |1=>
  refine .inr λh=>?_;have h1:=h.1;rw[Xo]at h1;have h1:bt (mS 1 ρ (.str "twice") [ρ x%2^1]) 0=1:=h1;rw[<-ze ρ (y:= "twice") (pE 0) Va (.inr ⟨Va,U⟩)]at h1;exact absurd h1 (by show¬(0:Int)=1;decide)
 |k+2=>
  rcases Classical.em (JG "twice" [mS (k+2) ρ (.str "twice") [ρ x%2^(k+2)]] (k+2)=1/\JG "twice" [ρ x%2^(k+2)] (k+2)=1)with⟨h1,B⟩|h
  .refine .inl ?_;rw[Xo]at h1 B;have h1:bt (mS (k+2) ρ (.str "twice") [ρ x%2^(k+2)]) (k+1)=1:=h1;have B:bt (ρ x%2^(k+2)) (k+1)=1:=B;rw[<-ze ρ (y:= "twice") (pE (k+1)) Va (.inr ⟨Va,U⟩)]at h1;have h1:JG "twice" [ρ x%2^(k+2)] (k+1)=1:=h1;rw[Xo]at h1;have h1:bt (ρ x%2^(k+2)) k=1:=h1;exact Zdh B h1 (by rw[x8 _ _ _ Vb,x8 _ _ _ Vb];exact Zpi k)
  .exact .inr h
def Od{ρ:Str->Int}{w:V}(h:Yw w=false)(r:A8):eU (w::r) (bR ys W ρ (w::r) k)=eU r (bR ys W ρ r k):=by
 show(if Yw w=true then _ else _)=_;rw[h];rfl
def F9(q:∀y∈ys,y∉Z6){W k:Nat}{ρ:Str->Int}{y:Str}(h:y∈allR)(r:A8):eU (.str y::r) (bR ys W ρ (.str y::r) k)=GD y ((Xq W ρ r).take (aU y).length) k::eU r (bR ys W ρ r k):=by
 show(if decide _=true then(if y∈ys then _ else _)::_ else _)=_;rw[aZ h,aK U,aG λz=>q y z (YN y h)]
theorem MI(q:∀y∈ys,y∉Z6){W k:Nat}{ρ:Str->Int}(C:A8):∀A:A8,∃a:Ak,a.length=(A.filter Yw).length/\eU (A++C) (bR ys W ρ (A++C) k)=a++eU C (bR ys W ρ C k)
 |[]=>⟨[],U,U⟩
 |w::A=>by
  obtain⟨a,e1,e2⟩:=MI q C A;rw[bU];cases h:Yw w with
  |false=>exact⟨a,e1,(Od h _).trans e2⟩
  |true=>
   cases w with
   |str y=>exact⟨_::a,congrArg _ e1,(F9 q (dB h) _).trans (congrArg _ e2)⟩
   |_=>cases h
def zh:∀w∈(["both","so"]:Ai),Yw (.str w)=false:=Va
theorem vN {w:Str} (hw:w∈(["both","so"]:Ai)) :∀{h:HK},(eU (.str w::.str "nought" :: r) h).getD 0 0=1->h.getD 1 0=1
 |[],e=>nomatch e
 |[q],e=>by
  have e:(if Yw _=true then q::eU _ []else eU _ []).getD 0 0=1:=e;rw[zh w hw]at e;cases e
 |q::h1::t,e=>by
  have e:(if Yw _=true then q::eU _ _ else eU _ _).getD 0 0=1:=e;rw[zh w hw]at e;exact e
def zi  (S:Yz nm r) {w:Str} (hw:w∈(["both","so"]:Ai)) (e:r=.str w::.str "nought" :: Y) (D:Ey nm Y) (B:(r.filter Yw).length<=6):mF nm r:=by
 refine uD S (λb=>decide (b.getD 0 0≠1)) ?_ λls ls' q h h'=>?_
 .have go:∀n,n<=6->((lZ n).filter λb=>decide (b.getD 0 0≠1)).length<=62:=Wm
  exact go _ B
 .have h:=IJ.mp (rX h);have h':=IJ.mp (rX h');refine Rt S hw e D _ ls ls' U q.symm ?_ ?_
  .generalize aV nm r ls=t at h;rw[e]at h;exact vN hw h
  .generalize aV nm r ls'=t at h';rw[e]at h';exact vN hw h'
def yI  (S:Yz nm r) {w:Str} (hw:w∈(["both","so"]:Ai)) (e:r=.str w::.str "nought" :: Y) (D:Ey nm Y) (B:(r.filter Yw).length=7)  (hi:i=2\/i=4)
  (q:∀ls:Aj,(eU r (aV nm r ls)).getD 6 0=1\/¬((eU r (aV nm r ls)).getD i 0=1/\(eU r (aV nm r ls)).getD (i+1) 0=1)):mF nm r:=by
 refine uD S (λb=>decide (b.getD 0 0≠1)&&decide (b.getD 6 0=1\/¬(b.getD i 0=1/\b.getD (i+1) 0=1))) ?_ λls ls' C h h'=>?_
 .rw[B];rcases hi with rfl|rfl<;>decide +kernel
 .rw[aZ (q ls),Kf]at h;rw[aZ (q ls'),Kf]at h';have h:=IJ.mp (rX h);have h':=IJ.mp (rX h');refine Rt S hw e D _ ls ls' U C.symm ?_ ?_
  .generalize aV nm r ls=t at h;rw[e]at h;exact vN hw h
  .generalize aV nm r ls'=t at h';rw[e]at h';exact vN hw h'
def Pk {P M:A8} (S:Yz nm r)  (q:x∉Z6) (e:r=P++(.str "twice" :: .str "twice" :: .str x::(M++[.str "under",.int 5,.str x])))  (C:(P.filter Yw).length=i) (B:i+2+(M.filter Yw).length=6) (ls:Aj):
  (eU r (aV nm r ls)).getD 6 0=1\/¬((eU r (aV nm r ls)).getD i 0=1/\(eU r (aV nm r ls)).getD (i+1) 0=1):=by
 have hh:=yH S (ls:=ls) U ls.length (aN _);rw[dR]at hh;rw[hh,e];generalize zd ls nm=ρ;generalize ls.length=W;have nx:Yw (.str x)=false:=bF λz=>q (YN x z);obtain⟨a,a1,a2⟩:=MI (W:=W) (k:=W) (ρ:=ρ) S.kp _ P;obtain⟨b,b1,b2⟩:=MI (W:=W) (k:=W) (ρ:=ρ) S.kp _ M;rw[a2,F9 S.kp Va,F9 S.kp Va,Od nx,b2,F9 S.kp Va];have T:=So (W:=W) (ρ:=ρ) q (M++[.str "under",.int 5,.str x]) [];rw[bO,bO,bO,dU Vb,dU (by simp_all),dU (by simp_all),show i-a.length=0 by simp_all,show i+1-a.length=1 by simp_all,show 6-a.length=b.length+2 by lia];show((b++_)[b.length]?).getD 0=1\/_;rw[dU (aN _),pM];exact T
structure HR(nm:Ai)(x:Str)(R:A8):Prop where
 g:AQ nm R
 ty:bQ nm R [false]
 c:(R.filter Yw).length<=5
 t:(R.filter Yw).length=3\/(R.filter Yw).length=5->∃P,R=P++[.str "twice",.str "twice",.str x]
def CC (x:Str) (A:A8):Prop:=(A.filter Yw).length=0\/A=[.str "under",.int 5,.str x]
def US {w:Str} {R A:A8} (hw:w∈(["both","so"]:Ai)) (S:Yz nm (.str w::.str "nought" :: .str "odd" :: .str x::(R++A))) (B:x∈nm) (all:∀y∈nm,y=x) (r:HR nm x R) (C:CC x A):mF nm (.str w::.str "nought" :: .str "odd" :: .str x::(R++A)):=by
 have q:=S.kp x B;have nx:Yw (.str x)=false:=bF λz=>q (YN x z);have cnt:∀Z,((.str w::.str "nought" :: .str "odd" :: .str x::Z).filter Yw).length=1+(Z.filter Yw).length:=λZ=>by
  rw[bU,zh w hw,aG Va,bU,aK Va,bU,aG Va,bU,nx,aG Va,cQ,rL]
 have D:=Ts S.kp B all r.g A;have c:=r.c;have e:=cnt (R++A);rw[oW,bA]at e;rcases C with C|rfl
 .exact zi S hw U D Vb
 .have e1:(([.str "under",.int 5,.str x]).filter Yw).length=1:=by
   rw[bU,bU,bU,nx];rfl
  by_cases F:(R.filter Yw).length=5
  .obtain⟨P,rfl⟩:=r.t (.inr F);have e3:((P++[V.str "twice",.str "twice",.str x]).filter Yw).length=(P.filter Yw).length+2:=by
    rw[oW,bA,bU,bU,bU,nx];rfl
   refine yI S hw U D Vb (.inr U) (Pk (P:=.str w::.str "nought" :: .str "odd" :: .str x::P) (M:=[]) S q ?_ (by simp_all) U);rw[i4];rfl
  .exact zi S hw U D Vb
def Zkn {w z c:Str} {R A:A8} (hw:w∈(["both","so"]:Ai)) (O:c∈(["both","either","so"]:Ai)) (S:Yz nm (.str w::.str "nought" :: .str "or" :: .str "odd" :: .str x::(R++.str "odd" :: .str z::(r++.str c::.str "sign" :: .str z::A)))) (C:x∈nm) (G:z∈nm) (all:∀y∈nm,y=x\/y=z) (q:HR nm x R) (Y:(R.filter Yw).length<=3) (o:AQ nm r) (Ua:(r.filter Yw).length<=2) (F:CC x A):
  mF nm (.str w::.str "nought" :: .str "or" :: .str "odd" :: .str x::(R++.str "odd" :: .str z::(r++.str c::.str "sign" :: .str z::A))):=by
 have B:=S.kp x C;have nx:Yw (.str x)=false:=bF λz=>B (YN x z);have I:Yw (.str z)=false:=bF λy=>S.kp z G (YN z y);have T:=by
  have:∀w∈(["both","either","so"]:Ai),Yw (.str w)=false:=Va
  exact this c O
 have cnt:∀Z:A8,((.str w::.str "nought" :: .str "or" :: .str "odd" :: .str x::Z:A8).filter Yw).length=1+(Z.filter Yw).length:=λZ=>by
  rw[bU,zh w hw,aG Va,bU,aK Va,bU,aG Va,bU,aG Va,bU,nx,aG Va,cQ,rL]
 have J:∀Z:A8,((.str "odd" :: .str z::(r++.str c::.str "sign" :: .str z::Z):A8).filter Yw).length=(r.filter Yw).length+(Z.filter Yw).length:=λZ=>by
  rw[bU,aG Va,bU,I,aG Va,oW,bA,bU,T,aG Va,bU,aG Va,bU,I,aG Va]
 have D:=UR S.kp C G all q.g q.ty o (.str c::.str "sign" :: .str z::A);have e:=cnt (R++.str "odd" :: .str z::(r++.str c::.str "sign" :: .str z::A));rw[oW,bA,J]at e;rcases F with F|rfl
 .exact zi S hw U D Vb
 .have e1:(([.str "under",.int 5,.str x]:A8).filter Yw).length=1:=by
   rw[bU,bU,bU,nx];rfl
  by_cases L:(R.filter Yw).length=3/\(r.filter Yw).length=2
  .obtain⟨P,rfl⟩:=q.t (.inl L.1);have e3:((P++[V.str "twice",.str "twice",.str x]).filter Yw).length=(P.filter Yw).length+2:=by
    rw[oW,bA,bU,bU,bU,nx];rfl
   refine yI S hw U D Vb (.inl U) (Pk (P:=.str w::.str "nought" :: .str "or" :: .str "odd" :: .str x::P) (M:=.str "odd" :: .str z::(r++[.str c,.str "sign",.str z])) S B ?_ (by rw[cnt];lia) (by simp_all));simp
  .exact zi S hw U D Vb
def Sz{y:Str}(q:y∈allR){is:Ak}{k:Nat}(e:GD y is k=GD y B i):JG y is k=JG y B i:=by
 have go:∀y∈allR,∀a∈([0,1]:Ak),∀b∈([0,1]),(if y = "neg" \/ y = "same" \/ y = "nought" then 1-a else if y = "twice" \/ y = "low" \/ y = "add" \/ y = "sub" \/ y = "under" \/ y = "beneath" then a else 0)=(if y = "neg" \/ y = "same" \/ y = "nought" then 1-b else if y = "twice" \/ y = "low" \/ y = "add" \/ y = "sub" \/ y = "under" \/ y = "beneath" then b else 0)->a=b:=Wm
 exact go y q _ (Wl (jl y is k)) _ (Wl (jl y B i)) e
theorem QL(D:∀y∈ys,y∉Z6){W G k C:Nat}{ρ B:Str->Int}:∀{F:A8} {ks:Am},bQ ys F ks->bR ys W ρ F k=bR ys G B F C->WY W ρ F k=WY G B F C/\∀z:Int,V.int z∈F->z/2^k=z/2^C
 |[],_,_,_=>⟨U,λ_ h=>nomatch h⟩
 |w::r,ks,h,e=>by
  have J:=congrArg (λl=>l.getD 0 0) e;rcases YM D h with⟨z,k0,rfl,z0,z1,rfl,T⟩|⟨y,k0,rfl,Y,rfl,T⟩|⟨y,k0,rfl,Ua,Y,hp,rfl,T⟩<;>obtain⟨i1,i2⟩:=QL D T (congrArg List.tail e)
  .refine⟨by show WY W ρ r k++[]=WY G B r C++[];rw[i1],λI L=>?_⟩;rcases bJ.mp L with q|q
   .injection q with q;rw[q];exact J
   .exact i2 I q
  .refine⟨?_,λI L=>(bJ.mp L).elim (λq=>nomatch q) (i2 I)⟩;have Z:Yw (.str y)=false:=bF λz=>D y Y (YN y z);show(WY W ρ r k++if Yw _=true then _ else _)=WY G B r C++if Yw _=true then _ else _;rw[i1,Z]
   rfl
  .refine⟨?_,λI L=>(bJ.mp L).elim (λq=>nomatch q) (i2 I)⟩;show(WY W ρ r k++if decide _=true then _ else _)=WY G B r C++if decide _=true then _ else _
   by_cases O:y∈allR
   .have J:(if y∈ys then 0 else GD y _ k)=if y∈ys then 0 else GD y _ C:=J
    rw[aG Ua,aG Ua,<-hp]at J;rw[i1,aZ O];exact congrArg (λt=>WY G B r C++[t]) (Sz O J)
   .rw[i1,bF O];rfl
def OJ(B:∀z:Int,V.int z∈r->0<=z)(h:∀z:Int,V.int z∈r->z/2^k=z/2^i)(C:k<i):b9 r<=k:=by
 refine F6 λz m=>⟨B z m,?_⟩;have e:=h z m;obtain⟨d,rfl⟩:∃d,i=k+1+d:=⟨i-k-1,Vc⟩;rw[show k+1+d=k+(1+d) by lia,Int.pow_add,<-C3 (D9 (qb k)),Int.pow_add]at e;have F:=Int.ediv_nonneg (B z m) (D9 (qb k));rw[<-C3 Va]at e;have D:z/2^k/2^1/2^d<=z/2^k/2^1:=Int.ediv_le_self _ Vb;have q:z/2^k=0:=by
  grind
 have:=Int.lt_mul_ediv_self_add (x:=z) (qb k);rw[q]at this;simpa using this
theorem Rm(S:Yz nm r)(B:dN (eY nm r) (0,List.replicate (Jr r) 0) l){ls:Aj}(C:∀x∈ls,x<2^nm.length):
  iZ (dG (eY nm r) l) 0 ls=n9 l (min (ls.length:Int) (b9 r:Int),WY ls.length (zd ls nm) r ls.length):=by
 have f:=S.ty.facts;have G:(0,List.replicate (Jr r) 0)=(min ((0:Nat):Int) (b9 r),WY ls.length (zd ls nm) r 0):=by
  rw[jm,Wx f.1,show min _ (b9 r:Int)=0 by lia]
 have step:∀k,k<=ls.length->iZ (dG (eY nm r) l) 0 (ls.take k)=n9 l (min k (b9 r),WY ls.length (zd ls nm) r k)/\(min (k:Int) (b9 r),WY ls.length (zd ls nm) r k)∈l:=by
  intro k
  induction k with
  |zero=>
   intro _;rw[<-G];exact⟨B.zero.symm,B.begin.2⟩
  |succ k I=>
   intro L;obtain⟨i1,i2⟩:=I Vb;obtain⟨c,D⟩:∃c,ls[k]?=some c:=⟨_,aQ Vb⟩;have q:=C c (cY D);obtain⟨_,e2⟩:=G8 S.nd S.kp f.1 f.2.1 (show k<ls.length by lia) D q;have F:(eY nm r (min k (b9 r),WY ls.length (zd ls nm) r k))[c]?=some (min ((k+1):Int) (b9 r),WY ls.length (zd ls nm) r (k+1)):=by
    unfold eY eZ;rw[qd q];congr 2;grind
   refine⟨?_,B.next i2 (cY F)⟩;rw[aE D,qh,i1,NX (λs hs x J=>B.next hs J) i2,bO,bG,F];rfl
 have:=(step _ (aN _)).1
 rwa [dR]at this
def UG{q cs:Aj}(S:Yz nm r)(B:dN (eY nm r) (0,List.replicate (Jr r) 0) l)(L:AU nm 0 (dG (eY nm r) l) ot true q cs){ls ls':Aj}
  (h:∀x∈ls,x<2^nm.length) (h':∀x∈ls',x<2^nm.length) (e:aV nm r ls=aV nm r ls'):iZ (eI (cS (dG (eY nm r) l) q) cs) 0 ls=iZ (eI (cS (dG (eY nm r) l) q) cs) 0 ls':=by
 have a:=yH S U ls.length (aN _);have b:=yH S U ls'.length (aN _);rw[dR]at a b;rw[a,b]at e;obtain⟨e1,e2⟩:=QL S.kp S.ty e;have D:min (ls.length:Int) (b9 r)=min (ls'.length:Int) (b9 r):=by
  have iz:=λz C=>(S.iz z C).1;rcases Nat.lt_trichotomy _ _ with z|z|z
  .have:=OJ iz e2 z;grind
  .rw[z]
  .have:=OJ iz (λz C=>(e2 z C).symm) z;lia
 have st:iZ (dG (eY nm r) l) 0 ls=iZ (dG (eY nm r) l) 0 ls':=by rw[Rm S B h,Rm S B h',D,e1]
 have a:=Lq L.al.MM L.W.nr L.W2.nr L.al.b h;have b:=Lq L.al.MM L.W.nr L.W2.nr L.al.b h';rw[st]at a;exact L.al.fn _ _ _ a b
def c7(nm:Ai)(q:A8)(k:Nat)(h:HK):Prop:=∃ls:Aj,ls.length=k/\(∀x∈ls,x<2^nm.length)/\aV nm q ls=h
structure FJ(nm:Ai)(ws:A8):Prop where
 Ij:mF nm ws
 back:∃i j,i<j/\j<=400/\∀h,c7 nm ws i h↔c7 nm ws j h
structure EX(nx:Ad)(n:Nat):Prop where
 set:∀{k:Nat} {S:Aj},S.Nodup->(∀x∈S,AV nx n k x)->S.length<=63
 turns:∀{k:Nat},(∀i j,i<j->j<k->Wk nx n i≠Wk nx n j)->k<=400
def Zpk{D cs:Aj}(S:Yz nm r)(B:dN (eY nm r) (0,List.replicate (Jr r) 0) l)(L:AU nm 0 (dG (eY nm r) l) ot true D cs)
  (M:rE (eI (cS (dG (eY nm r) l) D) cs) (2^nm.length)) (R:FJ nm r):EX (eI (cS (dG (eY nm r) l) D) cs) (2^nm.length):=by
 have fn:=λ{ls ls':Aj}=>UG (ls:=ls) (ls':=ls') S B L;generalize eI _ cs=nx at *;refine⟨λ{k T} hn h=>?_,λ{k} Ua=>?_⟩
 .obtain⟨C,hL,G⟩:=R.Ij k;have ex:∃f:Nat->List Nat,∀x∈T,(f x).length=k/\(∀y∈f x,y<2^nm.length)/\iZ nx 0 (f x)=x:=by
   refine⟨λx=>@dite _ (AV nx (2^nm.length) k x) (Classical.propDecidable _) (λh=>Classical.choose h) λ_=>[],λx q=>?_⟩;have z:=h x q;have e:@dite _ _ (Classical.propDecidable _) _ (λ_=>[])=Classical.choose z:=dif_pos z;have sp:=Classical.choose_spec z;rw[<-e]at sp;exact sp
  obtain⟨f,I⟩:=ex;have:=Qq (AX (f:=λx=>n9 C _) hn λx q y F e=>by
   obtain⟨a1,a2,a3⟩:=I x q;obtain⟨b1,b2,b3⟩:=I y F;rw[<-a3,<-b3];refine fn a2 b2 ?_;have i1:C[n9 C _]?=_:=jk (G _ a1);have i2:C[n9 C _]?=_:=jk (G _ b1);rw[e,i2]at i1;exact(Option.some.inj i1).symm) λx q=>by
   obtain⟨y,F,rfl⟩:=bB.mp q;exact(bW.mp (jk (G _ (I y F).1))).1
  rw[aF]at this;lia
 .refine ω R.back (ε2 λi j=>θ2 λJ hj hh=>?_);have sub:∀i j,(∀h,c7 nm r i h->c7 nm r j h)->∀x,x∈Wk nx _ i->x∈Wk nx _ j:=λi j hh x q=>by
   obtain⟨ls,h1,h2,rfl⟩:=(Y6 M).mp q;obtain⟨Y,Z,O,g3⟩:=hh _ ⟨ls,h1,h2,U⟩;exact(Y6 M).mpr ⟨Y,Z,O,fn O h2 g3⟩
  rcases C9 j k with z|z
  .exact absurd (Hy (Ga nx _ _) (Ga nx _ _) λx=>⟨sub _ _ (λh=>(hh h).mp) x,sub _ _ (λh=>(hh h).mpr) x⟩) (Ua i j J z)
  .lia
def Rw(f:(Nat->Bool)->Nat->Bool)(wb:Bool)(B pl:Aw):Sp:=λvs H Q _=>∃(t:Aw)(q:A8),vs=[.ref t]/\H t=am q/\(∀w∈q,x6 w)/\q.length<=60/\(∀r,i5 q r->Yz r q)/\(∀r,i5 q r->FJ r q)/\Yy H B Zy Zu/\Yy H pl Y1 Y2/\∀p D F r tl C H',i5 q r->Ya (f (Tw q r wb)) tl C->H' p=am [.ref D,.ref F]->H' D=am (tl.map V.bl)->H' F=am (C.map V.bl)->tl.length<=100000->C.length<=100000->Yy H' B Zy Zu->Yy H' pl Y1 Y2->IT B pl H H'->Q (.ref p) H'
theorem Oo:∀(q s:Nat)(xs:Am),xs.length=s*q->(∀j,j+s<xs.length->xs[j+s]?=xs[j]?)->xs=(List.replicate q (xs.take s)).flatten
 |0,s,xs,r,_=>by
  simp_all
 |q+1,s,xs,r,h=>by
  have B:=Oo q s (xs.drop s) Vc λj C=>by
   grind
  have e:(List.replicate q ((xs.drop s).take s)).flatten=(List.replicate q (xs.take s)).flatten:=by
   cases q with
   |zero=>rfl
   |succ q=>
    have:(xs.drop s).take s=xs.take s:=by
     refine rK λj=>?_;rw[lI,lI]
     split
     .grind
     .rfl
    rw[this]
  rw[List.replicate_succ,List.flatten_cons,<-e,<-B,tE]
def TM{s:Nat}(h1:1<=s)(h2:s<=m.length)(h:xG m s):m=(List.replicate (m.length/s) (m.take s)).flatten:=by
 refine Oo _ _ _ (by have:=HM m.length s;rw[h.1]at this;lia) λj q=>?_;have:=IA h2 (show j<m.length by lia);rw[h.2,nP q]at this;exact this.symm
def Sq(q:Am)(L:Nat):dX q 0 L=q.take L:=by
 unfold dX;rw[DT,Hf,dW]
def R6(R:EO m L):
  (dX m (cD z L) L).drop (L-1)++(dX m (cD z L) L).take (L-1)=dX m (cD (z-1) L) L/\(dX m (cD z L) L).getD (L-1) false=m.getD (cD (z-1) L) false:=by
 have q:=R.one;have b:=yG (z:=z) q;have b':=yG (z:=z-1) q;have C:=xh b R.le;have l2:=xh b' R.le;have key:∀j,j<L->(dX m _ L)[(j+(L-1))%L]?=(dX m _ L)[j]?:=λj r=>by
  rw[wR b R.le (oI _ q),wR b' R.le r];congr 1;rw[vL q,vL q];unfold cD;congr 1;rw[BR,Mu,show z+((j+(L-1):Nat))=z-1+j+L by grind,Int.add_emod_right]
 refine⟨rK λj=>?_,?_⟩
 .by_cases r:j<L
  .rw[<-key j r]
   by_cases B:j=0
   .rw[B,iX Vc,Ig,tN,nP Vb];rfl
   .rw[dU Vc,fX,lI,aK Vb,Iz Vb,nP Vb];congr 1;lia
  .rw[pF (by rw[bA,fX,c8];simp_all),pF (by simp_all)]
 .have:=wR b R.le (show L-1<L by lia);refine iT (this.trans ?_);congr 1;rw[vL q,show z+((L-1:Nat))=z-1+L by lia];unfold cD;rw[Int.add_emod_right]
def T5{xs:Am}(h:1<=xs.length):pT (xs.map V.bl) (some (-1)) none=(xs.drop (xs.length-1)).map V.bl/\pT (xs.map V.bl) none (some (-1))=(xs.take (xs.length-1)).map V.bl:=by
 rw[YF,YF];unfold AD;simp only[HT.iJ];refine⟨congrArg _ ?_,congrArg _ ?_⟩
 .rw[rD Vd];try congr 1
  try lia
 .grind
def ZN.sum{n c:Nat}{q:A8}(P:ZN nm false n c q):bQ nm q [false]:=by
 have:=P.ty [] [] .nil
 rwa [dW]at this
structure pS(nm:Ai)(y:Str)(al:Bool)(ws:A8):Prop where
 p:ZN nm false 10 5 ws
 r:HR nm y ws
 s:al=false->ZN nm false 8 3 ws
def Zkr(r:∀y∈nm,y∉Z6){y:Str}(C:y∈nm)(h0:0<=z)(h1:z<2^10)(al:Bool):
  pS nm y al [.str "twice",.str "not",.str y]/\pS nm y al [.str "twice",.str "twice",.str "not",.str y]/\pS nm y al [.str "odd",.int 1,.str "twice",.str "odd",.str y,.str "twice",.str y] /\
  pS nm y al [.str "odd",.int z,.str "twice",.str "twice",.str y]/\pS nm y al [.str "odd",.int 1,.str "twice",.str "odd",.str y,.str "twice",.str "twice",.str y]/\pS nm y al [.str "odd",.int z,.str "twice",.str "twice",.str "twice",.str y] /\
  pS nm y true [.str "odd",.int 1,.str "twice",.str "odd",.str y,.str "twice",.str "twice",.str "twice",.str y]/\pS nm y true [.str "odd",.int 1,.str "twice",.str "twice",.str "odd",.str y,.str "twice",.str "twice",.str "twice",.str y]:=by
 refine ω (T7 r C h0 h1) (θ5 λF I T G Y L=>?_);have nx:Yw (.str y)=false:=bF λz=>r y C (YN y z);have t1:Yw (.str "twice")=true:=Va
 have o1:Yw (.str "odd")=false:=Va
 have Z:Yw (.str "not")=false:=Va
 have i1:∀z:Int,Yw (.int z)=false:=λ_=>rfl;have N:=ZN.name C (r y C);have J:=ZN.int (nm:=nm) (z:=1) Va Va;have tw:∀{n c:Nat} {B:A8},ZN nm false n c B->ZN nm false (n+1) (c+1) _:=λP=>(P.one r (y:= "twice") Wm Wm Wm).le (aN _) Vc;have od:∀{n c n' c':Nat} {B D:A8},ZN nm false n c B->ZN nm false n' c' D->ZN nm false _ (c+c') _:=λP P'=>(P.two r (y:= "odd") Wm Wm Wm P').le (aN _) (aN _);have q:∀{B:A8},ZN nm false 8 3 B->HR nm y B->pS nm y al B:=λP R=>⟨P.le Va Va,R,λ_=>P⟩;have O:ZN nm false 10 5 _:=(od J (tw (od N (tw (tw (tw N)))))).le Va Va;have Ua:ZN nm false 10 5 _:=(od J (tw (tw (od N (tw (tw (tw N))))))).le Va Va;refine⟨q F ⟨gh r _,F.sum,?_,?_⟩,q I ⟨gh r _,I.sum,?_,?_⟩,q T ⟨xi r _ _,T.sum,?_,?_⟩,q G ⟨xi r _ _,G.sum,?_,?_⟩,q Y ⟨xi r _ _,Y.sum,?_,λ_=>⟨[.str "odd",.int 1,.str "twice",.str "odd",.str y],U⟩⟩,q L ⟨xi r _ _,L.sum,?_,λ_=>⟨[.str "odd",.int z,.str "twice"],U⟩⟩,⟨O,⟨xi r _ _,O.sum,?_,?_⟩,λh=>nomatch h⟩,⟨Ua,⟨xi r _ _,Ua.sum,?_,λ_=>⟨[.str "odd",.int 1,.str "twice",.str "twice",.str "odd",.str y,.str "twice"],U⟩⟩,λh=>nomatch h⟩⟩
 all_goals simp only[bU,t1,o1,Z,i1,nx,List.filter_nil,cQ,nL,if_true,if_false,ET]
 all_goals first|decide|(intro h;lia)
def yJ(y:Str)(al:Bool)(q:A8):Prop:=(∀nm:Ai,y∈nm->(∀z∈nm,z∉Z6)->pS nm y al q)/\∀z,V.str z∈q->z∈Z6\/z=y
def vO{y:Str}(C:0<=z)(h1:z<2^10)(al:Bool):
  yJ y al [.str "twice",.str "not",.str y]/\yJ y al [.str "twice",.str "twice",.str "not",.str y]/\yJ y al [.str "odd",.int 1,.str "twice",.str "odd",.str y,.str "twice",.str y] /\
  yJ y al [.str "odd",.int z,.str "twice",.str "twice",.str y]/\yJ y al [.str "odd",.int 1,.str "twice",.str "odd",.str y,.str "twice",.str "twice",.str y]/\yJ y al [.str "odd",.int z,.str "twice",.str "twice",.str "twice",.str y] /\
  yJ y true [.str "odd",.int 1,.str "twice",.str "odd",.str y,.str "twice",.str "twice",.str "twice",.str y]/\yJ y true [.str "odd",.int 1,.str "twice",.str "twice",.str "odd",.str y,.str "twice",.str "twice",.str "twice",.str y]:=by
 have H:=λnm (r:y∈nm) q=>Zkr q r C h1 al;have I:("twice" : Str)∈Z6:=Va
 have F:("odd" : Str)∈Z6:=Va
 have D:("not" : Str)∈Z6:=Va
 have o:∀{B:A8},(∀w∈B,w=.str "twice" \/ w=.str "odd" \/ w=.str "not" \/ (∃i,w=.int i)\/w=.str y)->∀z,V.str z∈B->z∈Z6\/z=y:=λh z G=>by
  grind
 refine⟨⟨λnm r q=>(H nm r q).1,o ?_⟩,⟨λnm r q=>(H nm r q).2.1,o ?_⟩,⟨λnm r q=>(H nm r q).2.2.1,o ?_⟩,⟨λnm r q=>(H nm r q).2.2.2.1,o ?_⟩,⟨λnm r q=>(H nm r q).2.2.2.2.1,o ?_⟩,⟨λnm r q=>(H nm r q).2.2.2.2.2.1,o ?_⟩,⟨λnm r q=>(H nm r q).2.2.2.2.2.2.1,o ?_⟩,⟨λnm r q=>(H nm r q).2.2.2.2.2.2.2,o ?_⟩⟩
 all_goals simp
def Ci(x:Str)(A:A8):Prop:=CC x A/\∀z,V.str z∈A->z∈Z6\/z=x
def UY  {w:Str}  {R A:A8} (hw:w∈(["both","so"]:Ai)) (S:Yz N ([V.str w,.str "nought",.str "odd",.str x]++R++A)) (G:∀y∈N,V.str y∈[V.str w,.str "nought",.str "odd",.str x]++R++A) (q:x∈N) (hR:yJ x j R) (D:Ci x A):
  mF N ([V.str w,.str "nought",.str "odd",.str x]++R++A):=by
 have F:=by
  have:∀w∈(["both","so"]:Ai),w∈Z6:=Va
  exact this w hw
 have nk:("nought" : Str)∈Z6:=Va
 have ok:("odd" : Str)∈Z6:=Va
 have all:∀y∈N,y=x:=λy C=>by
  have h:=G y C;have B:=S.kp y C;rcases cT.mp h with h|h
  .rcases cT.mp h with h|h
   .grind
   .exact(hR.2 y h).resolve_left B
  .exact(D.2 y h).resolve_left B
 exact US hw S q all (hR.1 N q S.kp).r D.1
def Zh3  {w z c:Str} {R A:A8} (hw:w∈(["both","so"]:Ai)) (I:c∈(["both","either","so"]:Ai)) (S:Yz N ([V.str w,.str "nought",.str "or",.str "odd",.str x]++R++[V.str "odd",.str z]++Y++[V.str c,.str "sign",.str z]++A)) (T:∀y∈N,V.str y∈[V.str w,.str "nought",.str "or",.str "odd",.str x]++R++[V.str "odd",.str z]++Y++[V.str c,.str "sign",.str z]++A)
  (C:x∈N) (J:z∈N) (hR:yJ x false R) (F:yJ z false Y) (O:(Y.filter Yw).length<=2) (L:Ci x A):
  mF N ([V.str w,.str "nought",.str "or",.str "odd",.str x]++R++[V.str "odd",.str z]++Y++[V.str c,.str "sign",.str z]++A):=by
 have B:=by
  have:∀w∈(["both","so"]:Ai),w∈Z6:=Va
  exact this w hw
 have D:=by
  have:∀w∈(["both","either","so"]:Ai),w∈Z6:=Va
  exact this c I
 have ok:("odd" : Str)∈Z6:=Va
 have all:∀y∈N,y=x\/y=z:=λy G=>by
  have h:=T y G;have q:=S.kp y G;simp only[cT,bJ,fG,l8,V.str.injEq]at h;rcases h with((((((rfl|rfl|rfl|rfl|h)|h)|(rfl|h))|h)|(rfl|rfl|h))|h)
  .exact absurd B q
  .exact absurd Va q
  .exact absurd Va q
  .exact absurd ok q
  .exact .inl h
  .exact .inl ((hR.2 y h).resolve_left q)
  .exact absurd ok q
  .exact .inr h
  .exact .inr ((F.2 y h).resolve_left q)
  .exact absurd D q
  .exact absurd Va q
  .exact .inr h
  .exact .inl ((L.2 y h).resolve_left q)
 have e:([V.str w,.str "nought",.str "or",.str "odd",.str x]++R++[V.str "odd",.str z]++Y++[V.str c,.str "sign",.str z]++A)=.str w::.str "nought" :: .str "or" :: .str "odd" :: .str x::(R++.str "odd" :: .str z::(Y++.str c::.str "sign" :: .str z::A)):=Vd
 rw[e]at S ⊢;exact Zkn hw I S C J all (hR.1 N C S.kp).r ((hR.1 N C S.kp).s U).rm (F.1 N J S.kp).r.g O L.1
def uE{q:Ai}(N:i5 r q)(y:Str):y∈q↔V.str y∈r/\y∉Z6/\nV y:=by
 rw[N.1.mem_iff,kQ];constructor
 .intro h;obtain⟨w,hw,rfl⟩:=bB.mp h;obtain⟨h1,h2⟩:=oD.mp hw;cases w with
  |str y=>exact⟨h1,dB h2⟩
  |_=>cases h2
 .exact λh=>bB.mpr ⟨.str y,oD.mpr ⟨h.1,aZ h.2⟩,U⟩
def BK{Q:VK}(q:V->Hp->Prop)(h1:∀N:VK,(∀v H,q v H->N v H)->Io d J c H N)(h2:∀v H,q v H->Q v H):Io d J c H Q:=h1 _ h2
def uF (q:∀y∈nm,y∉Z6) {y w:Str} (C:y∈nm) (hw:w∈(["both","so"]:Ai))  (R:ZN nm false 10 5 r) (A:ZN nm true 3 1 Y):ZN nm true 20 10 ([V.str w,.str "nought",.str "odd",.str y]++r++Y):=by
 have B:=(by decide +kernel:∀w∈(["both","so"]:Ai),w∈mM/\aU w=[true,true]/\decide (w∈Z2)=true) w hw;have:=((((ZN.name C (q y C)).two q (y:= "odd") (b':=false) Wm Wm Wm R).one q (y:= "nought") Wm Wm Wm).two q B.1 B.2.1 B.2.2 A).le (n':=20) (c':=10) Va Vc;simpa using this
theorem SI[DecidableEq g]{wl:List (g×V)}{k:g}:bD wl k v≠[]:=by
 unfold bD;split
 .rename_i h;cases wl with
  |nil=>cases h
  |cons a r=>exact nofun
 .simp
def IZ(P:Aj->Prop):(∃vs∈cV 2 n,P vs)↔∃l,l<2^n/\P (eV n [l]):=by
 have one:∀v,0 < @ite Nat (P v) (Classical.propDecidable _) 1 0↔P v:=λv=>by
  lia
 have a:=GC (l:=cV 2 n) (g:=λv=>@ite Nat (P v) (Classical.propDecidable _) 1 0);rw[uz n]at a;have:=a.symm.trans (GC);simpa only[one,e8]using this
theorem c7.zero{h:HK}:c7 nm r 0 h↔h=r.map wV:=
 ⟨ε1 λls=>θ2 λh1 _ h2=>by rw[pI h1]at h2;exact h2.symm,λe=>⟨[],U,(λ_ z=>nomatch z),e.symm⟩⟩
def c7.succ{q:A8}{k:Nat}{x:HK}:c7 nm q (k+1) x↔∃h,c7 nm q k h/\∃vs∈cV 2 nm.length,nG nm q h vs=x:=by
 constructor
 .rintro⟨ls,h1,h2,rfl⟩;rcases qo ls with rfl|⟨r,c,rfl⟩
  .cases h1
  .rw[bA]at h1;exact⟨_,⟨r,Nat.succ.inj h1,λx B=>h2 x (cT.mpr (.inl B)),U⟩,(IZ _).mpr ⟨c,h2 c (cT.mpr (.inr (cA.mpr U))),(WO nm q r c).symm⟩⟩
 .rintro⟨h,⟨r,h1,h2,rfl⟩,C⟩;obtain⟨c,D,e⟩:=(IZ _).mp C;refine⟨_,Vc,λx B=>?_,(WO nm q r c).trans e⟩;rcases cT.mp B with z|z
  .exact h2 x z
  .grind
theorem c7.mW{q:A8}{j k:Nat}(e:∀h,c7 nm q j h↔c7 nm q k h):∀i h,c7 nm q (j+i) h↔c7 nm q (k+i) h
 |0,h=>e h
 |i+1,h=>by
  show c7 nm q ((j+i)+1) h↔c7 nm q ((k+i)+1) h;rw[c7.succ,c7.succ];exact HH λg=>and_congr_left λ_=>c7.mW e i g
def MV(S:Yz nm r):Tw r nm wb i=true↔∃h,c7 nm r i h/\∃vs∈cV 2 nm.length,decide (nQ nm r h vs=1)=wb:=by
 rw[Qc];constructor
 .refine ε1 λls=>θ2 λh1 h2 B=>?_;rcases qo ls with rfl|⟨q,c,rfl⟩
  .cases h1
  .rw[bA]at h1;obtain rfl:q.length=i:=Nat.succ.inj h1;rw[<-vJ (λy C=>GB C _) S.ty,(wZ S q c).2]at B;refine⟨_,⟨q,U,λx D=>h2 x (cT.mpr (.inl D)),U⟩,(IZ _).mpr ⟨c,h2 c (cT.mpr (.inr (cA.mpr U))),?_⟩⟩;split at B
   .grind
   .exact absurd B (iC 0)
 .rintro⟨h,⟨q,rfl,h2,rfl⟩,F⟩;obtain⟨c,G,e⟩:=(IZ _).mp F;refine⟨q++[c],Vd,λx D=>?_,?_⟩
  .grind
  .rw[<-vJ (λy C=>GB C _) S.ty,(wZ S q c).2,e,aK U];exact Nat.one_pos
def Pd(F:mF nm r){S:List HK}(B:S.Nodup)(h:∀x∈S,c7 nm r k x):S.length<=63:=by
 obtain⟨L,D,C⟩:=F k;exact cC (Xe B λx q=>by obtain⟨ls,h1,_,rfl⟩:=h x q;exact C ls h1) D
structure pG(nm:Ai)(ws:A8)(L:List (HK×Aj))(S:List HK)(bs:Am):Prop where
 nd:S.Nodup
 s:∀x,x∈S↔∃p∈L,nG nm ws p.1 p.2=x
 b:∀b,b∈bs↔∃p∈L,decide (nQ nm ws p.1 p.2=1)=b
def OY{x y:g}[Decidable (x∈l)]:y∈(if x∈l then l else l++[x])↔y∈l\/x=y:=Vc
def Qi{L:List g}{p:g}{P:g->Prop}:(∃q∈L++[p],P q)↔(∃q∈L,P q)\/P p:=(by simp_all)
theorem pG.add{L:List (HK×Aj)}{S:List HK}(A:pG nm r L S m)(p:HK×Aj):
  pG nm r (L++[p]) (if nG nm r p.1 p.2∈S then S else S++[nG nm r p.1 p.2]) (if decide (nQ nm r p.1 p.2=1)∈m then m else m++[decide (nQ nm r p.1 p.2=1)]):=by
 refine⟨?_,λx=>by rw[OY,A.s,Qi],λx=>by rw[OY,A.b,Qi]⟩;split
 .exact A.nd
 .rename_i B;rw[Bu];exact⟨A.nd,fZ.mpr ⟨nofun,fL⟩,λy C z D q=>B Vc⟩
def mJ(nm:Ai)(q:List HK):List (HK×Aj):=q.flatMap λh=>(cV 2 nm.length).map λvs=>(h,vs)
def XC{q:List HK}{p:HK×Aj}:p∈mJ nm q↔p.1∈q/\p.2∈cV 2 nm.length:=by
 unfold mJ;constructor
 .grind
 .grind
theorem pG.lA{nm:Ai}{k:Nat}{q:List HK}(C:∀h,h∈q↔c7 nm r k h){L:List (HK×Aj)}{S:List HK}(A:pG nm r L S m)(F:∀p∈L,p∈mJ nm q):∀x∈S,c7 nm r (k+1) x:=λx B=>by
 obtain⟨p,D,e⟩:=(A.s x).mp B;obtain⟨h1,h2⟩:=XC.mp (F p D);exact c7.succ.mpr ⟨p.1,(C _).mp h1,p.2,h2,e⟩
def pG.all{q:List HK}(B:∀h,h∈q↔c7 nm r k h){S:List HK}(A:pG nm r (mJ nm q) S m)(x:HK):x∈S↔c7 nm r (k+1) x:=by
 rw[A.s,c7.succ];exact⟨λ⟨p,h1,h2⟩=>⟨p.1,(B _).mp (XC.mp h1).1,p.2,(XC.mp h1).2,h2⟩,λ⟨h,h1,vs,h2,C⟩=>⟨(h,vs),XC.mpr ⟨(B h).mpr h1,h2⟩,C⟩⟩
def pG.tw{q:List HK}(C:Yz nm r)(B:∀h,h∈q↔c7 nm r k h){S:List HK}(A:pG nm r (mJ nm q) S m)(wb:Bool):decide (wb∈m)=Tw r nm wb k:=by
 rw[mV,rY,A.b,MV C];exact⟨λ⟨p,h1,h2⟩=>⟨p.1,(B _).mp (XC.mp h1).1,p.2,(XC.mp h1).2,h2⟩,λ⟨h,h1,vs,h2,D⟩=>⟨(h,vs),XC.mpr ⟨(B h).mpr h1,h2⟩,D⟩⟩
def LT:HO->Prop
 |.lst _=>True
 |.tup _=>True
 |_=>False
def fH(H H':Hp):Prop:=∀b u,H b=some u->LT u->H' b=some u
def fH.of(s:Z8 H H'):fH H H':=λb u e _=>s b u e
def fH.trans(s:fH H q)(t:fH q H2):fH H H2:=λb u e h=>t b u (s b u e h) h
theorem fH.put{d:Aw}{o u:HO}(e:H d=some o)(h:¬LT o):fH H (aA H d u):=λb v q r=>by
 rw[Zk (λz=>h Vc)];exact q
def uA.klt{h:HK}(R:uA nm r H h a)(s:fH H H'):uA nm r H' h a:=by
 revert R;refine ε1 λas=>θ2 λh1 h2 D=>?_;refine⟨as,s _ _ h1 trivial,h2,λi b vs B F=>?_⟩;obtain⟨c,q,C⟩:=D i b vs B F;exact⟨c,s _ _ q trivial,s _ _ C trivial⟩
def Sb(n:Nat):0<(cV 2 n).length:=by
 rw[ur];exact Nat.pow_pos Va
def uA.put{h:HK}{u:HO}(R:uA nm r H h a)(e:H f=ap (m.map V.bl)):uA nm r (aA H f u) h a:=by
 revert R;refine ε1 λas=>θ2 λh1 h2 D=>?_;have ne:a≠f:=λz=>by
  rw[z,e]at h1;injection h1 with h1;injection h1 with h1;have:=Sb nm.length;cases as with
  |nil=>rw[<-h2]at this;cases this
  |cons x as=>cases m with
   |nil=>cases h1
   |cons y m=>injection h1 with h1;cases h1
 refine⟨as,(Zk ne).trans h1,h2,λi b vs C F=>?_⟩;obtain⟨c,B,q⟩:=D i b vs C F;exact⟨c,(Zk (Yg B e nofun)).trans B,(Zk (Yg q e nofun)).trans q⟩
def vP{d:Aw}(n:jG H d m):∃o,H d=some o/\¬LT o/\∀x,o≠.dT x:=by
 rcases n with⟨_,e⟩|e
 .exact⟨_,e,id,λ_ z=>nomatch z⟩
 .exact⟨_,e,id,λ_ z=>nomatch z⟩
def zj{d:Aw}(n:jG H d m)(e:H' d=H d):jG H' d m:=by
 rcases n with⟨h,e1⟩|e1
 .exact .inl ⟨h,e.trans e1⟩
 .exact .inr (e.trans e1)
def dS(S:List HK):List (List aX×V):=dH (λ_:Unit=>V.bl true) (S.map λh=>(h,()))
def CM(S:List HK)(h:HK):bD (dS S) (kH h) (.bl true)=dS (if h∈S then S else S++[h]):=by
 have e:(S.map λh=>(h,())).map (·.1)=S:=by rw[bI];exact List.map_id' S
 by_cases q:h∈S
 .rw[aK q];have a:(dS S).any (λr=>decide (r.1=kH h))=true:=lC.mpr ⟨_,bB.mpr ⟨(h,()),bB.mpr ⟨h,q,U⟩,U⟩,aZ U⟩;unfold bD;rw[aK a];unfold dS dH;rw[bI,bI,bI];refine fE λx _=>?_;show(if _ then _ else _)=_
  split<;>rfl
 .rw[aG q];unfold dS;rw[QM Vc,b0];rfl
def Bk(S:List HK):(dS S).length=S.length:=by
 unfold dS;rw[Pz,aF]
structure Bh(nm:Ai)(ws:A8)(kd fd td:Aw)(wl:List (HK×Aw))(L:List (HK×Aj))(S:List HK)(bs:Am)(H:Hp):Prop where
 k:H kd=some (.dT (dH V.ref wl))
 nd:(wl.map (·.1)).Nodup
 rc:∀q∈wl,mL nm ws q.1
 BE:∀q∈wl,uA nm ws H q.1 q.2
 f:H fd=some (.dT (dS S))
 t:jG H td bs
 acc:pG nm ws L S bs
def Bh.same{nm:Ai}{B:A8}{r fd td:Aw}{wl:List (HK×Aw)}{L:List (HK×Aj)}{S:List HK}{bs:Am}{H H':Hp}(T:Bh nm B r fd td wl L S bs H)(s:Z8 H H'):Bh nm B r fd td wl L S bs H':=by
 obtain⟨o,e,_⟩:=vP T.t;exact⟨s _ _ T.k,T.nd,T.rc,λq C=>(T.BE q C).same s,s _ _ T.f,zj T.t (by rw[s _ _ e,e]),T.acc⟩
structure FO(nm:Ai)(ws:A8)(kd sd al so:Aw)(n:Nat)(wl:List (HK×Aw))(st:Aw)(as:List Aw)(hl:List HK)(kv:List (List HK×V))(H:Hp):Prop where
 k:H kd=some (.dT (dH V.ref wl))
 nd:(wl.map (·.1)).Nodup
 rc:∀q∈wl,mL nm ws q.1
 BE:∀q∈wl,uA nm ws H q.1 q.2
 s:H st=ap (as.map V.ref)
 t:gg H as hl
 hn:hl.Nodup
 he:∀h,h∈hl↔c7 nm ws n h
 a:H al=ap (((List.range n).map λi=>!Tw ws nm false i).map V.bl)
 o:H so=ap (((List.range n).map λi=>Tw ws nm true i).map V.bl)
 d:G3 IF H sd kv
 dn:kv.length=n
 dv:∀q∈kv,∃i:Nat,i<n/\q.2=.int i/\∀h,h∈q.1↔c7 nm ws i h
def Zpn[DecidableEq g]{wl:List (g×V)}{k:g}(h:Ym wl k=some v):(k,v)∈wl:=by
 obtain⟨q,h1,rfl⟩:=eA.mp h;have h2:=List.find?_some h1;have h2:=dB h2;rw[<-h2];exact List.mem_of_find?_eq_some h1
theorem Tz{q:List HK}(T:gg H as q)(e:H a=am (as.map V.ref)):Qw H q a:=
 ⟨as,e,T.1,λj t h h1 h2=>⟨_,T.2 j t h h1 h2,by rw[bI];rfl⟩⟩
def gg.klt{as:List Aw}{q:List HK}(T:gg H as q)(s:fH H H'):gg H' as q:=⟨T.1,λi a h r hh=>s _ _ (T.2 i a h r hh) trivial⟩
def vQ[DecidableEq g]{kn:KN g}{d:Aw}{wl:List (g×V)}(n:G3 kn H d wl):∃o,H d=some o/\¬LT o/\∀x,o≠.dT x:=by
 rcases n.2.2 with⟨_,e⟩|⟨ys,e,_⟩
 .exact⟨_,e,id,λ_ z=>nomatch z⟩
 .exact⟨_,e,id,λ_ z=>nomatch z⟩
def Zkt(nm:Ai)(q:List HK)(h:HK):mJ nm (q++[h])=mJ nm q++(cV 2 nm.length).map λvs=>(h,vs):=by
 unfold mJ;rw[List.flatMap_append,sY,Lc,dW]
set_option genInjectivity false in
set_option genSizeOfSpec false in
structure KP where
 Ui:Aw
 aad:Ao
 rp:Aw
 rq:Ao
 me:Aw
 mf:Ao
 aae:Aw
 Uv:Ao
 pj:Aw
 pv:Ao
 rr:Aw
 rz:Ao
 ni:Aw
 nj:Ao
 ka:Aw
 ki:Ao
 nq:Aw
 nu:Ao
 lb:Aw
 lh:Ao
 rb:Aw
 rd:Ao
 sh:Aw
 si:Ao
 Ux:Aw
 VB:Ao
 nv:Aw
 nz:Ao
 il:Aw
 ip:Ao
 TN:Aw
 abb:Ao
 abl:Aw
 abm:Ao
 Tc:Aw
 aaj:Ao
 og:Aw
 oh:Ao
 rf:Aw
 rh:Ao
 UW:Aw
 Vk:Ao
 sj:Aw
 sr:Ao
 su:Aw
 sy:Ao
 oi:Aw
 oj:Ao
 mh:Aw
 mi:Ao
 mj:Aw
 mm:Ao
 tj:Aw
 tq:Ao
 om:Aw
 oq:Ao
 mn:Aw
 mq:Ao
 iq:Aw
 ir:Ao
 lj:Aw
 lq:Ao
 aam:Aw
 aan:Ao
 abd:Aw
 V8:Ao
 mr:Aw
 mw:Ao
 tu:Aw
 vl:Ao
 ou:Aw
 ox:Ao
 VG:Aw
 TC:Ao
 vr:Aw
 wh:Ao
 iu:Aw
 iw:Ao
 my:Aw
 mz:Ao
 Sj:Aw
 aar:Ao
 ri:Aw
 rj:Ao
 oy:Aw
 oz:Ao
 SY:Aw
 Ud:Ao
 V7:Aw
 aab:Ao
 rk:Aw
 rn:Ao
 abf:Aw
 Ul:Ao
 lu:Aw
 lx:Ao
 Vq:Aw
 nc:Ao
 ij:Aw
 fe:Ao
 ly:Aw
 lz:Ao
 ix:Aw
 iy:Ao
 pe:Aw
 ph:Ao
 S8:Aw
 Uo:Ao
 UO:Aw
 aav:Ao
 abr:Aw
 TF:Ao
 ie:Aw
 aq:Aw
 bw:Aw
 aa:Aw
 br:Aw
 ax:Aw
 aj:Aw
 Sd:Tok
 ng:Tok
 dk:Aw
structure Kg(K:Af)(w:Au)(mg:Ae)(x:Str)(a:Aw)(l:List (Str×Int)):Prop where
 m:mg x=some (.ref a)
 d:KD K w a l
structure Kt(K:Af)(mg:Ae)(x:Str)(a:Aw)(l:Ai):Prop where
 m:mg x=some (.ref a)
 d:∀H,aL K H a (l.map V.str)
structure Df(K:Af)(mg:Ae)(x:Str)(st:Ay)(ps:Ai)(f:Aw)(fd:Ao):Prop where
 F:tS K x x st f fd
 m:mg x=some (.ref f)
 b:c5 K fd ps []
abbrev bT{mg:Ae}{st:Ay}{fd:Ao}(_:Df K mg x st N f fd)(P:Aq)(w:Au)(wv:Heap)(k:Nat)(sp:Sp):Prop:=g7 P w K mg wv lR k f fd N sp
theorem Df.go{mg:Ae}{wv:Heap}{st:Ay}{ps:Ai}{fd:Ao}{k:Nat}{sp:Sp}(d:Df K mg x st ps f fd)(S:Zv N ps (Zj st))(b:∀(B:Av)(A:Ar)(xz:List Env)(s:As)(H:Hp)(vs:A8)(Q:VK)(E:XK),Jk k (A.deeper (envOfC x (Zj st) s.heap.objs.size f B))->sp vs H Q E->∃t,nW (pX lR P w K mg wv N x (Zj st) f B A xz s H E).tX (Xr st) t/\t {nx:=λ_ H'=>Q .bN H',rt:=Q} (start N vs) H)(len:∀vs H Q E,sp vs H Q E->vs.length=ps.length:=by rintro _ _ _ _ ⟨⟩;subst_vars;rfl):g7 P w K mg wv lR (k+1) f fd ps sp:=d.F.ok S len λc A o s H vs Q E C h=>let⟨t,q,r⟩:=b c A o s H vs Q E C h;⟨t,q.out,r⟩
def Zs {X:Cx}  {st:Ay}   {fd:Ao} {k:Nat} {sp:Sp}    {t:TA} (d:Df X.K X.mg x st N f fd) (F:g7 X.prog X.w X.K X.mg X.base lR k f fd N sp) (C:Jk n X.A) (B:QA X (e::E) t) (r:k<=n:=by decide) (D:Gl X x:=by exact U) (q:(x == ("__debug__" : Str))=false:=by decide) (G:(e::E).all Yi=true:=by rfl):QE X (.Call (.Name x p) (e::E) [] y) (Hm sp [] E0 t):=Yk F (C.mono r) D d.m d.F.kp d.b .nil Jl B q G
set_option genInjectivity false in
set_option genSizeOfSpec false in
structure OV(K:Af)(w:Au)(mg:Ae)(t:KP):Prop where
 br:Kg K w mg "SUM_PARTS" t.br [("not",1),("neg",1),("twice",1),("low",1),("and",2),("or",2),("odd",2),("add",2),("sub",2),("pick",3)]
 ax:Kg K w mg "SUMS_IN_CLAIM" t.ax [("same",2),("under",2),("beneath",2),("sign",1),("nought",1)]
 aj:Kg K w mg "CLAIMS_IN_CLAIM" t.aj [("both",2),("either",2),("so",2),("never",1),("yes",0)]
 TR:mg "LETTERS" = some (.str "abcdefghijklmnopqrstuvwxyz" t.Sd)
 nh:mg "LONGEST_NAME" = some (.int 8 t.ng)
 dk:Kt K mg "REMEMBERING" t.dk ["neg","twice","low","add","sub","same","under","beneath","nought"]
 ft:Df K mg "words_at" yx ["width"] t.Ui t.aad
 bu:Df K mg "number_of" zH ["bits"] t.rp t.rq
 cz:Df K mg "state_number" Gh ["state","states","numbers"] t.me t.mf
 di:Df K mg "numbered" qZ ["marks"] t.aae t.Uv
 cf:Df K mg "classes_of" J7 ["states","classes"] t.pj t.pv
 ff:Df K mg "firsts_of" zI ["classes"] t.rr t.rz
 bc:Df K mg "is_sum_word" GU ["text"] t.ni t.nj
 ay:Df K mg "is_claim_word" J8 ["text"] t.ka t.ki
 bf:Df K mg "sums_behind" GV ["word"] t.nq t.nu
 az:Df K mg "claims_behind" J9 ["word"] t.lb t.lh
 bh:Df K mg "is_made_of" JA ["text","signs"] t.rb t.rd
 cy:Df K mg "remembers" zJ ["word"] t.sh t.si
 bj:Df K mg "borrowed" yy ["one","other","held"] t.Ux t.VB
 dm:Df K mg "out_at_once" GW ["word","parts"] t.nv t.nz
 cg:Df K mg "longest_number" WU ["words"] t.il t.ip
 cm:Df K mg "bits_at" zK ["columns","letter"] t.TN t.abb
 fq:Df K mg "turned" Ny ["truths"] t.abl t.abm
 fu:Df K mg "all_next" yz ["states","steps"] t.Tc t.aaj
 dt:Df K mg "ring_length" GX ["ring"] t.og t.oh
 au:Df K mg "_law_number" x4 ["script","k"] t.rf t.rh
 fw:Df K mg "_law_name" y1 ["number"] t.UW t.Vk
 bb:Df K mg "_law_parts" zL ["word"] t.sj t.sr
 fg:Df K mg "_law_named" G4 ["words"] t.su t.sy
 du:Df K mg "_law_choices" GY ["names","full"] t.oi t.oj
 da:Df K mg "_law_step_one" Gi ["word","was","one"] t.mh t.mi
 dc:Df K mg "_law_step_two" Gj ["word","was","one","other"] t.mj t.mm
 fh:Df K mg "_law_begun" zM ["words"] t.tj t.tq
 dw:Df K mg "_law_held_to" GZ ["number","name","alone"] t.om t.oq
 bp:Df K mg "_law_shortest" Gk ["truths","back"] t.mn t.mq
 bg:Df K mg "_law_all_truths" Xt ["told"] t.iq t.ir
 cq:Df K mg "alike_classes" X9 ["steps","out"] t.lj t.lq
 bx:Df K mg "parts_of" y3 ["word"] t.aam t.aan
 cu:Df K mg "is_name" wm ["text"] t.abd t.V8
 df:Df K mg "name_columns" Wj ["names","letters"] t.mr t.mw
 fi:Df K mg "kept_then" zN ["word","parts","held"] t.tu t.vl
 dy:Df K mg "out_by_kept" qa ["word","parts","held","then"] t.ou t.ox
 fy:Df K mg "shortest" y4 ["tail","ring"] t.VG t.TC
 fj:Df K mg "_law_names" zP ["script","start","many"] t.vr t.wh
 cj:Df K mg "_law_claim_word" WV ["number","room","left"] t.iu t.iw
 dh:Df K mg "_law_sum_word" Gm ["number","room","left","names","top"] t.my t.mz
 gb:Df K mg "_law_step" y6 ["words","held","bits"] t.Sj t.aar
 el:Df K mg "_law_ringed" x5 ["script","start","names"] t.ri t.rj
 dz:Df K mg "parts_taken" WM ["stack","word"] t.oy t.oz
 bz:Df K mg "names_of" xa ["words"] t.SY t.Ud
 fk:Df K mg "_law_words" zQ ["script","start","names","most","left","top","claim"] t.V7 t.aab
 et:Df K mg "_law_truths" JB ["words","names"] t.rk t.rn
 cx:Df K mg "stepped" wo ["words","columns","place","kept"] t.abf t.Ul
 ag:Df K mg "machine_found" XA ["names","begin","step_of"] t.lu t.lx
 eu:Df K mg "least" zR ["machine"] t.Vq t.nc
 ao:Df K mg "machine_telling" Yf ["words","names","told"] t.ij t.fe
 ba:Df K mg "claim_machine" JC ["claim","names"] t.ly t.lz
 ck:Df K mg "least_of_claim" WW ["claim"] t.ix t.iy
 ai:Df K mg "widths_with" Xz ["claim","wanted"] t.pe t.ph
 ia:Df K mg "for_all" wq ["claim"] t.S8 t.Uo
 gc:Df K mg "for_some" y7 ["claim"] t.UO t.aav
 P5:Df K mg "law" Lz ["script"] t.abr t.TF
 Vr:t.nc.code=.ref t.ie
 ik:t.fe.code=.ref t.bw
 ib:t.aq≠t.aa
 abu:mg "all" = none
 R1:mg "any" = none
 abp:mg "bool" = none
 VU:mg "dict" = none
 ic:mg "enumerate" = none
 cb:mg "int" = none
 ah:mg "isinstance" = none
 af:mg "len" = none
 ro:mg "list" = none
 gi:mg "max" = none
 ma:mg "min" = none
 bq:mg "range" = none
 ig:mg "reversed" = none
 Nt:mg "set" = none
 dj:mg "sorted" = none
 Ni:mg "str" = none
 ae:mg "tuple" = none
 NO:mg "zip" = none
set_option genInjectivity false in
set_option genSizeOfSpec false in
structure Tbs(mg:Ae)(base:Heap)(t:KP):Prop where
 ie:PySem.W.CodeHd base t.ie t.aq
 bw:PySem.W.CodeHd base t.bw t.aa
 B:yY mg base
def WQ:Zv ["width","many","bit_number"] ["width"] (Zj yx):={}
def XW:Zv ["bits","number","bit"] ["bits"] (Zj zH):={}
def jv:Zv ["state","states","numbers"] ["state","states","numbers"] (Zj Gh):={}
def jw:Zv ["marks","numbers"] ["marks"] (Zj qZ):={}
def vR:Zv ["states","classes"] ["states","classes"] (Zj J7):={}
def XX:Zv ["classes","firsts","state","number"] ["classes"] (Zj zI):={}
def jM:Zv ["text"] ["text"] (Zj GU):={}
def xI:Zv ["text"] ["text"] (Zj J8):={}
def jN:Zv ["word"] ["word"] (Zj GV):={}
def xJ:Zv ["word"] ["word"] (Zj J9):={}
def vS:Zv ["text","signs"] ["text","signs"] (Zj JA):={}
def gj:Zv ["word"] ["word"] (Zj zJ):={}
def uG:Zv ["one","other","held"] ["one","other","held"] (Zj yy):={}
def jO:Zv ["word","parts"] ["word","parts"] (Zj GW):={}
def xj:Zv ["words"] ["words"] (Zj WU):={}
def Zdi:Zv ["columns","letter"] ["columns","letter"] (Zj zK):={}
def Zh8:Zv ["truths"] ["truths"] (Zj Ny):={}
def WR:Zv ["states","steps","reached","state","led_to"] ["states","steps"] (Zj yz):={}
def Wn:Zv ["ring","length"] ["ring"] (Zj GX):={}
def Yb:Zv ["script","k","cells","size","cell","turn","step","seed"] ["script","k"] (Zj x4):={}
def Xg:Zv ["number","letters","some","name","k"] ["number"] (Zj y1):={}
def gk:Zv ["word"] ["word"] (Zj zL):={}
def JI:Zv ["words","kept"] ["words"] (Zj G4):={}
def Yd:Zv ["names","full","found","name","wider","values","word","more"] ["names","full"] (Zj GY):={}
def jx:Zv ["word","was","one"] ["word","was","one"] (Zj Gi):={}
def XD:Zv ["word","was","one","other","less"] ["word","was","one","other"] (Zj Gj):={}
def JJ:Zv ["words","found","word"] ["words"] (Zj zM):={}
def Wo:Zv ["number","name","alone","ahead_of","some"] ["number","name","alone"] (Zj GZ):={}
def Yv:Zv ["truths","back","tail","ring","size"] ["truths","back"] (Zj Gk):={}
def Wy:Zv ["told","row"] ["told"] (Zj Xt):={}
def Y0:Zv ["steps","out","classes","many"] ["steps","out"] (Zj X9):={}
def uH:Zv ["word"] ["word"] (Zj y3):={}
def Zdj:Zv ["text"] ["text"] (Zj wm):={}
def YW:Zv ["names","letters","columns","place","name"] ["names","letters"] (Zj Wj):={}
def x9:Zv ["word","parts","held","one"] ["word","parts","held"] (Zj zN):={}
def jP:Zv ["word","parts","held","then"] ["word","parts","held","then"] (Zj qa):={}
def XE:Zv ["tail","ring","length","kept","begin"] ["tail","ring"] (Zj y4):={}
def JK:Zv ["script","start","many","found","k"] ["script","start","many"] (Zj zP):={}
def ZH:Zv ["number","room","left","some","word","judged"] ["number","room","left"] (Zj WV):={}
def YC:Zv ["number","room","left","names","top","some","word","hard"] ["number","room","left","names","top"] (Zj Gm):={}
def ZP:Zv ["words","held","bits","pile","kept","word","was","told","one","other"] ["words","held","bits"] (Zj y6):={}
def Yr:Zv ["script","start","names","number","word","asked","alone","rule_of","other","whole"] ["script","start","names"] (Zj x5):={}
def jQ:Zv ["stack","word"] ["stack","word"] (Zj WM):={}
def uI:Zv ["words"] ["words"] (Zj xa):={}
def YD:Zv ["script","start","names","most","left","top","claim","words","parts","room","number","word"] ["script","start","names","most","left","top","claim"] (Zj zQ):={}
def ZA:Zv ["words","names","letters","known","states","seen","alls","somes","key","found","truths","held","told","behind"] ["words","names"] (Zj JB):={}
def X2:Zv ["words","columns","place","kept","stack","later","word","parts","held"] ["words","columns","place","kept"] (Zj wo):={}
def Yn:Zv ["names","begin","step_of","states","numbers","steps","out","told"] ["names","begin","step_of"] (Zj XA):={}
def XY:Zv ["machine","found","steps","out","classes","firsts","least_steps","least_out"] ["machine"] (Zj zR):={}
def ZV:Zv ["words","names","told","letters","columns","last_place","step_of","begin"] ["words","names","told"] (Zj Yf):={}
def xK:Zv ["claim","names"] ["claim","names"] (Zj JC):={}
def xk:Zv ["claim"] ["claim"] (Zj WW):={}
def Ye:Zv ["claim","wanted","machine","steps","telling","states","places","truths"] ["claim","wanted"] (Zj Xz):={}
def yK:Zv ["claim","told"] ["claim"] (Zj wq):={}
def uJ:Zv ["claim"] ["claim"] (Zj y7):={}
def Wz:Zv ["script","first","names","most","left","top","words","due","alls","somes"] ["script"] (Zj Lz):={}
def Gb:KC (Zj YV) ["state"] ["step","place","reached"] ["words","columns","last_place","letters","told"]:=⟨by rfl,by rfl,by rfl,Wm,Wm,Wm,Wm⟩
def cE(i:A8->Hp->VK->Prop):Sp:=λvs H Q _=>i vs H Q
section
variable (P:Aq){w:Au}{K:Af}{mg:Ae}(wv:Heap){t:KP}
variable (T:OV K w mg t)(TB:Tbs mg wv t)
include T TB
variable(vs:A8)(H:Hp)(Q:VK)
inductive qt:Prop
 |mk(w:Nat):vs=[.int w]->w<=1000->Q (.int (2^w)) H->qt
theorem uK:bT T.ft P w wv 1 (cE qt):=by
 refine T.ft.go WQ ?_;rintro q A xz s H _ Q E C ⟨w,rfl,hw,k⟩;refine⟨_,(Zc (Zt 1 WQ.nd Ze)
   (Zc (YQ dJ U (Ws U T.bq (Zh (qv 0) Zd)) (X5 2 WQ.nd)
   (Zg (Zt 1 WQ.nd (Zl Xa (qv 1) Ze))))
   (Zg (Zp (qv 1))))),(L2.By ?_)⟩
 intro B r;refine⟨_,U,w,U,Vb,Vb,Wq (λi σ H2=>∃v,σ=[some _,ad (2^i),v]/\H2=H) ⟨none,U,U⟩ ?_ ?_⟩
 .rintro i σ H2 hi ⟨v,rfl,rfl⟩;refine⟨_,U,_,_,U,U,.inr (.inr ⟨Va,Va⟩),ad (0+i),?_,U⟩;rfl
 .rintro σ H2 ⟨v,rfl,rfl⟩;refine⟨_,U,k⟩
omit T TB in
theorem VA{x:V}(h:(B.map V.int)[i]?=some x):∃b,x=V.int b/\B[i]?=some b:=Vc
inductive Gn(K:Af):Prop
 |mk(p:Aw)(ns:Ak):vs=[.ref p]->aL K H p (ns.map V.int)->Q (.int (oA ns.reverse)) H->Gn K
def gm(K:Af):Sp:=λvs H Q _=>Gn vs H Q K
theorem gn:bT T.bu P w wv 1 (gm K):=by
 refine T.bu.go XW ?_;rintro B A xz s H _ Q E G ⟨p,ns,rfl,C,k⟩;refine⟨_,(Zc (Zt 1 XW.nd Ze)
   (Zc (YQ dJ U (P0 U T.ig (qv 0)) (X5 2 XW.nd)
   (Zg (Zt 1 XW.nd (Zl Y3 (Zl Xa (qv 1) Ze) (qv 2)))))
   (Zg (Zp (qv 1))))),(L2.By ?_)⟩
 intro F D;refine⟨_,U,p,_,U,C,Og (K:=K) (λi σ H2=>∃v,σ=[some _,ad (oA (ns.reverse.take i)),v]/\H2=H) ⟨none,U,U⟩ (λi σ H2 _ ⟨_,_,e⟩=>Vc) ?_ ?_⟩
 .rintro i x σ H2 q ⟨v,rfl,rfl⟩;rw[<-List.map_reverse]at q;obtain⟨b,rfl,r⟩:=VA q;refine⟨_,U,_,_,U,U,.inr (.inr ⟨Va,Va⟩),_,U,_,_,U,U,ad b,?_,U⟩;rw[Zjw r];rfl
 .rintro σ H2 ⟨v,rfl,rfl⟩;refine⟨_,U,?_⟩;rw[rD Vc];exact k
inductive W0:Prop
 |mk(κ:Type)(dq:DecidableEq κ)(sk:SK κ)(v:V)(st nd:Aw)(k:κ)(l:List κ)(ws:A8):vs=[v,.ref st,.ref nd]->H st=ap ws->ws.length=l.length->sk.lN H nd l->sk.at_ H k v->l.Nodup->l.length<10000000->(∀H' ws',H' st=ap ws'->((k∈l/\ws'=ws)\/(k∉l/\ws'=ws++[v]))->sk.lN H' nd (YK l k)->(∀b o,H b=some o->b≠st->b≠nd->H' b=some o)->(∀b,H b=none->H' b=none)->Q (.int ((YK l k).idxOf k:Int)) H')->W0
theorem jy:bT T.cz P w wv 1 (cE W0):=by
 refine T.cz.go jv ?_;rintro cdv A xz s H _ Q E Z ⟨κ,_,sk,v,st,r,k0,l,J,rfl,aV,Y,n,C,F,hl,k⟩;have hu:=jA Z;refine⟨_,(Zc (ZF (Zn (bZ.or (VQ (xy Z)) (WK hu)) (qv 0) (qv 2) Vf)
   (Zc (QS.or (Nw (xy Z) (qv 2) (qv 0) (Zm Zq (by rfl) T.af Yc (Zh (qv 1) Zd)) U) (J1 hu (qv 2) (qv 0) (Zm Zq (by rfl) T.af Yc (Zh (qv 1) Zd)) U))
   (Zg (Yj (YH c9 fP fS ZM (qv 1) (Zh (qv 0) Zd))))) Zx)
   (Zg (Zp (QE.or (Nl (xy Z) (qv 2) (qv 0) (λ_ _=>U)) (qO hu (qv 2) (qv 0) (λ_ _=>U)))))),?_⟩
 try dsimp only[L2.iP,L2.cK]
 have L:st≠r:=λz=>by
  obtain⟨o,e,_,h⟩:=SK.ne n;rw[<-z,aV]at e;cases e;exact h _ U
 cases sk with
 |int f inj=>
  have n:H r=some (.dK (nk (l.map f))):=n;have C:v=.int (f k0):=C;subst C;have B:f k0∈l.map f↔k0∈l:=⟨λz=>let⟨a,ha,e⟩:=bB.mp z;inj _ _ e ▸ ha,λz=>oa z⟩;have G:(l.map f).Nodup:=by
   unfold List.Nodup;rw[Eg];exact List.Pairwise.imp (λhne e=>hne (inj _ _ e)) F
  have ei:=Mm f k0 (YK l k0) λa _ e=>inj _ _ e;have em:=N4 f l k0 λa _ e=>inj _ _ e;refine⟨_,U,_,U,.inr ⟨r,Ym (nk (l.map f)) (.inl (f k0)),U,.inl ⟨nk (l.map f),.inl (f k0),.inl n,U,U⟩,_,U,?_⟩⟩
  by_cases hs:k0∈l
  .have e1:YK l k0=l:=aK hs;rw[e1]at k ei;rw[MQ (B.mpr hs) G];refine ZI (.inr ⟨_,U,_,U,r,_,U,.inl ⟨nk (l.map f),.inl (f k0),.inl n,U,(MQ (B.mpr hs) G).symm⟩,?_⟩);rw[ei];exact k H J aV (.inl ⟨hs,U⟩) n (λ_ _ e _ _=>e) λ_ e=>e
  .have e1:YK l k0=l++[k0]:=aG hs;have O:f k0∉l.map f:=λz=>hs (B.mp z);rw[e1]at k ei em;rw[UM O];have I:((l++[k0]).map f).Nodup:=by
    rw[<-em];exact Wv G _
   refine Yl (.inr ⟨_,U,st,_,U,.inl (aB.of aV),_,U,_,U,r,_,U,mU.k (k:=.inl (f k0)) n (by rw[Cj,aF];exact Y5 Vb),?_⟩);rw[Y,show(l.length:Int)=((l.map f).length:Int) by rw[aF],B6 O];have e2:l.map f++[f k0]=(l++[k0]).map f:=by rw[b0];rfl
   rw[e2];have q:aA H r (.dK (nk ((l++[k0]).map f))) st=ap J:=by rw[Zk L];exact aV
   refine⟨_,U,.inl ⟨U,_,aB.of q⟩,_,U,st,_,_,U,U,q,Y5 Vb,?_⟩;have D:aA (aA H r (.dK (nk ((l++[k0]).map f)))) st (.lst (J++[.int (f k0)])) r=some (.dK (nk ((l++[k0]).map f))):=by rw[Zk L.symm];exact Zb
   refine .inr ⟨_,U,_,U,r,_,U,.inl ⟨_,.inl (f k0),.inl D,U,(MQ (oa Vd) I).symm⟩,?_⟩;rw[ei];refine k _ (J++[.int (f k0)]) Zb (.inr ⟨hs,U⟩) D (λb o e h1 h2=>?_) λb e=>?_
   .rw[Zk h1,Zk h2];exact e
   .rw[Zk (λz=>by rw[z,aV]at e;cases e),Zk (λz=>by rw[z,n]at e;cases e)];exact e
 |key kn=>
  have n:G3 kn H r (XN l):=n;obtain⟨a,rfl,C⟩:=C;refine⟨_,U,_,U,.inl ⟨κ,_,kn,r,a,k0,_,U,U,n,C,_,U,?_⟩⟩
  by_cases B:k0∈l
  .have e1:YK l k0=l:=aK B;have Ua:=J6 l k0 B F;rw[e1]at k;rw[Ua];exact ZI (.inl ⟨_,U,_,U,κ,_,kn,r,a,k0,_,_,U,U,n,C,Ua,k H J aV (.inl ⟨B,U⟩) n (λ_ _ e _ _=>e) λ_ e=>e⟩)
  .have e1:YK l k0=l++[k0]:=aG B;have Ua:=qX l k0 B;have I:(l++[k0]).Nodup:=e1 ▸ Wv F k0;rw[e1]at k;rw[Ua];refine Yl (.inl ⟨_,U,st,_,U,.inl (aB.of aV),_,U,_,U,κ,_,kn,r,a,k0,_,U,U,n,C,Ua,?_,λH2 n2 o2 hx=>?_⟩)
   .rw[J5];exact Y5 Vb
   rw[Y]at n2;rw[<-qW]at n2;have q:=o2 _ _ aV L;refine⟨_,U,.inl ⟨U,_,aB.of q⟩,_,U,st,_,_,U,U,q,Y5 Vb,?_⟩;have n3:G3 kn (aA H2 st (.lst (J++[.ref a]))) r (XN (l++[k0])):=SK.off (sk:=.key kn) n2 q;have hk2:kn.at_ H2 k0 a:=kn.keep _ _ _ _ (λb xs e=>o2 b _ e λz=>by
    obtain⟨o,e3,h3,_⟩:=Mv n;rw[z,e3]at e;cases e;exact h3 _ U) C
   refine .inl ⟨_,U,_,U,κ,_,kn,r,a,k0,_,_,U,U,n3,kn.keep _ _ _ _ (λb xs e=>by rw[Zk (Yg e q nofun)];exact e) hk2,J6 _ _ Vd I,k _ (J++[.ref a]) Zb (.inr ⟨B,U⟩) n3 (λb o e h1 h2=>?_) λb e=>?_⟩
   .rw[Zk h1];exact o2 b o e h2
   .obtain⟨oo,rfl⟩:=hx;rw[Zk (λz=>by rw[z,aV]at e;cases e),Zk (λz=>by
     obtain⟨o,e3,_⟩:=Mv n;rw[z,e3]at e;cases e)]
    exact e
inductive qu:Prop
 |mk(Kk:Type)(dq:DecidableEq Kk)(kn:KN Kk)(a:Aw)(as:List Aw)(ks:List Kk):vs=[.ref a]->H a=ap (as.map V.ref)\/H a=am (as.map V.ref)->as.length=ks.length->(∀(i:Nat)(b:Aw)(k:Kk),as[i]?=some b->ks[i]?=some k->kn.at_ H k b)->ks.length<=1000000->(∀p H',H p=none->H' p=ap ((ks.map λk=>((Z9 ks).idxOf k:Int)).map V.int)->Z8 H H'->Q (.ref p) H')->qu
theorem uL:bT T.di P w wv 1 (cE qu):=by
 refine T.di.go jw ?_;rintro cdv A xz s H _ Q E hr ⟨Kk,_,kn,a,as,ks,rfl,F,hl,Z,hz,k⟩;refine⟨_,(Zc (Zt 1 jw.nd G2)
   (Zg (Zp (Y8 ({}:ZX (Zj qZ) _ ["marks","numbers"] "mark" ["numbers"] [1]) (Uj (qv 0)) (λ_ _ _ _=>Xv) (λ_ _ _ _=>(VS (xy hr) (qv 1) (Zh (qv 0) (Zh (Zm Ub (by rfl) T.af Yc (Zh (qv 1) Zd)) Zd)))))))),?_⟩
 refineλd hd=>?_;have O:=Za (o:=.dK []) hd;refine Zf ?_;have n0:G3 kn (aA H d (.dK [])) d (XN (Z9 (ks.take 0))):=⟨fL,(show 0<sizeLine by decide),.inl ⟨U,Zb⟩⟩;have step:∀(i:Nat)(b:Aw)(q:Kk)(H1:Hp)(R:VK),as[i]?=some b->ks[i]?=some q->G3 kn H1 d (XN (Z9 (ks.take i)))->(∀b o,H b=some o->H1 b=some o)->(∀H2,G3 kn H2 d (XN (Z9 (ks.take (i+1))))->(∀b o,H b=some o->H2 b=some o)->R (V.int ((Z9 ks).idxOf q:Int)) H2)->EC (rR 1) (DW (rR 0) (DW (D7 Pu (DW (rR 1) BP)) BP)) (j9 [1] [ac a,ac d] (ac b)) H1 R:=by
  intro i b q H1 R B C L I hR;have e1:Z9 (ks.take (i+1))=YK (Z9 (ks.take i)) q:=by rw[aE C,yt]
  obtain⟨r,er⟩:=yu ks (i+1);refine⟨_,U,⟨Kk,_,kn,d,_,U,L⟩,_,U,_,U,Kk,_,kn,d,_,U,L,Kk,_,kn,d,b,q,_,_,U,U,L,kn.keep _ _ _ _ (λb xs e=>I b _ e) (Z i b q B C),?_,λy J=>?_,λhn H' n' o' _=>?_⟩
  .rw[J5];exact Y5 (by have:=NV (ks.take i);rw[c8]at this;lia)
  .by_cases D:q∈Z9 (ks.take i)
   .rw[J6 _ _ D (X8 _)]at J;cases J;have e2:Z9 (ks.take (i+1))=Z9 (ks.take i):=by rw[e1];exact aK D
    have:=hR H1 (by rw[e2];exact L) I;rw[er,e2,vf D]at this;exact this
   .rw[qX _ _ D]at J;cases J
  .have D:q∉Z9 (ks.take i):=λz=>by
    rw[J6 _ _ z (X8 _)]at hn;cases hn
   have e2:Z9 (ks.take (i+1))=Z9 (ks.take i)++[q]:=by rw[e1];exact aG D
   have:=hR H' (by rw[e2,qW];rw[J5]at n';exact n') (λc o e=>o' c o (I c o e) (Zo e hd));rw[er,e2,vf Vd,List.idxOf_append,aG D,List.idxOf_cons_self,tN]at this;rw[J5];exact this
 have fin:∀(zs:A8)(H1:Hp),zs=(ks.take as.length).map (λk=>V.int ((Z9 ks).idxOf k:Int))->(∀b o,H b=some o->H1 b=some o)->∀p,H1 p=none->Q (.ref p) (aA H1 p (.lst zs)):=by
  intro zs H1 ez I p hp;have s2:Z8 H H1:=I;refine k p _ (s2.free hp) ?_ (s2.trans (Za hp));rw[Zb,ez,hl,dR,bI];rfl
 have zl:∀i,((ks.take i).map (λk=>V.int ((Z9 ks).idxOf k:Int))).length<=sizeLine:=λi=>by
  rw[aF,c8];exact bL (Y5 Vb)
 have item:∀(i:Nat)(x:V),(as.map V.ref)[i]?=some x->∃b q,x=.ref b/\as[i]?=some b/\ks[i]?=some q:=λi x G=>by
  rw[bG]at G;obtain⟨b,B,rfl⟩:=eA.mp G;have hi:=(bW.mp B).1;exact⟨b,ks[i]' Vb,U,B,aQ Vb⟩
 rcases F with F|F
 .refine⟨a,U,.inl ⟨⟨_,aB.of (O _ _ F)⟩,X7 (K:=K) (a:=a) (xs:=as.map V.ref) (λi zs H'=>zs=(ks.take i).map _/\G3 kn H' d (XN (Z9 (ks.take i)))/\∀b o,H b=some o->H' b=some o) ⟨U,n0,O⟩ (λi zs H' h=>by rw[h.1];exact zl i) (λi zs H' h=>aB.of (h.2.2 _ _ F)) (λi x zs H1 R hR G h=>?_) (λzs H1 h=>?_)⟩⟩
  .obtain⟨b,q,rfl,B,C⟩:=item i x G;refine step i b q H1 _ B C h.2.1 h.2.2 λH2 Ua Y=>hR _ _ ⟨?_,Ua,Y⟩;rw[h.1,aE C,b0]
   rfl
  .rw[aF]at h;exact fin zs H1 h.1 h.2.2
 .refine⟨a,U,.inr ⟨⟨_,aL.of (O _ _ F)⟩,XQ (K:=K) (a:=a) (xs:=as.map V.ref) (λi zs H'=>zs=(ks.take i).map _/\G3 kn H' d (XN (Z9 (ks.take i)))/\∀b o,H b=some o->H' b=some o) ⟨U,n0,O⟩ (λi zs H' h=>by rw[h.1];exact zl i) (λi zs H' h=>aL.of (h.2.2 _ _ F)) (λi x zs H1 R hR G h=>?_) (λzs H1 h=>?_)⟩⟩
  .obtain⟨b,q,rfl,B,C⟩:=item i x G;refine step i b q H1 _ B C h.2.1 h.2.2 λH2 Ua Y=>hR _ _ ⟨?_,Ua,Y⟩;rw[h.1,aE C,b0]
   rfl
  .rw[aF]at h;exact fin zs H1 h.1 h.2.2
inductive JL:Prop
 |mk(a b:Aw)(ss:Aj)(cs:Ak):vs=[.ref a,.ref b]->H a=am (ss.map λs:Nat=>V.int s)->H b=ap (cs.map V.int)->(∀s∈ss,s<cs.length)->ss.length<=1000000->cs.length<=1000000->(∀p H',H p=none->H' p=am ((ss.map λs=>cs.getD s 0).map V.int)->Z8 H H'->Q (.ref p) H')->JL
theorem qw:bT T.cf P w wv 1 (cE JL):=by
 refine T.cf.go vR ?_;rintro I A xz s H _ Q E Y ⟨a,b,L,cs,rfl,D,G,hs,Ua,O,k⟩;refine⟨_,(Zg (Zp (Z4 Z1 (by rfl) T.ae ZO (Zh (Y8 (⟨by rfl,Vd,Va,by rfl,Wm,Wm,by rfl,Wm⟩:ZX (Zj J7) _ ["states","classes"] "state" ["classes"] [1]) (X6 (qv 0)) (λ_ _ _ _=>Xv) (λ_ _ _ _=>(Z5 (show i0 _ (AY K)from Zr) (qv 1) (qv 0)))) Zd)))),⟨_,U,a,U,⟨_,aL.of D⟩,z5 (fI λz=>V.int (cs.getD z.toNat 0)) (aL.of D) (by rw[aF];exact bL (Y5 Vb)) (λv J R hR=>?_) (λl B=>?_)⟩⟩
 .obtain⟨s,r,rfl⟩:=bB.mp J;have q:=hs s r;exact⟨_,U,_,U,b,_,_,_,U,U,aB.of G,Y7 (by rw[bG,aQ q];rfl),by
   have e:fI (λz=>V.int (cs.getD z.toNat 0)) (V.int s)=V.int cs[s]:=by
    show V.int _=_;rw[lJ,bO,aQ q];rfl
   rw[e]at hR;exact hR⟩
 .refine ι2 l _ ⟨U,.inl ⟨aB.of Zb,λp C=>?_⟩⟩;have F:=(Za (o:=.lst ((L.map λs:Nat=>V.int s).map (fI λz=>V.int (cs.getD z.toNat 0)))) B);refine k p _ (F.free C) ?_ (F.trans (Za C));rw[Zb,bI,bI];rfl
inductive Gp:Prop
 |mk(a:Aw)(cs:Ak):vs=[.ref a]->H a=ap (cs.map V.int)->cs.length<=1000000->(∀p H',H p=none->H' p=ap ((jn cs 0 []).map λi:Nat=>V.int i)->Z8 H H'->Q (.ref p) H')->Gp
theorem gp:bT T.ff P w wv 1 (cE Gp):=by
 refine T.ff.go XX ?_;rintro cdv A xz s H _ Q E hr ⟨a,cs,rfl,ha,hl,k⟩;refine⟨_,(Zc (Zt 1 XX.nd (ZC Zd))
   (Zc (YQ dJ U (RU U T.ic (qv 0)) (yU U (X5 2 XX.nd) (X5 3 XX.nd))
   (Zg (ZF (Zn Yh (qv 3) (Zm Zq (by rfl) T.af Yc (Zh (qv 1) Zd)) (Zz _))
   (Zg (Yj (YH c9 fP fS ZM (qv 1) (Zh (qv 2) Zd)))) Zx)))
   (Zg (Zp (qv 1))))),(L2.By ?_)⟩
 intro U2 U1;refine⟨Va,λp J=>?_⟩;have Y:=Za (o:=.lst []) J;refine Zf ?_;refine⟨_,U,a,_,U,aB.of (Y _ _ ha),OC (λi σ H'=>∃(acc:Aj)(I L:Option V),σ=[some _,some _,I,L]/\H' p=ap (acc.map λi:Nat=>V.int i)/\jn cs 0 []=jn (cs.drop i) i acc/\acc.length<=i/\i<=cs.length/\Z8 H H') (ι3 [] none none ⟨U,Zb,U,aN _,cM _,Y⟩) (λi σ H' _=>ε3 λ_ _ _=>θ5 λ_ _ _ _ _ s=>aB.of (s _ _ ha)) ?_ ?_⟩
 .refine λi x σ H1 q Z hq=>ε3 λacc I L=>θ5 λzq0 D F O hi G=>?_;subst zq0;rw[bG]at Z;obtain⟨c,hc,rfl⟩:=eA.mp Z;have C:=(bW.mp hc).1;have Ua:=Za (o:=.tup [.int i,.int c]) hq;have r:=Ua _ _ D;have B:jn cs 0 []=jn (cs.drop (i+1)) (i+1) (if c=acc.length then acc++[i]else acc):=by
   rw[F,Bd C,(bW.mp hc).2];rfl
  refine⟨_,U,_,U,p,_,U,.inl (aB.of r),U,_,U,?_⟩;rw[aF]
  by_cases h:c=acc.length
  .rw[aK h]at B;rw[aZ (by rw[h])];refine Yl ⟨_,U,.inl ⟨U,_,aB.of r⟩,_,U,p,_,_,U,U,r,by rw[aF];exact Y5 Vb,_,_,_,U,?_,B,(by simp_all),C,Z7 (G.trans Ua) J⟩;rw[Zb,b0];rfl
  .rw[aG h]at B;rw[bF (λz=>h (by injection z))];exact ZI (ι3 acc _ _ ⟨U,r,B,Vb,C,G.trans Ua⟩)
 .refine λσ H1=>ε3 λacc I L=>θ5 λzq0 D F O hi G=>?_;subst zq0;rw[aF,tK]at F;exact⟨_,U,k p H1 J (by rw[D,F];rfl) G⟩
inductive Ja:Prop
 |mk(y:Str):vs=[.str y]->Q (.bl (decide (y∈Jp))) H->Ja
theorem jR:bT T.bc P w wv 1 (cE Ja):=by
 refine T.bc.go jM ?_;rintro q A xz s H _ Q E r ⟨y,rfl,k⟩;refine⟨_,(Zg (Zp (ZS gJ (qv 0) (WG (v:=.ref _) U T.br.m U) Vf))),⟨_,U,_,T1,.inr y,U,T.br.d,U,?_⟩⟩;rw[Oc];exact k
inductive XZ:Prop
 |mk(k:aX):vs=[kV k]->Q (.bl (Ir k)) H->XZ
omit T TB in
theorem Pc(l:List (Str×Int))(k:aX):(Ym (bK l) k).isSome=(match k with|.inr y=>decide (y∈l.map (·.1))|.inl _=>false):=by
 cases k with
 |inr y=>exact Oc l y
 |inl z=>
  induction l with
  |nil=>rfl
  |cons p r q=>
   have e:Ym (bK (p::r)) (.inl z)=Ym (bK r) _:=ZZ nofun;rw[e,q]
omit T TB in
theorem Zkv(k:aX):Ir k=((Ym (bK T2) k).isSome||(Ym (bK T3) k).isSome):=by
 rw[Pc,Pc];cases k with
 |inl z=>rfl
 |inr y=>
  show decide _=(decide _||decide _);have e:Z2=T2.map (·.1)++T3.map (·.1):=Wm
  rw[e]
  by_cases h1:y∈T2.map (·.1)
  .grind
  .grind
theorem xM:bT T.ay P w wv 1 (cE XZ):=by
 refine T.ay.go xI ?_;rintro r A xz s H _ Q E B ⟨q,rfl,k⟩;refine⟨_,(Zg (Zp (G0 (ZS gJ (qv 0) (WG (v:=.ref _) U T.ax.m U) Vf) (Gf (ZS gJ (qv 0) (WG (v:=.ref _) U T.aj.m U) Vf))))),?_⟩;rw[Zkv]at k;refine⟨_,U,_,T2,q,U,T.ax.d,U,_,U,?_⟩;cases h:(Ym _ q).isSome with
 |true=>
  rw[h]at k;exact Yl k
 |false=>
  rw[h]at k;exact ZI ⟨_,U,_,T3,q,U,T.aj.d,U,k⟩
inductive Jb:Prop
 |mk(k:aX):vs=[kV k]->Q (.int (G5 T1 k+G5 T2 k)) H->Jb
theorem jS:bT T.bf P w wv 1 (cE Jb):=by
 refine T.bf.go jN ?_;rintro r A xz s H _ Q E B ⟨q,rfl,k⟩;refine⟨_,(Zg (Zp (Zl Y3 (gK (WG (v:=.ref _) U T.br.m U) (qv 0) Ze) (gK (WG (v:=.ref _) U T.ax.m U) (qv 0) Ze)))),ι2 _ T1 ⟨U,T.br.d,_,U,q,U,_,T2,U,T.ax.d,_,U,q,U,?_⟩⟩;rw[BF,BF];exact⟨_,_,U,U,k⟩
inductive Wa:Prop
 |mk(k:aX):vs=[kV k]->Q (.int (G5 T3 k)) H->Wa
theorem xN:bT T.az P w wv 1 (cE Wa):=by
 refine T.az.go xJ ?_;rintro r A xz s H _ Q E B ⟨q,rfl,k⟩;refine⟨_,(Zg (Zp (gK (WG (v:=.ref _) U T.aj.m U) (qv 0) Ze))),ι2 _ T3 ⟨U,T.aj.d,_,U,q,U,?_⟩⟩;rw[BF];exact k
inductive JM:Prop
 |mk(y sg:Str):vs=[.str y,.str sg]->y.length<=100000->(∀H',Z8 H H'->Q (.bl (decide (y8 y sg))) H')->JM
theorem vT:bT T.bh P w wv 1 (cE JM):=by
 refine T.bh.go vS ?_;rintro D A xz s H _ Q E G ⟨y,q,rfl,F,k⟩;refine⟨_,(Zg (Zp (ye (ZS HP (qv 0) Zi (Zz _)) (Gf (Zm (Zey U) (by rfl) T.abu Bi (Zh (Y8 (⟨by rfl,Vd,Va,by rfl,Wm,Wm,by rfl,Wm⟩:ZX (Zj JA) _ ["text","signs"] "sign" ["signs"] [1]) (Bm (qv 0)) (λ_ _ _ _=>Xv) (λ_ _ _ _=>(ZS Zd6 (qv 0) (qv 1) Vf))) Zd)))))),⟨_,U,U,_,U,?_⟩⟩
 by_cases B:y.cps.toList=[]
 .have e:=zU.mp B;subst e;refine ZI ?_;have e2:decide (y8 _ q)=false:=bF λz=>z.1 (zU.mpr U);have:=k H (Z8.refl H);exact this
 rw[bF λz=>B (zU.mpr (by injection z))];refine Yl ⟨_,U,y,U,Te (λc=>.bl (decide (c∈q.cps.toList))) (cC (F) Va) (λc _ R hR=>?_) (λl r=>?_)⟩
 .refine⟨_,U,_,U,_,_,U,U,?_⟩;rw[Tb];exact hR
 have e1:(y.cps.toList.map λc=>V.bl (decide (c∈q.cps.toList)))=(y.cps.toList.map λc=>decide (c∈q.cps.toList)).map V.bl:=Vd
 rw[e1];refine⟨l,_,U,aB.of Zb,?_⟩;rw[BX];have e2:decide (y8 y q)=decide (∀c∈y.cps.toList,decide (c∈q.cps.toList)=true):=by
  rw[mV,rY,rY];constructor
  .exact λz c C=>aZ (z.2 c C)
  .exact λz=>⟨B,λc C=>dB (z c C)⟩
 rw[<-e2];exact k _ (Za r)
inductive Gq:Prop
 |mk(x:V):vs=[x]->XM x=true->Q (.bl (bP x (allR.map V.str))) H->Gq
theorem xA:bT T.cy P w wv 1 (cE Gq):=by
 refine T.cy.go gj ?_;rintro r A xz s H _ Q E B ⟨x,rfl,q,k⟩;refine⟨_,(Zg (Zp (ZS ZW (qv 0) (WG (v:=.ref _) U T.dk.m U) Vf))),?_⟩;exact⟨_,U,_,_,U,.inr (T.dk.d H),q,(by
    rw[List.all_map];exact mK.mpr λ_ _=>U),k⟩
inductive qx:Prop
 |mk(a b h:Int):vs=[.int a,.int b,.int h]->Q (.int (Fn a b h)) H->qx
theorem jz:bT T.bj P w wv 1 (cE qx):=by
 refine T.bj.go uG ?_;rintro q A xz s H _ Q E r ⟨a,b,h,rfl,k⟩;refine⟨_,(Zg (Zp (Zl ke (Zl WS (Jm zm (qv 0)) (qv 1)) (Zl WS (qv 2) (Jm zm (Zl yc (qv 0) (qv 1))))))),⟨_,U,_,U,_,U,_,_,U,U,_,U,_,U,_,U,_,_,U,U,_,U,_,_,U,U,_,_,U,U,k⟩⟩
inductive Jc:Prop
 |mk(y:Str)(p:Aw)(is:Ak):vs=[.str y,.ref p]->H p=ap (is.map V.int)->y∈DK->is.length=DE y->(∀H',Z8 H H'->Q (.int (Be y is)) H')->Jc
theorem jT:bT T.dm P w wv 1 (cE Jc):=by
 refine T.dm.go jO ?_;rintro cdv A xz s H _ Q E hr ⟨y,p,is,rfl,hp,hy,F,k⟩;refine⟨_,(Zc (ZF (Zn Yh (qv 0) Zi (Zz _))
   (Zg (Zp (Jm Jt Ze))) Zx)
   (Zc (ZF (Zn Yh (qv 0) Zi (Zz _))
   (Zg (Zp (Z5 Zr (qv 1) Ze))) Zx)
   (Zc (ZF (Zn ZW (qv 0) (Z3 (Zh Zi (Zh Zi Zd))) Vf)
   (Zg (Zp (Jm zm (Z5 Zr (qv 1) Ze)))) Zx)
   (Zc (ZF (Zn ZW (qv 0) (Z3 (Zh Zi (Zh Zi Zd))) Vf)
   (Zg (Zp (Zl WS (Z5 Zr (qv 1) Ze) (Z5 Zr (qv 1) Ze)))) Zx)
   (Zc (ZF (Zn ZW (qv 0) (Z3 (Zh Zi (Zh Zi Zd))) Vf)
   (Zg (Zp (Zl ke (Z5 Zr (qv 1) Ze) (Z5 Zr (qv 1) Ze)))) Zx)
   (Zc (ZF (Zn Yh (qv 0) Zi (Zz _))
   (Zg (Zp (Zl yc (Z5 Zr (qv 1) Ze) (Z5 Zr (qv 1) Ze)))) Zx)
   (Zc (ZF (Zn Yh (qv 0) Zi (Zz _))
   (Zg (Zp (Zl ke (Jm zm (Z5 Zr (qv 1) Ze)) (Z5 Zr (qv 1) Ze)))) Zx)
   (Zg (Zp (Zl ke (Zl WS (Z5 Zr (qv 1) Ze) (Z5 Zr (qv 1) Ze)) (Zl WS (Jm zm (Z5 Zr (qv 1) Ze)) (Z5 Zr (qv 1) Ze)))))))))))),?_⟩
 unfold Be at k;refine⟨_,U,U,_,U,?_⟩
 by_cases h1:y = "yes"
 .rw[aZ (congrArg V.str h1)];rw[aK h1]at k;refine Yl ?_;exact⟨_,U,k H (Z8.refl _)⟩
 rw[bF (λz=>h1 (by injection z))];rw[aG h1]at k;refine ZI ⟨_,U,U,_,U,?_⟩
 by_cases h2:y = "sign"
 .rw[aZ (congrArg V.str h2)];rw[aK h2]at k;refine Yl ?_;exact⟨_,U,p,_,0,_,U,U,aB.of hp,ZK 0 rfl (zZ F (by rw[h2];decide +kernel)),k H (Z8.refl _)⟩
 rw[bF (λz=>h2 (by injection z))];rw[aG h2]at k;refine ZI ⟨_,U,Va,λq hq=>⟨q,_,U,.inr (aL.of Zb),U,U,_,U,?_⟩⟩;show if bP (.str y) ((["not","never"]:Ai).map V.str)=true then _ else _;rw[ZG];have D:=Za (o:=.tup [.str "not",.str "never"]) hq;have pq:=D _ _ hp;generalize aA H q (.tup [.str "not",.str "never"])=H1 at *
 by_cases Y:y = "not" \/ y = "never"
 .rw[aZ Vc];rw[aK Y]at k;refine Yl ?_;exact⟨_,U,p,_,0,_,U,U,aB.of pq,ZK 0 rfl (zZ F (by rcases Y with h|h<;>rw[h]<;>decide +kernel)),_,U,k H1 D⟩
 rw[bF Vc];rw[aG Y]at k;refine ZI ⟨_,U,Va,λr hr=>⟨r,_,U,.inr (aL.of Zb),U,U,_,U,?_⟩⟩;show if bP (.str y) ((["and","both"]:Ai).map V.str)=true then _ else _;rw[ZG];have G:=Za (o:=.tup [.str "and",.str "both"]) hr;have Z:=G _ _ pq;generalize aA H1 r (.tup [.str "and",.str "both"])=H2 at *
 by_cases O:y = "and" \/ y = "both"
 .rw[aZ (by simp_all)];rw[aK O]at k;refine Yl ?_;have l2:2<=is.length:=zZ F (by rcases O with h|h<;>rw[h]<;>decide +kernel);exact⟨_,U,p,_,0,_,U,U,aB.of Z,ZK 0 rfl Vb,_,U,p,_,1,_,U,U,aB.of Z,ZK 1 rfl l2,_,_,U,U,k H2 (D.trans G)⟩
 rw[bF (by simp only[bJ,fG,l8];exact O)];rw[aG O]at k;refine ZI ⟨_,U,Va,λt1 ht1=>⟨t1,_,U,.inr (aL.of Zb),U,U,_,U,?_⟩⟩;show if bP (.str y) ((["or","either"]:Ai).map V.str)=true then _ else _;rw[ZG];have C:=Za (o:=.tup [.str "or",.str "either"]) ht1;have B:=C _ _ Z;generalize aA H2 t1 (.tup [.str "or",.str "either"])=Ua at *
 by_cases I:y = "or" \/ y = "either"
 .rw[aZ (by simp only[bJ,fG,l8];exact I)];rw[aK I]at k;refine Yl ?_;have l2:2<=is.length:=zZ F (by rcases I with h|h<;>rw[h]<;>decide +kernel);exact⟨_,U,p,_,0,_,U,U,aB.of B,ZK 0 rfl Vb,_,U,p,_,1,_,U,U,aB.of B,ZK 1 rfl l2,_,_,U,U,k Ua ((D.trans G).trans C)⟩
 rw[bF (by simp only[bJ,fG,l8];exact I)];rw[aG I]at k;refine ZI ⟨_,U,U,_,U,?_⟩
 by_cases L:y = "odd"
 .rw[aZ (congrArg V.str L)];rw[aK L]at k;refine Yl ?_;have l2:2<=is.length:=zZ F (by rw[L];decide +kernel);exact⟨_,U,p,_,0,_,U,U,aB.of B,ZK 0 rfl Vb,_,U,p,_,1,_,U,U,aB.of B,ZK 1 rfl l2,_,_,U,U,k Ua ((D.trans G).trans C)⟩
 rw[bF (λz=>L (by injection z))];rw[aG L]at k;refine ZI ⟨_,U,U,_,U,?_⟩
 by_cases J:y = "so"
 .rw[aZ (congrArg V.str J)];rw[aK J]at k;refine Yl ?_;have l2:2<=is.length:=zZ F (by rw[J];decide +kernel);exact⟨_,U,p,_,0,_,U,U,aB.of B,ZK 0 rfl Vb,_,U,_,U,p,_,1,_,U,U,aB.of B,ZK 1 rfl l2,_,_,U,U,k Ua ((D.trans G).trans C)⟩
 rw[bF (λz=>J (by injection z))];rw[aG J]at k;have l3:3<=is.length:=zZ F (Th y hy h1 h2 Y O I L J);exact ZI ⟨_,U,p,_,0,_,U,U,aB.of B,ZK 0 rfl Vb,_,U,p,_,1,_,U,U,aB.of B,ZK 1 rfl Vb,_,_,U,U,_,U,p,_,0,_,U,U,aB.of B,ZK 0 rfl Vb,_,U,_,U,p,_,2,_,U,U,aB.of B,ZK 2 rfl l3,_,_,U,U,_,_,U,U,k Ua ((D.trans G).trans C)⟩
inductive XF:Prop
 |mk(tw:Aw)(ws:A8):vs=[.ref tw]->H tw=am ws->ws.length<=1000->(∀w∈ws,(∃y,w=.str y)\/∃z:Int,w=.int z)->(∀(L:Nat) H',(∀z:Int,V.int z∈ws->Builtin.Int.intBits z<=L)->(L=0\/∃z:Int,V.int z∈ws/\L=Builtin.Int.intBits z)->Z8 H H'->Q (.int L) H')->XF
theorem xl:bT T.cg P w wv 1 (cE XF):=by
 refine T.cg.go xj ?_;rintro G A xz s H _ Q E O ⟨tw,r,rfl,C,L,hw,k⟩;refine⟨_,(Zg (Zp (Zn2 U U T.gi (Y8 (⟨by rfl,Vd,Va,by rfl,Vd,Vd,by rfl,Vd⟩:ZX _ _ _ "word" [] []) (X6 (qv 0)) (λ_ _ _ _=>(kB (YJ (Zm (show YX _ _ (DO K)from Xx) (by rfl) T.ah ZY (Zh (qv 0) (Zh (WH (v:=.ty "int") (by rfl) T.cb Ge U) Zd)))))) (λ_ _ _ _=>(show QE _ _ (BV K "int" Nk _)from(Jx PySem.F.plainAttrs_int PySem.F.slot_int_bit_length PySem.F.type_int_bit_length V5 (qv 0))))) Ze))),⟨_,U,tw,U,⟨_,aL.of C⟩,XQ (K:=K) (a:=tw) (xs:=r) (λi zs H'=>zs=(xf (r.take i)).map V.int/\H'=H) ⟨U,U⟩ (λi zs H' h=>?_) (λi zs H' h=>by rw[h.2];exact aL.of C) (λi x zs H1 R hR q h=>?_) (λzs H1 h p I=>?_)⟩⟩
 .rw[h.1,aF];have:=wG (r.take i);rw[c8]at this;exact bL (Zw Vc)
 .obtain⟨rfl,rfl⟩:=h;rcases hw x (cY q)with⟨y,rfl⟩|⟨z,rfl⟩
  .refine⟨_,U,_,_,_,_,U,.str y,X3,_,U,ZI (hR _ _ ⟨?_,U⟩)⟩;rw[aE q,ji];exact congrArg _ (dW _).symm
  .refine⟨_,U,_,_,_,_,U,.int z,WE,_,U,Yl ⟨_,U,U,z,U,U,hR _ _ ⟨?_,U⟩⟩⟩;rw[aE q,ji,b0];rfl
 .obtain⟨rfl,rfl⟩:=h;have sp:=Za (o:=.lst ((xf (r.take r.length)).map V.int)) I;refine ι2 p _ ⟨U,aB.of Zb,λe=>?_,λm D q=>?_⟩
  .rw[dR]at e;refine k 0 _ (λz B=>?_) (.inl U) sp;have:=jj B;rw[e]at this;cases this
  .rw[dR]at D q;obtain⟨z,B,rfl⟩:=Qg D;exact k _ _ (λy J=>Int.ofNat_le.mp (q _ (jj J))) (.inr ⟨z,B,U⟩) sp
inductive xB:Prop
 |mk(p:Aw)(cs:Ak)(l:Nat):vs=[.ref p,.int l]->H p=ap (cs.map V.int)->cs.length<=1000->l<=100->(∀t H',H t=none->H' t=am ((cs.map λc=>bt c l).map V.int)->Z8 H H'->Q (.ref t) H')->xB
theorem Zdk:bT T.cm P w wv 1 (cE xB):=by
 refine T.cm.go Zdi ?_;rintro F A xz s H _ Q E L ⟨p,cs,l,rfl,B,J,D,k⟩;refine⟨_,(Zg (Zp (Z4 Z1 (by rfl) T.ae ZO (Zh (Y8 ({}:ZX (Zj zK) _ ["columns","letter"] "column" ["letter"] [1]) (Xb (qv 0)) (λ_ _ _ _=>Xv) (λ_ _ _ _=>(Zl WS (Zl uY (qv 0) (qv 1)) Ze))) Zd)))),?_⟩;refine⟨_,U,p,U,⟨_,aB.of B⟩,eT (fI λc=>V.int (bt c l)) (aB.of B) (by rw[aF];exact bL (Zw Vb)) (λv G R hR=>?_) (λq I=>?_)⟩
 .obtain⟨c,_,rfl⟩:=bB.mp G;refine⟨_,U,_,U,_,_,U,U,EJ l,_,_,U,U,?_⟩;have e:fI (λc=>V.int (bt c l)) (V.int c)=V.int (Builtin.bitAnd (c/2^(l:Int).toNat) 1):=by
   rw[mP];rfl
  rw[e]at hR;exact hR
 .refine ι2 q _ ⟨U,.inl ⟨aB.of Zb,λt r=>?_⟩⟩;have C:=Za (o:=.lst ((cs.map V.int).map (fI λc=>V.int (bt c l)))) I;refine k t _ (C.free r) ?_ (C.trans (Za r));rw[Zb,bI,bI];rfl
inductive j0:Prop
 |mk(q:Aw)(bs:Am):vs=[.ref q]->H q=am (bs.map V.bl)->bs.length<=100000->(∀p H',H' p=am ((bs.map λb=>!b).map V.bl)->Z8 H H'->Q (.ref p) H')->j0
theorem Tv:bT T.fq P w wv 1 (cE j0):=by
 refine T.fq.go Zh8 ?_;rintro C A xz s H _ Q E G ⟨q,bs,rfl,B,r,k⟩;refine⟨_,(Zg (Zp (Z4 Z1 (by rfl) T.ae ZO (Zh (Y8 (⟨by rfl,Vd,Va,by rfl,Vd,Vd,by rfl,Vd⟩:ZX _ _ _ "truth" [] []) (X6 (qv 0)) (λ_ _ _ _=>Xv) (λ_ _ _ _=>(Kn (qv 0)))) Zd)))),⟨_,U,q,U,⟨_,aL.of B⟩,z5 (λv=>match v with|.bl b=>.bl (!b)|v=>v) (aL.of B) (by rw[aF];exact bL (Y5 Vb)) (λx F R hR=>?_) (λl r=>?_)⟩⟩
 .obtain⟨b,_,rfl⟩:=bB.mp F;exact⟨_,U,_,U,hR⟩
 .refine ι2 l _ ⟨U,.inl ⟨aB.of Zb,λp D=>k p _ ?_ ((Za r).trans (Za D))⟩⟩;rw[Zb,bI,bI];rfl
inductive qy:Prop
 |mk(pq ps:Aw)(ss:Aj)(nx:Ad):vs=[.ref pq,.ref ps]->H pq=am (ss.map Jq)->G6 H ps (nx.map jc)->(∀s∈ss,s<nx.length)->(∀S:Aj,S.Nodup->(∀x∈S,∃s∈ss,x∈nx.getD s [])->S.length<64)->(∀p (ms:Aj) H',H' p=am (ms.map Jq)->ms.Pairwise (· < ·)->(∀x,x∈ms↔∃s∈ss,x∈nx.getD s [])->Z8 H H'->Q (.ref p) H')->qy
theorem uM:bT T.fu P w wv 1 (cE qy):=by
 refine T.fu.go WR ?_;rintro cdv A xz s H _ Q E hr ⟨pq,ps,ss,nx,rfl,hq,R,hlt,G,k⟩;have hu:=jA hr;refine⟨_,(Zc (Zt 2 WR.nd G2)
   (Zc (YQ dJ U (X6 (qv 0)) (X5 3 WR.nd)
   (Zg (YQ dJ U (X6 (Z5 ZT (qv 1) (qv 3))) (X5 4 WR.nd)
   (Zg (J1 hu (qv 2) (qv 4) YO U)))))
   (Zg (Zp (Z4 Z1 (by rfl) T.ae ZO (Zh (Zm (vm U) (by rfl) T.dj Jv (Zh (qv 2) Zd)) Zd)))))),?_⟩
 refineλd hd=>Zf ?_;have s1:=Za (o:=.dK []) hd;have hgd:∀{s:Nat},s<nx.length->nx[s]?=some (nx.getD s []):=λ{s} h=>by rw[bO,aQ h];rfl
 refine⟨_,U,pq,U,⟨_,aL.of (s1 _ _ hq)⟩,yQ (K:=K) (a:=pq) (xs:=ss.map Jq) (λi σ H'=>∃(u3 F:Option V)(S:Aj),σ=[ac pq,ac ps,ac d,u3,F]/\H' d=some (.dK (S.map λx:Nat=>((.inl (x:Int):aX),V.bl true)))/\S.Nodup/\(∀x,x∈S↔∃s∈ss.take i,x∈nx.getD s [])/\Z8 H H') (ι3 none none [] ⟨U,Zb,fL,λx=>⟨nofun,λ⟨s,z,_⟩=>by cases z⟩,s1⟩) (λi σ H' _=>ε3 λ_ _ _=>θ4 λ_ _ _ _ s=>aL.of (s _ _ hq)) ?_ ?_⟩
 .refine λi x σ H2 B=>ε3 λu3 F S=>θ4 λzq0 J r Y Z=>?_;subst zq0;rw[bG]at B;obtain⟨q,O,rfl⟩:=eA.mp B;have hsm:=cY O;have hsl:=hlt q hsm;refine ω (R.same Z) (ε1 λas=>θ2 λg1 g2 g3=>?_);obtain⟨ra,g4,g5⟩:=g3 q (jc (nx.getD q [])) (by rw[bG,hgd hsl];rfl);refine Zf ⟨_,U,_,U,ps,_,_,_,U,U,aL.of g1,Y7 g4,ra,U,⟨_,aL.of g5⟩,?_⟩;refine yQ (K:=K) (a:=ra) (xs:=jc (nx.getD q [])) (λj σ H'=>∃(F:Option V)(S:Aj),σ=[ac pq,ac ps,ac d,ad q,F]/\H' d=some (.dK (S.map _))/\S.Nodup/\(∀x,x∈S↔(∃s∈ss.take i,x∈nx.getD s [])\/x∈(nx.getD q []).take j)/\H' ra=am (jc (nx.getD q []))/\Z8 H H') (ι2 F S ⟨U,J,r,λx=>by rw[Y,Hf];simp,g5,Z⟩) (λi σ H' _=>ε2 λ_ _=>θ5 λ_ _ _ _ h _=>aL.of h) ?_ ?_
  .refine λj x σ H3 B=>ε2 λF D=>θ5 λzq0 h3 C m3 r3 s3=>?_;subst zq0;unfold jc at B;rw[bG]at B;obtain⟨y,hy,rfl⟩:=eA.mp B;have hS:D.length<64:=G D C λx B=>by
    grind
   refine Zf ⟨_,U,_,U,d,_,U,mU.k (k:=.inl (y:Int)) h3 (by rw[aF];exact Zw Vb),?_⟩;have Ua:∀x,(∃s∈ss.take i,x∈nx.getD s [])\/x∈(nx.getD q []).take (j+1)↔x∈D\/x=y:=λx=>by
    rw[m3,aE hy,cT,cA,or_assoc]
   have kp:∀{b:Aw} {u:HO} {o:HO},H3 b=some u->(∀kv,u≠.dK kv)->aA H3 d o b=some u:=λ{b u o} e hu=>by rw[Zk (Yg e h3 (hu _))];exact e
   by_cases I:y∈D
   .refine⟨_,D,U,by rw[Zb,Cf I],C,λx=>?_,kp r3 (λ_ z=>nomatch z),Z7 s3 hd⟩;rw[Ua];exact⟨.inl,λh=>h.elim id λe=>by rw[e];exact I⟩
   .refine⟨_,D++[y],U,by rw[Zb,Uc I],?_,λx=>?_,kp r3 (λ_ z=>nomatch z),Z7 s3 hd⟩
    .grind
    .rw[Ua,cT,cA]
  .refine λσ H3=>ε2 λF D=>θ5 λzq0 h3 C m3 r3 s3=>?_;subst zq0;refine ι3 _ _ D ⟨U,h3,C,λx=>?_,s3⟩;have e:(jc (nx.getD q [])).length=(nx.getD q []).length:=aF ..;rw[m3,e,dR,aE O];constructor
   .simp
   .simp
 .refine λσ H2=>ε3 λu3 F S=>θ4 λzq0 J r Y Z=>?_;subst zq0;rw[aF,dR]at Y;have hS:S.length<64:=G S r λx B=>(Y x).mp B;refine⟨_,U,d,_,S.map λx:Nat=>(x:Int),U,.inl J,by rw[bI,bI];rfl,by rw[aF];exact hS,λl ms hl hp hs=>?_⟩;obtain⟨ns,rfl,L⟩:=Zkg hp;refine⟨l,_,U,.inl ⟨aB.of Zb,λp hp2=>k p ns _ ?_ (Uk hs (L.nodup_iff.mpr r)) (λx=>(L.mem_iff).trans (Y x)) (Z.trans ((Za hl).trans (Za hp2)))⟩⟩;rw[Zb,bI]
  rfl
inductive Jd:Prop
 |mk(p:Aw)(rs:Am):vs=[.ref p]->H p=ap (rs.map V.bl)->1<=rs.length->rs.length<=100000->(∀(L:Nat) H',EO rs L->Z8 H H'->Q (.int L) H')->Jd
theorem jU:bT T.dt P w wv 1 (cE Jd):=by
 refine T.dt.go Wn ?_;rintro cdv A xz s H _ Q E hr ⟨p,q,rfl,hp,h1,hbig,k⟩;refine⟨_,(Zc (Zt 1 Wn.nd Ze)
   (Zc (XO dJ (Jn (gE (Zn kf (Zl ZL (Zm Zq (by rfl) T.af Yc (Zh (qv 0) Zd)) (qv 1)) Ze (Zz _)) (zy (Zn (z7 (JV hr)) (qv 0) (Zl k4 (YE YZ (qv 0) (YR (qv 1)) Xs) (YE YZ (qv 0) Xs (YR (qv 1)))) (Zz _)))))
   (Zg (Oy (i:=1) Wn.nd U (Or.inl U) Ze Cp)))
   (Zg (Zp (qv 1))))),?_⟩
 refine Zf ?_;refine JD (λσ H'=>∃L:Nat,σ=[some (.ref p),some (.int L)]/\1<=L/\L<=q.length/\(∀m,1<=m->m<L->¬xG q m)/\Z8 H H') (λσ _=>match σ with|[_,some (.int m)]=>(200000-m).toNat|_=>0) ⟨1,U,aN _,h1,λm h1 h2=>Vb,Z8.refl H⟩ ?_;refine λσ H1=>ε1 λL=>θ4 λzq0 hL1 hLn I s1=>?_;subst zq0;have B:=s1 _ _ hp;have J:∀H2,Z8 H H2->¬xG q L->∃N:A7,(∀r H',N r H'->∃m,m<(200000-(L:Int)).toNat/\m=(match r with|[_,some (.int m)]=>(200000-m).toNat|_=>0)/\∃L:Nat,r=[some (.ref p),some (.int L)]/\1<=L/\L<=q.length/\(∀m,1<=m->m<L->¬xG q m)/\Z8 H H')/\N _ H2:=λH2 O hn=>by
  refine⟨λr H'=>r=[some (.ref p),some (.int ((L:Int)+1))]/\Z8 H H',?_,U,O⟩;rintro r H' ⟨rfl,s'⟩;have hlt:L<q.length:=by
   rcases C9 L q.length with z|z
   .exact z
   .have e:L=q.length:=Vb
    exact absurd ⟨by rw[e,Nat.mod_self],by rw[e];exact Pq q⟩ hn
  refine⟨_,Vc,U,L+1,U,Vb,hlt,λm m1 m2=>?_,s'⟩
  by_cases e:m=L
  .rw[e];exact hn
  .exact I m m1 Vb
 have G:pT (q.map V.bl) (some (L:Int)) none=(q.drop L).map V.bl:=by rw[YF,zS]
 have F:pT (q.map V.bl) none (some (L:Int))=(q.take L).map V.bl:=by rw[YF,Xl]
 refine⟨_,U,p,_,U,.inl (aB.of B),_,U,_,_,U,U,Vb,_,_,U,U,_,U,jB (λc=>?_) (λc=>?_)⟩
 .refine Yl ?_;obtain⟨N,C,D⟩:=J H1 s1 λz=>by
   rw[aF ..,<-BR,z.1]at c;exact absurd c Va
  exact⟨N,C,_,U,_,_,U,U,D⟩
 .refine⟨_,U,_,U,_,U,_,U,p,_,U,aB.of B,λl1 Z=>?_⟩;rw[G];have u1:=Za (o:=.lst ((q.drop L).map V.bl)) Z;refine⟨_,U,_,U,_,U,p,_,U,aB.of (u1 _ _ B),λl2 hl2=>?_⟩;rw[F];have Y:=Za (o:=.lst ((q.take L).map V.bl)) hl2;refine⟨l1,l2,_,_,U,U,Y _ _ Zb,Zb,?_,λl3 Ua=>?_⟩
  .rw[aF,aF,fX,c8];exact bL (Y5 Vc)
  rw[<-b0];have u3:=Za (o:=.lst ((q.drop L++q.take L).map V.bl)) Ua;have O:=s1.trans (u1.trans (Y.trans u3));refine⟨p,l3,_,_,U,U,aB.of (u3 _ _ (Y _ _ (u1 _ _ B))),aB.of Zb,jt _,jt _,_,U,?_⟩;rw[vK];have c0:q.length%L=0:=by
   grind
  by_cases e:q=q.drop L++q.take L
  .rw[aZ e];exact ZI ⟨_,U,k L _ ⟨hL1,hLn,⟨c0,e.symm⟩,I⟩ O⟩
  .rw[bF e];obtain⟨N,C,D⟩:=J _ O λz=>e z.2.symm;exact Yl ⟨N,C,_,U,_,_,U,U,D⟩
inductive JN(K:Af):Prop
 |mk(a:Aw)(ns:Ak)(k:Nat):vs=[.ref a,.int k]->aB K H a (ns.map V.int)->ns.length<=63->k<=1000->(∀(r:Int) H',0<=r->r<1000000->Z8 H H'->Q (.int r) H')->JN K
def vU(K:Af):Sp:=λvs H Q _=>JN vs H Q K
theorem X1:bT T.au P w wv 1 (vU K):=by
 refine T.au.go Yb ?_;rintro cdv A xz s H _ Q E hr ⟨a,ns,q,rfl,hS,h63,hk,k⟩;refine⟨_,(Zc (Zt 2 Yb.nd (Zl k4 (Z4 ku (by rfl) T.ro NN (Zh (qv 0) Zd)) (ZC (Zh Ze Zd))))
   (Zc (Zt 3 Yb.nd (Zm (zo U) (by rfl) T.gi yi (Zh Ze (Zh (Zm Zq (by rfl) T.af Yc (Zh (qv 0) Zd)) Zd))))
   (Zc (Zt 4 Yb.nd (Z5 Zr (qv 2) (Zl ZL (qv 1) (qv 3))))
   (Zc (Zt 5 Yb.nd (Zl ZE (qv 1) (qv 3)))
   (Zc (ZF (Zn Ft (qv 4) (Zl Bn Ze Ze) (Zz _))
   (Zc (YQ dJ U (Ws U T.bq (Zh (Zm (zp U) (by rfl) T.ma Mk (Zh (qv 5) (Zh Ze Zd))) Zd)) (X5 6 Yb.nd)
   (Zg (Zt 4 Yb.nd (Zl ZE (qv 4) Ze))))
   (Zg (Zp (Zl ZL (qv 4) Ze)))) Zx)
   (Zc (Zt 7 Yb.nd (Zl ZL (Zl Xa (Zl Y3 (Zl Y3 (Zl Y3 (Zl ZL (qv 4) Ze) Ze) (Zl Xa Ze (qv 5))) (Zl Xa Ze (qv 1))) Ze) Ze))
   (Zc (Zt 7 Yb.nd (Zl ZL (Zl Y3 (Zl Y3 (Zl Xa (qv 7) (qv 7)) (Zl Xa Ze (qv 5))) (Zl Xa Ze (qv 1))) Ze))
   (Zg (Zp (Zl ZL (Zl ZE (Zl ZL (Zl Xa (qv 7) Ze) Ze) Ze) Ze)))))))))),?_⟩
 try dsimp only[L2.iP,L2.cK]
 refine⟨_,U,a,_,U,.inl hS,λO J=>⟨CV,λUa B=>⟨O,Ua,_,_,U,U,Za B _ _ Zb,Zb,?_,λD G=>Zf ?_⟩⟩⟩
 .rw[aF];exact bL (Zw (by show ns.length+1<=1000;lia))
 have L:=(Za (o:=.lst (ns.map V.int)) J).trans ((Za (o:=.lst [V.int 0]) B).trans (Za (o:=.lst (ns.map V.int++[V.int 0])) G));have h3:=Zb (H:=aA (aA H O (.lst (ns.map V.int))) Ua (.lst [V.int 0])) (a:=D) (o:=.lst (ns.map V.int++[V.int 0]));generalize aA (aA (aA H O (.lst (ns.map V.int))) Ua (.lst [V.int 0])) D (.lst (ns.map V.int++[V.int 0]))=H1 at *;have I:=qi hS L;refine⟨_,U,a,_,U,.inl I,1,_,U,Zf ?_⟩;try dsimp only
 obtain⟨sz,hsz,Z,sz2⟩:∃sz:Nat,(if((ns.map V.int).length:Int)>1 then((ns.map V.int).length:Int)else 1)=(sz:Int)/\1<=sz/\sz<=ns.length+1:=by
  rw[aF];split
  .exact⟨ns.length,U,Vb,Vb⟩
  .exact⟨1,U,Vb,Vb⟩
 rw[hsz];obtain⟨c,ec⟩:∃c:Int,dA (ns.map V.int++[V.int 0]) ((q:Int)%(sz:Int))=ad c:=by
  have hlt:=oI q Z;rw[<-BR,show ns.map V.int++[V.int 0]=(ns++[0]).map V.int by rw[b0];rfl];have hl:q%sz<(ns++[0]).length:=by rw[bA];show _<ns.length+1;lia
  exact⟨(ns++[0])[q%sz],Y7 (by rw[bG,aQ hl];rfl)⟩
 refine⟨_,U,_,U,_,U,_,_,U,U,(by show(0:Int)<sz;lia),D,_,_,_,U,U,aB.of h3,ec,Zf ?_⟩;refine⟨_,U,_,U,_,_,U,U,.of Vb Vb,Zf ?_⟩;try dsimp only
 obtain⟨r,F,tn1⟩:∃r:Nat,(q:Int)/(sz:Int)=(r:Int)/\r<=1000:=⟨q/sz,by rw[Int.natCast_ediv],cC (Nat.div_le_self _ _) hk⟩;rw[F];refine⟨_,U,_,_,U,U,⟨Va,Va,Va⟩,_,_,U,U,_,U,jB (λ_=>?_) (λ_=>?_)⟩
 .have md:∀z:Int,0<=z%1000000/\z%1000000<1000000:=λz=>⟨lL _ Va,l7 _ Va⟩
  obtain⟨n,hn,n60⟩:∃n:Nat,(if(60:Int)<(r:Int)then(60:Int)else(r:Int))=(n:Int)/\n<=60:=by
   split
   .exact⟨60,U,Vd⟩
   .exact⟨r,U,Vb⟩
  refine⟨_,U,_,_,U,(n:Int),(by rw[hn]),Vb,Vb,Wq (λi σ H'=>∃(c:Int)(Y:Option V),σ=[ac a,ad q,ac D,ad sz,ad c,ad r,Y,none]/\H'=H1) ⟨c,none,U,U⟩ ?_ ?_⟩
  .rintro i σ H' hi ⟨c,Y,rfl,rfl⟩;exact⟨_,U,_,_,U,U,.of Va Va,Zf ⟨_,_,U,U⟩⟩
  .rintro σ H' ⟨c,Y,rfl,rfl⟩;exact⟨_,U,_,_,U,U,(by show(0:Int)<1000000;decide),k _ _ (md _).1 (md _).2 L⟩
 .refine⟨_,U,_,_,U,U,(by show(0:Int)<2147483629;decide),_,_,U,U,_,U,_,_,U,U,.inr (.inl ⟨Va,Va⟩),_,_,U,U,_,U,_,_,U,U,.inr (.inl ⟨Va,Va⟩),_,_,U,U,_,_,U,U,.inr (.inr ⟨Va,Va⟩),_,_,U,U,(by show(0:Int)<2147483647;decide),Zf ?_⟩;try dsimp only
  generalize hs1:(c%2147483629+977+104729*(r:Int)+15485863*(q:Int))*48271%2147483647=C;have d0:0<=C:=Vb
  have d1:C<2147483647:=Vb
  refine⟨_,U,_,U,_,_,U,U,.inr (.inl ⟨Vb,Vb⟩),_,U,_,_,U,U,.inr (.inl ⟨Va,Va⟩),_,_,U,U,_,U,_,_,U,U,.inr (.inl ⟨Va,Va⟩),_,_,U,U,_,_,U,U,(by show(0:Int)<2147483587;decide),Zf ?_⟩;try dsimp only
  generalize hs2:(C*C+7919*(r:Int)+31*(q:Int))%2147483587=se;have e0:0<=se:=Vb
  have e1:se<2147483587:=Vb
  exact⟨_,U,_,_,U,U,.inr (.inr ⟨Va,Va⟩),_,_,U,U,(by show(0:Int)<2147483563;decide),_,_,U,U,.of Va Va,_,_,U,U,(by show(0:Int)<1000000;decide),k _ _ (lL _ Va) (l7 _ Va) L⟩
inductive qz:Prop
 |mk(r:Int):vs=[.int r]->0<=r->r<1000000->(∀y H',BG y->Z8 H H'->Q (.str y) H')->qz
theorem uN:bT T.fw P w wv 1 (cE qz):=by
 refine T.fw.go Xg ?_;rintro I A xz s H _ Q E hr ⟨r,rfl,Z,h1,k⟩;refine⟨_,(Zc (Zt 1 Xg.nd Zi)
   (Zc (Zt 2 Xg.nd (ZC (Zh Zi (Zh Zi (Zh Zi (Zh Zi (Zh Zi (Zh Zi (Zh Zi (Zh Zi (Zh Zi (Zh Zi Zd))))))))))))
   (Zc (Zt 3 Xg.nd (Z5 Zr (qv 2) (Zl ZL (qv 0) Ze)))
   (Zc (YQ dJ U (Ws U T.bq (Zh (Zl Y3 Ze (Zl ZL (Zl ZE (qv 0) Ze) Ze)) Zd)) (X5 4 Xg.nd)
   (Zg (Zt 3 Xg.nd (Zl Zcf (qv 3) (Z5 CU (qv 1) (Zl ZL (Zl Y3 (Zl ZE (qv 0) Ze) (Zl Xa Ze (qv 4))) Ze))))))
   (Zg (Zp (qv 3))))))),?_⟩
 refine Zf ?_;refine⟨Va,λm Ua=>Zf ?_⟩;obtain⟨y,F,L⟩:=js (l:=["","","","a","xy","so","not","yes","add","nought"]) (i:=r%10) Vc (l7 _ Va);refine⟨_,U,_,U,_,_,U,U,Vd,m,_,_,_,U,U,aB.of Zb,L,Zf ?_⟩;have G:=Za (o:=.lst [V.str "",V.str "",V.str "",V.str "a",V.str "xy",V.str "so",V.str "not",V.str "yes",V.str "add",V.str "nought"]) Ua;generalize aA H m _=H1 at *;obtain⟨n,J,q⟩:∃n:Nat,1+r/10%2=(n:Int)/\(n=1\/n=2):=⟨(1+r/10%2).toNat,Vc,Vc⟩;refine⟨_,U,_,_,U,U,.of Va Va,_,_,U,U,Vd,_,_,U,U,(n:Int),(by rw[<-J]),Vd,Vb,Wq (λi σ H'=>∃(B:Option V)(z:Str),σ=[ad r,some (.str oX),ac m,some (.str z),B]/\K6 y (r/20) i z/\z.length<=6+i/\H'=H1) ⟨none,y,U,U,(by decide +kernel:∀y∈AO,y.length<=6) y F,U⟩ ?_ ?_⟩
 .refine λi σ H' hi=>ε2 λB z=>θ3 λzq0 D C zq1=>?_;subst zq0;subst zq1;obtain⟨c,Y,O⟩:=CT Vb (l7 _ Va);refine⟨_,U,_,U,_,U,_,_,U,U,.of Va Va,_,U,_,_,U,U,.inr (.inl ⟨Va,Va⟩),_,_,U,U,_,_,U,U,Vd,_,_,c,U,U,VM,O,_,_,U,U,?_,Zf ⟨_,_,U,⟨z,c,D,(by simp_all),U⟩,?_,U⟩⟩
  .rw[OZ];exact bL (Zw Vb)
  .rw[Str.length_append,OZ];lia
 .rintro σ H' ⟨B,z,rfl,D,C,rfl⟩;exact⟨_,U,k z _ (Cn F q D) G⟩
inductive Gr:Prop
 |mk(w:V):vs=[w]->((∃y,w=.str y)\/∃z:Int,w=.int z)->(∀p H',H p=none->H' p=ap ((j3 w).map V.bl)->Z8 H H'->Q (.ref p) H')->Gr
theorem Wb:bT T.bb P w wv 1 (cE Gr):=by
 refine T.bb.go gk ?_;rintro Y A xz s H _ Q E hr ⟨w,rfl,hw,k⟩;refine⟨_,(Zc (ZF (Zn ZW (qv 0) (Z3 (Zh Zi (Zh Zi (Zh Zi Zd)))) Vf)
   (Zg (Zp (ZC (Zh YO (Zh YO Zd))))) Zx)
   (Zc (ZF (Zn Yh (qv 0) Zi (Zz _))
   (Zg (Zp (ZC (Zh YO Zd)))) Zx)
   (Zc (ZF (Zn ZW (qv 0) (Z3 (Zh Zi (Zh Zi (Zh Zi (Zh Zi (Zh Zi (Zh Zi (Zh Zi (Zh Zi Zd))))))))) Vf)
   (Zg (Zp (ZC (Zh YO (Zh YO Zd))))) Zx)
   (Zc (ZF (Zn ZW (qv 0) (Z3 (Zh Zi (Zh Zi (Zh Zi (Zh Zi (Zh Zi (Zh Zi Zd))))))) Vf)
   (Zg (Zp (ZC (Zh YO Zd)))) Zx)
   (Zc (ZF (Zn Yh (qv 0) Zi (Zz _))
   (Zg (Zp (ZC (Zh YO (Zh YO (Zh YO Zd)))))) Zx)
   (Zg (Zp (ZC Zd)))))))),?_⟩
 have e:=B7 hw;have D:XM w=true:=by rcases hw with⟨y,rfl⟩|⟨z,rfl⟩<;>rfl
 have F:∀c,AH w (.str c)=true:=λc=>by rcases hw with⟨y,rfl⟩|⟨z,rfl⟩<;>rfl
 have fin:∀(H1:Hp)(bs:Am),Z8 H H1->j3 w=bs->bs.length<=3->bs.length<=sizeLine/\∀p,H1 p=none->Q (.ref p) (aA H1 p (.lst (bs.map V.bl))):=λH1 bs q Ua h3=>⟨bL (Zw Vb),λp L=>k p _ (q.free L) (by rw[Zb,Ua]) (q.trans (Za L))⟩;refine⟨_,U,Va,λG r=>⟨G,_,U,.inr (aL.of Zb),D,U,_,U,jB (λc=>?_) (λc=>?_)⟩⟩
 .rw[aK (show bP w ((["both","either","so"]:Ai).map V.str)=true from c)]at e;exact let⟨f1,f2⟩:=fin _ _ (Za r) e Va;⟨f1,f2⟩
 rw[aG (show¬bP w ((["both","either","so"]:Ai).map V.str)=true from c)]at e;have q:=Za (o:=.tup [.str "both",.str "either",.str "so"]) r;generalize aA H G _=H1 at *;refine⟨_,U,F _,_,U,jB (λc=>?_) (λc=>?_)⟩
 .rw[aK c]at e;exact let⟨f1,f2⟩:=fin _ _ q e Va;⟨f1,f2⟩
 rw[aG c]at e;refine⟨_,U,Va,λJ B=>⟨J,_,U,.inr (aL.of Zb),D,U,_,U,jB (λc=>?_) (λc=>?_)⟩⟩
 .rw[aK (show bP w ((["same","under","beneath","and","or","odd","add","sub"]:Ai).map V.str)=true from c)]at e;exact let⟨f1,f2⟩:=fin _ _ (q.trans (Za B)) e Va;⟨f1,f2⟩
 rw[aG (show¬bP w ((["same","under","beneath","and","or","odd","add","sub"]:Ai).map V.str)=true from c)]at e;have O:=q.trans (Za (o:=.tup [.str "same",.str "under",.str "beneath",.str "and",.str "or",.str "odd",.str "add",.str "sub"]) B);generalize aA H1 J _=H2 at *;refine⟨_,U,Va,λZ C=>⟨Z,_,U,.inr (aL.of Zb),D,U,_,U,jB (λc=>?_) (λc=>?_)⟩⟩
 .rw[aK (show bP w ((["sign","nought","not","neg","twice","low"]:Ai).map V.str)=true from c)]at e;exact let⟨f1,f2⟩:=fin _ _ (O.trans (Za C)) e Va;⟨f1,f2⟩
 rw[aG (show¬bP w ((["sign","nought","not","neg","twice","low"]:Ai).map V.str)=true from c)]at e;have I:=O.trans (Za (o:=.tup [.str "sign",.str "nought",.str "not",.str "neg",.str "twice",.str "low"]) C);refine⟨_,U,F _,_,U,jB (λc=>?_) (λc=>?_)⟩
 .rw[aK c]at e;exact let⟨f1,f2⟩:=fin _ _ I e Va;⟨f1,f2⟩
 rw[aG c]at e;exact let⟨f1,f2⟩:=fin _ _ I e Va;⟨f1,f2⟩
inductive Gs:Prop
 |mk(t:Aw)(ws:A8):vs=[.ref t]->H t=am ws->(∀w∈ws,x6 w)->ws.length<=60->(∀p H' (ms:Ai),H' p=ap (ms.map V.str)->Z8 H H'->ms.Perm (Jo ((ws.filter pH).map rP))->PyProof.Rows.sortedS ms=true->Q (.ref p) H')->Gs
theorem gq:bT T.fg P w wv 1 (cE Gs):=by
 refine T.fg.go JI ?_;rintro Ua A xz s H _ Q E hr ⟨t,q,rfl,ht,hw,hl,k⟩;refine⟨_,(Zc (Zt 1 JI.nd (Z3 (Zh Zi (Zh Zi (Zh Zi (Zh Zi (Zh Zi (Zh Zi (Zh Zi (Zh Zi (Zh Zi (Zh Zi (Zh Zi (Zh Zi (Zh Zi (Zh Zi Zd))))))))))))))))
   (Zc (Zt 1 JI.nd (Zl Wi (qv 1) (Z3 (Zh Zi (Zh Zi (Zh Zi (Zh Zi (Zh Zi (Zh Zi Zd)))))))))
   (Zg (Zp (Zm (GP U) (by rfl) T.dj Jv (Zh (Z4 (kP U) (by rfl) T.Nt Rj (Zh (Y8 ({}:ZX (Zj G4) _ ["words","kept"] "word" ["kept"] [1]) (X6 (qv 0)) (λ_ _ _ _=>(kB (Jn (Jw (YJ (Zm (show YX _ (.builtin "isinstance") (DO K)from Xx) (by rfl) T.ah ZY (Zh (qv 0) (Zh (WH (v:=.ty "str") (by rfl) T.Ni OB U) Zd)))) (X4 (Zn (show bZ _ (compareOp .NotIn) (Hu K true)from kq) (qv 0) (qv 1) Vf)))))) (λ_ _ _ _=>(qv 0))) Zd)) Zd)))))),?_⟩
 refine⟨Va,λk1 G=>Zf ?_⟩;refine⟨_,U,Va,λk2 B=>⟨k1,k2,_,_,U,U,Za B _ _ Zb,Zb,bL (Zw Va),λk3 H1 r s3=>Zf ?_⟩⟩;have J:Z8 H H1:=((Za G).trans (Za B)).trans s3;have r:H1 k3=am (Z6.map V.str):=r;have C:=J _ _ ht;refine⟨_,U,t,U,⟨_,aL.of C⟩,kR (xs:=q) pH Z8 Z8.refl (λ_ _ _ a b=>a.trans b) (λH2 D=>aL.of (D _ _ C)) (bL (Zw Vb)) (λx L H2 D R hR=>?_) (λx L H2 R hR=>⟨_,U,hR⟩) (λH2 l D I=>?_)⟩
 .rcases hw x L with⟨y,rfl,hy⟩|⟨z,rfl⟩
  .refine⟨_,U,_,_,_,_,U,.str y,zw,_,U,Yl ⟨_,U,_,U,k3,_,U,.inr (aL.of (D _ _ r)),U,Wm,_,U,?_⟩⟩;have hR:=hR H2 (Z8.refl H2);rw[ZG];have e:(if true=true then !decide (y∈Z6)else decide (y∈Z6))=pH (.str y):=by
    show(!decide (y∈Z6))=decide (y∉Z6)
    by_cases h:y∈Z6
    .grind
    .grind
   rw[e];exact hR
  .exact⟨_,U,_,_,_,_,U,.int z,zx,_,U,ZI (hR H2 (Z8.refl H2))⟩
 have fl:(q.filter pH).length<=60:=cC (HN _ _) hl;have ol:=wt ((q.filter pH).map rP);rw[aF]at ol;have es:((q.filter pH).map rP).map V.str=q.filter pH:=by
  rw[bI];refine(fE (g:=id) λw hw=>?_).trans (CH _);have h:=(oD.mp hw).2;cases w with
  |str y=>rfl
  |_=>cases h
 have F:=J.trans (D.trans (Za (o:=.lst (q.filter pH)) I));refine⟨l,(q.filter pH).map rP,U,aB.of (by rw[es];exact Zb),by rw[aF];lia,λa ha=>ι2 a _ ⟨U,Zb,Vb,λm O Z Y hs=>?_⟩⟩;exact k m _ O Zb (F.trans ((Za ha).trans (Za Z))) Y hs
inductive Je:Prop
 |mk(pn:Aw)(nm:Ai)(m:Nat):vs=[.ref pn,.int m]->H pn=ap (nm.map V.str)->nm.Nodup->nm.length<=3->m^nm.length<=10000->1<=m->(∀p H',WZ H' p nm (cV m nm.length)->Z8 H H'->Q (.ref p) H')->Je
theorem jV:bT T.du P w wv 1 (cE Je):=by
 refine T.du.go Yd ?_;rintro cdv A xz s H _ Q E hr ⟨pn,nm,m,rfl,J,O,hn3,F,hm1,k⟩;have hu:=jA hr;refine⟨_,(Zc (Zt 2 Yd.nd (ZC (Zh G2 Zd)))
   (Zc (YQ dJ U (Xb (qv 0)) (X5 3 Yd.nd)
   (Zc (Zt 4 Yd.nd (ZC Zd))
   (Zc (YQ dJ U (Xb (qv 2)) (X5 5 Yd.nd)
   (Zg (YQ dJ U (Ws U T.bq (Zh (qv 1) Zd)) (X5 6 Yd.nd)
   (Zc (Zt 7 Yd.nd (Z4 Zco (by rfl) T.VU Wm (Zh (qv 5) Zd)))
   (Zc (J1 hu (qv 7) (qv 3) (qv 6) U)
   (Zg (Yj (YH c9 fP fS ZM (qv 4) (Zh (qv 7) Zd)))))))))
   (Zg (Zt 2 Yd.nd (qv 4))))))
   (Zg (Zp (qv 2))))),?_⟩
 refineλd hd=>⟨CV,λfo Ua=>Zf ?_⟩;have s1:=(Za (o:=.dK []) hd).trans (Za (o:=.lst [V.ref d]) Ua);have D1:WZ (aA (aA H d (.dK [])) fo (.lst [V.ref d])) fo (nm.take 0) (cV m 0):=by
  refine⟨[d],Zb,U,λi d' v h1 h2=>?_⟩;cases i with
  |zero=>
   cases h1;cases h2;exact Za Ua _ _ Zb
  |succ i=>cases h1
 refine⟨_,U,pn,U,⟨_,aB.of (s1 _ _ J)⟩,xT (K:=K) (a:=pn) (xs:=nm.map V.str) (λi σ H'=>∃(fo:Aw)(u3 u4 C r B:Option V),σ=[ac pn,ad m,ac fo,u3,u4,C,r,B]/\i<=nm.length/\WZ H' fo (nm.take i) (cV m i)/\Z8 H H') (ι6 fo none none none none none ⟨U,cM _,D1,s1⟩) (λi σ H' _=>ε6 λ_ _ _ _ _ _=>θ3 λ_ _ _ s=>aB.of (s _ _ J)) ?_ ?_⟩
 .refine λi x σ H2 hx=>ε6 λfo u3 u4 C r B=>θ3 λzq0 hi0 D2 s2=>?_;subst zq0;obtain⟨y,rfl,hy⟩:=Vs hx;have L:i<nm.length:=(bW.mp hy).1;have hyn:y∉nm.take i:=λh=>by
   obtain⟨j,Z⟩:=pC.mp h;rw[lI]at Z;split at Z
   .rename_i hlt;have e1:=Ww O Z;have e2:=Ww O hy;simp_all
   .cases Z
  have etk:nm.take (i+1)=nm.take i++[y]:=aE hy;have ltk:(nm.take i).length=i:=by rw[c8];simp_all
  have hb1:m^i*m<=10000:=by
   exact cC (tD hm1 L) F
  refine Zf ⟨Va,λwi G=>Zf ?_⟩;have s3:=Za (o:=.lst []) G;revert D2;refine ε1 λds=>θ2 λd1 d2 d3=>?_;have W3:WZ (aA H2 wi (.lst [])) wi (nm.take (i+1)) []:=⟨[],Zb,U,λi d v h1 _=>by cases h1⟩;refine⟨_,U,fo,U,⟨_,aB.of (s3 _ _ d1)⟩,xT (K:=K) (a:=fo) (xs:=ds.map V.ref) (λj σ H'=>∃(C r B:Option V),σ=[ac pn,ad m,ac fo,some (.str y),ac wi,C,r,B]/\j<=ds.length/\WZ H' wi (nm.take (i+1)) (((cV m i).take j).flatMap λvs=>(List.range m).map λw=>vs++[w])/\Z8 H2 H') (ι3 C r B ⟨U,cM _,W3,s3⟩) (λj σ H' _=>ε3 λ_ _ _=>θ3 λ_ _ _ s=>aB.of (s _ _ d1)) ?_ ?_⟩
  .refine λj x σ H4 hx=>ε3 λv5 v6 v7=>θ3 λzq0 hj0 Y s4=>?_;subst zq0;rw[bG]at hx;obtain⟨dv,I,rfl⟩:=eA.mp hx;have hjl:j<ds.length:=(bW.mp I).1;have q:j<(cV m i).length:=by rw[<-d2];exact hjl
   have D:=aQ q;have hvl:=(Rk (dZ q)).1;have hkv:=d3 j dv _ I D;generalize (cV m i)[j]=vs at *;have efm:((cV m i).take (j+1)).flatMap (λvs=>(List.range m).map λw=>vs++[w])=((cV m i).take j).flatMap (λvs=>(List.range m).map λw=>vs++[w])++(List.range m).map λw=>vs++[w]:=by
    rw[aE D,List.flatMap_append];simp
   have fl:∀l:Ad,(l.flatMap λvs=>(List.range m).map λw=>vs++[w]).length=l.length*m:=by
    intro l
    induction l with
    |nil=>exact(FK _).symm
    |cons v l ih=>rw[sY,bA,ih,aF,dY,cQ,D4,rL]
   have hb2:j*m+m<=10000:=by
    rw[<-D4];rw[ur]at q;exact cC (Ic _ q) hb1
   refine Zf ⟨_,U,(m:Int),U,Vd,Vb,Wq (λw σ H'=>∃(r B:Option V),σ=[ac pn,ad m,ac fo,some (.str y),ac wi,ac dv,r,B]/\WZ H' wi (nm.take (i+1)) (((cV m i).take j).flatMap (λvs=>(List.range m).map λw=>vs++[w])++(List.range w).map λw=>vs++[w])/\Z8 H2 H') ⟨v6,v7,U,by rw[List.range_zero,ID,dW];exact Y,s4⟩ ?_ ?_⟩
   .refine λw σ H5 hw=>ε2 λv6 v7=>θ2 λzq0 W5 s5=>?_;subst zq0;refine Zf ⟨_,U,dv,_,U,.inl (s5 _ _ hkv),λp hp=>Zf ?_⟩;refine⟨_,U,_,U,_,U,p,_,U,mU.k (k:=.inr y) Zb (Zw (by have:=Zo6 (nm.take i) vs;lia)),?_⟩;rw[yM,IQ,SJ hyn (by rw[hvl,ltk]),<-etk];refine ω (id W5) (ε1 λes=>θ2 λe1 e2 e3=>?_);have hpw:wi≠p:=λz=>by rw[z,hp]at e1;cases e1
    have sp:=Za (o:=.dK (mB (nm.take (i+1)) (vs++[w]))) hp;have e6:=sp _ _ e1;have lA:es.length<10000:=by
     grind
    refine⟨_,U,.inl ⟨U,_,aB.of e6⟩,_,U,wi,_,_,U,U,e6,by rw[aF];exact Y5 Vb,?_⟩;refine⟨_,_,U,?_,?_⟩
    .rw[tM,b0,<-i4];refine W5.snoc (p:=p) (λd kv e=>?_) (λes' h=>?_) ?_
     .rw[Zk (Yg e e1 nofun)];exact sp _ _ e
     .rw[Zb];rw[e1]at h;injection h with h;injection h with h;rw[h]
     .rw[Zk hpw.symm,Zb]
    .exact Z7 (s5.trans sp) G
   .grind
  .refine λσ H4=>ε3 λv5 v6 v7=>θ3 λzq0 hj0 Y s4=>?_;subst zq0;rw[aF,d2,dR]at Y;exact⟨_,U,Zf (ι6 wi _ _ _ _ _ ⟨U,L,Y,s2.trans s4⟩)⟩
 .refine λσ H2=>ε6 λfo u3 u4 C r B=>θ3 λzq0 hi0 D2 s2=>?_;subst zq0;rw[aF,dR]at D2;exact⟨_,U,k fo H2 D2 s2⟩
inductive W6:Prop
 |mk(y:Str)(h a:Int):vs=[.str y,.int h,vb (o7 y) a]->y∈HU->h=0\/h=1->a=0\/a=1->(∀p H',H p=none->H' p=am [vb (decide (y∈Z2)) (sT y h a).1,.int (sT y h a).2]->Z8 H H'->Q (.ref p) H')->W6
theorem j4:bT T.da P w wv 1 (cE W6):=by
 refine T.da.go jx ?_;rintro B A xz s H _ Q E G ⟨y,h,a,rfl,F,hh,r,k⟩;refine⟨_,(Zc (ZF (Zn Yh (qv 0) Zi (Zz _))
   (Zg (Zp (Z3 (Zh (Zl YY Ze (qv 2)) (Zh Ze Zd))))) Zx)
   (Zc (ZF (Zn Yh (qv 0) Zi (Zz _))
   (Zg (Zp (Z3 (Zh (Zl ZL (Zl Y3 (Zl YY Ze (qv 2)) (qv 1)) Ze) (Zh (Zl ZE (Zl Y3 (Zl YY Ze (qv 2)) (qv 1)) Ze) Zd))))) Zx)
   (Zc (ZF (Zn Yh (qv 0) Zi (Zz _))
   (Zg (Zp (Z3 (Zh (qv 1) (Zh (qv 2) Zd))))) Zx)
   (Zc (ZF (Zn Yh (qv 0) Zi (Zz _))
   (Zg (Zp (Z3 (Zh (Zl Xa (qv 2) (Zl YY Ze (qv 1))) (Zh (Zm (zo U) (by rfl) T.gi yi (Zh (qv 2) (Zh (qv 1) Zd))) Zd))))) Zx)
   (Zc (ZF (Zn Yh (qv 0) Zi (Zz _))
   (Zg (Zp (Z3 (Zh (ZS Yh (qv 2) Ze (Zz _)) (Zh Ze Zd))))) Zx)
   (Zc (ZF (Zn Yh (qv 0) Zi (Zz _))
   (Zg (Zp (Z3 (Zh (ye (ZS Yh (qv 1) Ze (Zz _)) (Gf (ZS Yh (qv 2) Ze (Zz _)))) (Zh (Zl Xa (qv 1) (Zl YY Ze (qv 2))) Zd))))) Zx)
   (Zg (Zp (Z3 (Zh (Kn (qv 2)) (Zh Ze Zd))))))))))),?_⟩
 have h2:2<=sizeLine:=Va
 have C:(0:Int)<2:=Va
 have fin:∀{p:Aw} {H':Hp} {v w:V},H p=none->H'=aA H p (.tup [v,w])->vb (decide (y∈Z2)) (sT y h a).1=v->V.int (sT y h a).2=w->Q (.ref p) H':=λq e e1 e2=>k _ _ q (by rw[e,Zb,e1,e2]) (by rw[e];exact Za q);have D:y = "not" \/ y = "neg" \/ y = "twice" \/ y = "low" \/ y = "sign" \/ y = "nought" \/ y = "never" :=by simpa only[HU,bJ,fG,l8]using F
 rcases D with rfl|rfl|rfl|rfl|rfl|rfl|rfl
 .exact⟨_,U,U,_,U,Yl ⟨_,U,_,_,U,U,h2,λp q=>fin q U U U⟩⟩
 .exact⟨_,U,U,_,U,ZI ⟨_,U,U,_,U,Yl ⟨_,U,_,_,U,U,_,U,_,_,U,U,_,_,U,U,C,_,U,_,_,U,U,_,U,_,_,U,U,_,_,U,U,.of Va Va,h2,λp q=>fin q U U U⟩⟩⟩
 .exact⟨_,U,U,_,U,ZI ⟨_,U,U,_,U,ZI ⟨_,U,U,_,U,Yl ⟨_,U,_,U,h2,λp q=>fin q U U U⟩⟩⟩⟩
 .exact⟨_,U,U,_,U,ZI ⟨_,U,U,_,U,ZI ⟨_,U,U,_,U,ZI ⟨_,U,U,_,U,Yl ⟨_,U,_,U,_,_,U,U,_,_,U,U,.inl ⟨by rcases r with rfl|rfl<;>decide,by rcases hh with rfl|rfl<;>decide⟩,_,U,_,U,_,_,U,h2,λp q=>fin q U U U⟩⟩⟩⟩⟩
 .rcases r with rfl|rfl<;>exact⟨_,U,U,_,U,ZI ⟨_,U,U,_,U,ZI ⟨_,U,U,_,U,ZI ⟨_,U,U,_,U,ZI ⟨_,U,U,_,U,Yl ⟨_,U,U,h2,λp q=>fin q U U U⟩⟩⟩⟩⟩⟩
 .refine⟨_,U,U,_,U,ZI ⟨_,U,U,_,U,ZI ⟨_,U,U,_,U,ZI ⟨_,U,U,_,U,ZI ⟨_,U,U,_,U,ZI ⟨_,U,U,_,U,Yl ⟨_,U,U,_,U,?_⟩⟩⟩⟩⟩⟩⟩;rcases hh with rfl|rfl<;>rcases r with rfl|rfl
  .exact ZI ⟨_,U,_,U,_,_,U,U,_,_,U,U,.inl ⟨Va,Va⟩,h2,λp q=>fin q U U U⟩
  .exact ZI ⟨_,U,_,U,_,_,U,U,_,_,U,U,.inl ⟨Va,Va⟩,h2,λp q=>fin q U U U⟩
  .exact Yl ⟨_,U,U,_,U,_,U,_,_,U,U,_,_,U,U,.inl ⟨Va,Va⟩,h2,λp q=>fin q U U U⟩
  .exact Yl ⟨_,U,U,_,U,_,U,_,_,U,U,_,_,U,U,.inl ⟨Va,Va⟩,h2,λp q=>fin q U U U⟩
 .rcases r with rfl|rfl<;>exact⟨_,U,U,_,U,ZI ⟨_,U,U,_,U,ZI ⟨_,U,U,_,U,ZI ⟨_,U,U,_,U,ZI ⟨_,U,U,_,U,ZI ⟨_,U,U,_,U,ZI ⟨_,U,_,U,h2,λp q=>fin q U U U⟩⟩⟩⟩⟩⟩⟩
inductive W7:Prop
 |mk(y:Str)(h a b:Int):vs=[.str y,.int h,vb (o7 y) a,vb (o7 y) b]->y∈Ke->h=0\/h=1->a=0\/a=1->b=0\/b=1->(∀p H',H p=none->H' p=am [vb (decide (y∈Z2)) (sW y h a b).1,.int (sW y h a b).2]->Z8 H H'->Q (.ref p) H')->W7
theorem j5:bT T.dc P w wv 1 (cE W7):=by
 refine T.dc.go XD ?_;rintro cdv A xz s H _ Q E hr ⟨y,h,a,b,rfl,hy,hh,I,L,k⟩;refine⟨_,(Zc (ZF (Zn ZW (qv 0) (Z3 (Zh Zi (Zh Zi (Zh Zi Zd)))) Vf)
   (Zg (Zp (Z3 (Zh (Z5 Zr (ZC (Zh (Zm (zp U) (by rfl) T.ma Mk (Zh (qv 2) (Zh (qv 3) Zd))) (Zh (Zm (zo U) (by rfl) T.gi yi (Zh (qv 2) (Zh (qv 3) Zd))) (Zh (Zl ZL (Zl Y3 (qv 2) (qv 3)) Ze) Zd)))) (FN PySem.F.slot_tuple_index PySem.F.type_tuple_index Tu (Z3 (Zh Zi (Zh Zi (Zh Zi Zd)))) (Zh (qv 0) Zd))) (Zh Ze Zd))))) Zx)
   (Zc (ZF (Zn Yh (qv 0) Zi (Zz _))
   (Zg (Zp (Z3 (Zh (Zl ZL (Zl Y3 (Zl Y3 (qv 2) (qv 3)) (qv 1)) Ze) (Zh (Zl ZE (Zl Y3 (Zl Y3 (qv 2) (qv 3)) (qv 1)) Ze) Zd))))) Zx)
   (Zc (ZF (Zn Yh (qv 0) Zi (Zz _))
   (Zg (Zp (Z3 (Zh (Zl ZL (Zl YY (Zl YY (qv 2) (qv 3)) (qv 1)) Ze) (Zh (Z4 Wr (by rfl) T.cb Ge (Zh (ZS Dh (Zl YY (Zl YY (qv 2) (qv 3)) (qv 1)) Ze (Zz _)) Zd)) Zd))))) Zx)
   (Zc (ZF (Zn Yh (qv 0) Zi (Zz _))
   (Zg (Zp (Z3 (Zh (ye (ZS Yh (qv 1) Ze (Zz _)) (Gf (ZS Yh (qv 2) (qv 3) (Zz _)))) (Zh (Zl Xa (qv 1) (Z4 Wr (by rfl) T.cb Ge (Zh (ZS Yh (qv 2) (qv 3) (Zz _)) Zd))) Zd))))) Zx)
   (Zc (ZF (Zn ZW (qv 0) (Z3 (Zh Zi (Zh Zi Zd))) Vf)
   (Zc (Zt 4 XD.nd (qv 1))
   (Zc (ZF (Zn HP (qv 2) (qv 3) (Zz _))
   (Zg (Zt 4 XD.nd (Z4 Wr (by rfl) T.cb Ge (Zh (ZS Dh (qv 2) (qv 3) (Zz _)) Zd)))) Zx)
   (Zc (ZF (Jn (Jw (Zn Yh (qv 0) Zi (Zz _)) (X4 (Zn HP (qv 2) (qv 3) (Zz _)))))
   (Zg (Zp (Z3 (Zh (ZS kf (qv 2) (qv 3) (Zz _)) (Zh (qv 4) Zd))))) Zx)
   (Zg (Zp (Z3 (Zh (ZS Yh (qv 4) Ze (Zz _)) (Zh (qv 4) Zd)))))))) Zx)
   (Zc (ZF (Zn Yh (qv 0) Zi (Zz _))
   (Zg (Zp (Z3 (Zh (ye (qv 2) (Gf (qv 3))) (Zh Ze Zd))))) Zx)
   (Zc (ZF (Zn Yh (qv 0) Zi (Zz _))
   (Zg (Zp (Z3 (Zh (G0 (qv 2) (Gf (qv 3))) (Zh Ze Zd))))) Zx)
   (Zg (Zp (Z3 (Zh (G0 (qv 3) (Gf (Kn (qv 2)))) (Zh Ze Zd)))))))))))),?_⟩
 try dsimp only[L2.iP,L2.cK]
 have h2:2<=sizeLine:=Va
 have J:(0:Int)<2:=Va
 refine⟨_,U,vZ,λq1 Y=>⟨q1,_,U,.inr (aL.of Zb),U,U,_,U,?_⟩⟩;rw[show bP (.str y) [V.str "and",V.str "or",V.str "odd"]=decide (y∈(["and","or","odd"]:Ai))from ZG y ["and","or","odd"]];have s1:=Za (o:=.tup [V.str "and",V.str "or",V.str "odd"]) Y;generalize aA H q1 (.tup [V.str "and",V.str "or",V.str "odd"])=H1 at *;have fin:∀{p:Aw} {H2 H':Hp} {v w:V},Z8 H1 H2->H2 p=none->H'=aA H2 p (.tup [v,w])->vb (decide (y∈Z2)) (sW y h a b).1=v->V.int (sW y h a b).2=w->Q (.ref p) H':=λs2 q e e1 e2=>k _ _ ((s1.trans s2).free q) (by rw[e,Zb,e1,e2]) (by rw[e];exact(s1.trans s2).trans (Za q));have Z:y = "and" \/ y = "or" \/ y = "odd" \/ y = "add" \/ y = "sub" \/ y = "same" \/ y = "under" \/ y = "beneath" \/ y = "both" \/ y = "either" \/ y = "so" :=by simpa only[Ke,bJ,fG,l8]using hy
 rcases Z with rfl|rfl|rfl|rfl|rfl|rfl|rfl|rfl|rfl|rfl|rfl
 .rw[show decide (("and" : Str)∈(["and","or","odd"]:Ai))=true by decide +kernel];exact Yl ⟨_,U,_,U,_,_,U,_,U,_,U,_,_,U,_,U,_,U,_,_,U,U,_,_,U,U,J,vZ,λl O=>⟨vZ,λG B=>⟨G,_,U,Zb,_,U,G,_,_,_,0,U,U,Zb,U,U,U,U,(λi z hi=>Vb),l,_,_,_,U,U,aB.of (Za B _ _ Zb),Y7 U,h2,λp q=>fin ((Za O).trans (Za B)) q U U U⟩⟩⟩
 .rw[show decide (("or" : Str)∈(["and","or","odd"]:Ai))=true by decide +kernel];exact Yl ⟨_,U,_,U,_,_,U,_,U,_,U,_,_,U,_,U,_,U,_,_,U,U,_,_,U,U,J,vZ,λl O=>⟨vZ,λG B=>⟨G,_,U,Zb,_,U,G,_,_,_,1,U,U,Zb,U,U,U,U,(λi z hi e=>by rcases(by lia:i=0)with rfl;cases e;rfl),l,_,_,_,U,U,aB.of (Za B _ _ Zb),Y7 U,h2,λp q=>fin ((Za O).trans (Za B)) q U U U⟩⟩⟩
 .rw[show decide (("odd" : Str)∈(["and","or","odd"]:Ai))=true by decide +kernel];exact Yl ⟨_,U,_,U,_,_,U,_,U,_,U,_,_,U,_,U,_,U,_,_,U,U,_,_,U,U,J,vZ,λl O=>⟨vZ,λG B=>⟨G,_,U,Zb,_,U,G,_,_,_,2,U,U,Zb,U,U,U,U,(λi z hi e=>by rcases(by lia:i=0\/i=1)with rfl|rfl<;>cases e<;>rfl),l,_,_,_,U,U,aB.of (Za B _ _ Zb),Y7 U,h2,λp q=>fin ((Za O).trans (Za B)) q U U U⟩⟩⟩
 .rw[show decide (("add" : Str)∈(["and","or","odd"]:Ai))=false by decide +kernel];exact ZI ⟨_,U,U,_,U,Yl ⟨_,U,_,U,_,_,U,U,_,U,_,_,U,U,_,_,U,U,J,_,U,_,U,_,_,U,U,_,U,_,_,U,U,_,_,U,U,.of Va Va,h2,λp q=>fin (Z8.refl _) q U U U⟩⟩
 .rw[show decide (("sub" : Str)∈(["and","or","odd"]:Ai))=false by decide +kernel];exact ZI ⟨_,U,U,_,U,ZI ⟨_,U,U,_,U,Yl ⟨_,U,_,U,_,_,U,U,_,U,_,_,U,U,_,_,U,U,J,_,U,_,U,_,_,U,U,_,U,_,_,U,U,_,_,U,U,.inr ⟨_,U,h2,λp q=>fin (Z8.refl _) q U U U⟩⟩⟩⟩
 .rw[show decide (("same" : Str)∈(["and","or","odd"]:Ai))=false by decide +kernel];refine ZI ⟨_,U,U,_,U,ZI ⟨_,U,U,_,U,ZI ⟨_,U,U,_,U,Yl ⟨_,U,U,_,U,?_⟩⟩⟩⟩;rcases hh with rfl|rfl
  .rcases I with rfl|rfl<;>rcases L with rfl|rfl<;>exact ZI ⟨_,U,_,U,_,U,U,.inr ⟨_,U,_,_,U,U,.inl ⟨Va,Va⟩,h2,λp q=>fin (Z8.refl _) q U U U⟩⟩
  .rcases I with rfl|rfl<;>rcases L with rfl|rfl<;>exact Yl ⟨_,U,_,U,U,_,U,_,U,_,U,U,.inr ⟨_,U,_,_,U,U,.inl ⟨Va,Va⟩,h2,λp q=>fin (Z8.refl _) q U U U⟩⟩
 .rw[show decide (("under" : Str)∈(["and","or","odd"]:Ai))=false by decide +kernel];refine ZI ⟨_,U,U,_,U,ZI ⟨_,U,U,_,U,ZI ⟨_,U,U,_,U,ZI ⟨_,U,GF,λD r=>⟨D,_,U,.inr (aL.of Zb),U,U,_,U,?_⟩⟩⟩⟩⟩;rw[show bP (.str "under") [V.str "under",V.str "beneath"]=true by decide +kernel];have C:=Za (o:=.tup [V.str "under",V.str "beneath"]) r;generalize aA H1 D (.tup [V.str "under",V.str "beneath"])=Ua at *;refine Yl ⟨_,U,Zf ?_⟩;rcases hh with rfl|rfl<;>rcases I with rfl|rfl<;>rcases L with rfl|rfl<;>first
   |exact⟨_,U,_,U,U,_,U,ZI ⟨_,U,U,_,U,ZI (ZI ⟨_,U,U,_,U,h2,λp q=>fin C q U U U⟩)⟩⟩
   |exact⟨_,U,_,U,U,_,U,Yl ⟨_,U,_,U,_,_,U,U,.inr ⟨_,U,Zf ⟨_,U,U,_,U,ZI (ZI ⟨_,U,U,_,U,h2,λp q=>fin C q U U U⟩)⟩⟩⟩⟩
 .rw[show decide (("beneath" : Str)∈(["and","or","odd"]:Ai))=false by decide +kernel];refine ZI ⟨_,U,U,_,U,ZI ⟨_,U,U,_,U,ZI ⟨_,U,U,_,U,ZI ⟨_,U,GF,λD r=>⟨D,_,U,.inr (aL.of Zb),U,U,_,U,?_⟩⟩⟩⟩⟩;rw[show bP (.str "beneath") [V.str "under",V.str "beneath"]=true by decide +kernel];have C:=Za (o:=.tup [V.str "under",V.str "beneath"]) r;generalize aA H1 D (.tup [V.str "under",V.str "beneath"])=Ua at *;refine Yl ⟨_,U,Zf ?_⟩;rcases hh with rfl|rfl<;>rcases I with rfl|rfl<;>rcases L with rfl|rfl<;>first
   |exact⟨_,U,_,U,U,_,U,ZI ⟨_,U,U,_,U,Yl ⟨_,U,_,U,U,_,U,ZI ⟨_,U,U,_,U,h2,λp q=>fin C q U U U⟩⟩⟩⟩
   |exact⟨_,U,_,U,U,_,U,Yl ⟨_,U,_,U,_,_,U,U,.inr ⟨_,U,Zf ⟨_,U,U,_,U,Yl ⟨_,U,_,U,U,_,U,Yl ⟨_,U,_,U,_,_,U,U,_,U,h2,λp q=>fin C q U U U⟩⟩⟩⟩⟩⟩
 .rw[show decide (("both" : Str)∈(["and","or","odd"]:Ai))=false by decide +kernel];refine ZI ⟨_,U,U,_,U,ZI ⟨_,U,U,_,U,ZI ⟨_,U,U,_,U,ZI ⟨_,U,GF,λD r=>⟨D,_,U,.inr (aL.of Zb),U,U,_,U,?_⟩⟩⟩⟩⟩;rw[show bP (.str "both") [V.str "under",V.str "beneath"]=false by decide +kernel];have C:=Za (o:=.tup [V.str "under",V.str "beneath"]) r;generalize aA H1 D (.tup [V.str "under",V.str "beneath"])=Ua at *;refine ZI ⟨_,U,U,_,U,Yl ⟨_,U,_,U,?_⟩⟩;rcases I with rfl|rfl
  .exact ZI ⟨h2,λp q=>fin C q U U U⟩
  .exact Yl ⟨_,U,h2,λp q=>fin C q U U U⟩
 .rw[show decide (("either" : Str)∈(["and","or","odd"]:Ai))=false by decide +kernel];refine ZI ⟨_,U,U,_,U,ZI ⟨_,U,U,_,U,ZI ⟨_,U,U,_,U,ZI ⟨_,U,GF,λD r=>⟨D,_,U,.inr (aL.of Zb),U,U,_,U,?_⟩⟩⟩⟩⟩;rw[show bP (.str "either") [V.str "under",V.str "beneath"]=false by decide +kernel];have C:=Za (o:=.tup [V.str "under",V.str "beneath"]) r;generalize aA H1 D (.tup [V.str "under",V.str "beneath"])=Ua at *;refine ZI ⟨_,U,U,_,U,ZI ⟨_,U,U,_,U,Yl ⟨_,U,_,U,?_⟩⟩⟩;rcases I with rfl|rfl
  .exact ZI ⟨_,U,h2,λp q=>fin C q U U U⟩
  .exact Yl ⟨h2,λp q=>fin C q U U U⟩
 .rw[show decide (("so" : Str)∈(["and","or","odd"]:Ai))=false by decide +kernel];refine ZI ⟨_,U,U,_,U,ZI ⟨_,U,U,_,U,ZI ⟨_,U,U,_,U,ZI ⟨_,U,GF,λD r=>⟨D,_,U,.inr (aL.of Zb),U,U,_,U,?_⟩⟩⟩⟩⟩;rw[show bP (.str "so") [V.str "under",V.str "beneath"]=false by decide +kernel];have C:=Za (o:=.tup [V.str "under",V.str "beneath"]) r;generalize aA H1 D (.tup [V.str "under",V.str "beneath"])=Ua at *;refine ZI ⟨_,U,U,_,U,ZI ⟨_,U,U,_,U,ZI ⟨_,U,_,U,?_⟩⟩⟩;rcases L with rfl|rfl
  .rcases I with rfl|rfl<;>exact ZI ⟨_,U,_,U,h2,λp q=>fin C q U U U⟩
  .exact Yl ⟨h2,λp q=>fin C q U U U⟩
inductive Gu:Prop
 |mk(t:Aw)(ws:A8):vs=[.ref t]->H t=am ws->(∀w∈ws,x6 w)->ws.length<=60->(∀p H',H p=none->H' p=am ((ws.map wV).map V.int)->Z8 H H'->Q (.ref p) H')->Gu
theorem gr:bT T.fh P w wv 1 (cE Gu):=by
 refine T.fh.go JJ ?_;rintro cdv A xz s H _ Q E hr ⟨tw,r,rfl,ht,hw,hl,k⟩;refine⟨_,(Zc (Zt 1 JJ.nd (ZC Zd))
   (Zc (YQ dJ U (X6 (qv 0)) (X5 2 JJ.nd)
   (Zg (ZF (YJ (Zm Xx (by rfl) T.ah ZY (Zh (qv 2) (Zh (WH (v:=.ty "int") (by rfl) T.cb Ge U) Zd))))
   (Zg (Yj (YH c9 fP fS ZM (qv 1) (Zh (qv 2) Zd)))) (Zg (Yj (YH c9 fP fS ZM (qv 1) (Zh (Z4 Wr (by rfl) T.cb Ge (Zh (ZS ZW (qv 2) (Z3 (Zh Zi (Zh Zi (Zh Zi Zd)))) Vf) Zd)) Zd)))))))
   (Zg (Zp (Z4 Z1 (by rfl) T.ae ZO (Zh (qv 1) Zd)))))),?_⟩
 refine⟨Va,λfo B=>Zf ?_⟩;have s0:=Za (o:=.lst []) B;refine⟨_,U,tw,U,⟨_,aL.of (s0 _ _ ht)⟩,yQ (K:=K) (a:=tw) (xs:=r) (λi σ H2=>∃(F:Option V),σ=[ac tw,ac fo,F]/\i<=r.length/\H2 fo=ap (((r.take i).map wV).map V.int)/\Z8 H H2) ⟨none,U,cM _,Zb,s0⟩ (λi σ H2 _=>ε1 λ_=>θ3 λ_ _ _ s=>aL.of (s _ _ ht)) ?_ ?_⟩
 .refine λi x σ H2 O=>ε1 λF=>θ3 λzq0 hi h2 D=>?_;subst zq0;have J:i<r.length:=(bW.mp O).1;have fin:∀{v:Int} {C:Hp},wV x=v->Z8 H2 C->C fo=ap (((r.take i).map wV).map V.int)/\(((r.take i).map wV).map V.int).length<sizeLine/\∃I,[ac tw,ac fo,some x]=[ac tw,ac fo,I]/\i+1<=r.length/\(aA C fo (.lst (((r.take i).map wV).map V.int++[.int v]))) fo=ap (((r.take (i+1)).map wV).map V.int)/\Z8 H (aA C fo (.lst (((r.take i).map wV).map V.int++[.int v]))):=λe Z=>by
   refine⟨Z _ _ h2,?_,_,U,J,?_,Z7 (D.trans Z) B⟩
   .rw[aF,aF,c8];exact Zw Vb
   .rw[Zb,aE O,b0,b0,<-e];rfl
  rcases hw x (cY O)with⟨y,rfl,_⟩|⟨z,rfl⟩
  .refine⟨_,U,_,_,_,_,U,.str y,X3,_,U,ZI ⟨_,U,.inl ⟨U,_,aB.of h2⟩,_,U,Va,λq hq=>⟨q,_,U,.inr (aL.of Zb),U,U,.inr ⟨_,U,?_⟩⟩⟩⟩;have e:wV (.str y)=if bP (.str y) [V.str "neg",V.str "same",V.str "nought"]=true then 1 else 0:=by
    rw[show bP (.str y) [V.str "neg",V.str "same",V.str "nought"]=decide (y∈(["neg","same","nought"]:Ai))from ZG y ["neg","same","nought"]];show(if _ then(1:Int)else 0)=_;simp
   obtain⟨Ua,L,G⟩:=fin e (Za hq);exact⟨fo,_,_,U,U,Ua,L,G⟩
  .obtain⟨Ua,L,G⟩:=fin (v:=z) U (Z8.refl H2);exact⟨_,U,_,_,_,_,U,.int z,WE,_,U,Yl ⟨_,U,.inl ⟨U,_,aB.of h2⟩,_,U,fo,_,_,U,U,Ua,L,G⟩⟩
 .refine λσ H2=>ε1 λF=>θ3 λzq0 hi h2 D=>?_;subst zq0;rw[rD (aN _)]at h2;exact⟨_,U,fo,_,U,.inl ⟨aB.of h2,λp Y=>k p _ (D.free Y) Zb (D.trans (Za Y))⟩⟩
inductive Jf:Prop
 |mk(r:Int)(y:Str)(al:Bool):vs=[.int r,.str y,.bl al]->0<=r->(∀p ws H',H' p=am ws->yJ y al ws->Z8 H H'->Q (.ref p) H')->Jf
theorem jX:bT T.dw P w wv 1 (cE Jf):=by
 refine T.dw.go Wo ?_;rintro cdv A xz s H _ Q E hr ⟨r,y,al,rfl,h0,k⟩;refine⟨_,(Zc (ZF (Jn (Jw (YJ (qv 2)) (X4 (Zn Yh (Zl ZL (Zl ZE (qv 0) Ze) Ze) Ze (Zz _)))))
   (Zc (Zt 3 Wo.nd (Z5 Zr (ZC (Zh (Z3 (Zh Zi Zd)) (Zh (Z3 (Zh Zi (Zh Zi Zd))) Zd))) (Zl ZL (Zl ZE (qv 0) Ze) Ze)))
   (Zg (Zp (Zl Wi (Zl Wi (Z3 (Zh Zi (Zh Ze Zd))) (qv 3)) (Z3 (Zh Zi (Zh (qv 1) (Zh Zi (Zh Zi (Zh Zi (Zh (qv 1) Zd))))))))))) Zx)
   (Zc (Zt 4 Wo.nd (ZC (Zh (Z3 (Zh Zi (Zh Zi (Zh (qv 1) Zd)))) (Zh (Z3 (Zh Zi (Zh Zi (Zh Zi (Zh (qv 1) Zd))))) (Zh (Z3 (Zh Zi (Zh Ze (Zh Zi (Zh Zi (Zh (qv 1) (Zh Zi (Zh (qv 1) Zd)))))))) Zd)))))
   (Zc (Yj (YH c9 fP fS ZM (qv 4) (Zh (Z3 (Zh Zi (Zh (Zl ZL (Zl ZE (qv 0) Ze) Ze) (Zh Zi (Zh Zi (Zh (qv 1) Zd)))))) Zd)))
   (Zc (ZF (Zn Yh (Zl ZL (Zl ZE (qv 0) Ze) Ze) Ze (Zz _))
   (Zc (Yj (YH c9 fP fS ZM (qv 4) (Zh (Z3 (Zh Zi (Zh Ze (Zh Zi (Zh Zi (Zh (qv 1) (Zh Zi (Zh Zi (Zh (qv 1) Zd))))))))) Zd)))
   (Zg (Yj (YH c9 fP fS ZM (qv 4) (Zh (Z3 (Zh Zi (Zh (Zl ZL (Zl ZE (qv 0) Ze) Ze) (Zh Zi (Zh Zi (Zh Zi (Zh (qv 1) Zd))))))) Zd))))) Zx)
   (Zg (Zp (Z5 Zr (qv 4) (Zl ZL (qv 0) (Zm Zq (by rfl) T.af Yc (Zh (qv 4) Zd)))))))))),?_⟩
 try dsimp only[L2.iP,L2.cK]
 refine L2.rV ?_;intro U4 U3 U2 U1;have z1:0<=r/8%8/\r/8%8<2^10:=Vb
 have z2:0<=r/128%16/\r/128%16<2^10:=Vb
 refine ω (vO (y:=y) z1.1 z1.2 al) (θ7 λA1 A2 A3 A4 A5 _ B1 B2=>?_);refine ω (vO (y:=y) z2.1 z2.2 al) (θ6 λ_ _ _ _ _ A6 _=>?_);have pi:U1 {nx:=λ_ H'=>Q .bN H',rt:=Q} [ad r,some (.str y),some (.bl al),none,none] H:=by
  refine⟨_,U,vZ,λp1 Z=>⟨_,U,IV,λp2 I=>⟨_,U,_,U,KJ,λp3 L=>⟨vZ,λq G=>Zf ?_⟩⟩⟩⟩;have s1:=(Za (o:=.tup [V.str "twice",.str "not",.str y]) Z).trans ((Za (o:=.tup [V.str "twice",.str "twice",.str "not",.str y]) I).trans (Za (o:=.tup [V.str "odd",.int 1,.str "twice",.str "odd",.str y,.str "twice",.str y]) L));have e1:=Za (o:=.lst [V.ref p1,.ref p2,.ref p3]) G _ _ (Za (o:=.tup [V.str "odd",.int 1,.str "twice",.str "odd",.str y,.str "twice",.str y]) L _ _ (Za (o:=.tup [V.str "twice",.str "twice",.str "not",.str y]) I _ _ (Zb (H:=H) (a:=p1) (o:=.tup [V.str "twice",.str "not",.str y]))));have e2:=Za (o:=.lst [V.ref p1,.ref p2,.ref p3]) G _ _ (Za (o:=.tup [V.str "odd",.int 1,.str "twice",.str "odd",.str y,.str "twice",.str y]) L _ _ (Zb (H:=aA H p1 (.tup [V.str "twice",.str "not",.str y])) (a:=p2) (o:=.tup [V.str "twice",.str "twice",.str "not",.str y])));have e3:=Za (o:=.lst [V.ref p1,.ref p2,.ref p3]) G _ _ (Zb (H:=aA (aA H p1 (.tup [V.str "twice",.str "not",.str y])) p2 (.tup [V.str "twice",.str "twice",.str "not",.str y])) (a:=p3) (o:=.tup [V.str "odd",.int 1,.str "twice",.str "odd",.str y,.str "twice",.str y]));have so1:=Zb (H:=aA (aA (aA H p1 (.tup [V.str "twice",.str "not",.str y])) p2 (.tup [V.str "twice",.str "twice",.str "not",.str y])) p3 (.tup [V.str "odd",.int 1,.str "twice",.str "odd",.str y,.str "twice",.str y])) (a:=q) (o:=.lst [V.ref p1,.ref p2,.ref p3]);have hsn:=s1.free G;have s2:=s1.trans (Za (o:=.lst [V.ref p1,.ref p2,.ref p3]) G);try dsimp only
  generalize aA (aA (aA (aA H p1 (.tup [V.str "twice",.str "not",.str y])) p2 (.tup [V.str "twice",.str "twice",.str "not",.str y])) p3 (.tup [V.str "odd",.int 1,.str "twice",.str "odd",.str y,.str "twice",.str y])) q (.lst [V.ref p1,.ref p2,.ref p3])=H4 at *;have all4:∀a∈[p1,p2,p3],∃D,H4 a=am D/\yJ y al D:=λa ha=>by
   simp only[bJ,fG,l8]at ha;rcases ha with rfl|rfl|rfl
   .exact⟨_,e1,A1⟩
   .exact⟨_,e2,A2⟩
   .exact⟨_,e3,A3⟩
  have F:∀{Ha:Hp} {as:List Aw} {p:Aw} {D:A8},(∀a∈as,∃D,Ha a=am D/\yJ y al D)->Ha q=ap (as.map V.ref)->Ha p=none->yJ y al D->(∀a∈as++[p],∃C,aA (aA Ha p (.tup D)) q (.lst (as.map V.ref++[.ref p])) a=am C/\yJ y al C):=λ{Ha as p D} al hs hp P a ha=>by
   have hps:p≠q:=λz=>by rw[z,hs]at hp;cases hp
   rcases cT.mp ha with z|z
   .obtain⟨C,g1,g2⟩:=al a z;exact⟨C,(Zk (Yg g1 hs nofun)).trans (Za hp _ _ g1),g2⟩
   .rw[cA.mp z];exact⟨D,(Zk hps).trans Zb,P⟩
  have s4:H4 q=ap ([p1,p2,p3].map V.ref):=so1;have hz:(0:Int)<2:=Va
  refine⟨_,U,.inl ⟨U,_,aB.of s4⟩,_,U,_,_,U,U,.of Va Va,_,_,U,U,(by show(0:Int)<8;decide),_,U,EE,λB O=>⟨q,_,_,U,U,Za O _ _ s4,by show 3<sizeLine;decide,?_⟩⟩;have J:∀a∈[p1,p2,p3,B],∃C,aA (aA H4 B (.tup [V.str "odd",.int (r/8%8),.str "twice",.str "twice",.str y])) q (.lst ([p1,p2,p3].map V.ref++[.ref B])) a=am C/\yJ y al C:=F all4 s4 O A4;have s5:aA (aA H4 B (.tup [V.str "odd",.int (r/8%8),.str "twice",.str "twice",.str y])) q (.lst ([p1,p2,p3].map V.ref++[.ref B])) q=ap ([p1,p2,p3,B].map V.ref):=Zb;have s25:=Z7 (o:=.lst ([p1,p2,p3].map V.ref++[.ref B])) (s2.trans (Za (o:=.tup [V.str "odd",.int (r/8%8),.str "twice",.str "twice",.str y]) O)) hsn;try dsimp only
  generalize aA (aA H4 B (.tup [V.str "odd",.int (r/8%8),.str "twice",.str "twice",.str y])) q (.lst ([p1,p2,p3].map V.ref++[.ref B]))=H5 at *;show ZR (C4 _ _ _) _ _ _ _;refine WI (λσ H'=>σ=[ad r,some (.str y),some (.bl al),none,ac q]/\∃as:List Aw,0<as.length/\H' q=ap (as.map V.ref)/\(∀a∈as,∃D,H' a=am D/\yJ y al D)/\Z8 H H') (λN hN=>?_) ?_
  .refine⟨_,U,_,_,U,U,.of Va Va,_,_,U,U,hz,U,_,U,?_⟩
   by_cases e:V.int (r/64%2)=V.int 0
   .rw[aZ e];refine Yl ⟨_,U,.inl ⟨U,_,aB.of s5⟩,_,U,_,U,L8,λp5 hp5=>⟨q,_,_,U,U,Za hp5 _ _ s5,by show 4<sizeLine;decide,?_⟩⟩;have all6:=F J s5 hp5 A5;have Ua:aA (aA H5 p5 (.tup [V.str "odd",.int 1,.str "twice",.str "odd",.str y,.str "twice",.str "twice",.str y])) q (.lst ([p1,p2,p3,B].map V.ref++[.ref p5])) q=ap ([p1,p2,p3,B,p5].map V.ref):=Zb;have s26:=Z7 (o:=.lst ([p1,p2,p3,B].map V.ref++[.ref p5])) (s25.trans (Za (o:=.tup [V.str "odd",.int 1,.str "twice",.str "odd",.str y,.str "twice",.str "twice",.str y]) hp5)) hsn;try dsimp only
    generalize aA (aA H5 p5 (.tup [V.str "odd",.int 1,.str "twice",.str "odd",.str y,.str "twice",.str "twice",.str y])) q (.lst ([p1,p2,p3,B].map V.ref++[.ref p5]))=H6 at *;refine⟨_,U,.inl ⟨U,_,aB.of Ua⟩,_,U,_,_,U,U,.of Va Va,_,_,U,U,(by show(0:Int)<16;decide),_,U,Cd,λp6 Y=>⟨q,_,_,U,U,Za Y _ _ Ua,by show 5<sizeLine;decide,?_⟩⟩;exact hN _ _ ⟨U,[p1,p2,p3,B,p5,p6],by show 0<6;decide,Zb,F all6 Ua Y A6,Z7 (s26.trans (Za Y)) hsn⟩
   .rw[bF e];exact ZI (hN _ _ ⟨U,[p1,p2,p3,B],by show 0<4;decide,s5,J,s25⟩)
  .refine λσ H6=>θ1 λzq0=>ε1 λas=>θ3 λhp h6 a6 Ua=>?_;subst zq0;obtain⟨i,ei,hi⟩:∃i:Nat,r%((as.map V.ref).length:Int)=(i:Int)/\i<as.length:=⟨(r%(as.length:Int)).toNat,by rw[aF,FR (lL _ Vb)],by have:=l7 r (show(0:Int)<as.length by lia);have:=lL r (show(as.length:Int)≠0 by lia);simp_all⟩;obtain⟨D,g1,g2⟩:=a6 as[i] (dZ hi);refine⟨_,U,_,U,_,U,q,_,U,.inl (aB.of h6),_,_,U,U,by rw[aF];lia,q,_,_,_,U,U,aB.of h6,by rw[ei];exact Y7 (v:=V.ref as[i]) (by rw[bG,aQ hi];rfl),k as[i] D H6 g1 g2 Ua⟩
 have hz:(0:Int)<2:=Va
 cases al with
 |false=>exact⟨_,U,_,U,ZI (ZI pi)⟩
 |true=>
  refine⟨_,U,_,U,Yl ⟨_,U,_,_,U,U,.of Va Va,_,_,U,U,(by show(0:Int)<4;decide),U,_,U,?_⟩⟩
  by_cases e:V.int (r/128%4)=V.int 0
  .rw[aZ e];refine Yl ⟨CV,λp1 Z=>⟨GF,λp2 I=>⟨GF,λlo hlo=>⟨_,U,_,_,U,U,.of Va Va,_,_,U,U,hz,?_⟩⟩⟩⟩;have d1:=Za (o:=.tup [V.str "twice"]) Z;have d2:=Za (o:=.tup [V.str "twice",.str "twice"]) I;have d3:=Za (o:=.lst [V.ref p1,.ref p2]) hlo;have e1:=d3 _ _ (d2 _ _ (Zb (H:=H) (a:=p1) (o:=.tup [V.str "twice"])));have e2:=d3 _ _ (Zb (H:=aA H p1 (.tup [V.str "twice"])) (a:=p2) (o:=.tup [V.str "twice",.str "twice"]));have e3:=Zb (H:=aA (aA H p1 (.tup [V.str "twice"])) p2 (.tup [V.str "twice",.str "twice"])) (a:=lo) (o:=.lst [V.ref p1,.ref p2]);have s1:=d1.trans (d2.trans d3);try dsimp only
   generalize aA (aA (aA H p1 (.tup [V.str "twice"])) p2 (.tup [V.str "twice",.str "twice"])) lo (.lst [V.ref p1,.ref p2])=H1 at *;obtain⟨pk,X,ea,hX,lX,hR⟩:∃pk X,dA [V.ref p1,V.ref p2] (r/512%2)=ac pk/\H1 pk=am X/\X.length<=2/\yJ y true ([V.str "odd",.int 1]++X++[V.str "odd",.str y,.str "twice",.str "twice",.str "twice",.str y]):=by
    rcases(by lia:r/512%2=0\/r/512%2=1)with e|e<;>rw[e]
    .exact⟨p1,_,U,e1,Va,B1⟩
    .exact⟨p2,_,U,e2,Va,B2⟩
   have sm:∀{n:Nat},n<=1000->n<=sizeLine:=λh=>bL (Zw h);refine⟨lo,_,_,_,U,U,aB.of e3,ea,Zf ?_⟩;exact⟨GF,λq1 hq1=>⟨_,U,q1,pk,_,_,U,U,Zb,Za hq1 _ _ hX,sm (by show 2+X.length<=1000;lia),λq2 H6 hq2 Ua=>⟨_,U,_,U,Cd,λq3 hq3=>⟨q2,q3,_,_,U,U,Za hq3 _ _ hq2,Zb,sm (by rw[bA];show 2+X.length+6<=1000;lia),λq4 H7 hq4 s7=>k q4 _ H7 hq4 hR (s1.trans ((Za hq1).trans (Ua.trans ((Za hq3).trans s7))))⟩⟩⟩⟩
  .rw[bF e];exact ZI pi
inductive W8:Prop
 |mk(pt:Aw)(ts:Am)(bk:Nat)(TT:Nat->Bool):vs=[.ref pt,.int bk]->H pt=ap (ts.map V.bl)->bk<ts.length->ts.length<=1000->(∀i,lP (ts.take bk) (ts.drop bk) i=TT i)->(∀p q1 q2 tl rg H',Ya TT tl rg->H' p=am [.ref q1,.ref q2]->H' q1=am (tl.map V.bl)->H' q2=am (rg.map V.bl)->Z8 H H'->Q (.ref p) H')->W8
theorem j6:bT T.bp P w wv 1 (cE W8):=by
 refine T.bp.go Yv ?_;rintro cdv A xz s H _ Q E hr ⟨pt,ts,bk,TT,rfl,hp,hb,hl,hT,k⟩;refine⟨_,(Zc (Zt 2 Yv.nd (YE YZ (qv 0) Xs (YR (qv 1))))
   (Zc (Zt 3 Yv.nd (YE YZ (qv 0) (YR (qv 1)) Xs))
   (Zc (YQ dJ U (Zcy U T.bq (Zh Ze (Zh (Zm Zq (by rfl) T.af Yc (Zh (qv 3) Zd)) Zd))) (X5 4 Yv.nd)
   (Zg (ZF (Jn (Jw (Zn Yh (Zl ZL (Zm Zq (by rfl) T.af Yc (Zh (qv 3) Zd)) (qv 4)) Ze (Zz _)) (X4 (Zn (Se (JV hr)) (qv 3) (Zl Bp (YE YZ (qv 3) Xs (YR (qv 4))) (Zl ZE (Zm Zq (by rfl) T.af Yc (Zh (qv 3) Zd)) (qv 4))) (Zz _)))))
   (Zc (Zt 3 Yv.nd (YE YZ (qv 3) Xs (YR (qv 4))))
   (Zg Ziv)) Zx)))
   (Zc (XO dJ (Jn (Jw (Zn (z7 (JV hr)) (qv 2) (ZC Zd) (Zz _)) (X4 (Zn Yh (Z5 Zr (qv 2) (Jm Jt Ze)) (Z5 Zr (qv 3) (Jm Jt Ze)) (Zz _)))))
   (Zc (Zt 3 Yv.nd (Zl k4 (YE YZ (qv 3) (YR (Jm Jt Ze)) Xs) (YE YZ (qv 3) Xs (YR (Jm Jt Ze)))))
   (Zg (Yj (Jx c9 pQ pV Gd (qv 2))))))
   (Zg (Zp (Z3 (Zh (Z4 Z1 (by rfl) T.ae ZO (Zh (qv 2) Zd)) (Zh (Z4 Z1 (by rfl) T.ae ZO (Zh (qv 3) Zd)) Zd))))))))),?_⟩
 try dsimp only[L2.iP,L2.cK]
 refine L2.rV ?_;intro U4 U3 U2 U1;refine⟨_,U,_,U,_,U,pt,_,U,aB.of hp,λr Y=>Zf ?_⟩;rw[YF,Xl];have s1:=Za (o:=.lst ((ts.take bk).map V.bl)) Y;have g1:=Zb (H:=H) (a:=r) (o:=.lst ((ts.take bk).map V.bl));generalize aA H r (.lst ((ts.take bk).map V.bl))=H1 at *;refine⟨_,U,_,U,_,U,pt,_,U,aB.of (s1 _ _ hp),λG hr1=>Zf ?_⟩;rw[YF,zS];have ne1:r≠G:=λz=>by rw[z,hr1]at g1;cases g1
 have s2:=s1.trans (Za (o:=.lst ((ts.drop bk).map V.bl)) hr1);have g2:=Zb (H:=H1) (a:=G) (o:=.lst ((ts.drop bk).map V.bl));have g12:=Za (o:=.lst ((ts.drop bk).map V.bl)) hr1 _ _ g1;generalize aA H1 G (.lst ((ts.drop bk).map V.bl))=H2 at *;have e1:(ts.take bk).length<=1000:=by rw[c8];lia
 have e2:1<=(ts.drop bk).length/\(ts.drop bk).length<=1000:=by rw[fX];lia
 generalize ts.take bk=tl at *;generalize ts.drop bk=q at *;have hl1n:=Y;have lr:(q.map V.bl).length=q.length:=aF ..;try dsimp only
 show ZR (Cg _ _ _) _ _ _ _;refine WI (λσ H'=>∃(L:Nat)(C:Aw)(u4:Option V),EO q L/\σ=[ac pt,ad bk,ac r,ac C,u4]/\H' C=some (.lst ((q.take L).map V.bl))/\H' r=some (.lst (tl.map V.bl))/\r≠C/\Z8 H H') (λN hN=>?_) ?_
 .refine⟨_,U,G,_,U,.inl (aB.of g2),1,_,U,⟨Va,Va,by rw[lr];lia,by rw[lr];lia⟩,?_⟩;rw[lr];refine Wq (λi σ H'=>∃u4:Option V,σ=[ac pt,ad bk,ac r,ac G,u4]/\H' G=some (.lst (q.map V.bl))/\H' r=some (.lst (tl.map V.bl))/\(∀m,1<=m->m<i+1->¬xG q m)/\Z8 H H') ⟨none,U,g2,g12,λm h1 h2=>Vb,s2⟩ ?_ ?_
  .refine λi σ H3 hi=>ε1 λu4=>θ4 λzq0 O D J s3=>?_;subst zq0;have hi:i+1<q.length:=Vb
   have ew:(1:Int)+(i:Int)=((i+1:Nat):Int):=Vb
   rw[ew];refine Zf ⟨_,U,G,_,U,.inl (aB.of O),_,U,_,_,U,U,(by show(0:Int)<((i+1:Nat):Int);lia),U,_,U,?_⟩;rw[lr]
   by_cases hd:q.length%(i+1)=0
   .have e0:(q.length:Int)%((i+1:Nat):Int)=0:=by rw[<-BR,hd];rfl
    rw[aZ (show V.int ((q.length:Int)%((i+1:Nat):Int))=V.int 0 by rw[e0])];have hkl:q.length/(i+1)<=q.length:=Nat.div_le_self _ _;refine Yl ⟨_,U,_,U,_,U,_,U,G,_,U,aB.of O,λl2 hl2=>?_⟩;rw[YF,Xl];have Ua:=Za (o:=.lst ((q.take (i+1)).map V.bl)) hl2;have ek:(q.length:Int)/((i+1:Nat):Int)=((q.length/(i+1):Nat):Int):=by rw[Int.natCast_ediv]
    refine⟨_,U,G,_,U,.inl (aB.of (Ua _ _ O)),_,U,_,_,U,U,.of Vb Vb,l2,_,_,U,U,Zb,by rw[lr,ek];exact Int.le_trans Va (EJ _),by rw[lr,ek];exact Int.lt_of_le_of_lt (Int.ofNat_le.mpr hkl) Vb,?_,λl3 hl3=>?_⟩
    .rw[lr,ek,lJ,aF,c8,sP Vb];exact bL (Zw (by have:=Nat.mul_div_le q.length (i+1);lia))
    rw[lr,ek,lJ,BA];have B:=Za (o:=.lst ((List.replicate (q.length/(i+1)) (q.take (i+1))).flatten.map V.bl)) hl3;have s35:=s3.trans (Ua.trans B);refine⟨G,l3,_,_,U,U,aB.of (B _ _ (Ua _ _ O)),aB.of Zb,jt _,jt _,_,U,?_⟩;show if gL _ _=true then _ else _;rw[vK]
    by_cases z:q=(List.replicate (q.length/(i+1)) (q.take (i+1))).flatten
    .rw[aZ z];refine Yl ⟨_,U,_,U,_,U,G,_,U,aB.of (B _ _ (Ua _ _ O)),λl4 hl4=>Zf ?_⟩;rw[YF,Xl];have s6:=Za (o:=.lst ((q.take (i+1)).map V.bl)) hl4;have g51:=B _ _ (Ua _ _ D);exact hN _ _ (ι3 (i+1) l4 _ ⟨⟨Vb,Vb,VJ Vb hi hd z,J⟩,U,Zb,s6 _ _ g51,(λz=>by rw[z,hl4]at g51;cases g51),s35.trans s6⟩)
    .rw[bF z];refine ZI ⟨_,U,B _ _ (Ua _ _ O),B _ _ (Ua _ _ D),λm h1 h2 t=>?_,s35⟩
     by_cases e:m=i+1
     .rw[e]at t;exact z (TM Vb Vb t)
     .exact J m h1 Vb t
   .rw[bF (show¬V.int ((q.length:Int)%((i+1:Nat):Int))=V.int 0 fromλz=>hd (by injection z with z;rw[<-BR]at z;exact Int.ofNat.inj z))];refine ZI ⟨_,U,O,D,λm h1 h2 t=>?_,s3⟩
    by_cases e:m=i+1
    .rw[e]at t;exact hd t.1
    .exact J m h1 Vb t
  .refine λσ H3=>ε1 λu4=>θ4 λzq0 O D J s3=>?_;subst zq0;exact hN _ _ (ι3 q.length G _ ⟨⟨e2.1,aN _,⟨Nat.mod_self _,Pq q⟩,λm h1 h2=>J m h1 Vb⟩,U,by rw[dR];exact O,D,ne1,s3⟩)
 .refine λσ H3=>ε3 λL C u4=>θ5 λR zq0 O D ne3 s3=>?_;subst zq0;have hL1:=R.one;have hle:=R.le;have hl1H:H r=none:=Y;refine JD (λσ H'=>∃(kp:Nat)(C:Aw),σ=[ac pt,ad bk,ac r,ac C,u4]/\kp<=tl.length/\H' r=some (.lst ((tl.take kp).map V.bl))/\H' C=some (.lst ((dX q (cD ((kp:Int)-tl.length) L) L).map V.bl))/\r≠C/\(∀i,kp<=i->i<tl.length->tl.getD i false=q.getD (cD ((i:Int)-tl.length) L) false)/\Z8 H H') (λσ H'=>match H' r with|some (.lst xs)=>xs.length|_=>0) (ι2 tl.length C ⟨U,aN _,by rw[dR];exact D,by rw[Int.sub_self,show cD 0 L=0 from U,Sq];exact O,ne3,λi h1 h2=>Vb,s3⟩) ?_;refine λσ H4=>ε2 λkp C=>θ6 λzq0 hkp F Z ne4 hs Ua=>?_;subst zq0;have lk:(tl.take kp).length=kp:=by rw[c8];lia
  have hb:=yG (z:=(kp:Int)-tl.length) hL1;have hrl:=xh hb hle;have done:∀H5,Z8 H4 H5->(1<=kp->tl.getD (kp-1) false≠q.getD (cD ((kp:Int)-1-tl.length) L) false)->U4 {nx:=λ_ H'=>Q .bN H',rt:=Q} [ac pt,ad bk,ac r,ac C,u4] H5:=λH5 B he=>by
   have S:=Rc R hT hkp hs he;refine⟨_,U,r,_,U,.inl ⟨aB.of (B _ _ F),λq1 hq1=>⟨_,U,C,_,U,.inl ⟨aB.of (Za hq1 _ _ (B _ _ Z)),λq2 hq2=>⟨GF,λp hp5=>?_⟩⟩⟩⟩⟩;exact k p q1 q2 _ _ _ S Zb (Za hp5 _ _ (Za hq2 _ _ Zb)) (Za hp5 _ _ Zb) (Ua.trans (B.trans ((Za hq1).trans ((Za hq2).trans (Za hp5)))))
  refine⟨_,U,uU,λe he=>⟨r,e,_,_,U,U,aB.of (Za he _ _ F),aB.of Zb,jt _,U,_,U,?_⟩⟩;have B:=Za (o:=.lst []) he;show if(!gL ((tl.take kp).map V.bl) (([]:Am).map V.bl))=true then _ else _;rw[vK]
  by_cases h0:kp=0
  .rw[aZ (show tl.take kp=[] by rw[h0,Hf])];exact ZI (done _ B λz=>Vb)
  rw[bF (show¬tl.take kp=[]fromλz=>by have:=congrArg List.length z;rw[lk]at this;exact h0 this)];have lst:∀bs:Am,0<bs.length->dA (bs.map V.bl) (-1)=some (.bl (bs.getD (bs.length-1) false)):=λbs hb=>by
   unfold dA pP;rw[aF,aG Va,aK Vb];show(bs.map V.bl)[_]?=_;rw[bG,show(-1+(bs.length:Int)).toNat=bs.length-1 by lia,bO,aQ Vb];rfl
  have a1:=lst (tl.take kp) Vb;have a2:=lst _ (show 0<(dX q (cD ((kp:Int)-tl.length) L) L).length by lia);have v1:(tl.take kp).getD ((tl.take kp).length-1) false=tl.getD (kp-1) false:=by
   rw[lk,bO,bO,lI,aK Vb]
  obtain⟨w1,w2⟩:=R6 (z:=(kp:Int)-tl.length) R;rw[hrl,w2,show(kp:Int)-tl.length-1=(kp:Int)-1-tl.length by lia]at a2;rw[v1]at a1;refine Yl ⟨_,U,_,U,r,_,_,_,U,U,aB.of (B _ _ F),a1,_,U,_,U,C,_,_,_,U,U,aB.of (B _ _ Z),a2,U,_,U,?_⟩
  by_cases he2:tl.getD (kp-1) false=q.getD (cD ((kp:Int)-1-tl.length) L) false
  .rw[he2,aZ U];have cst:((kp-1:Nat):Int)-tl.length=(kp:Int)-1-tl.length:=Vb
   refine Yl ⟨λσ' H'=>∃I,σ'=[ac pt,ad bk,ac r,ac I,u4]/\H' r=some (.lst ((tl.take (kp-1)).map V.bl))/\H' I=some (.lst ((dX q (cD ((kp:Int)-1-tl.length) L) L).map V.bl))/\r≠I/\Z8 H H',?_,?_⟩
   .refine λσ' H'=>ε1 λI=>θ4 λzq0 q1 q2 q3 q4=>?_;subst zq0;refine⟨kp-1,?_,?_,kp-1,I,U,Vb,q1,by rw[cst];exact q2,q3,λi h1 h2=>?_,q4⟩
    .rw[F];show kp-1<((tl.take kp).map V.bl).length;rw[aF,lk];lia
    .rw[q1];show kp-1=((tl.take (kp-1)).map V.bl).length;rw[aF,c8];lia
    .by_cases e:i=kp-1
     .rw[e,cst];exact he2
     .exact hs i Vb h2
   .obtain⟨c1,c2⟩:=T5 (show 1<=(dX q (cD ((kp:Int)-tl.length) L) L).length by simp_all);rw[hrl]at c1 c2;rw[show(kp:Int)-tl.length-1=(kp:Int)-1-tl.length by lia]at w1;refine⟨_,U,_,U,_,U,C,_,U,aB.of (B _ _ Z),λp1 hp1=>?_⟩;rw[c1];have s6:=Za (o:=.lst (((dX q (cD ((kp:Int)-tl.length) L) L).drop (L-1)).map V.bl)) hp1;refine⟨_,U,_,U,_,U,C,_,U,aB.of (s6 _ _ (B _ _ Z)),λp2 hp2=>?_⟩;rw[c2];have s7:=Za (o:=.lst (((dX q (cD ((kp:Int)-tl.length) L) L).take (L-1)).map V.bl)) hp2;refine⟨p1,p2,_,_,U,U,s7 _ _ Zb,Zb,?_,λp3 hp3=>?_⟩
    .rw[aF,aF,fX,c8,hrl];exact bL (Zw Vc)
    rw[<-b0,w1];have s8:=Za (o:=.lst ((dX q (cD ((kp:Int)-1-tl.length) L) L).map V.bl)) hp3;have s58:=B.trans (s6.trans (s7.trans s8));have h81:=s58 _ _ F;have ne8:r≠p3:=λz=>by
     have:=(B.trans (s6.trans s7)) _ _ F;rw[z,hp3]at this;cases this
    refine⟨_,U,.inl ⟨U,_,aB.of h81⟩,r,_,.bl (tl.getD (kp-1) false),U,U,h81,?_,p3,U,?_,(Zk ne8.symm).trans Zb,ne8,Z7 (Ua.trans s58) Y⟩
    .rw[aF,lk,bG,lI,aK Vb,bO,aQ Vb];rfl
    .rw[Zb,<-List.map_dropLast,List.dropLast_eq_take,lk,List.take_take,sP Vd]
  .rw[bF λz=>he2 (by injection z)];exact ZI (done _ B λ_=>he2)
inductive XG:Prop
 |mk(p q1 q2:Aw)(tl rg:Am):vs=[.ref p]->H p=am [.ref q1,.ref q2]->H q1=am (tl.map V.bl)->H q2=am (rg.map V.bl)->(∀H',Z8 H H'->Q (.bl true) H')->XG
theorem xm:bT T.bg P w wv 1 (cE XG):=by
 refine T.bg.go Wy ?_;rintro Ua A xz s H _ Q E Y ⟨p,I,J,tl,rg,rfl,D,h1,h2,k⟩;refine⟨_,(Zc (ZF (Jn (gE (yd (YJ (Zm Xx (by rfl) T.ah ZY (Zh (qv 0) (Zh (WH (v:=.ty "tuple") (by rfl) T.ae ZO U) Zd))))) (zy (Zn HP (Zm Zq (by rfl) T.af Yc (Zh (qv 0) Zd)) Ze (Zz _)))))
   (Zg (Zp YO)) Zx)
   (Zc (YQ dJ U (X6 (qv 0)) (X5 1 Wy.nd)
   (Zg (ZF (Jn (gE (yd (YJ (Zm Xx (by rfl) T.ah ZY (Zh (qv 1) (Zh (WH (v:=.ty "tuple") (by rfl) T.ae ZO U) Zd))))) (zy (Zn (z7 (JV Y)) (Y8 ({}:ZX (Zj Xt) _ ["told","row"] "truth" [] []) (X6 (qv 1)) (λ_ _ _ _=>(kB (yd (YJ (Zm (show YX _ (.builtin "isinstance") (DO K)from Xx) (by rfl) T.ah ZY (Zh (qv 0) (Zh (WH (v:=.ty "bool") (by rfl) T.abp Wm U) Zd))))))) (λ_ _ _ _=>(qv 0))) (ZC Zd) (Zz _)))))
   (Zg (Zp YO)) Zx)))
   (Zg (Zp YO)))),?_⟩
 try dsimp only[L2.iP,L2.cK]
 have two:∀x∈[V.ref I,V.ref J],∃(q:Aw)(bs:Am),x=.ref q/\H q=am (bs.map V.bl):=λx C=>by
  rcases bJ.mp C with rfl|C
  .exact⟨I,tl,U,h1⟩
  .rw[cA.mp C];exact⟨J,rg,U,h2⟩
 refine⟨_,U,_,_,_,_,U,.tup D,zu,_,U,ZI ⟨_,U,p,_,U,.inr (aL.of D),U,_,U,ZI ?_⟩⟩;refine⟨_,U,p,U,⟨_,aL.of D⟩,yQ (K:=K) (a:=p) (xs:=[V.ref I,V.ref J]) (λi σ H'=>∃G:Option V,σ=[ac p,G]/\Z8 H H') ⟨none,U,Z8.refl H⟩ (λi σ H' _ ⟨_,_,s⟩=>aL.of (s _ _ D)) ?_ ?_⟩
 .rintro i x σ H2 C ⟨G,rfl,F⟩;obtain⟨q,bs,rfl,hq⟩:=two x (cY C);have r:=F _ _ hq;refine Zf ⟨_,U,_,_,_,_,U,.tup r,zu,_,U,ZI ?_⟩;refine⟨_,U,q,U,⟨_,aL.of r⟩,XQ (xs:=bs.map V.bl) (λi zs H'=>zs=[]/\H'=H2) ⟨U,U⟩ (λi zs H' ⟨e,_⟩=>by rw[e];exact cM _) (λi zs H' ⟨_,e⟩=>by rw[e];exact aL.of r) ?_ ?_⟩
  .rintro j y zs H' N hN L ⟨rfl,rfl⟩;rw[bG]at L;obtain⟨b,_,rfl⟩:=eA.mp L;exact⟨_,U,_,_,_,_,U,.bl _,yS,_,U,ZI (hN _ _ ⟨U,U⟩)⟩
  .rintro zs H' ⟨rfl,e⟩ l O;rw[e]at O ⊢;have Z:=Za (o:=.lst []) O;refine⟨uU,λl2 B=>⟨l,l2,_,_,U,U,aB.of (Za B _ _ Zb),aB.of Zb,U,U,_,U,ZI ⟨_,U,F.trans (Z.trans (Za B))⟩⟩⟩
 rintro σ H2 ⟨G,rfl,F⟩;exact k H2 F
inductive Wc:Prop
 |mk(ps po:Aw)(nx:Ad)(ot:Az)(kos:List (Ak)):vs=[.ref ps,.ref po]->G6 H ps (nx.map jc)->G6 H po ot->ot.map (λr=>r.map vB)=kos.map (λk=>k.map some)->ot.length=nx.length->(∀row∈nx,row.length<=8/\∀s∈row,s<nx.length)->1<=nx.length->nx.length<=1000000->(∀p (cs:Aj) H',H p=none->H' p=ap (cs.map Jq)->cs.length=nx.length->WD (jd nx cs)=cs->WD cs=cs->Di kos cs->cs=pL nx kos nx.length->Z8 H H'->Q (.ref p) H')->Wc
theorem xO:bT T.cq P w wv 2 (cE Wc):=by
 have B:=uL P wv T TB;have D:=qw P wv T TB;refine T.cq.go Y0 ?_;rintro cdv A xz s H _ Q E hr ⟨ps,po,nx,ot,G,rfl,Rs,Ro,hk,hlo,hnx,h1,h2,k⟩;refine⟨_,(Zc (Zt 2 Y0.nd (Zs T.di B hr (Zh (qv 1) Zd)))
   (Zc (Zt 3 Y0.nd Ze)
   (Zc (XO dJ (Zn kf (Zl Y3 (Zm (kY U) (by rfl) T.gi yi (Zh (qv 2) Zd)) Ze) (qv 3) (Zz _))
   (Zc (Zt 3 Y0.nd (Zl Y3 (Zm (kY U) (by rfl) T.gi yi (Zh (qv 2) Zd)) Ze))
   (Zg (Zt 2 Y0.nd (Zs T.di B hr (Zh (Zjd ({}:ZX (Zj X9) _ ["steps","out","classes","many"] "mark" ["classes"] [2]) (⟨by rfl,Wm⟩:Ml _ "mark" "row" ["classes"]) (RI (b1:=false) (b2:=true) U T.NO (Zh (qv 2) (Zh (qv 0) Zd))) (λ_ _ _ _=>Xv) (λ_ _ _ _=>(Z3 (Zh (qv 0) (Zh (Zs T.cf D hr (Zh (qv 1) (Zh (qv 2) Zd))) Zd))))) Zd))))))
   (Zg (Zp (qv 2)))))),?_⟩
 try dsimp only[L2.iP,L2.cK]
 refine ω (wD Ro) (ε1 λbo=>θ2 λhpo hbo hob=>?_);refine ω (wD Rs) (ε1 λbs=>θ2 λhps hbs hsb=>?_);have hkl:G.length=nx.length:=by
  have:=congrArg List.length hk;rw[aF,aF]at this;lia
 refine⟨_,U,Ak,_,RW,po,bo,G,U,.inr hpo,Vb,λi b kk Z I=>?_,Vb,λp0 H1 hp0 hp1 s1=>?_⟩
 .have hi:i<ot.length:=by have:=(bW.mp Z).1;lia
  refine⟨_,hob i _ b (aQ hi) Z,?_⟩;have e:=congrArg (λl=>l[i]?) hk;simp only[bG,aQ hi,I]at e;exact Option.some.inj e
 rw[wF]at hp1;refine Zf ?_;have cls0:Di G (WD G):=λi j a b ha Z e=>(vg ha Z).mp e;refine JD (λσ H2=>∃(p:Aw)(cs:Aj)(r n:Nat),σ=[some (.ref ps),some (.ref po),some (.ref p),some (.int r)]/\H2 p=ap (cs.map Jq)/\H p=none/\cs.length=nx.length/\WD cs=cs/\Di G cs/\cs=pL nx G n/\n<=r/\r<=nx.length/\(r=0\/((Z9 cs).length<=r->WD (jd nx cs)=cs))/\Z8 H H2) (λσ _=>match σ with|[_,_,_,some (.int m)]=>nx.length-m.toNat|_=>0) (ι4 p0 (WD G) 0 0 ⟨U,hp1,hp0,by rw[OT];exact hkl,zF G,cls0,U,aN _,cM _,.inl U,s1⟩) ?_;refine λσ H2=>ε4 λp cs r n=>θ10 λzq0 hp2 hpH C Ua hcls hcn hnm hmy aV s2=>?_;subst zq0;have hne:cs≠[]:=λz=>by rw[z]at C;have:(0:Nat)=nx.length:=C;lia
 have mx:∀m∈(cs.map λc:Nat=>(c:Int)),(∀n∈(cs.map λc:Nat=>(c:Int)),n<=m)->m+1=((Z9 cs).length:Int):=by
  intro m hm hx;obtain⟨c,hc,rfl⟩:=bB.mp hm;have h3:c∈WD cs:=by rw[Ua];exact hc
  have:=Zjj h3 λn hn=>by
   rw[Ua]at hn;have:=hx _ (oa hn);lia
  lia
 have F:H2 p=ap ((cs.map λc:Nat=>(c:Int)).map V.int):=by rw[hp2,bI];rfl
 have hsl:(Z9 cs).length<=nx.length:=by have:=NV cs;lia
 have hne':(cs.map λc:Nat=>(c:Int))≠[]:=λz=>hne (List.map_eq_nil_iff.mp z);refine⟨_,U,p,_,U,aB.of F,hne',λm hm hx=>⟨_,_,U,U,_,U,_,_,U,U,_,U,?_⟩⟩;have em:=mx m hm hx;refine jB (λhgt=>?_) (λhgt=>?_)
 .have hlt:r<(Z9 cs).length:=by
   have:=dB hgt;lia
  refine⟨λσ' H'=>∃(p':Aw),σ'=[some (.ref ps),some (.ref po),some (.ref p'),some (.int ((Z9 cs).length:Int))]/\H' p'=ap ((WD (jd nx cs)).map Jq)/\H p'=none/\Z8 H H',?_,?_⟩
  .refine λσ' H'=>ε1 λp'=>θ3 λzq0 hp' hpn s'=>?_;subst zq0;refine⟨nx.length-(Z9 cs).length,?_,?_,p',WD (jd nx cs),(Z9 cs).length,n+1,U,hp',hpn,?_,zF _,Tr C hkl hcls,by rw[hcn];rfl,Vb,hsl,.inr λY=>?_,s'⟩
   .show nx.length-(Z9 cs).length<nx.length-(r:Int).toNat;rw[lJ];lia
   .show _=nx.length-((Z9 cs).length:Int).toNat;rw[lJ]
   .rw[OT,vx C,C]
   .rw[Zfw]at Y;have:=UX C Ua Y;rw[this,this]
  .refine⟨_,U,p,_,U,aB.of F,hne',λm2 hm2 hx2=>⟨_,_,U,U,?_⟩⟩;have em2:=mx m2 hm2 hx2;try dsimp only
   rw[em2];have hps2:=s2 _ _ hps;refine⟨_,U,_,U,p,ps,_,_,U,dr.l F,dr.t hps2,?_⟩;refine Zcx (xs:=(cs.map λc:Nat=>(c:Int)).map V.int) (ys:=bs.map V.ref) (λi zs H'=>∃ds:List Aw,zs=ds.map V.ref/\ds.length=i/\i<=nx.length/\(∀(j:Nat)(d:Aw)(kk:Int×Ak),ds[j]?=some d->(jd nx cs)[j]?=some kk->KU H' kk d)/\Z8 H2 H') ⟨[],U,U,cM _,(λj d kk hd=>by cases hd),Z8.refl _⟩ ?_ ?_ ?_ ?_
   .refine λi zs H'=>ε1 λds=>θ3 λzq0 hd hi _=>?_;subst zq0;rw[aF,hd];exact bL (Y5 Vb)
   .rintro i zs H' ⟨ds,_,_,_,_,s'⟩;exact⟨dr.l (s' _ _ F),dr.t (s' _ _ hps2)⟩
   .refine λi x y q zs H3 R hR L hy'=>ε1 λds=>θ4 λzq0 O hi hpa s3=>λhq=>?_;subst zq0;rw[bG,bG]at L;cases hc:cs[i]? with
    |none=>rw[hc]at L;cases L
    |some c=>
    rw[hc]at L;cases L;rw[bG]at hy';obtain⟨b,Z,rfl⟩:=eA.mp hy';have hil:i<nx.length:=by have:=(bW.mp hc).1;lia
    have hrow:nx[i]?=some nx[i]:=aQ hil;have hbr:H b=am (jc nx[i]):=hsb i _ b (by rw[bG,hrow];rfl) Z;obtain⟨r8,rlt⟩:=hnx nx[i] (dZ hil);have sq:=Za (o:=.tup [.int c,.ref b]) hq;have s4:=(s2.trans s3).trans sq;unfold AG;try dsimp only
    rw[aK U];refine⟨_,U,_,U,_,U,b,p,nx[i],cs.map λc:Nat=>(c:Int),U,s4 _ _ hbr,(s3.trans sq) _ _ F,λs hs=>by rw[aF,C];exact rlt s hs,Vb,by rw[aF];lia,λt H5 ht0 ht s5=>⟨GF,λd hd=>hR _ _ ⟨ds++[d],by rw[b0];rfl,by rw[bA,O];rfl,hil,λj d' kk hj I=>?_,((s3.trans sq).trans s5).trans (Za hd)⟩⟩⟩;have sd:=Za (o:=.tup [.int c,.ref t]) hd;rw[List.getElem?_append]at hj;split at hj
    .have:=hpa j d' kk hj I;exact r4.keep _ _ _ _ (λb xs e=>((sq.trans s5).trans sd) _ _ e) this
    .rename_i hnl;have hji:j=i:=by
      have:=(bW.mp hj).1;rw[List.length_singleton]at this;grind
     subst hji;rw[O,pM]at hj;cases hj;rw[qe hc hrow]at I;cases I;refine⟨t,Zb,_,sd _ _ ht,?_⟩;rw[bI,bI,bI];refine fE λs _=>?_;show some ((cs.map λc:Nat=>(c:Int)).getD s 0)=some ((cs.getD s 0:Nat):Int);rw[bO,bO,bG];cases cs[s]?<;>rfl
   .refine λzs H3=>ε1 λds=>θ4 λzq0 O hi hpa s3=>λl hl3=>?_;subst zq0;have hzl:(((cs.map λc:Nat=>(c:Int)).map V.int).zip (bs.map V.ref)).length=nx.length:=by
     rw[DL,aF,aF,aF,C,hbs,aF,Dx]
    rw[hzl]at O;have sl:=Za (o:=.lst (ds.map V.ref)) hl3;refine⟨Int×Ak,_,r4,l,ds,jd nx cs,U,.inl Zb,by rw[vx C];lia,λi b kk Z I=>r4.keep _ _ _ _ (λb xs e=>sl _ _ e) (hpa i b kk Z I),by rw[vx C];lia,λp' H6 hp6 hq6 s6=>?_⟩;rw[wF]at hq6;have s26:=(s2.trans s3).trans (sl.trans s6);exact⟨p',U,hq6,(s2.trans s3).free (sl.free hp6),s26⟩
 .have Y:(Z9 cs).length<=r:=by
   have:¬(r:Int)<m+1:=λz=>hgt (aZ z);simp_all
  have J:=aV.resolve_left (λz=>by
   have:(0:Int)<m+1:=by
    obtain⟨c,_,rfl⟩:=bB.mp hm;lia
   simp_all) Y
  exact⟨_,U,k p cs H2 hpH hp2 C J Ua hcls (by rw[hcn]at J ⊢;exact(Zj8 J Vb).symm) s2⟩
inductive qA:Prop
 |mk(k:aX):vs=[kV k]->Q (.int (WN k)) H->qA
theorem uO:bT T.bx P w wv 2 (cE qA):=by
 refine T.bx.go uH ?_;rintro B A xz s H _ Q E r ⟨q,rfl,k⟩;refine⟨_,(Zg (Zp (Zl Y3 (Yk (jS P wv T TB) (r.mono Va) U T.bf.m T.bf.F.kp T.bf.b .nil Jl (Zh (qv 0) Zd)) (Yk (xN P wv T TB) (r.mono Va) U T.az.m T.az.F.kp T.az.b .nil Jl (Zh (qv 0) Zd))))),⟨_,U,q,U,_,U,q,U,_,_,U,U,k⟩⟩
inductive xC:Prop
 |mk(y:Str):vs=[.str y]->y.length<=100000->(∀H',Z8 H H'->Q (.bl (decide (y∉Z6/\nV y))) H')->xC
omit T TB in
theorem VO{y:Str}:nV y↔y.length<=8/\y8 y oX:=by
 constructor
 .intro h;refine⟨h.1.2,λz=>?_,h.2⟩;have h1:=h.1.1;rw[fY,z]at h1;exact absurd h1 Va
 .intro h;refine⟨⟨?_,h.1⟩,h.2.2⟩;rw[fY];cases e:y.cps.toList with
  |nil=>exact absurd e h.2.1
  |cons a r=>exact Kr (cM _)
theorem UJ:bT T.cu P w wv 2 (cE xC):=by
 refine T.cu.go Zdj ?_;rintro D A xz s H _ Q E r ⟨y,rfl,C,k⟩;refine⟨_,(Zc (ZF (Jn (gE (YJ (Yk (jR P wv T TB) (r.mono Va) U T.bc.m T.bc.F.kp T.bc.b .nil Jl (Zh (qv 0) Zd))) (zy (YJ (Yk (xM P wv T TB) (r.mono Va) U T.ay.m T.ay.F.kp T.ay.b .nil Jl (Zh (qv 0) Zd))))))
   (Zg (Zp YO)) Zx)
   (Zg (Zp (ye (ZS NS (Zm kr (by rfl) T.af Yc (Zh (qv 0) Zd)) (WG (v:=.int 8) U T.nh ⟨_,U⟩) (Zz _)) (Gf (Yk (vT P wv T TB) (r.mono Va) U T.bh.m T.bh.F.kp T.bh.b .nil Jl (Zh (qv 0) (Zh (WG (v:=.str _) U T.TR ⟨_,U⟩) Zd)))))))),(L2.Mx ?_)⟩
 intro G
 by_cases h1:y∈Z6
 .have e:decide (y∉Z6/\nV y)=false:=bF λz=>z.1 h1
  rw[e]at k;refine⟨_,U,y,U,_,U,?_⟩
  by_cases h2:y∈Jp
  .rw[aZ h2];exact Yl (Yl (k H (Z8.refl H)))
  .rw[bF h2];have q:=((uc y).mp h1).resolve_left h2;refine ZI ⟨_,U,.inr y,U,_,U,?_⟩;rw[show Ir (.inr y)=true from aZ q];exact Yl (k H (Z8.refl H))
 .have h2:=λz=>h1 ((uc y).mpr (.inl z))
  have q:=λz=>h1 ((uc y).mpr (.inr z));refine⟨_,U,y,U,_,U,?_⟩;rw[bF h2];refine ZI ⟨_,U,.inr y,U,_,U,?_⟩;rw[show Ir (.inr y)=false from bF q];refine ZI ⟨_,U,y,U,cC C Va,_,_,U,U,_,U,?_⟩
  by_cases B:y.length<=8
  .rw[aZ Vb];refine Yl ⟨_,U,y,oX,U,C,λH' s'=>?_⟩;have e:decide (y8 y oX)=decide (y∉Z6/\nV y):=by
    rw[mV,rY,rY,VO];exact⟨λz=>⟨h1,B,z⟩,λz=>z.2.2⟩
   rw[e];exact k H' s'
  .rw[bF Vb];have e:decide (y∉Z6/\nV y)=false:=bF λz=>B z.2.1.2;rw[e]at k;exact ZI (k H (Z8.refl H))
inductive W9:Prop
 |mk(tn tl:Aw)(ys:Ai)(L:Nat):vs=[.ref tn,.ref tl]->H tn=am (ys.map V.str)->ys.Nodup->ys.length<=10->H tl=ap ((List.range L).map λi:Nat=>V.int i)->L<=100->(∀dv wl H',H dv=none->H' dv=some (.dK wl)->Ec wl ys (Xu L ys)->Z8 H H'->Q (.ref dv) H')->W9
theorem j7:bT T.df P w wv 2 (cE W9):=by
 refine T.df.go YW ?_;rintro cdv A xz s H _ Q E hr ⟨tn,tl,ys,L,rfl,hn,Ua,hn3,hl,hL,k⟩;have hu:=jA hr;refine⟨_,(Zc (Zt 2 YW.nd G2)
   (Zc (YQ dJ U (SD U T.ic (qv 0)) (yU U (X5 3 YW.nd) (X5 4 YW.nd))
   (Zg (J1 hu (qv 2) (qv 4) (Yk (gn P wv T TB) (hr.mono Va) U T.bu.m T.bu.F.kp T.bu.b .nil Jl (Zh (Z4 Z1 (by rfl) T.ae ZO (Zh (Y8 ({}:ZX (Zj Wj) _ ["names","letters","columns","place","name"] "letter" ["place"] [3]) (Xb (qv 1)) (λ_ _ _ _=>Xv) (λ_ _ _ _=>(Zl WS (Zl uY (qv 0) (qv 1)) Ze))) Zd)) Zd)) U)))
   (Zg (Zp (qv 2))))),?_⟩
 refineλJ B=>Zf ?_;have s1:=Za (o:=.dK []) B;refine⟨_,U,tn,_,U,aL.of (s1 _ _ hn),OC (K:=K) (a:=tn) (xs:=ys.map V.str) (λi σ H2=>∃(wl:A0)(Y O:Option V),σ=[ac tn,ac tl,ac J,Y,O]/\H2 J=some (.dK wl)/\Ec wl (ys.take i) (Xu L ys)/\wl.length<=i/\i<=ys.length/\Z8 H H2) (ι3 [] none none ⟨U,Zb,⟨λy h=>(by cases h),λy _=>U⟩,aN _,cM _,s1⟩) (λi σ H2 _=>ε3 λ_ _ _=>θ5 λ_ _ _ _ _ s=>aL.of (s _ _ hn)) ?_ ?_⟩
 .refine λi x σ H2 p hx hp=>ε3 λwl Y O=>θ5 λzq0 h2 G hkl _ s2=>?_;subst zq0;rw[bG]at hx;obtain⟨y,I,rfl⟩:=eA.mp hx;have hi:=(bW.mp I).1;have s3:=s2.trans (Za (o:=.tup [.int i,.str y]) hp);have h3:=Za (o:=.tup [.int i,.str y]) hp _ _ h2;have D:=s3 _ _ hl;refine⟨_,U,tl,U,⟨_,aB.of D⟩,eT (fI λc=>V.int (bt c i)) (aB.of D) (by rw[aF,dY];exact bL (Zw Vb)) (λv Z R hR=>?_) (λq hq=>?_)⟩
  .obtain⟨c,_,rfl⟩:=bB.mp Z;refine⟨_,U,_,U,_,_,U,U,EJ i,_,_,U,U,?_⟩;have e:fI (λc=>V.int (bt c i)) (V.int c)=V.int (Builtin.bitAnd ((c:Int)/2^(i:Int).toNat) 1):=by
    rw[mP,lJ];rfl
   rw[e]at hR;exact hR
  have ex:((List.range L).map λi:Nat=>V.int i).map (fI λc=>V.int (bt c i))=((List.range L).map λl:Nat=>bt (l:Int) i).map V.int:=by
   rw[bI,bI];rfl
  rw[ex];have s4:=Za (o:=.lst (((List.range L).map λl:Nat=>bt (l:Int) i).map V.int)) hq;refine ι2 q _ ⟨U,.inl ⟨aB.of Zb,λt ht=>?_⟩⟩;have s5:=s4.trans (Za (o:=.tup (((List.range L).map λl:Nat=>bt (l:Int) i).map V.int)) ht);have h5:=s5 _ _ h3;refine⟨t,_,U,aL.of Zb,?_⟩;have Z:oA ((List.range L).map λl:Nat=>bt (l:Int) i).reverse=Xu L ys y:=by
   unfold Xu;rw[Ww Ua I]
  rw[Z];have lp:=WJ wl (.inr y) (.int (Xu L ys y));refine⟨_,U,_,U,J,_,U,mU.k (k:=.inr y) h5 (Zw Vb),_,_,_,U,Zb,⟨λz C=>?_,λz C=>?_⟩,Vb,hi,Z7 (s3.trans s5) B⟩
  .rw[aE I]at C;rw[xV]
   by_cases r:z=y
   .rw[aK (by rw[r]),r]
   .rw[aG (λe=>r (Sum.inr.inj e))];rcases cT.mp C with h|h
    .exact G.1 z h
    .exact absurd (cA.mp h) r
  .rw[aE I]at C;rw[xV,aG (λe=>C (cT.mpr (.inr (cA.mpr (Sum.inr.inj e)))))];exact G.2 z λh=>C (cT.mpr (.inl h))
 .refine λσ H2=>ε3 λwl Y O=>θ5 λzq0 h2 G hkl _ s2=>?_;subst zq0;rw[aF,dR]at G;exact⟨_,U,k J wl H2 B h2 G s2⟩
inductive Gv:Prop
 |mk(y:Str)(p:Aw)(is:Ak)(h:Int):vs=[.str y,.ref p,.int h]->H p=ap (is.map V.int)->1<=is.length->y∈allR->(y∈Dr->2<=is.length)->(∀H',Z8 H H'->Q (.int (iY y is h)) H')->Gv
theorem gs:bT T.fi P w wv 2 (cE Gv):=by
 refine T.fi.go x9 ?_;rintro I A xz s H _ Q E O ⟨y,p,is,h,rfl,D,L,J,l2,k⟩;refine⟨_,(Zc (Zt 3 x9.nd (Z5 Zr (qv 1) Ze))
   (Zc (ZF (Zn Yh (qv 0) Zi (Zz _))
   (Zg (Zp (qv 3))) Zx)
   (Zc (ZF (Zn ZW (qv 0) (Z3 (Zh Zi (Zh Zi (Zh Zi Zd)))) Vf)
   (Zg (Zp (Zl ke (qv 3) (qv 2)))) Zx)
   (Zc (ZF (Zn Yh (qv 0) Zi (Zz _))
   (Zg (Zp (Zl ke (Zl yc (qv 3) (Z5 Zr (qv 1) Ze)) (qv 2)))) Zx)
   (Zc (ZF (Zn Yh (qv 0) Zi (Zz _))
   (Zg (Zp (Zl ke (Zl WS (qv 3) (Z5 Zr (qv 1) Ze)) (Zl WS (qv 2) (Zl ke (qv 3) (Z5 Zr (qv 1) Ze)))))) Zx)
   (Zg (Zp (Yk (jz P wv T TB) (O.mono Va) U T.bj.m T.bj.F.kp T.bj.b .nil Jl (Zh (qv 3) (Zh (Z5 Zr (qv 1) Ze) (Zh (qv 2) Zd))))))))))),?_⟩
 unfold iY at k;refine⟨_,U,p,_,0,_,U,U,aB.of D,ZK 0 rfl L,Zf ⟨_,U,U,_,U,?_⟩⟩
 by_cases h1:y = "twice"
 .rw[aZ (congrArg V.str h1)];rw[aK h1]at k;refine Yl ?_;exact⟨_,U,k H (Z8.refl _)⟩
 rw[bF (λz=>h1 (by injection z))];rw[aG h1]at k;refine ZI ⟨_,U,Va,λq Ua=>⟨q,_,U,.inr (aL.of Zb),U,U,_,U,?_⟩⟩;show if bP (.str y) ((["neg","low","nought"]:Ai).map V.str)=true then _ else _;rw[ZG];have C:=Za (o:=.tup [.str "neg",.str "low",.str "nought"]) Ua;have pq:=C _ _ D;generalize aA H q _=H1 at *
 by_cases h2:y = "neg" \/ y = "low" \/ y = "nought"
 .rw[aZ Vc];rw[aK h2]at k;refine Yl ?_;exact⟨_,U,_,U,_,_,U,U,k H1 C⟩
 rw[bF Vc];rw[aG h2]at k;refine ZI ⟨_,U,U,_,U,?_⟩
 by_cases r:y = "same"
 .rw[aZ (congrArg V.str r)];rw[aK r]at k;refine Yl ?_;exact⟨_,U,_,U,p,_,1,_,U,U,aB.of pq,ZK 1 rfl (l2 (by rw[r];decide +kernel)),_,_,U,U,_,U,_,_,U,U,k H1 C⟩
 rw[bF (λz=>r (by injection z))];rw[aG r]at k;refine ZI ⟨_,U,U,_,U,?_⟩
 by_cases B:y = "add"
 .rw[aZ (congrArg V.str B)];rw[aK B]at k;refine Yl ?_;have G:=l2 (by rw[B];decide +kernel);exact⟨_,U,_,U,p,_,1,_,U,U,aB.of pq,ZK 1 rfl G,_,_,U,U,_,U,_,U,_,U,p,_,1,_,U,U,aB.of pq,ZK 1 rfl G,_,_,U,U,_,_,U,U,_,_,U,U,k H1 C⟩
 rw[bF (λz=>B (by injection z))];rw[aG B]at k;exact ZI ⟨_,U,_,U,p,_,1,_,U,U,aB.of pq,ZK 1 rfl (l2 (N5 y J h1 h2)),_,U,_,_,_,U,k H1 C⟩
inductive Jg:Prop
 |mk(y:Str)(p:Aw)(is:Ak)(h n:Int):vs=[.str y,.ref p,.int h,.int n]->H p=ap (is.map V.int)->1<=is.length->y∈allR->(y∈Dr->2<=is.length)->(∀H',Z8 H H'->Q (.int (CS y is h n)) H')->Jg
theorem jY:bT T.dy P w wv 2 (cE Jg):=by
 have B:=jz P wv T TB;refine T.dy.go jP ?_;rintro Y A xz s H _ Q E O ⟨y,p,is,h,n,rfl,Z,L,hy,l2,k⟩;refine⟨_,(Zc (ZF (Zn ZW (qv 0) (Z3 (Zh Zi (Zh Zi Zd))) Vf)
   (Zg (Zp (Zl yc (Zl yc (Z5 Zr (qv 1) Ze) (Z5 Zr (qv 1) Ze)) (qv 2)))) Zx)
   (Zc (ZF (Zn Yh (qv 0) Zi (Zz _))
   (Zg (Zp (Zl yc (Z5 Zr (qv 1) Ze) (qv 2)))) Zx)
   (Zc (ZF (Zn Yh (qv 0) Zi (Zz _))
   (Zg (Zp (qv 2))) Zx)
   (Zc (ZF (Zn Yh (qv 0) Zi (Zz _))
   (Zg (Zp (Zl WS (Z5 Zr (qv 1) Ze) (Jm zm (qv 2))))) Zx)
   (Zc (ZF (Zn ZW (qv 0) (Z3 (Zh Zi (Zh Zi Zd))) Vf)
   (Zg (Zp (Jm zm (qv 3)))) Zx)
   (Zc (ZF (Zn Yh (qv 0) Zi (Zz _))
   (Zg (Zp (qv 3))) Zx)
   (Zg (Zp (Zs T.bj B O (Zh (Z5 Zr (qv 1) Ze) (Zh (Z5 Zr (qv 1) Ze) (Zh (qv 2) Zd)))))))))))),?_⟩
 unfold CS at k;refine⟨_,U,Va,λq hq=>⟨q,_,U,.inr (aL.of Zb),U,U,_,U,?_⟩⟩;show if bP (.str y) ((["add","sub"]:Ai).map V.str)=true then _ else _;rw[ZG];have C:=Za (o:=.tup [.str "add",.str "sub"]) hq;have pq:=C _ _ Z;generalize aA H q (.tup [.str "add",.str "sub"])=H1 at *
 by_cases h1:y = "add" \/ y = "sub"
 .rw[aZ Vc];rw[aK h1]at k;refine Yl ?_;have l3:2<=is.length:=l2 (by rcases h1 with h|h<;>rw[h]<;>decide +kernel);exact⟨_,U,p,_,0,_,U,U,aB.of pq,ZK 0 rfl L,_,U,p,_,1,_,U,U,aB.of pq,ZK 1 rfl l3,_,_,U,U,_,U,_,_,U,U,k H1 C⟩
 rw[bF Vc];rw[aG h1]at k;refine ZI ⟨_,U,U,_,U,?_⟩
 by_cases h2:y = "neg"
 .rw[aZ (congrArg V.str h2)];rw[aK h2]at k;refine Yl ?_;exact⟨_,U,p,_,0,_,U,U,aB.of pq,ZK 0 rfl L,_,U,_,_,U,U,k H1 C⟩
 rw[bF (λz=>h2 (by injection z))];rw[aG h2]at k;refine ZI ⟨_,U,U,_,U,?_⟩
 by_cases D:y = "twice"
 .rw[aZ (congrArg V.str D)];rw[aK D]at k;refine Yl ?_;exact⟨_,U,k H1 C⟩
 rw[bF (λz=>D (by injection z))];rw[aG D]at k;refine ZI ⟨_,U,U,_,U,?_⟩
 by_cases J:y = "low"
 .rw[aZ (congrArg V.str J)];rw[aK J]at k;refine Yl ?_;exact⟨_,U,p,_,0,_,U,U,aB.of pq,ZK 0 rfl L,_,U,_,U,_,_,U,U,k H1 C⟩
 rw[bF (λz=>J (by injection z))];rw[aG J]at k;refine ZI ⟨_,U,Va,λr O=>⟨r,_,U,.inr (aL.of Zb),U,U,_,U,?_⟩⟩;show if bP (.str y) ((["same","nought"]:Ai).map V.str)=true then _ else _;rw[ZG];have G:=Za (o:=.tup [.str "same",.str "nought"]) O;have Ua:=G _ _ pq;generalize aA H1 r (.tup [.str "same",.str "nought"])=H2 at *
 by_cases F:y = "same" \/ y = "nought"
 .rw[aZ (by simp only[bJ,fG,l8];exact F)];rw[aK F]at k;refine Yl ?_;exact⟨_,U,_,U,k H2 (C.trans G)⟩
 rw[bF (by simp only[bJ,fG,l8];exact F)];rw[aG F]at k;refine ZI ⟨_,U,U,_,U,?_⟩
 by_cases I:y = "under"
 .rw[aZ (congrArg V.str I)];rw[aK I]at k;refine Yl ?_;exact⟨_,U,k H2 (C.trans G)⟩
 rw[bF (λz=>I (by injection z))];rw[aG I]at k;exact ZI ⟨_,U,p,_,1,_,U,U,aB.of Ua,ZK 1 rfl (l2 (N5 y hy D (λz=>Vc))),_,U,p,_,0,_,U,U,aB.of Ua,ZK 0 rfl L,_,U,_,_,_,U,k H2 (C.trans G)⟩
inductive qB:Prop
 |mk(pt pr:Aw)(tl rg:Am)(T:Nat->Bool):vs=[.ref pt,.ref pr]->H pt=ap (tl.map V.bl)->H pr=ap (rg.map V.bl)->1<=rg.length->rg.length<=100000->tl.length<=100000->(∀i,lP tl rg i=T i)->(∀p q1 q2 tl' rg' H',Ya T tl' rg'->H' p=am [.ref q1,.ref q2]->H' q1=am (tl'.map V.bl)->H' q2=am (rg'.map V.bl)->tl'.length<=100000->rg'.length<=100000->Z8 H H'->Q (.ref p) H')->qB
theorem uP:bT T.fy P w wv 2 (cE qB):=by
 have q:=jU P wv T TB;refine T.fy.go XE ?_;rintro cdv A xz s H _ Q E hr ⟨pt,I,tl,B,TT,rfl,hpt,O,h1,hbr,hbt,hT,k⟩;refine⟨_,(Zc (Zt 2 XE.nd (Zs T.dt q hr (Zh (qv 1) Zd)))
   (Zc (Zt 3 XE.nd (Zm Zq (by rfl) T.af Yc (Zh (qv 0) Zd)))
   (Zc (XO dJ (Jn (Jw (Zn kf (qv 3) Ze (Zz _)) (X4 (Zn Yh (Z5 Zr (qv 0) (Zl YY (qv 3) Ze)) (Z5 Zr (qv 1) (Zl ZL (Zl YY (Zl YY (qv 3) Ze) (Zm Zq (by rfl) T.af Yc (Zh (qv 0) Zd))) (qv 2))) (Zz _)))))
   (Zg (Oy (i:=3) XE.nd U (Or.inl U) Ze Cm)))
   (Zc (Zt 4 XE.nd (Zl ZL (Zl YY (qv 3) (Zm Zq (by rfl) T.af Yc (Zh (qv 0) Zd))) (qv 2)))
   (Zg (Zp (Z3 (Zh (Z4 Z1 (by rfl) T.ae ZO (Zh (YE YZ (qv 0) Xs (YR (qv 3))) Zd)) (Zh (Z4 Z1 (by rfl) T.ae ZO (Zh (Zl k4 (YE YZ (qv 1) (YR (qv 4)) (YR (qv 2))) (YE YZ (qv 1) Xs (YR (qv 4)))) Zd)) Zd))))))))),?_⟩
 refine L2.rV ?_;intro U4 U3 U2 U1;refine⟨_,U,I,B,U,O,h1,hbr,λL H1 R s1=>Zf ?_⟩;have Z:=R.one;have ln:(tl.map V.bl).length=tl.length:=aF ..;refine⟨_,U,pt,_,U,.inl (aB.of (s1 _ _ hpt)),Zf ?_⟩;rw[ln];have r:=s1 _ _ hpt;have D:=s1 _ _ O;refine JD (λσ H'=>∃kp:Nat,σ=[some (.ref pt),some (.ref I),some (.int L),some (.int kp),none]/\kp<=tl.length/\(∀i,kp<=i->i<tl.length->tl.getD i false=B.getD (cD ((i:Int)-tl.length) L) false)/\H'=H1) (λσ _=>match σ with|[_,_,_,some (.int m),_]=>m.toNat|_=>0) ⟨tl.length,U,aN _,λi h1 h2=>Vb,U⟩ ?_;refine λσ H2=>ε1 λkp=>θ3 λzq0 hkp hs zq1=>?_;subst zq0;subst zq1;have ixE:∀z:Int,dA (B.map V.bl) (z%(L:Int))=some (.bl (B.getD (cD z L) false)):=λz=>by
  have h0:=lL z (show(L:Int)≠0 by lia);have h2:=yG (z:=z) Z;have F:=R.le;rw[show z%(L:Int)=((cD z L:Nat):Int)from(FR h0).symm];refine Y7 ?_;rw[bG,aQ Vb,bO,aQ Vb];rfl
 have done:(1<=kp->tl.getD (kp-1) false≠B.getD (cD ((kp:Int)-1-tl.length) L) false)->U3 {nx:=λ_ H'=>Q .bN H',rt:=Q} [some (.ref pt),some (.ref I),some (.int L),some (.int kp),none] H2:=λhe=>by
  have S:=Rc R hT hkp hs he;have F:=R.le;have hb:=yG (z:=(kp:Int)-tl.length) Z;have eb:((kp:Int)-((tl.map V.bl).length:Int))%(L:Int)=((cD ((kp:Int)-tl.length) L:Nat):Int):=by
   rw[ln];exact(FR (lL _ Vb)).symm
  refine⟨_,U,_,U,pt,_,U,.inl (aB.of r),_,_,U,U,_,U,_,_,U,U,Vb,Zf ?_⟩;rw[eb];have G:=xh hb F;unfold dX at S G;generalize cD ((kp:Int)-tl.length) L=J at *;refine⟨_,U,_,U,_,U,pt,_,U,aB.of r,λl1 hl1=>ι2 l1 _ ⟨U,.inl ⟨aB.of Zb,λq1 Ua=>?_⟩⟩⟩;rw[YF,Xl];rw[YF,Xl]at Ua;have u1:=(Za (o:=.lst ((tl.take kp).map V.bl)) hl1).trans (Za (o:=.tup ((tl.take kp).map V.bl)) Ua);have g1:=Zb (H:=aA H2 l1 (.lst ((tl.take kp).map V.bl))) (a:=q1) (o:=.tup ((tl.take kp).map V.bl));have C:=u1 _ _ D;refine⟨_,U,_,U,_,U,_,U,_,U,I,_,U,aB.of C,λl2 hl2=>?_⟩;rw[Zkf Vb F];have u2:=Za (o:=.lst (((B.take L).drop J).map V.bl)) hl2;refine⟨_,U,_,U,_,U,I,_,U,aB.of (u2 _ _ C),λl3 hl3=>?_⟩;rw[YF,Xl];have u3:=Za (o:=.lst ((B.take J).map V.bl)) hl3;refine⟨l2,l3,_,_,U,U,u3 _ _ Zb,Zb,?_,λl4 hl4=>ι2 l4 _ ⟨U,.inl ⟨aB.of Zb,λq2 Y=>⟨GF,λp hp=>?_⟩⟩⟩⟩
  .rw[aF,aF,<-bA,G];exact bL (Y5 Vb)
  rw[<-b0]at Y hp ⊢;have u4:=Za (o:=.lst (((B.take L).drop J++B.take J).map V.bl)) hl4;have u5:=Za (o:=.tup (((B.take L).drop J++B.take J).map V.bl)) Y;have u6:=Za (o:=.tup [V.ref q1,V.ref q2]) hp;have u26:=(u2.trans u3).trans (u4.trans (u5.trans u6));exact k p q1 q2 _ _ _ S Zb (u26 _ _ g1) (u6 _ _ Zb) (by rw[c8];lia) (by rw[G];lia) (s1.trans (u1.trans u26))
 refine⟨_,U,_,_,U,U,_,U,jB (λc=>?_) (λc=>?_)⟩
 .obtain⟨kp,rfl⟩:∃k',kp=k'+1:=⟨kp-1,Vb⟩;have e1:((kp+1:Nat):Int)-1=(kp:Int):=Vd
  have at1:dA (tl.map V.bl) (((kp+1:Nat):Int)-1)=some (.bl (tl.getD kp false)):=by
   rw[e1];refine Y7 ?_;rw[bG,aQ Vb,bO,aQ Vb];rfl
  refine⟨_,U,_,U,_,_,U,U,pt,_,_,_,U,U,aB.of r,at1,_,U,_,U,_,_,U,U,_,U,pt,_,U,.inl (aB.of r),_,_,U,U,_,U,_,_,U,U,Vb,I,_,_,_,U,U,aB.of D,ixE _,U,_,U,?_⟩;rw[ln]
  by_cases e:tl.getD kp false=B.getD (cD (((kp+1:Nat):Int)-1-(tl.length:Int)) L) false
  .rw[e,aZ U];refine Yl ⟨λσ' H'=>σ'=[some (.ref pt),some (.ref I),some (.int L),some (.int (((kp+1:Nat):Int)-1)),none]/\H'=H2,?_,_,U,_,_,U,U,U,U⟩;rintro σ' H' ⟨rfl,rfl⟩;refine⟨kp,Vd,Vd,kp,by rw[e1],Vb,λi i1 i2=>?_,U⟩
   by_cases z:i=kp
   .rw[z,e,e1]
   .exact hs i Vb i2
  .simp_all
 .simp_all
inductive Gw(K:Af):Prop
 |mk(a:Aw)(ns:Ak)(st many:Nat):vs=[.ref a,.int st,.int many]->aB K H a (ns.map V.int)->ns.length<=63->st<=10->many<=3->(∀p (ms:Ai) H',H' p=ap (ms.map V.str)->ms.Nodup->ms.length<=many->(1<=many->ms≠[])->(∀y∈ms,BG y)->Z8 H H'->Q (.ref p) H')->Gw K
def gu(K:Af):Sp:=λvs H Q _=>Gw vs H Q K
theorem gv:bT T.fj P w wv 2 (gu K):=by
 have B:=uN P wv T TB;have q:=X1 P wv T TB;refine T.fj.go JK ?_;rintro cdv A xz s H _ Q E Z ⟨a,ns,st,C,rfl,hS,Ua,aV,hm,k⟩;have hu:=jA Z;refine⟨_,(Zc (Zt 3 JK.nd G2)
   (Zc (YQ dJ U (Ws U T.bq (Zh (qv 2) Zd)) (X5 4 JK.nd)
   (Zg (J1 hu (qv 3) (Zs T.fw B Z (Zh (Zs T.au q Z (Zh (qv 0) (Zh (Zl Y3 (qv 1) (qv 4)) Zd))) Zd)) YO U)))
   (Zg (Zp (Zm (wj U) (by rfl) T.dj Jv (Zh (qv 3) Zd)))))),?_⟩
 refineλd hd=>Zf ?_;have s1:=Za (o:=.dK []) hd;have L:aA H d (.dK []) d=some (.dK []):=Zb;refine⟨_,U,(C:Int),U,Vb,Vb,Wq (λi σ H'=>∃(O:Option V)(wl:A0)(S:Ai),σ=[ac a,ad st,ad C,ac d,O]/\H' d=some (.dK wl)/\wl.map (·.1)=S.map Sum.inr/\S.Nodup/\S.length<=i/\(1<=i->S≠[])/\(∀y∈S,BG y)/\Z8 H H') (ι3 none [] [] ⟨U,L,U,fL,aN _,(λz=>absurd z Va),(λ_ z=>nomatch z),s1⟩) ?_ ?_⟩
 .refine λi σ H2 hi=>ε3 λO wl S=>θ7 λzq0 F I D hl _ hn J=>?_;subst zq0;refine⟨_,U,_,U,_,U,_,U,_,_,U,U,a,ns,st+i,?_,qi hS J,Ua,Vb,λr H3 r0 r1 s3=>⟨r,U,r0,r1,λy H4 hy s4=>⟨d,_,U,mU.k (k:=.inr y) (s4 _ _ (s3 _ _ F)) ?_,?_⟩⟩⟩
  .simp_all
  .have:=congrArg List.length I;rw[aF,aF]at this;exact Zw Vb
  .refine ω (VY (v:=.bl true) I D y) (ε1 λS'=>θ3 λY g2 g3 g4=>?_);refine ι3 _ _ S' ⟨U,Zb,Y,g2,Vb,λ_ z=>?_,λz hz=>?_,Z7 (J.trans (s3.trans s4)) hd⟩
   .rw[z]at Y;exact SI (List.map_eq_nil_iff.mp Y)
   .grind
 .refine λσ H2=>ε3 λO wl S=>θ7 λzq0 F I D hl hne hn J=>?_;subst zq0;exact⟨_,U,d,wl,S,U,.inl F,I,Vb,λl ms hl2 G hs=>k l ms _ Zb (G.nodup_iff.mpr D) (by rw[G.length_eq];exact hl) (λz e=>hne z (by rw[e]at G;exact G.symm.eq_nil)) (λy hy=>hn y (G.mem_iff.mp hy)) (J.trans (Za hl2))⟩
inductive XH:Prop
 |mk(r rm:Int)(f:Aw)(l0 l1:Int):vs=[.int r,.int rm,.ref f]->0<=r->0<=rm->H f=ap [.int l0,.int l1]->0<=l1->(∀(y:Str) (l1':Int) H',y∈Z2->((aU y).length:Int)<=rm->l1'+pY y jW=l1->0<=l1'->H' f=ap [.int l0,.int l1']->eM f H H'->Q (.str y) H')->XH
theorem xn:bT T.cj P w wv 2 (cE XH):=by
 have q:=Wb P wv T TB;refine T.cj.go ZH ?_;rintro cdv A xz s H _ Q E hr ⟨r,L,f,l0,l1,rfl,hr0,hrm,hf,hl1,k⟩;refine⟨_,(Zc (Zt 3 ZH.nd (ZC (Zh Zi (Zh Zi (Zh Zi (Zh Zi (Zh Zi (Zh Zi (Zh Zi (Zh Zi (Zh Zi (Zh Zi Zd))))))))))))
   (Zc (Zt 3 ZH.nd (Zl k4 (qv 3) (ZC (Zh Zi (Zh Zi (Zh Zi (Zh Zi (Zh Zi (Zh Zi Zd)))))))))
   (Zc (Zt 4 ZH.nd (Z5 Zr (qv 3) (Zl ZL (qv 0) Ze)))
   (Zc (Zt 5 ZH.nd (ZS ZW (qv 4) (Z3 (Zh Zi (Zh Zi (Zh Zi (Zh Zi (Zh Zi Zd)))))) Vf))
   (Zc (ZF (Jn (gE (Zn kf (Zm Zq (by rfl) T.af Yc (Zh (Zs T.bb q hr (Zh (qv 4) Zd)) Zd)) (qv 1) (Zz _)) (zy (Jn (Jw (YJ (qv 5)) (X4 (Zn Yh (Z5 Zr (qv 2) Ze) Ze (Zz _))))))))
   (Zc (Zt 4 ZH.nd Zi)
   (Zc (Zt 5 ZH.nd YO)
   (Zg (ZF (Jn (Jw (Zn kf (qv 1) Ze (Zz _)) (X4 (Zn kf (Z5 Zr (qv 2) Ze) Ze (Zz _)))))
   (Zc (Zt 4 ZH.nd (Z5 Zr (ZC (Zh Zi (Zh Zi Zd))) (Zl ZL (Zl ZE (qv 0) Ze) Ze)))
   (Zg (Zt 5 ZH.nd YO))) Zx)))) Zx)
   (Zc (Km (Zl YY (Z5 Zr (qv 2) Ze) (Z4 Wr (by rfl) T.cb Ge (Zh (qv 5) Zd))) (LX (qv 2) Ze fA))
   (Zg (Zp (qv 4))))))))),?_⟩
 try dsimp only[L2.iP,L2.cK]
 refine⟨FX,λm1 hm1=>?_⟩;refine⟨_,U,Cd,λm2 Ua=>⟨m1,m2,_,_,U,U,Za Ua _ _ Zb,Zb,Fv,λm hm=>?_⟩⟩;have s1:=((Za (o:=.lst [.str "same",.str "same",.str "under",.str "under",.str "beneath",.str "sign",.str "nought",.str "nought",.str "both",.str "both"]) hm1).trans (Za (o:=.lst [.str "either",.str "either",.str "so",.str "never",.str "never",.str "yes"]) Ua)).trans (Za (o:=.lst (DD.map V.str)) hm);obtain⟨y,hy,ey⟩:=js (l:=DD) (i:=r%16) (lL _ Va) (l7 _ Va);have F:=Vm y hy;refine⟨_,U,_,U,_,_,U,U,(by show(0:Int)<16;decide),m,_,_,_,U,U,aB.of (Zb (o:=.lst (DD.map V.str))),ey,Zf ?_⟩;show ZR _ _ _ _ (aA _ m (.lst (DD.map V.str)));generalize aA (aA (aA H m1 (.lst [.str "same",.str "same",.str "under",.str "under",.str "beneath",.str "sign",.str "nought",.str "nought",.str "both",.str "both"])) m2 (.lst [.str "either",.str "either",.str "so",.str "never",.str "never",.str "yes"])) m (.lst (DD.map V.str))=H1 at *;refine⟨_,U,EE,λq1 hq1=>⟨q1,_,U,.inr (aL.of Zb),U,U,Zf ?_⟩⟩;rw[show bP (.str y) [V.str "same",V.str "under",V.str "beneath",V.str "sign",V.str "nought"]=decide (y∈jW)from ZG y jW];have I:=s1.trans (Za (o:=.tup [V.str "same",V.str "under",V.str "beneath",V.str "sign",V.str "nought"]) hq1);generalize aA H1 q1 (.tup [V.str "same",V.str "under",V.str "beneath",V.str "sign",V.str "nought"])=H2 at *;refine ub (λσ H'=>∃(D:Str)(jb:Bool),σ=[ad r,ad L,ac f,ac m,some (.str D),some (.bl jb)]/\jb=decide (D∈jW)/\D∈Z2/\((aU D).length:Int)<=L/\(D∈jW->1<=l1)/\Z8 H H') (λN Y=>?_) ?_
 .refine⟨_,U,.str y,U,.inl ⟨y,U⟩,λp H3 hp0 hp C=>⟨p,_,U,.inl (aB.of hp),_,U,_,_,U,U,_,U,jB (λc=>?a) (λc=>⟨_,U,_,U,jB (λc2=>⟨_,U,f,_,1,_,U,U,aB.of ((I.trans C) _ _ hf),U,U,_,U,jB (λc3=>?b) (λc3=>?c)⟩) (λc2=>?d)⟩)⟩⟩
  case c=>
   refine Y _ _ ⟨y,_,U,U,F,?_,λ_=>?_,I.trans C⟩
   .have:=λz=>c (aZ z)
    rw[aF]at this;exact Int.not_lt.mp this
   .have:¬l1=0:=λz=>c3 (aZ (by rw[z]))
    lia
  case d=>
   refine Y _ _ ⟨y,_,U,U,F,?_,λz=>absurd (aZ z) c2,I.trans C⟩;have:=λz=>c (aZ z);rw[aF]at this;exact Int.not_lt.mp this
  all_goals
   have B:=(I.trans C) _ _ hf;have G:N [ad r,ad L,ac f,ac m,some (.str "yes"),some (.bl false)] H3:=Y _ _ ⟨"yes",false,U,Wm,Wm,by show((0:Nat):Int)<=L;omega,λz=>absurd z Wm,I.trans C⟩;try refine Yl ?_
   refine Zf ?_;refine Zf ?_;refine⟨_,U,_,_,U,U,_,U,jB (λe1=>⟨_,U,f,_,1,_,U,U,aB.of B,U,_,_,U,U,_,U,jB (λe2=>?_) (λe2=>G)⟩) (λe1=>G)⟩;obtain⟨O,Z,ey2⟩:=js (l:=["sign","nought"]) (i:=r/16%2) (lL _ Va) (l7 _ Va);have f2:O∈Z2/\(aU O).length=1/\O∈jW:=(by decide +kernel:∀y∈(["sign","nought"]:Ai),y∈Z2/\(aU y).length=1/\y∈jW) O Z;have g1:=dB e1;have g2:=dB e2;exact⟨GF,λl hl=>⟨_,U,_,_,U,U,.of Va Va,_,_,U,U,(by show(0:Int)<2;decide),l,_,_,_,U,U,aB.of Zb,ey2,Zf (Zf (Y _ _ (ι2 O true ⟨U,(aZ f2.2.2).symm,f2.1,by rw[f2.2.1];show(1:Int)<=L;lia,λ_=>Vb,(I.trans C).trans (Za hl)⟩)))⟩⟩
 .refine λσ H3=>ε2 λD jb=>θ5 λzq0 zq1 F J hj C=>?_;subst zq0;subst zq1;have B:=C _ _ hf;refine⟨_,U,f,_,1,_,U,U,aB.of B,U,_,U,.inr ⟨_,U,_,_,U,U,_,U,f,_,1,1,U,U,B,U,?_⟩⟩;refine⟨_,U,k D _ _ F J ?_ ?_ Zb (eM.of C).put⟩
  .unfold pY
   by_cases h:D∈jW
   .rw[aK h,aK (aZ h)];lia
   .rw[aG h,aG (λz=>h (dB z))];lia
  .by_cases h:D∈jW
   .rw[aK (aZ h)];have:=hj h;simp_all
   .rw[aG (λz=>h (dB z))];simp_all
inductive WA:Prop
 |mk(r rm:Int)(f pn:Aw)(l0 l1 tp:Int)(nm:Ai):vs=[.int r,.int rm,.ref f,.ref pn,.int tp]->0<=r->0<=rm->H f=ap [.int l0,.int l1]->0<=l0->H pn=ap (nm.map V.str)->nm.length<=3->1<=tp->tp<=1000->(∀(w:V) (l0':Int) H',((∃y,w=.str y/\y∈Jp/\((aU y).length:Int)<=rm/\l0'+pY y zY=l0)\/(∃y,w=.str y/\y∈nm/\l0'=l0)\/∃z:Int,w=.int z/\0<=z/\z<1000/\l0'=l0)->0<=l0'->H' f=ap [.int l0',.int l1]->eM f H H'->Q w H')->WA
theorem j8:bT T.dh P w wv 2 (cE WA):=by
 have B:=Wb P wv T TB;refine T.dh.go YC ?_;rintro cdv A xz s H _ Q E hr ⟨r,rm,f,pn,O,l1,G,nm,rfl,hr0,hrm,Ua,hl0,hn,hn3,ht1,ht2,k⟩;refine⟨_,(Zc (Zt 5 YC.nd (ZC (Zh Zi (Zh Zi (Zh Zi (Zh Zi (Zh Zi (Zh Zi (Zh Zi (Zh Zi (Zh Zi (Zh Zi (Zh Zi Zd)))))))))))))
   (Zc (ZF (Zn Dh (Zl ZL (qv 0) Ze) Ze (Zz _))
   (Zc (Zt 6 YC.nd (Z5 Zr (qv 5) (Zl ZL (qv 0) Ze)))
   (Zc (Zt 7 YC.nd (ZS ZW (qv 6) (Z3 (Zh Zi (Zh Zi (Zh Zi (Zh Zi (Zh Zi Zd)))))) Vf))
   (Zg (ZF (Jn (Jw (Zn NS (Zm Zq (by rfl) T.af Yc (Zh (Zs T.bb B hr (Zh (qv 6) Zd)) Zd)) (qv 1) (Zz _)) (X4 (Jn (gE (yd (YJ (qv 7))) (zy (Zn kf (Z5 Zr (qv 2) Ze) Ze (Zz _))))))))
   (Zc (Km (Zl YY (Z5 Zr (qv 2) Ze) (Z4 Wr (by rfl) T.cb Ge (Zh (qv 7) Zd))) (LX (qv 2) Ze fA))
   (Zg (Zp (qv 6)))) Zx)))) Zx)
   (Zc (Zt 0 YC.nd (Zl ZE (qv 0) Ze))
   (Zc (ZF (Jn (Jw (Zn (z7 (JV hr)) (qv 3) (ZC Zd) (Zz _)) (X4 (Zn Dh (Zl ZL (qv 0) Ze) Ze (Zz _)))))
   (Zg (Zp (Z5 Zr (qv 3) (Zl ZL (Zl ZE (qv 0) Ze) (Zm Zq (by rfl) T.af Yc (Zh (qv 3) Zd)))))) Zx)
   (Zg (Zp (Z5 Zr (ZC (Zh (Zl ZL (Zl ZE (qv 0) Ze) Ze) (Zh (Zl ZL (Zl ZE (qv 0) Ze) (qv 4)) Zd))) (Zl ZL (Zl ZE (qv 0) Ze) Ze)))))))),?_⟩
 try dsimp only[L2.iP,L2.cK]
 refine L2.rV ?_;intro U4 U3 U2 U1;refine⟨F5,λm hm=>Zf ?_⟩;have s1:=Za (o:=.lst (uw.map V.str)) hm;show ZR _ _ _ _ (aA H m (.lst (uw.map V.str)));have hm1:aA H m (.lst (uw.map V.str)) m=ap (uw.map V.str):=Zb;generalize aA H m (.lst (uw.map V.str))=H1 at *;have hf1:=s1 _ _ Ua;refine ub (λσ H'=>∃u6 u7,σ=[ad r,ad rm,ac f,ac pn,ad G,ac m,u6,u7]/\Z8 H H') (λN hN=>?_) ?_
 .refine⟨_,U,_,_,U,U,(by show(0:Int)<16;decide),_,_,U,U,_,U,jB (λc=>?_) (λc=>hN _ _ ⟨_,_,U,s1⟩)⟩;have c:=dB c;obtain⟨y,hy,ey⟩:=js (l:=uw) (i:=r%16) (lL _ Va) c;obtain⟨hyc,D⟩:=Zkd y hy;refine⟨_,U,_,U,_,_,U,U,(by show(0:Int)<16;decide),m,_,_,_,U,U,aB.of hm1,ey,Zf ?_⟩;refine⟨_,U,EE,λq1 hq1=>⟨q1,_,U,.inr (aL.of Zb),U,U,Zf ?_⟩⟩;rw[show bP (.str y) [V.str "add",V.str "sub",V.str "neg",V.str "twice",V.str "low"]=decide (y∈(["add","sub","neg","twice","low"]:Ai))from ZG y ["add","sub","neg","twice","low"]];have F:=s1.trans (Za (o:=.tup [V.str "add",V.str "sub",V.str "neg",V.str "twice",V.str "low"]) hq1);generalize aA H1 q1 (.tup [V.str "add",V.str "sub",V.str "neg",V.str "twice",V.str "low"])=H2 at *;refine⟨_,U,.str y,U,.inl ⟨y,U⟩,λp H3 hp0 hp C=>⟨p,_,U,.inl (aB.of hp),_,U,_,_,U,U,_,U,jB (λc1=>⟨_,U,_,U,jB (λZ=>?a) (λZ=>?b)⟩) (λc1=>hN _ _ ⟨_,_,U,F.trans C⟩)⟩⟩
  case' a=>
   refine Yl ?_;have hz:y∈zY->1<=O:=λh=>by
    have Z:(!decide (y∈(["add","sub","neg","twice","low"]:Ai)))=true:=Z;rw[aZ (D.mpr h)]at Z;cases Z
  case' b=>
   refine⟨_,U,f,_,0,_,U,U,aB.of ((F.trans C) _ _ Ua),U,_,_,U,U,_,U,jB (λc3=>?_) (λc3=>hN _ _ ⟨_,_,U,F.trans C⟩)⟩;have hz:y∈zY->1<=O:=λ_=>by have:=dB c3;lia
  all_goals
   have Y:=(F.trans C) _ _ Ua;have hlen:((aU y).length:Int)<=rm:=by
    have:=dB c1;rw[aF]at this;exact this
   refine⟨_,U,f,_,0,_,U,U,aB.of Y,U,_,U,.inr ⟨_,U,_,_,U,U,_,U,f,_,0,0,U,U,Y,U,_,U,k (.str y) _ _ (.inl ⟨y,U,hyc,hlen,?_⟩) ?_ Zb (eM.of (F.trans C)).put⟩⟩
   .show O-(if decide (y∈(["add","sub","neg","twice","low"]:Ai))=true then 1 else 0)+pY y zY=O;unfold pY
    by_cases h:y∈zY
    .rw[aK h,aK (aZ (D.mpr h))];lia
    .rw[aG h,aG (λz=>h (D.mp (dB z)))];lia
   .show 0<=O-(if decide (y∈(["add","sub","neg","twice","low"]:Ai))=true then 1 else 0)
    by_cases h:y∈zY
    .rw[aK (aZ (D.mpr h))];have:=hz h;lia
    .rw[aG (λz=>h (D.mp (dB z)))];lia
 .rintro σ H2 ⟨u6,u7,rfl,F⟩;have hf2:=F _ _ Ua;have hn2:=F _ _ hn;refine⟨_,U,_,_,U,U,.of Va Va,Zf ?_⟩;have q0:0<=r/16:=Vb
  try dsimp only
  generalize r/16=q at *;have I:∀H3,Z8 H H3->U4 {nx:=λ_ H'=>Q .bN H',rt:=Q} [ad q,ad rm,ac f,ac pn,ad G,ac m,u6,u7] H3:=λH3 C=>by
   obtain⟨z,ez,z0,z1⟩:∃z:Int,dA [V.int (q/8%3),V.int (q/8%G)] (q/4%2)=ad z/\0<=z/\z<1000:=by
    have t0:0<=q/8%G:=lL _ Vb;have t1:q/8%G<G:=l7 _ Vb;rcases(by lia:q/4%2=0\/q/4%2=1)with e|e<;>rw[e]
    .exact⟨q/8%3,U,Vb,Vb⟩
    .exact⟨q/8%G,U,t0,Vb⟩
   exact⟨_,U,_,_,U,U,.of Va Va,_,_,U,U,(by show(0:Int)<3;decide),_,U,_,_,U,U,.of Va Va,_,U,_,_,U,U,(by show(0:Int)<G;lia),GF,λl hl=>⟨_,U,_,_,U,U,.of Va Va,_,_,U,U,(by show(0:Int)<2;decide),l,_,_,_,U,U,aB.of Zb,ez,k (.int z) O _ (.inr (.inr ⟨z,U,z0,z1,U⟩)) hl0 ((C.trans (Za hl)) _ _ Ua) (eM.of (C.trans (Za hl)))⟩⟩
  refine⟨_,U,uU,λe he=>⟨pn,e,_,_,U,U,aB.of (Za he _ _ hn2),aB.of Zb,mK.mpr λv hv=>(by obtain⟨y,_,rfl⟩:=bB.mp hv;rfl),U,_,U,?_⟩⟩;have C:=F.trans (Za (o:=.lst []) he);cases nm with
  |nil=>exact I _ C
  |cons y0 pi=>
   refine Yl ⟨_,U,_,_,U,U,(by show(0:Int)<4;decide),_,_,U,U,_,U,jB (λc=>?_) (λc=>I _ C)⟩;have L:(0:Int)<((y0::pi).length:Int):=by rw[cQ];simp_all
   obtain⟨y,hy,ey⟩:=js (l:=y0::pi) (i:=q/4%((y0::pi).length:Int)) (lL _ Vb) (l7 _ L);have J:=C _ _ hn;rw[<-aF V.str]at ey L;exact⟨_,U,_,U,_,_,U,U,.of Va Va,_,U,pn,_,U,.inl (aB.of J),_,_,U,U,L,pn,_,_,_,U,U,aB.of J,ey,k (.str y) O _ (.inr (.inl ⟨y,U,hy,U⟩)) hl0 (C _ _ Ua) (eM.of C)⟩
inductive qH:Prop
 |mk(tw th dv:Aw)(ys:Ai)(ws:A8)(hs:Ak)(wl:A0)(β:Str->Int):vs=[.ref tw,.ref th,.ref dv]->H tw=am ws->ws.length<=60->H th=am (hs.map V.int)->H dv=some (.dK wl)->Ec wl ys β->(∀y∈ys,β y=0\/β y=1)->(∀y∈ys,y∉Z6)->bQ ys ws [true]->lM ws hs->(∀p q H',H p=none->H' p=am [vb true ((lst ys β ws hs).1.getD 0 0),.ref q]->H' q=am ((lst ys β ws hs).2.map V.int)->Z8 H H'->Q (.ref p) H')->qH
theorem uQ:bT T.gb P w wv 2 (cE qH):=by
 have L:=Wb P wv T TB;have D:=j4 P wv T TB;have C:=j5 P wv T TB;refine T.gb.go ZP ?_;rintro cdv A xz s H _ Q E Ua ⟨tw,th,dv,ys,B,hs,wl,β,rfl,ht,hl,hth,hd,hc,hβ,hyk,hty,hv,k⟩;have hu:=jA Ua;refine⟨_,(Zc (Zt 3 ZP.nd (ZC Zd))
   (Zc (Zt 4 ZP.nd (ZC Zd))
   (Zc (YQ dJ U (RI (b1:=true) (b2:=true) U T.NO (Zh (Mo Ql (qv 0) (Jm Jt Ze)) (Zh (Mo Ql (qv 1) (Jm Jt Ze)) Zd))) (yU U (X5 5 ZP.nd) (X5 6 ZP.nd))
   (Zc (ZF (YJ (Zm Xx (by rfl) T.ah ZY (Zh (qv 5) (Zh (WH (v:=.ty "int") (by rfl) T.cb Ge U) Zd))))
   (Zg (Zt 7 ZP.nd (Z3 (Zh (Zl ZL (qv 6) Ze) (Zh (Zl ZE (qv 6) Ze) Zd))))) (Zg (ZF (Zn (ym hu) (qv 5) (qv 2) Vf)
   (Zg (Zt 7 ZP.nd (Z3 (Zh (qO hu (qv 2) (qv 5) (λ_ _=>U)) (Zh Ze Zd))))) (Zg (ZF (Zn Yh (qv 5) Zi (Zz _))
   (Zg (Zt 7 ZP.nd (Z3 (Zh YO (Zh Ze Zd))))) (Zg (ZF (Zn Yh (qv 5) Zi (Zz _))
   (Zc (Zt 8 ZP.nd (Jx c9 pQ pV Gd (qv 3)))
   (Zc (Zt 9 ZP.nd (Jx c9 pQ pV Gd (qv 3)))
   (Zg (Zt 7 ZP.nd (Z3 (Zh (Z5 Zr (ZC (Zh (Jx c9 pQ pV Gd (qv 3)) (Zh (qv 9) Zd))) (qv 8)) (Zh Ze Zd))))))) (Zg (ZF (Zn Yh (Zm Zq (by rfl) T.af Yc (Zh (Zs T.bb L Ua (Zh (qv 5) Zd)) Zd)) Ze (Zz _))
   (Zg (Zt 7 ZP.nd (Zs T.da D Ua (Zh (qv 5) (Zh (qv 6) (Zh (Jx c9 pQ pV Gd (qv 3)) Zd)))))) (Zc (Zt 8 ZP.nd (Jx c9 pQ pV Gd (qv 3)))
   (Zg (Zt 7 ZP.nd (Zs T.dc C Ua (Zh (qv 5) (Zh (qv 6) (Zh (qv 8) (Zh (Jx c9 pQ pV Gd (qv 3)) Zd)))))))))))))))))
   (Zc (Yj (YH c9 fP fS ZM (qv 3) (Zh (Z5 ZT (qv 7) Ze) Zd)))
   (Zg (Yj (YH c9 fP fS ZM (qv 4) (Zh (Z5 ZT (qv 7) Ze) Zd)))))))
   (Zg (Zp (Z3 (Zh (Z5 Zr (qv 3) Ze) (Zh (Z4 Z1 (by rfl) T.ae ZO (Zh (Mo Sm (qv 4) (Jm Jt Ze)) Zd)) Zd)))))))),?_⟩
 try dsimp only[L2.iP,L2.cK]
 have h2:2<=sizeLine:=Va
 have hz:(0:Int)<2:=Va
 refine⟨uU,λst F=>Zf ⟨uU,λY O=>Zf ?_⟩⟩;have s1:=(Za (o:=.lst []) F).trans (Za (o:=.lst []) O);have J:Y≠st:=λz=>by rw[z,Zb]at O;cases O
 have e1:aA (aA H st (.lst [])) Y (.lst []) st=ap []:=by rw[Zk J.symm,Zb]
 have e2:aA (aA H st (.lst [])) Y (.lst []) Y=ap []:=Zb;have hkt:H Y=none:=by rw[Zk J]at O;exact O
 generalize aA (aA H st (.lst [])) Y (.lst [])=H1 at *;have hvl:=hv.len;refine⟨_,U,1,U,U,tw,_,U,aL.of (s1 _ _ ht),λtr htr=>⟨_,U,1,U,U,th,_,U,aL.of (Za htr _ _ (s1 _ _ hth)),λUa hhr=>ι4 tr Ua _ _ ⟨U,aL.of (Za hhr _ _ Zb),aL.of Zb,?_⟩⟩⟩;have s2:=s1.trans ((Za (o:=.tup B.reverse) htr).trans (Za (o:=.tup (hs.map V.int).reverse) hhr));have t0:aA (aA H1 tr (.tup B.reverse)) Ua (.tup (hs.map V.int).reverse) tr=am B.reverse:=Za hhr _ _ Zb;have r0:aA (aA H1 tr (.tup B.reverse)) Ua (.tup (hs.map V.int).reverse) Ua=am (hs.map V.int).reverse:=Zb;have p0:=Za (o:=.tup (hs.map V.int).reverse) hhr _ _ (Za (o:=.tup B.reverse) htr _ _ e1);have k0:=Za (o:=.tup (hs.map V.int).reverse) hhr _ _ (Za (o:=.tup B.reverse) htr _ _ e2);have n1:tr≠st:=Yg t0 p0 nofun;have n2:tr≠Y:=Yg t0 k0 nofun;have n3:Ua≠st:=Yg r0 p0 nofun;have n4:Ua≠Y:=Yg r0 k0 nofun
 try dsimp only
 generalize aA (aA H1 tr (.tup B.reverse)) Ua (.tup (hs.map V.int).reverse)=H0 at *;refine TV (K:=K) (b1:=true) (b2:=true) (a1:=tr) (a2:=Ua) (xs:=B.reverse) (ys:=(hs.map V.int).reverse) (λi σ H2=>∃(ks:Am)(u5 u6 u7 u8 u9:Option V),σ=[ac tw,ac th,ac dv,ac st,ac Y,u5,u6,u7,u8,u9]/\i<=B.length/\bQ ys (B.drop (B.length-i)) ks/\H2 st=ap (iD ks (lst ys β (B.drop (B.length-i)) (hs.drop (B.length-i))).1).reverse/\H2 Y=ap ((lst ys β (B.drop (B.length-i)) (hs.drop (B.length-i))).2.map V.int).reverse/\H2 tr=am B.reverse/\H2 Ua=am (hs.map V.int).reverse/\Z8 H H2) (ι6 [] none none none none none ⟨U,cM _,?_,?_,?_,t0,r0,s2⟩) (λi σ H2=>ε6 λ_ _ _ _ _ _=>θ7 λ_ _ _ _ _ a b _=>⟨aL.of a,aL.of b⟩) ?_ ?_
 .rw[Dq,tK];exact .nil
 .rw[Dq,tK];exact p0
 .rw[Dq,tK];exact k0
 .refine λi x hx_ p σ H2 hx hhx=>ε6 λks u5 u6 u7 u8 u9=>θ7 λzq0 hi0 hk p2 k2 t2 r2 s3=>λhp=>?_;subst zq0;obtain⟨hi,hx⟩:=QX hx;have hhx2:hs[hs.length-1-i]?=some (hs.getD (hs.length-1-i) 0):=by
   rw[bO,aQ Vb];rfl
  have eh:hx_=.int (hs.getD (hs.length-1-i) 0):=by
   rw[List.getElem?_reverse (by rw[aF];lia),aF,bG,hhx2]at hhx;exact(Option.some.inj hhx).symm
  generalize hs.getD (hs.length-1-i) 0=h at *;subst eh;have ed:=O9 hx hi;have ee:=O9 hhx2 Vb;rw[hvl]at ee;obtain⟨k1,hk1⟩:=hty.drop (B.length-(i+1));have hv1:=hv.drop (B.length-(i+1));rw[ed]at hk1;rw[ed,ee]at hv1;have hle:(B.drop (B.length-i)).length<=60:=by rw[fX];lia
  generalize er:B.drop (B.length-i)=r at *;generalize eg:hs.drop (B.length-i)=g at *;obtain⟨kk,hkk,hcs⟩:=Zkh hyk hβ hk1 hv1;have eks:=ju hyk hk hkk;subst eks;have hn:=Zph (XU hyk hβ hk (by cases hv1;assumption)).1;have hkl:ks.length<=60:=by
   have:=hk.facts.2.2;have:=ue r;lia
  have hkg:(lst ys β r g).2.length<=60:=by
   cases hv1 with
   |cons _ hv2=>have:=(XU hyk hβ hk hv2).2.2.len;lia
  generalize hP:iD ks (lst ys β r g).1=P at *;generalize hG:(lst ys β r g).2=G at *;generalize hP1:iD k1 (lst ys β (x::r) (h::g)).1=P1 at *;generalize hG1:(lst ys β (x::r) (h::g)).2=G1 at *;have sp:=Za (o:=.tup [x,.int h]) hp;refine⟨p,_,U,aL.of Zb,U,_,_,U,_,_,U,U,?_⟩;have p3:=sp _ _ p2;have k3:=sp _ _ k2;have t3:=sp _ _ t2;have r3:=sp _ _ r2;have d3:=(s3.trans sp) _ _ hd;have s4:=s3.trans sp;try dsimp only
  generalize aA H2 p (.tup [x,.int h])=H3 at *;refine WI (λσ H'=>∃(q:Aw)(v:V)(nx:Int)(l:A8)(u8 u9:Option V),σ=[ac tw,ac th,ac dv,ac st,ac Y,some x,ad h,ac q,u8,u9]/\H' q=am [v,.int nx]/\H' st=ap l.reverse/\H' Y=ap (G.map V.int).reverse/\P1=v::l/\G1=nx::G/\l.length<=60/\H' tr=am B.reverse/\H' Ua=am (hs.map V.int).reverse/\Z8 H H') (λN hN=>?_) ?_
  .have fin:∀{q:Aw} {H5:Hp} {v:V} {nx:Int} {l:A8} {u8 u9:Option V},H5 q=none->H5 st=ap l.reverse->H5 Y=ap (G.map V.int).reverse->P1=v::l->G1=nx::G->l.length<=60->H5 tr=am B.reverse->H5 Ua=am (hs.map V.int).reverse->Z8 H H5->N [ac tw,ac th,ac dv,ac st,ac Y,some x,ad h,ac q,u8,u9] (aA H5 q (.tup [v,.int nx])):=λI a1 a2 a3 a4 a5 a6 a7 a8=>hN _ _ ⟨_,_,_,_,_,_,U,Zb,Za I _ _ a1,Za I _ _ a2,a3,a4,a5,Za I _ _ a6,Za I _ _ a7,a8.trans (Za I)⟩
   rcases hcs with⟨⟨z,rfl⟩,h0,eP,eG⟩|⟨y,rfl,hcs⟩
   .exact⟨_,U,_,_,_,_,U,.int z,WE,_,U,Yl ⟨_,U,_,_,U,U,hz,_,U,_,_,U,U,.of Va Va,h2,λq I=>Zf (fin I p3 k3 eP eG Vb t3 r3 s4)⟩⟩
   refine⟨_,U,_,_,_,_,U,.str y,X3,_,U,ZI ⟨_,U,_,U,dv,Ym wl (.inr y),U,.inl ⟨wl,.inr y,.inl d3,U,U⟩,_,U,?_⟩⟩;show if(Ym wl (.inr y)).isSome=true then _ else _;rcases hcs with⟨hy,eP,eG⟩|⟨hny,hh,eG,hc4⟩
   .rw[hc.1 y hy];exact Yl ⟨_,U,_,U,dv,_,U,.inl ⟨wl,.inr y,.inl d3,U,(hc.1 y hy).symm⟩,h2,λq I=>Zf (fin I p3 k3 eP eG Vb t3 r3 s4)⟩
   rw[hc.2 y hny];refine ZI ⟨_,U,U,_,U,?_⟩;rcases hc4 with⟨rfl,e0,eP⟩|⟨rfl,e0,a,b,c,l,ha,rfl,eP⟩|⟨n0,ny,m1,q1,a,l,ha,rfl,eP,e5⟩|⟨n0,ny,m1,q1,a,b,l,ha,hb,rfl,eP,e5⟩
   .rw[e0]at eG;exact Yl ⟨h2,λq I=>Zf (fin I p3 k3 eP eG Vb t3 r3 s4)⟩
   .rw[e0]at eG;refine ZI ⟨_,U,U,_,U,Yl ?_⟩;have hpa:=Dj p3;refine⟨_,U,.inl ⟨U,_,aB.of hpa⟩,st,_,_,U,U,hpa,Xm _ _,Zf ?_⟩;rw[tQ];have s6:=Z7 (o:=.lst ((V.int b::V.int c::l).reverse)) s4 F;have p6:aA H3 st (.lst ((V.int b::V.int c::l).reverse)) st=ap ((V.int b::V.int c::l).reverse):=Zb;have k6:=(Zk (H:=H3) (o:=.lst ((V.int b::V.int c::l).reverse)) J).trans k3;have t6:=(Zk (H:=H3) (o:=.lst ((V.int b::V.int c::l).reverse)) n1).trans t3;have r6:=(Zk (H:=H3) (o:=.lst ((V.int b::V.int c::l).reverse)) n3).trans r3;show ZR _ _ _ _ (aA H3 st (.lst ((V.int b::V.int c::l).reverse)));generalize aA H3 st (.lst ((V.int b::V.int c::l).reverse))=H6 at *;have hpb:=Dj p6;refine⟨_,U,.inl ⟨U,_,aB.of hpb⟩,st,_,_,U,U,hpb,Xm _ _,Zf ?_⟩;rw[tQ];have Z:=Z7 (o:=.lst ((V.int c::l).reverse)) s6 F;have p7:aA H6 st (.lst ((V.int c::l).reverse)) st=ap ((V.int c::l).reverse):=Zb;have k7:=(Zk (H:=H6) (o:=.lst ((V.int c::l).reverse)) J).trans k6;have t7:=(Zk (H:=H6) (o:=.lst ((V.int c::l).reverse)) n1).trans t6;have r7:=(Zk (H:=H6) (o:=.lst ((V.int c::l).reverse)) n3).trans r6;generalize aA H6 st (.lst ((V.int c::l).reverse))=H7 at *;have hpc:=Dj p7;refine⟨_,U,.inl ⟨U,_,aB.of hpc⟩,st,_,_,U,U,hpc,Xm _ _,_,U,h2,λl2 hl2=>⟨_,U,l2,_,_,.int (if a=1 then b else c),U,U,aB.of Zb,by rcases ha with rfl|rfl<;>rfl,h2,λq I=>?_⟩⟩;rw[tQ]at hl2 I ⊢;have hl:l.length<=60:=by simp only[cQ]at hn;lia
    have s8:=(Z7 (o:=.lst l.reverse) Z F).trans (Za (o:=.lst [V.int c,V.int b]) hl2);have q8:=Za (o:=.lst [V.int c,V.int b]) hl2;exact Zf (fin I (q8 _ _ Zb) (q8 _ _ ((Zk J).trans k7)) eP eG hl (q8 _ _ ((Zk n1).trans t7)) (q8 _ _ ((Zk n3).trans r7)) s8)
   .rw[bF λz=>n0 (by injection z)];refine ZI ⟨_,U,U,_,U,?_⟩;rw[bF λz=>ny (by injection z)];refine ZI ⟨_,U,.str y,U,.inl ⟨y,U⟩,λp H6 hp0 hp3 sp=>⟨p,_,U,.inl (aB.of hp3),U,_,U,?_⟩⟩;rw[show decide (V.int (((j3 (.str y)).map V.bl).length:Int)=V.int 1)=true from aZ (by rw[aF];show V.int ((aU y).length:Int)=_;rw[q1];rfl)];have hpop:=Dj (sp _ _ p3);refine Yl ⟨_,U,_,U,_,U,.inl ⟨U,_,aB.of hpop⟩,st,_,_,U,U,hpop,Xm _ _,y,h,a,U,m1,hh,ha,λq H7 hq0 I Z=>Zf (hN _ _ ?_)⟩;rw[tQ]at Z;rw[e5]at eG;exact ι6 q _ _ l _ _ ⟨U,I,Z _ _ Zb,Z _ _ ((Zk J).trans (sp _ _ k3)),eP,eG,by simp only[cQ]at hn;lia,Z _ _ ((Zk n1).trans (sp _ _ t3)),Z _ _ ((Zk n3).trans (sp _ _ r3)),(Z7 (s4.trans sp) F).trans Z⟩
   .rw[bF λz=>n0 (by injection z)];refine ZI ⟨_,U,U,_,U,?_⟩;rw[bF λz=>ny (by injection z)];refine ZI ⟨_,U,.str y,U,.inl ⟨y,U⟩,λp H6 hp0 hp3 sp=>⟨p,_,U,.inl (aB.of hp3),U,_,U,?_⟩⟩;rw[show decide (V.int (((j3 (.str y)).map V.bl).length:Int)=V.int 1)=false from bF (λz=>q1 (by rw[aF]at z;injection z with z;show(j3 (.str y)).length=1;lia))];have hpa:=Dj (sp _ _ p3);refine ZI ⟨_,U,.inl ⟨U,_,aB.of hpa⟩,st,_,_,U,U,hpa,Xm _ _,Zf ?_⟩;rw[tQ];have hpb:=Dj (Zb (H:=H6) (a:=st) (o:=.lst ((vb (o7 y) b::l).reverse)));refine⟨_,U,_,U,_,U,_,U,.inl ⟨U,_,aB.of hpb⟩,st,_,_,U,U,hpb,Xm _ _,y,h,a,b,U,m1,hh,ha,hb,λq H7 hq0 I Z=>Zf (hN _ _ ?_)⟩;rw[tQ,yM]at Z;rw[e5]at eG;exact ι6 q _ _ l _ _ ⟨U,I,Z _ _ Zb,Z _ _ ((Zk J).trans (sp _ _ k3)),eP,eG,by simp only[cQ]at hn;lia,Z _ _ ((Zk n1).trans (sp _ _ t3)),Z _ _ ((Zk n3).trans (sp _ _ r3)),(Z7 (s4.trans sp) F).trans Z⟩
  .refine λσ H5=>ε6 λq v nx l v8 v9=>θ9 λzq0 q5 p5 k5 zq1 zq2 hl5 t5 r5 s5=>?_;subst zq0;subst zq1;subst zq2;have qs:q≠st:=Yg q5 p5 nofun;refine⟨_,U,.inl ⟨U,_,aB.of p5⟩,_,U,q,_,0,_,U,U,aL.of q5,U,st,_,_,U,U,p5,by rw[tZ];exact Zw Vb,?_⟩;have p6:aA H5 st (.lst (l.reverse++[v])) st=ap (l.reverse++[v]):=Zb;have k6:=(Zk (H:=H5) (o:=.lst (l.reverse++[v])) J).trans k5;have q6:=(Zk (H:=H5) (o:=.lst (l.reverse++[v])) qs).trans q5;have t6:=(Zk (H:=H5) (o:=.lst (l.reverse++[v])) n1).trans t5;have r6:=(Zk (H:=H5) (o:=.lst (l.reverse++[v])) n3).trans r5;have s6:=Z7 (o:=.lst (l.reverse++[v])) s5 F
   try dsimp only
   generalize aA H5 st (.lst (l.reverse++[v]))=H6 at *;refine⟨_,U,.inl ⟨U,_,aB.of k6⟩,_,U,q,_,1,_,U,U,aL.of q6,U,Y,_,_,U,U,k6,by rw[tZ,aF];exact Zw Vb,?_⟩;refine ι6 k1 _ _ _ _ _ ⟨U,hi,by rw[ed];exact hk1,?_,?_,(Zk n2).trans t6,(Zk n4).trans r6,Z7 s6 hkt⟩
   .rw[ed,ee,hP1,Zk J.symm,p6,oE]
   .rw[ed,ee,hG1,Zb,fW,oE]
 .refine λσ H2=>ε6 λks u5 u6 u7 u8 u9=>θ7 λzq0 hi0 hk p2 k2 t2 r2 s3=>?_;subst zq0;have ez:(B.reverse.zip (hs.map V.int).reverse).length=B.length:=by
   rw[DL,tZ,tZ,aF];simp_all
  rw[ez,pM,DT]at hk p2 k2;rw[DT]at p2 k2;obtain rfl:=ju hyk hty hk;have hb:=XU hyk hβ hty hv
  match I:(lst ys β B hs).1,hb.1 with
  |[x],_=>
   rw[I]at p2 k;refine⟨_,U,st,_,0,_,U,U,aB.of p2,U,_,U,1,U,U,Y,_,U,aB.of k2,λl1 hl1=>?_⟩;refine ι2 l1 _ ⟨U,.inl ⟨aB.of Zb,λq hq2=>⟨h2,λp hp=>k p q _ ?_ Zb ?_ ?_⟩⟩⟩
   .exact(s3.trans ((Za hl1).trans (Za hq2))).free hp
   .exact(Za hp _ _ Zb).trans (by rw[KH])
   .exact s3.trans ((Za hl1).trans ((Za hq2).trans (Za hp)))
inductive JO(K:Af):Prop
 |mk(a pn:Aw)(ns:Ak)(st:Nat)(nm:Ai):vs=[.ref a,.int st,.ref pn]->aB K H a (ns.map V.int)->ns.length<=63->st<=10->H pn=ap (nm.map V.str)->nm≠[]->(∀z∈nm,BG z)->(∀p ws H',H' p=am ws->ws.length<=40->bQ nm ws [true]->Jr ws<=15->(∀ms,i5 ws ms->Yz ms ws->mF ms ws)->Z8 H H'->Q (.ref p) H')->JO K
def vV(K:Af):Sp:=λvs H Q _=>JO vs H Q K
theorem vW:bT T.el P w wv 2 (vV K):=by
 have C:=jX P wv T TB;have B:=X1 P wv T TB;refine T.el.go Yr ?_;rintro cdv A xz s H _ Q E hr ⟨a,pn,ns,st,nm,rfl,hS,h63,aV,hpn,hne,hks,k⟩;refine⟨_,(Zc (Zt 3 Yr.nd (Zs T.au B hr (Zh (qv 0) (Zh (qv 1) Zd))))
   (Zc (Zt 4 Yr.nd (Z5 Zr (ZC (Zh Zi (Zh Zi Zd))) (Zl ZL (qv 3) Ze)))
   (Zc (Zt 5 Yr.nd (Z5 Zr (ZC (Zh (Z3 (Zh Zi (Zh (Z5 Zr (qv 2) Ze) Zd))) (Zh (Z3 (Zh Zi (Zh Zi (Zh (Z5 Zr (qv 2) Ze) Zd)))) (Zh (Z3 (Zh Zi (Zh Ze (Zh (Z5 Zr (qv 2) Ze) Zd)))) Zd)))) (Zl ZL (Zl ZE (qv 3) Ze) Ze)))
   (Zc (Zt 6 Yr.nd (G0 (ZS Yh (Zl ZL (Zl ZE (qv 3) Ze) Ze) Ze (Zz _)) (Gf (ZS Yh (Zm Zq (by rfl) T.af Yc (Zh (qv 2) Zd)) Ze (Zz _)))))
   (Zc (Zt 7 Yr.nd (Zs T.dw C hr (Zh (Zs T.au B hr (Zh (qv 0) (Zh (Zl Y3 (qv 1) Ze) Zd))) (Zh (Z5 Zr (qv 2) Ze) (Zh (qv 6) Zd)))))
   (Zc (ZF (YJ (qv 6))
   (Zg (Zp (Zl Wi (Zl Wi (Z3 (Zh (qv 4) (Zh Zi (Zh Zi (Zh (Z5 Zr (qv 2) Ze) Zd))))) (qv 7)) (qv 5)))) Zx)
   (Zc (Zt 8 Yr.nd (Z5 Zr (ZC (Zh (Z3 (Zh Zi (Zh Zi (Zh (Z5 Zr (qv 2) Ze) Zd)))) (Zh (Z3 (Zh Zi (Zh Ze (Zh Zi (Zh Zi (Zh (Z5 Zr (qv 2) Ze) Zd)))))) Zd))) (Zl ZL (Zl ZE (qv 3) Ze) Ze)))
   (Zc (Zt 9 Yr.nd (Zl Wi (Zl Wi (Zl Wi (Z3 (Zh (qv 4) (Zh Zi (Zh Zi (Zh Zi (Zh (Z5 Zr (qv 2) Ze) Zd)))))) (qv 7)) (Z3 (Zh Zi (Zh (Z5 Zr (qv 2) Ze) Zd)))) (qv 8)))
   (Zg (Zp (Zl Wi (Zl Wi (qv 9) (Z3 (Zh (Z5 Zr (ZC (Zh Zi (Zh Zi (Zh Zi Zd)))) (Zl ZL (Zl ZE (qv 3) Ze) Ze)) (Zh Zi (Zh (Z5 Zr (qv 2) Ze) Zd))))) (qv 5)))))))))))),?_⟩
 try dsimp only[L2.iP,L2.cK]
 have I:(0:Int)<2:=Va
 have hk:∀z∈nm,z∉Z6:=λz I=>(hks z I).k;refine⟨_,U,_,U,a,ns,st,U,hS,h63,Vb,λr H1 r0 r1 s1=>Zf ?_⟩;obtain⟨w,ew,hw⟩:∃w,dA [V.str "both",V.str "so"] (r%2)=some (.str w)/\w∈(["both","so"]:Ai):=by
  rcases(by lia:r%2=0\/r%2=1)with e|e<;>rw[e]
  .exact⟨"both",U,Va⟩
  .exact⟨"so",U,Va⟩
 obtain⟨y,D,rfl⟩:∃y D,nm=y::D:=by
  cases nm with
  |nil=>exact absurd U hne
  |cons y D=>exact⟨y,D,U⟩
 have J:y∈y::D:=bM;have n0:dA ((y::D).map V.str) 0=some (.str y):=Y7 (j:=0) rfl;obtain⟨K1,K2,K3⟩:=uC hk J;refine⟨GF,λl0 hl0=>⟨_,U,_,_,U,U,I,l0,_,_,_,U,U,aB.of Zb,ew,Zf ?_⟩⟩;have s2:=s1.trans (Za (o:=.lst [V.str "both",V.str "so"]) hl0);generalize aA H1 l0 (.lst [V.str "both",V.str "so"])=H2 at *;have n2:=s2 _ _ hpn;refine⟨_,U,pn,_,0,.str y,U,U,aB.of (n2),n0,GF,λp1 hp1=>⟨_,U,pn,_,0,.str y,U,U,aB.of (Za hp1 _ _ n2),n0,vZ,λp2 hp2=>⟨_,U,pn,_,0,.str y,U,U,aB.of (Za hp2 _ _ (Za hp1 _ _ n2)),n0,vZ,λp3 hp3=>⟨vZ,λl1 hl1=>⟨_,U,_,_,U,U,.of Va Va,_,_,U,U,(by show(0:Int)<3;decide),?_⟩⟩⟩⟩⟩;have d1:=Za (o:=.tup [V.str "sign",.str y]) hp1;have d2:=Za (o:=.tup [V.str "never",.str "sign",.str y]) hp2;have d3:=Za (o:=.tup [V.str "under",.int 5,.str y]) hp3;have d4:=Za (o:=.lst [V.ref p1,.ref p2,.ref p3]) hl1;have e1:=d4 _ _ (d3 _ _ (d2 _ _ (Zb (H:=H2) (a:=p1) (o:=.tup [V.str "sign",.str y]))));have e2:=d4 _ _ (d3 _ _ (Zb (H:=aA H2 p1 (.tup [V.str "sign",.str y])) (a:=p2) (o:=.tup [V.str "never",.str "sign",.str y])));have e3:=d4 _ _ (Zb (H:=aA (aA H2 p1 (.tup [V.str "sign",.str y])) p2 (.tup [V.str "never",.str "sign",.str y])) (a:=p3) (o:=.tup [V.str "under",.int 5,.str y]));have e4:=Zb (H:=aA (aA (aA H2 p1 (.tup [V.str "sign",.str y])) p2 (.tup [V.str "never",.str "sign",.str y])) p3 (.tup [V.str "under",.int 5,.str y])) (a:=l1) (o:=.lst [V.ref p1,.ref p2,.ref p3]);have s3:=s2.trans (d1.trans (d2.trans (d3.trans d4)));try dsimp only
 generalize aA (aA (aA (aA H2 p1 (.tup [V.str "sign",.str y])) p2 (.tup [V.str "never",.str "sign",.str y])) p3 (.tup [V.str "under",.int 5,.str y])) l1 (.lst [V.ref p1,.ref p2,.ref p3])=H3 at *;have ny:Yw (.str y)=false:=bF λz=>hk y J (YN y z);obtain⟨ak,aw,ea,ha,A,AK⟩:∃ak aw,dA [V.ref p1,V.ref p2,V.ref p3] (r/2%3)=ac ak/\H3 ak=am aw/\ZN (y::D) true 3 1 aw/\Ci y aw:=by
  rcases(by lia:r/2%3=0\/r/2%3=1\/r/2%3=2)with e|e|e<;>rw[e]
  .exact⟨p1,_,U,e1,K1,.inl (by rw[bU,aG Va,bU,ny];rfl),λz I=>by simp only[bJ,fG,l8,V.str.injEq]at I;rcases I with rfl|rfl<;>first|exact .inr U|exact .inl Va⟩
  .exact⟨p2,_,U,e2,K2,.inl (by rw[bU,aG Va,bU,aG Va,bU,ny];rfl),λz I=>by simp only[bJ,fG,l8,V.str.injEq]at I;rcases I with rfl|rfl|rfl<;>first|exact .inr U|exact .inl Va⟩
  .exact⟨p3,_,U,e3,K3,.inr U,λz I=>by simp only[bJ,fG,l8,V.str.injEq,reduceCtorEq,false_or]at I;rcases I with rfl|rfl<;>first|exact .inr U|exact .inl Va⟩
 refine⟨l1,_,_,_,U,U,aB.of e4,ea,Zf ?_⟩;have n3:=s3 _ _ hpn;show Io _ _ _ _ _;refine BK (λv H'=>∃al:Bool,v=.bl al/\(al=false->∃x l,D=x::l)/\H'=H3) (λN hN=>?_) ?_
 .refine⟨_,U,_,_,U,U,.of Va Va,_,_,U,U,I,U,_,U,?_⟩
  by_cases e:V.int (r/6%2)=V.int 0
  .rw[aZ e];exact Yl (hN _ _ ⟨true,U,nofun,U⟩)
  .rw[bF e];refine ZI ⟨_,U,pn,_,U,.inl (aB.of n3),U,?_⟩;cases D with
   |nil=>exact hN _ _ ⟨true,U,nofun,U⟩
   |cons x l=>exact hN _ _ ⟨_,U,λ_=>⟨x,l,U⟩,U⟩
 refine λv H'=>ε1 λal=>θ2 λzq0 hal zq1=>?_;subst zq0;subst zq1;refine Zf ?_;refine⟨_,U,_,U,_,_,U,U,a,ns,st+1,U,qi hS s3,h63,Vb,λr2 H4 r20 r21 s4=>⟨_,U,pn,_,0,.str y,U,U,aB.of (s4 _ _ n3),n0,_,U,r2,y,al,U,r20,λpr rl H5 hpr R s5=>Zf ?_⟩⟩;have n5:=s5 _ _ (s4 _ _ n3);have a5:=s5 _ _ (s4 _ _ ha);have s15:=s3.trans (s4.trans s5);have RP:=R.1 _ J hk;have rl8:=RP.p.ln;have al3:=A.ln;have sm:∀{n:Nat},n<=1000->n<=sizeLine:=λh=>bL (Zw h);have fin:∀{q:Aw} {Hz:Hp} {Ua:A8} {n c:Nat},Hz q=am Ua->ZN (y::D) true n c Ua->n<=40->c<=15->(∀D,i5 Ua D->Yz D Ua->mF D Ua)->Z8 H Hz->Q (.ref q) Hz:=λ{q Hz Ua n c} h P h1 h2 F s=>k q Ua Hz h (cC P.ln h1) P.claim (by rw[Wx P.claim.facts.1];exact cC P.rm h2) F s;have L:∀{Ua:A8} {Y:Ai} {x:Str},i5 Ua Y->x∈y::D->V.str x∈Ua->x∈Y:=λN hx hm=>(uE N _).mpr ⟨hm,(hks _ hx).k,(hks _ hx).l⟩;cases al with
 |true=>exact⟨_,U,_,U,Yl ⟨_,U,_,U,pn,_,0,.str y,U,U,aB.of n5,n0,IV,λq1 G=>⟨_,U,q1,pr,_,_,U,U,Zb,Za G _ _ hpr,sm (by show 4+rl.length<=1000;lia),λq2 H6 hq2 s6=>⟨_,U,q2,ak,_,_,U,U,hq2,s6 _ _ (Za G _ _ a5),sm (by rw[bA];show 4+rl.length+aw.length<=1000;lia),λq3 H7 hq3 s7=>fin hq3 (uF hk J hw RP.p A) Va Va (λY N S=>UY hw S (λy J=>((uE N y).mp J).1) (L N J Vd) R AK) (s15.trans ((Za G).trans (s6.trans s7)))⟩⟩⟩⟩
 |false=>
  obtain⟨x,D,rfl⟩:=hal rfl;have RS:=RP.s rfl;have rl8:=RS.ln;have hx:x∈y::x::D:=Vd
  have n1:dA ((y::x::D).map V.str) 1=some (.str x):=Y7 (j:=1) rfl;have nx:Yw (.str x)=false:=bF λz=>hk x hx (YN x z);refine ω (vO (y:=x) (z:=3) Va Va false) (θ4 λO1 _ _ O2 _=>?_);refine⟨_,U,_,U,ZI ⟨_,U,pn,_,1,.str x,U,U,aB.of (n5),n1,vZ,λp4 hp4=>⟨_,U,pn,_,1,.str x,U,U,aB.of (Za hp4 _ _ n5),n1,EE,λp5 hp5=>⟨GF,λl2 hl2=>⟨_,U,_,_,U,U,.of Va Va,_,_,U,U,I,?_⟩⟩⟩⟩⟩;have d4:=Za (o:=.tup [V.str "twice",.str "not",.str x]) hp4;have d5:=Za (o:=.tup [V.str "odd",.int 3,.str "twice",.str "twice",.str x]) hp5;have d6:=Za (o:=.lst [V.ref p4,.ref p5]) hl2;have e4:=d6 _ _ (d5 _ _ (Zb (H:=H5) (a:=p4) (o:=.tup [V.str "twice",.str "not",.str x])));have e5:=d6 _ _ (Zb (H:=aA H5 p4 (.tup [V.str "twice",.str "not",.str x])) (a:=p5) (o:=.tup [V.str "odd",.int 3,.str "twice",.str "twice",.str x]));have e6:=Zb (H:=aA (aA H5 p4 (.tup [V.str "twice",.str "not",.str x])) p5 (.tup [V.str "odd",.int 3,.str "twice",.str "twice",.str x])) (a:=l2) (o:=.lst [V.ref p4,.ref p5]);have Z:=d4.trans (d5.trans d6)
  try dsimp only
  generalize aA (aA (aA H5 p4 (.tup [V.str "twice",.str "not",.str x])) p5 (.tup [V.str "odd",.int 3,.str "twice",.str "twice",.str x])) l2 (.lst [V.ref p4,.ref p5])=H6 at *;obtain⟨ot,ow,eo,ho,OH,o2⟩:∃ot ow,dA [V.ref p4,V.ref p5] (r/12%2)=ac ot/\H6 ot=am ow/\yJ x false ow/\(ow.filter Yw).length<=2:=by
   rcases(by lia:r/12%2=0\/r/12%2=1)with e|e<;>rw[e]
   .exact⟨p4,_,U,e4,O1,by rw[bU,aK Va,bU,aG Va,bU,nx];exact pR 1⟩
   .exact⟨p5,_,U,e5,O2,by rw[bU,aG Va,bU,aG Va,bU,aK Va,bU,aK Va,bU,nx];exact aN 2⟩
  have O:=(OH.1 _ hx hk).s rfl;obtain⟨v,ev,hv⟩:∃v,dA [V.str "both",V.str "either",V.str "so"] (r/24%3)=some (.str v)/\v∈(["both","either","so"]:Ai):=by
   rcases(by lia:r/24%3=0\/r/24%3=1\/r/24%3=2)with e|e|e<;>rw[e]
   .exact⟨"both",U,Va⟩
   .exact⟨"either",U,Va⟩
   .exact⟨"so",U,Va⟩
  have ol3:=O.ln;refine⟨l2,_,_,_,U,U,aB.of e6,eo,Zf ?_⟩;have n6:=Z _ _ n5;have r6:=Z _ _ hpr;have a6:=Z _ _ a5;have s16:=s15.trans Z;refine⟨_,U,_,U,pn,_,0,.str y,U,U,aB.of (n6),n0,EE,λq1 G=>⟨_,U,q1,pr,_,_,U,U,Zb,Za G _ _ r6,sm (by show 5+rl.length<=1000;lia),λq2 H7 hq2 s7=>⟨_,U,pn,_,1,.str x,U,U,aB.of (s7 _ _ (Za G _ _ n6)),n1,GF,λq3 hq3=>⟨q2,q3,_,_,U,U,Za hq3 _ _ hq2,Zb,sm (by rw[bA];show 5+rl.length+2<=1000;lia),λq4 H8 hq4 s8=>?_⟩⟩⟩⟩;have s68:=(Za G).trans (s7.trans ((Za hq3).trans s8));have n8:=s68 _ _ n6;have a8:=s68 _ _ a6;have o8:=s68 _ _ ho;have s18:=s16.trans s68;refine⟨_,U,q4,ot,_,_,U,U,hq4,o8,sm (by rw[bA,bA];show 5+rl.length+2+ow.length<=1000;lia),λq5 H9 hq5 s9=>Zf ?_⟩;refine⟨_,U,vZ,λl3 hl3=>⟨_,U,_,_,U,U,.of Va Va,_,_,U,U,(by show(0:Int)<3;decide),l3,_,_,_,U,U,aB.of Zb,ev,_,U,pn,_,1,.str x,U,U,aB.of (Za hl3 _ _ (s9 _ _ n8)),n1,vZ,λq6 hq6=>⟨q5,q6,_,_,U,U,Za hq6 _ _ (Za hl3 _ _ hq5),Zb,sm (by rw[bA,bA,bA];show 5+rl.length+2+ow.length+3<=1000;lia),λq7 HA hq7 s10=>⟨_,U,q7,ak,_,_,U,U,hq7,s10 _ _ (Za hq6 _ _ (Za hl3 _ _ (s9 _ _ a8))),sm (by rw[bA,bA,bA,bA];show 5+rl.length+2+ow.length+3+aw.length<=1000;lia),λq8 HB hq8 s11=>fin hq8 (Zdg hk J hx hw hv RS O A) Va Va (λY N S=>Zh3 hw hv S (λy J=>((uE N y).mp J).1) (L N J Vd) (L N hx Vd) R OH o2 AK) (s18.trans (s9.trans ((Za hl3).trans ((Za hq6).trans (s10.trans s11)))))⟩⟩⟩⟩
inductive Jh:Prop
 |mk(s:Aw)(oO:A8)(w:V):vs=[.ref s,w]->H s=ap oO.reverse->w=kV (cG w)->aP w<=oO.length->oO.length<=100->(∀pl H',H pl=none->H' pl=ap (oO.take (aP w))->H' s=ap (oO.drop (aP w)).reverse->(∀b o,H b=some o->b≠s->H' b=some o)->Q (.ref pl) H')->Jh
theorem jZ:bT T.dz P w wv 3 (cE Jh):=by
 refine T.dz.go jQ ?_;rintro O A xz s H _ Q E Ua ⟨st,r,x,rfl,hs,Y,Z,hl,k⟩;refine⟨_,(Zg (Zp (Y8 ({}:ZX (Zj WM) _ ["stack","word"] "part" ["stack"] [0]) (Ws U T.bq (Zh (Yk (uO P wv T TB) (Ua.mono Va) U T.bx.m T.bx.F.kp T.bx.b .nil Jl (Zh (qv 1) Zd)) Zd)) (λ_ _ _ _=>Xv) (λ_ _ _ _=>(show QE _ _ (BV K "list" Ed (rR 1))from(Jx c9 pQ pV Gd (qv 1))))))),?_⟩;refine⟨_,U,cG x,congrArg (λz=>[z]) Y,WN (cG x),U,?_,?_,Zcj (λi zs H2=>i<=aP x/\zs=r.take i/\H2 st=ap (r.drop i).reverse/\∀b o,H b=some o->b≠st->H2 b=some o) ⟨cM _,U,hs,λb o e _=>e⟩ ?_ ?_ ?_⟩
 .have:=zV (cG x);lia
 .have:=zV (cG x);lia
 .rintro i zs H2 ⟨_,rfl,_,_⟩;rw[c8];exact bL (Zw Vb)
 .refine λi zs H2 R hR hi=>θ3 λL zq0 h2 I=>?_;subst zq0;have J:i<aP x:=hi;have D:i<r.length:=Vb
  rw[SG D]at h2;refine⟨_,U,.inl ⟨U,_,aB.of h2⟩,st,_,r[i],U,U,h2,Xm _ _,hR _ _ ⟨J,?_,?_,λb o e C=>?_⟩⟩
  .rw[aE (aQ D)]
  .rw[Zb,tQ]
  .rw[Zk C];exact I b o e C
 .refine λzs H2=>θ3 λL zq0 h2 I=>λl B=>?_;subst zq0;have G:H l=none:=by
   cases q:H l with
   |none=>rfl
   |some o=>
    by_cases C:l=st
    .rw[C,h2]at B;cases B
    .grind
  refine k l _ G Zb ?_ λb o e C=>?_
  .rw[Zk (Zo h2 B)];exact h2
  .rw[Zk (Zo e G)];exact I b o e C
inductive qI:Prop
 |mk(t:Aw)(ws:A8):vs=[.ref t]->H t=am ws->(∀w∈ws,x6 w)->ws.length<=60->(∀p H' (ms:Ai),H p=none->H' p=am (ms.map V.str)->Z8 H H'->ms.Perm (Jo ((ws.filter sQ).map rP))->PyProof.Rows.sortedS ms=true->Q (.ref p) H')->qI
theorem uR:bT T.bz P w wv 3 (cE qI):=by
 refine T.bz.go uI ?_;rintro O A xz s H _ Q E Z ⟨t,B,rfl,J,hw,hl,k⟩;refine⟨_,(Zg (Zp (Z4 Z1 (by rfl) T.ae ZO (Zh (Zm (GP U) (by rfl) T.dj Jv (Zh (Z4 (kP U) (by rfl) T.Nt Rj (Zh (Y8 ({}:ZX (Zj xa) _ ["words"] "word" [] []) (X6 (qv 0)) (λ_ _ _ _=>(kB (Jn (Jw (YJ (Zm (show YX _ (.builtin "isinstance") (DO K)from Xx) (by rfl) T.ah ZY (Zh (qv 0) (Zh (WH (v:=.ty "str") (by rfl) T.Ni OB U) Zd)))) (X4 (YJ (Yk (UJ P wv T TB) (Z.mono Va) U T.cu.m T.cu.F.kp T.cu.b .nil Jl (Zh (qv 0) Zd)))))))) (λ_ _ _ _=>(qv 0))) Zd)) Zd)) Zd)))),?_⟩;refine⟨_,U,t,U,⟨_,aL.of J⟩,kR (xs:=B) sQ Z8 Z8.refl (λ_ _ _ a b=>a.trans b) (λH1 r=>aL.of (r _ _ J)) (bL (Zw Vb)) (λx L H1 r R hR=>?_) (λx L H1 R hR=>⟨_,U,hR⟩) (λH1 l r C=>?_)⟩
 .rcases hw x L with⟨y,rfl,Y⟩|⟨z,rfl⟩
  .exact⟨_,U,_,_,_,_,U,.str y,zw,_,U,Yl ⟨_,U,y,U,cC Y Va,λH2 D=>⟨_,U,hR H2 D⟩⟩⟩
  .exact⟨_,U,_,_,_,_,U,.int z,zx,_,U,ZI (hR H1 (Z8.refl H1))⟩
 have fl:(B.filter sQ).length<=60:=cC (HN _ _) hl;have ol:=wt ((B.filter sQ).map rP);rw[aF]at ol;have D:=r.trans (Za (o:=.lst (B.filter sQ)) C);refine⟨l,_,U,aB.of (by rw[Zog];exact Zb),by rw[aF];lia,λa ha=>⟨a,_,U,Zb,Vb,λm G hm Ua hs=>ι2 m _ ⟨U,.inl ⟨aB.of Zb,λp q=>?_⟩⟩⟩⟩;have I:Z8 H _:=D.trans ((Za ha).trans (Za (o:=.lst (G.map V.str)) hm));exact k p _ G (Z8.free I q) Zb (I.trans (Za q)) Ua hs
inductive Gx(K:Af):Prop
 |mk(a pn f:Aw)(ns:Ak)(st:Nat)(nm:Ai)(mo:Nat)(tp k0 k1:Int):vs=[.ref a,.int st,.ref pn,.int mo,.ref f,.int tp,.bl true]->(Rd H a (.lst (ns.map V.int))/\a≠f)\/aB K (λb=>none) a (ns.map V.int)->ns.length<=63->st<=10->mo<=24->1<=mo->H pn=ap (nm.map V.str)->nm.length<=3->(∀y∈nm,y∉Z6)->H f=ap [.int k0,.int k1]->0<=k0->0<=k1->k0+k1<=5->pn≠f->1<=tp->tp<=1000->(∀p ws H',H' p=am ws->ws.length<=mo->bQ nm ws [true]->(Jr ws:Int)<=k0+k1->eM f H H'->Q (.ref p) H')->Gx K
def gw(K:Af):Sp:=λvs H Q _=>Gx vs H Q K
theorem gy:bT T.fk P w wv 3 (gw K):=by
 have L:=Wb P wv T TB;have q:=xn P wv T TB;have B:=j8 P wv T TB;have G:=X1 P wv T TB;refine T.fk.go YD ?_;rintro cdv A xz s H _ Q E hr ⟨a,pn,f,ns,st,nm,mo,tp,k0,k1,rfl,hS,h63,aV,hmo,hmo1,hpn,hn3,hnk,hf,hk0,hk1,hk5,hpf,ht1,ht2,k⟩;refine⟨_,(Zc (Zt 7 YD.nd (ZC Zd))
   (Zc (Zt 8 YD.nd (ZC (Zh (qv 6) Zd)))
   (Zc (XO dJ (Zn (z7 (JV hr)) (qv 8) (ZC Zd) (Zz _))
   (Zc (Zt 9 YD.nd (Zl YY (Zl YY (qv 3) (Zm Zq (by rfl) T.af Yc (Zh (qv 7) Zd))) (Zm Zq (by rfl) T.af Yc (Zh (qv 8) Zd))))
   (Zc (Zt 10 YD.nd (Zs T.au G hr (Zh (qv 0) (Zh (Zl Y3 (qv 1) (Zm Zq (by rfl) T.af Yc (Zh (qv 7) Zd))) Zd))))
   (Zc (ZF (YJ (Jx c9 pQ pV Gd (qv 8)))
   (Zg (Zt 11 YD.nd (Zs T.cj q hr (Zh (qv 10) (Zh (qv 9) (Zh (qv 4) Zd)))))) (Zg (Zt 11 YD.nd (Zs T.dh B hr (Zh (qv 10) (Zh (qv 9) (Zh (qv 4) (Zh (qv 2) (Zh (qv 5) Zd)))))))))
   (Zc (Yj (YH c9 fP fS ZM (qv 7) (Zh (qv 11) Zd)))
   (Zg (Yj (YH c9 PySem.F.slot_list_extend PySem.F.type_list_extend UP (qv 8) (Zh (Zs T.bb L hr (Zh (qv 11) Zd)) Zd)))))))))
   (Zg (Zp (Z4 Z1 (by rfl) T.ae ZO (Zh (qv 7) Zd))))))),?_⟩
 try dsimp only[L2.iP,L2.cK]
 refine⟨uU,λD hwa=>Zf ?_⟩;refine⟨_,U,CV,λC hpa=>Zf ?_⟩;have s1:=(Za (o:=.lst []) hwa).trans (Za (o:=.lst [V.bl true]) hpa);have hwf:D≠f:=λz=>by rw[z,hf]at hwa;cases hwa
 have hpw:C≠D:=λz=>by rw[z,Zb]at hpa;cases hpa
 have hpa0:H C=none:=by rw[Zk hpw]at hpa;exact hpa
 have Y:C≠f:=λz=>by rw[z,hf]at hpa0;cases hpa0
 have w1:aA (aA H D (.lst [])) C (.lst [V.bl true]) D=some (.lst []):=by rw[Zk hpw.symm,Zb]
 have p1:aA (aA H D (.lst [])) C (.lst [V.bl true]) C=some (.lst [V.bl true]):=Zb;generalize aA (aA H D (.lst [])) C (.lst [V.bl true])=H1 at *;have keep:∀{Ha Hb:Hp} {g:Aw} {u o:HO},eM f H Ha->(g=D\/g=C)->eM f H (aA Ha g o):=λ{Ha Hb g u o} s hg b v hb e=>by
  have:b≠g:=λz=>by
   rcases hg with h|h
   .rw[z,h,hwa]at e;cases e
   .rw[z,h,hpa0]at e;cases e
  rw[Zk this];exact s b v hb e
 refine JD (λσ H'=>∃(O:A8)(ks:Am)(l0 l1:Int)(u9 Z u11:Option V),σ=[ac a,ad st,ac pn,ad mo,ac f,ad tp,some (.bl true),ac D,ac C,u9,Z,u11]/\H' D=some (.lst O)/\H' C=some (.lst (ks.reverse.map V.bl))/\H' f=some (.lst [.int l0,.int l1])/\p9 mo (k0+k1) nm O ks l0 l1/\0<=l0/\0<=l1/\eM f H H') (λ_ H'=>match H' D with|some (.lst l)=>30-l.length|_=>0) (ι7 [] [true] k0 k1 none none none ⟨U,w1,p1,s1 _ _ hf,⟨λpi h=>h,by show((0:Nat):Int)+k0+k1<=k0+k1;lia,hmo1⟩,hk0,hk1,eM.of s1⟩) ?_;refine λσ H2=>ε7 λO ks l0 l1 u9 Z u11=>θ7 λzq0 w2 p2 f2 W2 hl0 hl1 s2=>?_;subst zq0;refine⟨_,U,uU,λe he=>⟨C,e,_,_,U,U,aB.of (Za he _ _ p2),aB.of Zb,mK.mpr λv hv=>(by obtain⟨y,_,rfl⟩:=bB.mp hv;rfl),U,_,U,?_⟩⟩;have se:=Za (o:=.lst []) he;have w3:=se _ _ w2;have p3:=se _ _ p2;have f3:=se _ _ f2;have s3:=s2.same se;generalize aA H2 e (.lst [])=H3 at *;cases ks with
 |nil=>
  have hty:=W2.ty [] .nil;rw[dW]at hty;have hln:=W2.ln;have hrm:=W2.rm;exact⟨_,U,D,_,U,.inl ⟨aB.of w3,λp hp=>k p O _ Zb (by omega) hty Vb (s3.same (Za hp))⟩⟩
 |cons b ks=>
  have hpop:H3 C=some (.lst (ks.reverse.map V.bl++[V.bl b])):=by rw[p3,oE,b0];rfl
  have hln:=W2.ln;rw[cQ]at hln;have hpl:((b::ks).reverse.map V.bl).length=ks.length+1:=by rw[aF,tZ,cQ]
  rw[show(!gL ((b::ks).reverse.map V.bl) [])=true by rw[oE,b0];cases ks.reverse.map V.bl<;>rfl];refine Yl ⟨λσ' H'=>∃(Ua:A8)(ks:Am)(l0 l1:Int)(u9 Z u11:Option V),σ'=[ac a,ad st,ac pn,ad mo,ac f,ad tp,some (.bl true),ac D,ac C,u9,Z,u11]/\Ua.length=O.length+1/\H' D=some (.lst Ua)/\H' C=some (.lst (ks.reverse.map V.bl))/\H' f=some (.lst [.int l0,.int l1])/\p9 mo (k0+k1) nm Ua ks l0 l1/\0<=l0/\0<=l1/\eM f H H',?_,?_⟩
  .refine λσ' H'=>ε7 λUa ks' I J v9 v10 v11=>θ8 λzq0 hl' h1 h2 h3 h4 h5 h6 h7=>?_;subst zq0;refine⟨30-Ua.length,?_,?_,Ua,ks',I,J,v9,v10,v11,U,h1,h2,h3,h4,h5,h6,h7⟩
   .rw[w2];show 30-Ua.length<30-O.length;lia
   .rw[h1]
  refine⟨_,U,_,U,D,_,U,.inl (aB.of w3),_,_,U,U,_,U,C,_,U,.inl (aB.of p3),_,_,U,U,Zf ?_⟩;refine⟨_,U,_,U,_,U,D,_,U,.inl (aB.of w3),_,_,U,U,a,ns,st+O.length,U,?_,h63,Vb,λr H4 r0 r1 s4=>Zf ?_⟩
  .rcases hS with⟨z|⟨o,z⟩,haf⟩|(z|⟨_,z⟩)|z
   .exact .inl (.inl (s3 _ _ haf z))
   .exact .inl (.inr ⟨o,s3 _ _ haf z⟩)
   .cases z
   .cases z
   .exact .inr z
  have w4:=s4 _ _ w3;have p4:=s4 _ _ hpop;have f4:=s4 _ _ f3;have s34:=s3.same s4;refine ub (λσ H'=>∃(w:V)(I J:Int)(u9 Z:Option V),σ=[ac a,ad st,ac pn,ad mo,ac f,ad tp,some (.bl true),ac D,ac C,u9,Z,some w]/\((∃y,w=.str y)\/∃z:Int,w=.int z)/\H' D=some (.lst O)/\H' C=some (.lst (ks.reverse.map V.bl))/\H' f=some (.lst [.int I,.int J])/\p9 mo (k0+k1) nm (O++[w]) (j3 w++ks) I J/\0<=I/\0<=J/\eM f H H') (λN hN=>?_) ?_
  .refine⟨_,U,.inl ⟨U,_,aB.of p4⟩,C,_,_,U,U,p4,Xm _ _,b,U,?_⟩;rw[tQ];have w5:aA H4 C (.lst (ks.reverse.map V.bl)) D=some (.lst O):=by rw[Zk hpw.symm];exact w4
   have p5:aA H4 C (.lst (ks.reverse.map V.bl)) C=some (.lst (ks.reverse.map V.bl)):=Zb;have f5:aA H4 C (.lst (ks.reverse.map V.bl)) f=some (.lst [.int l0,.int l1]):=by rw[Zk Y.symm];exact f4
   have s5:eM f H (aA H4 C (.lst (ks.reverse.map V.bl))):=keep (Hb:=H) (u:=.lst []) s34 (.inr U);generalize aA H4 C (.lst (ks.reverse.map V.bl))=H5 at *;have erm:(mo:Int)-(O.length:Int)-(((b::ks).reverse.map V.bl).length:Int)=(mo:Int)-O.length-((b::ks).length:Int):=by rw[hpl,cQ]
   cases b with
   |true=>
    refine Yl ⟨_,U,_,U,_,U,r,_,f,l0,l1,U,r0,?_,f5,hl1,λy J H6 hy hlen hl hl' f6 s6=>Zf (hN _ _ (ι5 (.str y) l0 J _ _ ⟨U,.inl ⟨y,U⟩,s6 _ _ hwf w5,s6 _ _ Y p5,f6,W2.mY hnk hy ?_ hl,hl0,hl',λb o hb e=>s6 _ _ hb (s5 b o hb e)⟩))⟩
    .rw[hpl];lia
    .rw[<-erm];exact hlen
   |false=>
    refine ZI ⟨_,U,_,U,_,U,_,U,_,U,r,_,f,pn,l0,l1,tp,nm,U,r0,?_,f5,hl0,s5 _ _ hpf hpn,hn3,ht1,ht2,λw I H6 hw hl' f6 s6=>Zf (hN _ _ (ι5 w I l1 _ _ ⟨U,?_,s6 _ _ hwf w5,s6 _ _ Y p5,f6,W2.sum hnk ?_,hl',hl1,λb o hb e=>s6 _ _ hb (s5 b o hb e)⟩))⟩
    .rw[hpl];lia
    .rcases hw with⟨y,e,_⟩|⟨y,e,_⟩|⟨z,e,_⟩
     .exact .inl ⟨y,e⟩
     .exact .inl ⟨y,e⟩
     .exact .inr ⟨z,e⟩
    .rw[<-erm];exact hw
  .refine λσ H5=>ε5 λw I J v9 v10=>θ8 λzq0 hw w5 p5 f5 W5 hl0' hl1' s5=>?_;subst zq0;refine⟨_,U,.inl ⟨U,_,aB.of w5⟩,_,U,D,_,_,U,U,w5,Zw Vb,?_⟩;have w6:=Zb (H:=H5) (a:=D) (o:=.lst (O++[w]));have p6:=(Zk (H:=H5) (o:=.lst (O++[w])) hpw).trans p5;have f6:=(Zk (H:=H5) (o:=.lst (O++[w])) hwf.symm).trans f5;have s6:eM f H (aA H5 D (.lst (O++[w]))):=keep (Hb:=H) (u:=.lst []) s5 (.inl U);generalize aA H5 D (.lst (O++[w]))=H6 at *;refine⟨_,U,.inl ⟨U,_,aB.of p6⟩,_,U,w,U,hw,λp H7 hp0 hp s7=>⟨C,p,_,_,U,U,s7 _ _ p6,hp,?_,?_⟩⟩
   .have:=(P8 w).2;rw[aF,aF,tZ];exact bL (Zw Vb)
   .refine ι7 (O++[w]) (j3 w++ks) I J _ _ _ ⟨U,by rw[bA];rfl,by rw[Zk hpw.symm];exact s7 _ _ w6,?_,by rw[Zk Y.symm];exact s7 _ _ f6,W5,hl0',hl1',keep (Hb:=H) (u:=.lst []) (s6.same s7) (.inr U)⟩;rw[Zb,List.reverse_append,(P8 w).1,b0]
inductive JP:Prop
 |mk(tw pn:Aw)(ws:A8)(nm:Ai):vs=[.ref tw,.ref pn]->H tw=am ws->H pn=ap (nm.map V.str)->Yz nm ws->(∀w∈ws,x6 w)->ws.length<=60->mF nm ws->(∀H',Z8 H H'->Q .bN H')->(∀p q1 q2 (bk N:Nat) H',bk<N->N<400->(∀h,c7 nm ws bk h↔c7 nm ws N h)->H' p=am [.ref q1,.ref q2,.int bk]->H' q1=ap (((List.range N).map λi=>!Tw ws nm false i).map V.bl)->H' q2=ap (((List.range N).map λi=>Tw ws nm true i).map V.bl)->Z8 H H'->Q (.ref p) H')->JP
theorem vX:bT T.et P w wv 3 (cE JP):=by
 have G_law_step:=uQ P wv T TB;have Y:=gr P wv T TB;have J:=jV P wv T TB;refine T.et.go ZA ?_;rintro cdv A xz s H _ Q E hr ⟨tw,pn,I,nm,rfl,ht,hn,S,hw,hl_,F,k0,k⟩;have hu:=jA hr;refine⟨_,(Zc (Zt 2 ZA.nd (Zs T.du J hr (Zh (qv 1) (Zh Ze Zd))))
   (Zc (Zt 3 ZA.nd vc)
   (Zc (Zt 4 ZA.nd (ZC (Zh (Zs T.fh Y hr (Zh (qv 0) Zd)) Zd)))
   (Zc (Zt 5 ZA.nd G2)
   (Zc (Zt 6 ZA.nd (ZC Zd))
   (Zc (Zt 7 ZA.nd (ZC Zd))
   (Zc (XO dJ (Zn Dh (Zm Zq (by rfl) T.af Yc (Zh (qv 6) Zd)) Ze (Zz _))
   (Zc (Zt 8 ZA.nd (Z4 Z1 (by rfl) T.ae ZO (Zh (qv 4) Zd)))
   (Zc (ZF (Zn (Cs (xy hr)) (qv 8) (qv 5) Vf)
   (Zg (Zp (Z3 (Zh (qv 6) (Zh (qv 7) (Zh (Nl (xy hr) (qv 5) (qv 8) (λ_ _=>U)) Zd)))))) Zx)
   (Zc (Nw (xy hr) (qv 5) (qv 8) (Zm Zq (by rfl) T.af Yc (Zh (qv 6) Zd)) U)
   (Zc (Zt 9 ZA.nd vc)
   (Zc (Zt 10 ZA.nd G2)
   (Zc (YQ dJ U (Xb (qv 4)) (X5 11 ZA.nd)
   (Zc (ZF (Zn (WK hu) (qv 11) (qv 3) Vf)
   (Zg (J1 hu (qv 3) (qv 11) (Y8 ({}:ZX (Zj JB) _ ["words","names","letters","known","states","seen","alls","somes","key","found","truths","held","told","behind"] "bits" ["words","held"] [0,11]) (Xb (qv 2)) (λ_ _ _ _=>Xv) (λ_ _ _ _=>(Zs T.gb G_law_step hr (Zh (qv 1) (Zh (qv 2) (Zh (qv 0) Zd)))))) U)) Zx)
   (Zg (YQ dJ U (Xb (qO hu (qv 3) (qv 11) (λ_ _=>U))) (yU U (X5 12 ZA.nd) (X5 13 ZA.nd))
   (Zc (TY (qv 10) (qv 12) YO U)
   (Zg (J1 hu (qv 9) (qv 13) YO U)))))))
   (Zc (Yj (YH c9 fP fS ZM (qv 6) (Zh (ZS Zcz YO (qv 10) Vf) Zd)))
   (Zc (Yj (YH c9 fP fS ZM (qv 7) (Zh (ZS Zn9 YO (qv 10) Vf) Zd)))
   (Zg (Zt 4 ZA.nd (Zm (vn U) (by rfl) T.dj Jv (Zh (qv 9) Zd)))))))))))))
   (Zg (Zp Pw))))))))),?_⟩
 try dsimp only[L2.iP,L2.cK]
 refine⟨_,U,pn,nm,2,U,hn,S.nd,S.n3,cC (tD Va S.n3) Va,Va,λpl H1 D1 s1=>Zf ?_⟩;refineλUa hkd=>Zf ⟨_,U,tw,I,U,Za hkd _ _ (s1 _ _ ht),hw,hl_,λpb H3 hpb0 hpb s3=>⟨CV,λst aV=>Zf ?_⟩⟩;refineλC hsd=>Zf ⟨uU,λal hal=>Zf ⟨uU,λso hso=>Zf ?_⟩⟩;have s4:=Za (o:=.lst [V.ref pb]) aV;have s5:=Za (o:=.dK []) hsd;have s6:=Za (o:=.lst []) hal;have s7:=Za (o:=.lst []) hso;have s13:=(Za (o:=.dT []) hkd).trans s3;have k7:=s7 _ _ (s6 _ _ (s5 _ _ (s4 _ _ (s3 _ _ (Zb (H:=H1) (a:=Ua) (o:=.dT []))))));have b7:=s7 _ _ (s6 _ _ (s5 _ _ (s4 _ _ hpb)));have st7:=s7 _ _ (s6 _ _ (s5 _ _ (Zb (H:=H3) (a:=st) (o:=.lst [V.ref pb]))));have sd7:=s7 _ _ (s6 _ _ (Zb (H:=aA H3 st (.lst [V.ref pb])) (a:=C) (o:=.dK [])));have al6:=Zb (H:=aA (aA H3 st (.lst [V.ref pb])) C (.dK [])) (a:=al) (o:=.lst []);have al7:=s7 _ _ al6;have so7:=Zb (H:=aA (aA (aA H3 st (.lst [V.ref pb])) C (.dK [])) al (.lst [])) (a:=so) (o:=.lst []);have hao:al≠so:=λz=>by rw[<-z,al6]at hso;cases hso
 have sdn:=(s13.trans s4).free hsd;have aln:=(s13.trans (s4.trans s5)).free hal;have son:=(s13.trans (s4.trans (s5.trans s6))).free hso;have s17:=s13.trans (s4.trans (s5.trans (s6.trans s7)));try dsimp only
 generalize aA (aA (aA (aA H3 st (.lst [V.ref pb])) C (.dK [])) al (.lst [])) so (.lst [])=H7 at *;refine JD (λσ H'=>∃(n:Nat)(wl:List (HK×Aw))(st:Aw)(as:List Aw)(hl:List HK)(kv:List (List HK×V))(u8 u9 u10 Z G D:Option V),σ=[ac tw,ac pn,ac pl,ac Ua,ac st,ac C,ac al,ac so,u8,u9,u10,Z,G,D]/\FO nm I Ua C al so n wl st as hl kv H'/\Z8 H1 H') (λ_ H'=>match H' al with|some (.lst l)=>400-l.length|_=>0) ⟨0,[],st,[pb],[I.map wV],[],none,none,none,none,none,none,U,⟨k7,fL,(λ_ z=>nomatch z),(λ_ z=>nomatch z),st7,⟨U,λi a h ha hh=>?_⟩,fZ.mpr ⟨nofun,fL⟩,λh=>by rw[c7.zero,cA],al7,so7,⟨fL,(show 0<sizeLine by decide),.inl ⟨U,sd7⟩⟩,U,λ_ z=>nomatch z⟩,s17⟩ ?_
 .match i with
  |0=>cases ha;cases hh;exact b7
  |i+1=>simp at ha
 rintro σ H8 ⟨n,wl,st,as,hl,kv,u8,u9,u10,Z,G,D,rfl,M,s18⟩;have eal:(((List.range n).map λi=>!Tw I nm false i).map V.bl).length=n:=by rw[aF,aF,dY]
 have eso:(((List.range n).map λi=>Tw I nm true i).map V.bl).length=n:=by rw[aF,aF,dY]
 refine⟨_,U,al,_,U,.inl (aB.of M.a),_,_,U,U,_,U,?_⟩;rw[eal]
 by_cases hN:400<=n
 .rw[bF (show¬(n:Int)<400 by lia)];exact ZI (k0 _ (s1.trans s18))
 have hN:n<400:=Vb
 rw[aZ (show(n:Int)<400 by lia)];refine Yl ⟨λσ' H'=>∃(wl:List (HK×Aw))(st:Aw)(as:List Aw)(hl:List HK)(kv:List (List HK×V))(u8 u9 u10 Z G D:Option V),σ'=[ac tw,ac pn,ac pl,ac Ua,ac st,ac C,ac al,ac so,u8,u9,u10,Z,G,D]/\FO nm I Ua C al so (n+1) wl st as hl kv H'/\Z8 H1 H',?_,?_⟩
 .rintro σ' H' ⟨kvs',st',as',hl',kv',w8,w9,w10,w11,w12,w13,rfl,M',s'⟩;refine⟨400-(n+1),?_,?_,n+1,kvs',st',as',hl',kv',w8,w9,w10,w11,w12,w13,U,M',s'⟩
  .rw[M.a];show 400-(n+1)<400-List.length _;rw[eal];lia
  .rw[M'.a];show _=400-List.length _;rw[aF,aF,dY]
 refine⟨_,U,st,_,U,.inl ⟨aB.of M.s,λkey hkey=>Zf ?_⟩⟩;have sk:=Za (o:=.tup (as.map V.ref)) hkey;have T9:=M.t.klt (.of sk);have d9:=qf M.d (sk C) λb xs=>sk b _;have R9:=Tz T9 Zb;have a9:=sk _ _ M.a;have o9:=sk _ _ M.o;have k9:=sk _ _ M.k;have st9:=sk _ _ M.s;have rw9:∀q∈wl,uA nm I (aA H8 key (.tup (as.map V.ref))) q.1 q.2:=λq O=>(M.BE q O).same sk;have s19:=s18.trans sk
 try dsimp only
 generalize aA H8 key (.tup (as.map V.ref))=H9 at *;refine⟨_,U,_,U,_,_,IF,C,key,hl,kv,U,U,d9,R9,_,U,?_⟩;cases hv:Ym kv hl with
 |some v=>
  obtain⟨i,hi,e,hm⟩:=M.dv _ (Zpn hv);obtain rfl:v=.int i:=e;exact Yl ⟨_,U,_,U,_,U,_,U,_,_,IF,C,key,hl,kv,_,U,U,d9,R9,hv,vZ,λp hp=>k p al so i n _ hi hN (λh=>(hm h).symm.trans (M.he h)) Zb (Za hp _ _ a9) (Za hp _ _ o9) (s1.trans (s19.trans (Za hp)))⟩
 |none=>
 refine ZI ⟨_,U,al,_,U,.inl (aB.of a9),_,U,_,U,_,_,IF,C,key,hl,kv,U,U,d9,R9,hv,Zw (by have:=M.dn;lia),λH10 d10 o10 e10=>?_⟩;obtain⟨u,rfl⟩:=e10;obtain⟨os,L,hnl,hnd⟩:=vQ d9;have q9:fH H9 (aA H9 C u):=fH.put L hnl;have k10:=o10 _ _ k9 (Yg k9 L λz=>hnd _ z.symm);have a10:=q9 _ _ a9 trivial;have b10:=q9 _ _ o9 trivial;have st10:=q9 _ _ st9 trivial;have T10:=T9.klt q9;have rw10:∀q∈wl,uA nm I (aA H9 C u) q.1 q.2:=λq O=>(rw9 q O).klt q9;have s10:=Z7 (o:=u) s19 sdn;rw[eal]at d10
 try dsimp only
 generalize aA H9 C u=HA at *;refineλfd hfd=>Zf (λtd htd=>Zf ?_);have sf:=(Za (o:=.dT []) hfd).trans (Za (o:=.dK []) htd);have f12:=Za (o:=.dK []) htd _ _ (Zb (H:=HA) (a:=fd) (o:=.dT []));have t12:=Zb (H:=aA HA fd (.dT [])) (a:=td) (o:=.dK []);have fdn:=s10.free hfd;have tdn:=(s10.trans (Za (o:=.dT []) hfd)).free htd;have hft:fd≠td:=Yg f12 t12 nofun;have k12:=sf _ _ k10;have hkt:Ua≠td:=Yg k12 t12 nofun;have hkf:Ua≠fd:=λz=>by rw[<-z,k10]at hfd;cases hfd
 obtain⟨os,L,_⟩:=vQ d10;have hsf:C≠fd:=λz=>by rw[<-z,L]at hfd;cases hfd
 have aV:C≠td:=λz=>by
  have:=Za (o:=.dT []) hfd _ _ L;rw[z,htd]at this;cases this
 have d12:=qf d10 (sf C) λb xs=>sf b _;have a12:=sf _ _ a10;have b12:=sf _ _ b10;have st12:=sf _ _ st10;have T12:=T10.klt (.of sf);have rw12:∀q∈wl,uA nm I (aA (aA HA fd (.dT [])) td (.dK [])) q.1 q.2:=λq O=>(rw10 q O).same sf;have s12:=s10.trans sf
 try dsimp only
 generalize aA (aA HA fd (.dT [])) td (.dK [])=HB at *;have L12:Bh nm I Ua fd td wl (mJ nm (hl.take 0)) [] [] HB:=⟨k12,M.nd,M.rc,rw12,f12,.inl ⟨U,t12⟩,⟨fL,λx=>by simp[mJ],λx=>by simp[mJ]⟩⟩;refine⟨_,U,st,U,⟨_,aB.of st12⟩,xT (K:=K) (a:=st) (xs:=as.map V.ref) (λi σ H'=>∃(wl:List (HK×Aw))(S:List HK)(bs:Am)(Z G D:Option V),σ=[ac tw,ac pn,ac pl,ac Ua,ac st,ac C,ac al,ac so,ac key,ac fd,ac td,Z,G,D]/\Bh nm I Ua fd td wl (mJ nm (hl.take i)) S bs H'/\fH HB H'/\H' C=HB C/\Z8 H1 H') (ι6 wl [] [] Z G D ⟨U,L12,(λ_ _ e _=>e),U,s12⟩) (λi σ H' _ ⟨_,_,_,_,_,_,_,_,q,_⟩=>aB.of (q _ _ st12 trivial)) ?_ ?_⟩
 .rintro i x σ HC hx ⟨B,S1,bs1,Z,G,D,rfl,P,qC,eC,sC⟩;rw[bG]at hx;obtain⟨a,ha,rfl⟩:=eA.mp hx;have hil:i<hl.length:=by rw[<-T12.1];exact(bW.mp ha).1
  have hh:=aQ hil;have hm:=dZ hil;generalize hl[i]=h at *;have av:=qC _ _ (T12.2 i a h ha hh) trivial;obtain⟨lv,l1,l2,hlv⟩:=(M.he h).mp hm;have hv2:lM I h:=hlv ▸ Ib S lv;have hR:mL nm I h:=⟨lv,hlv⟩;refine Zf ?_;show ZR (C4 _ _ _) _ _ _ _;refine WI (λσ H'=>∃(kvs2:List (HK×Aw))(r:Aw),σ=[ac tw,ac pn,ac pl,ac Ua,ac st,ac C,ac al,ac so,ac key,ac fd,ac td,ac a,G,D]/\(h,r)∈kvs2/\Bh nm I Ua fd td kvs2 (mJ nm (hl.take i)) S1 bs1 H'/\fH HB H'/\H' C=HB C/\Z8 H1 H') (λN hN=>?_) ?_
  .refine⟨_,U,_,U,Ua,Ym (dH V.ref B) (kH h),U,mX.t P.k (by rw[F8];exact av),_,U,?_⟩;show if(!(Ym (dH V.ref B) (kH h)).isSome)=true then _ else _
   by_cases hmk:h∈B.map (·.1)
   .obtain⟨q,O,rfl⟩:=bB.mp hmk;rw[Mb P.nd O];exact ZI (hN _ _ ⟨B,q.2,U,O,P,qC,eC,sC⟩)
   rw[NL hmk];refine Yl ?_;refine ω (D1.same sC) (ε1 λds=>θ2 λd1 d2 d3=>?_);have hch:(cV 2 nm.length).length<=8:=by
    rw[ur];exact cC (tD Va S.n3) Va
   have htC:=sC _ _ (s1 _ _ ht);refine⟨_,U,pl,U,⟨_,aB.of d1⟩,X7 (K:=K) (a:=pl) (xs:=ds.map V.ref) (λi zs H'=>∃bs:List Aw,zs=bs.map V.ref/\bs.length=i/\i<=ds.length/\(∀(j:Nat)(b:Aw)(vs:Aj),bs[j]?=some b->(cV 2 nm.length)[j]?=some vs->∃c,H' b=some (.tup [vb true (nQ nm I h vs),.ref c])/\H' c=some (.tup ((nG nm I h vs).map V.int)))/\Z8 HC H') ⟨[],U,U,cM _,(λj b vs z=>by simp at z),Z8.refl _⟩ (λi zs H'=>ε1 λbs=>θ3 λe1 e2 e3 _=>by rw[e1,aF,e2];exact bL (Y5 Vb)) (λi zs H'=>ε1 λ_=>θ4 λ_ _ _ _ s=>aB.of (s _ _ d1)) ?_ ?_⟩
   .refine λi x zs H8 R hRR hx=>ε1 λbs=>θ4 λzq0 hbl hi hb s8=>?_;subst zq0;rw[bG]at hx;obtain⟨dv,hdv,rfl⟩:=eA.mp hx;have hil:i<ds.length:=(bW.mp hdv).1;have hvs:=aQ (l:=cV 2 nm.length) (i:=i) Vb;obtain⟨hvl,hvb⟩:=Rk (dZ (l:=cV 2 nm.length) (n:=i) Vb);have hdk:=d3 i dv _ hdv hvs;generalize (cV 2 nm.length)[i]=us at *;refine Ds ⟨_,U,_,U,_,U,tw,a,dv,nm,I,h,mB nm us,nD nm us,U,s8 _ _ htC,hl_,s8 _ _ av,s8 _ _ hdk,VL S.nd hvl,λy hy=>?_,S.kp,S.ty,hv2,λp q H9 hp0 hp O s9=>hRR _ _ ⟨bs++[p],by rw[b0];rfl,by rw[bA,hbl];rfl,hil,λj b vs hjb hjv=>?_,s8.trans s9⟩⟩
    .have hix:=nS hy;have h2:=hvb (us.getD (nm.idxOf y) 0) (by rw[bO,aQ Vb];exact dZ _);unfold nD;lia
    .by_cases hj:j<bs.length
     .rw[iX hj]at hjb;obtain⟨c,g1,g2⟩:=hb j b vs hjb hjv;exact⟨c,s9 _ _ g1,s9 _ _ g2⟩
     .have hj2:j<(bs++[p]).length:=(bW.mp hjb).1;rw[bA]at hj2;have ej:j=i:=by simp only[cQ,nL]at hj2;lia
      subst ej;rw[dU Vb,hbl,pM]at hjb;cases hjb;rw[hvs]at hjv;cases hjv;exact⟨q,hp,O⟩
   refine λzs H8=>ε1 λbs=>θ4 λzq0 hbl _ hb s8=>λp hp=>?_;subst zq0;rw[aF,d2]at hbl;have s9:=s8.trans (Za (o:=.lst (bs.map V.ref)) hp);have R9:uA nm I (aA H8 p (.lst (bs.map V.ref))) h p:=⟨bs,Zb,hbl,λj b vs g1 g2=>by
    obtain⟨c,g3,g4⟩:=hb j b vs g1 g2;exact⟨c,Za hp _ _ g3,Za hp _ _ g4⟩⟩
   generalize aA H8 p (.lst (bs.map V.ref))=H9 at *;have P9:=P.same s9;have ndA:((B++[(h,p)]).map (·.1)).Nodup:=by
    rw[b0,Bu];refine⟨P.nd,fZ.mpr ⟨nofun,fL⟩,λy hy z hz q=>hmk ?_⟩;rw[cA.mp hz]at q;have q:y=h:=q;rw[<-q];exact hy
   have hkl:B.length<=360448:=by
    have:=Uh S P.nd λx hx=>by
     obtain⟨q,O,rfl⟩:=bB.mp hx;exact P.rc q O
    rwa [aF]at this
   refine⟨_,U,_,U,Ua,_,U,mU.t (k:=kH h) P9.k (by rw[F8];exact s9 _ _ av) (by rw[Pz];exact Y5 Vb),?_⟩;rw[QM hmk];have qk:fH H9 (aA H9 Ua (.dT (dH V.ref (B++[(h,p)])))):=fH.put P9.k id;refine hN _ _ ⟨B++[(h,p)],p,U,Vd,⟨Zb,ndA,λq O=>?_,λq O=>?_,(Zk hkf.symm).trans P9.f,zj P9.t (Zk hkt.symm),P.acc⟩,qC.trans ((fH.of s9).trans qk),?_,Z7 (sC.trans s9) hkd⟩
   .rcases cT.mp O with z|z
    .exact P.rc q z
    .rw[cA.mp z];exact hR
   .rcases cT.mp O with z|z
    .exact(P9.BE q z).klt qk
    .rw[cA.mp z];exact R9.klt qk
   .obtain⟨os,L,_,hnd⟩:=vQ d12;have e:=s9 _ _ (eC.trans L);rw[Zk (Yg e P9.k (hnd _)),e,L]
  .refine λσ HD=>ε2 λkvs2 r=>θ5 λzq0 hr P qD eD sD=>?_;subst zq0;have av:=qD _ _ (T12.2 i a h ha hh) trivial;obtain⟨bs2,b1,b2,b3⟩:=P.BE _ hr;refine⟨_,U,_,U,Ua,_,U,.inr ⟨_,kH h,a,.inl P.k,U,by rw[F8];exact av,(Mb P.nd hr).symm⟩,r,U,⟨_,aB.of b1⟩,?_⟩;refine xT (K:=K) (a:=r) (xs:=bs2.map V.ref) (λj σ H'=>∃(S:List HK)(bs:Am)(G D:Option V),σ=[ac tw,ac pn,ac pl,ac Ua,ac st,ac C,ac al,ac so,ac key,ac fd,ac td,ac a,G,D]/\Bh nm I Ua fd td kvs2 (mJ nm (hl.take i)++((cV 2 nm.length).take j).map λvs=>(h,vs)) S bs H'/\fH HD H'/\fH HB H'/\H' C=HB C/\Z8 H1 H') (ι4 S1 bs1 G D ⟨U,by rw[Hf,ID,dW];exact P,(λ_ _ e _=>e),qD,eD,sD⟩) (λj σ H' _=>ε4 λ_ _ _ _=>θ3 λ_ _ m _=>aB.of (m _ _ b1 trivial)) ?_ ?_
   .refine λj x σ HE hx=>ε4 λS2 bs3 v12 v13=>θ5 λzq0 P2 mE qE eE sE=>?_;subst zq0;rw[bG]at hx;obtain⟨b,hbi,rfl⟩:=eA.mp hx;have hjl:j<(cV 2 nm.length).length:=by rw[<-b2];exact(bW.mp hbi).1
    have hvs:=aQ hjl;obtain⟨c,c1,c2⟩:=b3 j b _ hbi hvs;have etk:=aE hvs;have c1:=mE _ _ c1 trivial;have c2:=mE _ _ c2 trivial;generalize (cV 2 nm.length)[j]=vs at *;have fl:=Pd F P2.acc.nd (P2.acc.lA M.he λp hp=>by
     rcases cT.mp hp with z|z
     .exact XC.mpr ⟨Ng (XC.mp z).1,(XC.mp z).2⟩
     .obtain⟨vs,h1,rfl⟩:=bB.mp z;exact XC.mpr ⟨hm,Ng h1⟩)
    refine⟨b,_,U,aL.of c1,U,_,_,U,_,_,U,U,?_⟩;refine⟨_,U,_,U,td,decide (nQ nm I h vs=1),bs3,U,U,U,P2.t,λHF hB oF eF=>?_⟩;obtain⟨u,rfl⟩:=eF;obtain⟨ot,hot,hnl,_⟩:=vP P2.t;have qF:fH HE (aA HE td u):=fH.put hot hnl;have fF:=oF _ _ P2.f hft;refine⟨_,U,_,U,fd,_,U,mU.t (k:=kH (nG nm I h vs)) fF (by rw[F8];exact qF _ _ c2 trivial) (by rw[Bk];exact Zw Vb),?_⟩;rw[CM];have qG:=qF.trans (fH.put (u:=.dT (dS (if nG nm I h vs∈S2 then S2 else S2++[nG nm I h vs]))) fF id);refine⟨_,_,_,_,U,⟨(Zk hkf).trans (oF _ _ P2.k hkt),P2.nd,P2.rc,λq O=>(P2.BE q O).klt qG,Zb,zj hB (Zk hft.symm),?_⟩,mE.trans qG,qE.trans qG,(Zk hsf).trans ((Zk aV).trans eE),Z7 (Z7 sE tdn) fdn⟩;rw[etk,b0,<-i4];exact P2.acc.add (h,vs)
   .refine λσ HE=>ε4 λS2 bs3 v12 v13=>θ5 λzq0 P2 _ qE eE sE=>?_;subst zq0;rw[aF,b2,dR,<-Zkt,<-aE hh]at P2;exact ι6 kvs2 S2 bs3 _ _ _ ⟨U,P2,qE,eE,sE⟩
 refine λσ HC=>ε6 λB S1 bs1 Z G D=>θ4 λzq0 P qC eC sC=>?_;subst zq0;rw[aF,T12.1,dR]at P;have aC:=qC _ _ a12 trivial;have bC:=qC _ _ b12 trivial;have dC:=qf d12 (λo e=>eC.trans e) λb xs e=>qC b _ e trivial;have hn64:=Pd F P.acc.nd (P.acc.lA M.he λ_ z=>z);refine⟨_,U,.inl ⟨U,_,aB.of aC⟩,_,U,td,false,bs1,U,U,P.t,al,_,_,U,U,aC,by rw[eal];exact Zw Vb,?_⟩;rw[P.acc.tw S M.he false];refine ω (vP P.t) (ε1 λot=>θ2 λhot hnl _=>?_);have hta:td≠al:=Yg hot aC λz=>hnl (by rw[z];trivial);have hts:td≠so:=Yg hot bC λz=>hnl (by rw[z];trivial);obtain⟨os,L,hnl2,_⟩:=vQ dC;have hsa:C≠al:=Yg L aC λz=>hnl2 (by rw[z];trivial);have hss:C≠so:=Yg L bC λz=>hnl2 (by rw[z];trivial);have hka:Ua≠al:=Yg P.k aC nofun;have hks:Ua≠so:=Yg P.k bC nofun;have hfa:fd≠al:=Yg P.f aC nofun;have hfs:fd≠so:=Yg P.f bC nofun;refine⟨_,U,.inl ⟨U,_,aB.of ((Zk hao.symm).trans bC)⟩,_,U,td,true,bs1,U,U,zj P.t (Zk hta),so,_,_,U,U,(Zk hao.symm).trans bC,by rw[eso];exact Zw Vb,?_⟩;rw[P.acc.tw S M.he true];refine⟨_,U,fd,dS S1,S1,U,.inl ((Zk hfs).trans ((Zk hfa).trans P.f)),(by
    unfold dS dH;rw[bI,bI];rfl),λt ht2 z=>?_,Vb,λl bs T hlf hp hbl htt=>Zf ?_⟩
 .obtain⟨ls,_,_,e⟩:=(P.acc.all M.he t).mp ht2;have:=(Ib S ls).len;rw[e,z]at this;have hty:=S.ty;rw[pI this.symm]at hty;cases hty
 have sl:=Za (o:=.lst (bs.map V.ref)) hlf;have ea:∀(T:Nat->Bool),((List.range n).map T).map V.bl++[V.bl (T n)]=((List.range (n+1)).map T).map V.bl:=λT=>by
  rw[tM,b0,b0];rfl
 refine⟨B,l,bs,T,kv++[(hl,.int n)],_,_,_,_,_,_,U,⟨sl _ _ ((Zk hks).trans ((Zk hka).trans P.k)),P.nd,P.rc,λq O=>(((P.BE q O).put aC).put ((Zk hao.symm).trans bC)).same sl,Zb,⟨hbl,λi a h ha hh=>sl _ _ (htt i a h ha hh)⟩,hp.nodup_iff.mpr P.acc.nd,λh=>hp.mem_iff.trans (P.acc.all M.he h),?_,?_,?_,?_,?_⟩,Z7 (Z7 (Z7 sC aln) son) ?_⟩
 .rw[<-ea λi=>!Tw I nm false i];exact sl _ _ ((Zk hao).trans Zb)
 .rw[<-ea λi=>Tw I nm true i];exact sl _ _ Zb
 .refine qf dC (λo e=>sl _ _ ((Zk hss).trans ((Zk hsa).trans e))) λb xs e=>sl _ _ ((Zk (Yg e bC nofun)).trans ((Zk (Yg e aC nofun)).trans e))
 .rw[bA,M.dn];rfl
 .intro q O;rcases cT.mp O with z|z
  .obtain⟨i,h1,h2,h3⟩:=M.dv q z;exact⟨i,pJ h1,h2,h3⟩
  .rw[cA.mp z];exact⟨n,pE n,U,M.he⟩
 .exact(Z7 (Z7 sC aln) son).free hlf
inductive xD:Prop
 |mk(tw dv kt:Aw)(ys:Ai)(ws:A8)(wl:A0)(sw:Str->Int)(pl:Nat)(kp:Ak)(o:Int)(lt:Ak):vs=[.ref tw,.ref dv,.int pl,.ref kt]->H tw=am ws->ws.length<=100->H dv=some (.dK wl)->Ec wl ys sw->H kt=am (kp.map V.int)->(∀w∈ws,vq ys w)->JF ws->XT ys sw pl kp ws=([o],lt)->lt.length<=kp.length->(∀t l H',H t=none->H' t=am [.int o,.ref l]->H' l=ap (lt.map V.int)->Z8 H H'->Q (.ref t) H')->xD
theorem Vx:bT T.cx P w wv 4 (cE xD):=by
 have I:=xA P wv T TB;have C:=jY P wv T TB;have G:=gs P wv T TB;have F:=jT P wv T TB;have D:=jZ P wv T TB;refine T.cx.go X2 ?_;rintro cdv A xz s H _ Q E hr ⟨tw,dv,kt,ys,B,wl,sw,pl,kp,o,lt,rfl,ht,hl,hd,hc,hk,hw,he,aV,hkl,k⟩;have hu:=jA hr;refine⟨_,(Zc (Zt 4 X2.nd (ZC Zd))
   (Zc (Zt 5 X2.nd (ZC Zd))
   (Zc (YQ dJ U (P0 U T.ig (qv 0)) (X5 6 X2.nd)
   (Zc (Zt 7 X2.nd (Zs T.dz D hr (Zh (qv 4) (Zh (qv 6) Zd))))
   (Zg (ZF (YJ (Zs T.cy I hr (Zh (qv 6) Zd)))
   (Zc (Zt 8 X2.nd (Jm Jt (Z5 ZT (qv 3) (Zm Zq (by rfl) T.af Yc (Zh (qv 5) Zd)))))
   (Zc (Yj (YH c9 fP fS ZM (qv 5) (Zh (Zs T.fi G hr (Zh (qv 6) (Zh (qv 7) (Zh (qv 8) Zd)))) Zd)))
   (Zg (Yj (YH c9 fP fS ZM (qv 4) (Zh (Zs T.dy C hr (Zh (qv 6) (Zh (qv 7) (Zh (qv 8) (Zh (Z5 Zr (qv 5) (Jm Jt Ze)) Zd))))) Zd)))))) (Zg (ZF (YJ (Zm Xx (by rfl) T.ah ZY (Zh (qv 6) (Zh (WH (v:=.ty "int") (by rfl) T.cb Ge U) Zd))))
   (Zg (Yj (YH c9 fP fS ZM (qv 4) (Zh (Jm Jt (Zl WS (Zl uY (qv 6) (qv 2)) Ze)) Zd)))) (Zg (ZF (Zn (ym hu) (qv 6) (qv 1) Vf)
   (Zg (Yj (YH c9 fP fS ZM (qv 4) (Zh (qO hu (qv 1) (qv 6) (λ_ _=>U)) Zd)))) (Zg (Yj (YH c9 fP fS ZM (qv 4) (Zh (Zs T.dm F hr (Zh (qv 6) (Zh (qv 7) Zd))) Zd))))))))))))
   (Zg (Zp (Z3 (Zh (Jx c9 pQ pV Gd (qv 4)) (Zh (qv 5) Zd)))))))),?_⟩
 try dsimp only[L2.iP,L2.cK]
 refine⟨uU,λst O=>Zf ⟨uU,λJ hla0=>Zf ?_⟩⟩;have s1:=Za (o:=.lst []) O;have s2:=s1.trans (Za (o:=.lst []) hla0);have Z:st≠J:=Zo (Zb (H:=H) (a:=st) (o:=.lst [])) hla0;have hlaH:H J=none:=s1.free hla0;refine⟨_,U,tw,_,U,aL.of (s2 _ _ ht),Og (K:=K) (a:=tw) (xs:=B) (λi σ H2=>∃u6 u7 u8,σ=[ac tw,ac dv,ad pl,ac kt,ac st,ac J,u6,u7,u8]/\i<=B.length/\H2 st=ap ((XT ys sw pl kp (B.drop (B.length-i))).1.map V.int).reverse/\H2 J=ap ((XT ys sw pl kp (B.drop (B.length-i))).2.map V.int)/\Z8 H H2) (ι3 none none none ⟨U,cM _,?_,?_,s2⟩) (λi σ H2 _=>ε3 λ_ _ _=>θ4 λ_ _ _ _ s=>aL.of (s _ _ ht)) ?_ ?_⟩
 .rw[Dq,tK,Zk Z];exact Zb
 .rw[Dq,tK];exact Zb
 .refine λi x σ H2 hx=>ε3 λu6 u7 u8=>θ4 λzq0 hi0 Y h2l s3=>?_;subst zq0;obtain⟨hi,hx⟩:=QX hx;have ed:B.drop (B.length-(i+1))=x::B.drop (B.length-i):=by
   rw[show B.length-(i+1)=B.length-1-i by lia,Bd Vb,show B.length-1-i+1=B.length-i by lia];congr 1;exact(bW.mp hx).2
  have hwx:=hw x (cY hx);have hen:=ja B (B.length-(i+1)) he;have hmo:=wB ys sw pl kp B (B.length-(i+1));rw[aV]at hmo;rw[ed]at hen hmo ⊢;have hln:=vt (ys:=ys) (sw:=sw) (pl:=pl) (kp:=kp) (B.drop (B.length-i)) λw h=>hw w (List.mem_of_mem_drop h);have hle2:=ue (B.drop (B.length-i));rw[fX]at hle2;have hmo2:=wz ys sw pl kp x (B.drop (B.length-i));have hlb:=Pr ys sw pl kp (B.drop (B.length-i));rw[fX]at hlb;generalize B.drop (B.length-i)=r at *;have hn:=hen.1;have eC:∀z:V,XT ys sw pl kp (z::r)=match z with
   |.str y=>
    if y∈allR then(CS y ((XT ys sw pl kp r).1.take (aP z)) (-(kp.getD (XT ys sw pl kp r).2.length 0)) (iY y ((XT ys sw pl kp r).1.take (aP z)) (-(kp.getD (XT ys sw pl kp r).2.length 0)))::(XT ys sw pl kp r).1.drop (aP z),(XT ys sw pl kp r).2++[iY y ((XT ys sw pl kp r).1.take (aP z)) (-(kp.getD (XT ys sw pl kp r).2.length 0))])
    else if y∈ys then(sw y::(XT ys sw pl kp r).1.drop (aP z),(XT ys sw pl kp r).2)
    else(Be y ((XT ys sw pl kp r).1.take (aP z))::(XT ys sw pl kp r).1.drop (aP z),(XT ys sw pl kp r).2)
   |.int z'=>(-(bt z' pl)::(XT ys sw pl kp r).1.drop (aP z),(XT ys sw pl kp r).2)
   |_=>XT ys sw pl kp r:=λz=>by cases z<;>rfl
  have eX:=eC x;generalize XT ys sw pl kp r=P at *;obtain⟨q,l2⟩:=P;try dsimp only at *
  have hkx:x=kV (cG x)/\XM x=true:=by
   rcases hwx with⟨y,rfl,_⟩|⟨y,rfl,_⟩|⟨y,rfl,_⟩|⟨z,rfl,_⟩<;>exact⟨U,U⟩
  refine⟨_,U,_,U,st,q.map V.int,x,U,Y,hkx.1,by rw[aF];lia,by rw[aF];lia,λpp H3 Ua hpp L o3=>Zf ?_⟩;rw[<-nR]at hpp;rw[<-oM]at L;have h3l:=o3 _ _ h2l Z.symm;have s4:Z8 H H3:=λb o e=>o3 b o (s3 b o e) (Zo e O);have hln3:(q.take (aP x)).length=aP x:=by rw[c8];lia
  have hps:pp≠st:=λz=>by rw[z,Y]at Ua;cases Ua
  have hpl2:pp≠J:=λz=>by rw[z,h2l]at Ua;cases Ua
  refine⟨_,U,x,U,hkx.2,_,U,?_⟩;have sml:((q.drop (aP x)).map V.int).reverse.length<sizeLine:=by
   rw[tZ,aF,fX];exact Zw Vb
  have fin:∀(v:Int)(Hx:Hp),XT ys sw pl kp (x::r)=(v::q.drop (aP x),l2)->Z8 H3 Hx->aA Hx st (.lst (((q.drop (aP x)).map V.int).reverse++[.int v])) st=ap ((XT ys sw pl kp (x::r)).1.map V.int).reverse/\aA Hx st (.lst (((q.drop (aP x)).map V.int).reverse++[.int v])) J=ap ((XT ys sw pl kp (x::r)).2.map V.int)/\Z8 H (aA Hx st (.lst (((q.drop (aP x)).map V.int).reverse++[.int v]))):=λv Hx e sx=>by
   rw[e];refine⟨by rw[Zb,fW,oE],by rw[Zk Z.symm];exact sx _ _ h3l,Z7 (s4.trans sx) O⟩
  rcases hwx with⟨y,rfl,hy,hny,hn1,hn2⟩|⟨y,rfl,hy,hna,hny,hnp⟩|⟨y,rfl,hy,hna,hnp⟩|⟨z,rfl,hz,hnp⟩
  .show if bP (.str y) (allR.map V.str)=true then _ else _
   rw[ZG,aZ hy];have eX:XT ys sw pl kp (.str y::r)=(CS y (q.take (aP (.str y))) (-(kp.getD l2.length 0)) (iY y (q.take (aP (.str y))) (-(kp.getD l2.length 0)))::q.drop (aP (.str y)),l2++[iY y (q.take (aP (.str y))) (-(kp.getD l2.length 0))]):=by
    rw[eX];exact aK hy
   have hkk:l2.length<kp.length:=by
    rw[eX]at hmo;simp only[bA,cQ,nL]at hmo;lia
   refine Yl ⟨_,U,_,U,J,_,U,.inl (aB.of h3l),kt,_,_,.int (kp.getD l2.length 0),U,U,aL.of (s4 _ _ hk),?_,_,U,?_⟩
   .rw[aF];exact ZK _ U hkk
   try dsimp only
   generalize -(kp.getD l2.length 0)=hh at *;refine Zf ?_;refine⟨_,U,.inl ⟨U,_,aB.of h3l⟩,_,U,_,U,_,U,y,pp,q.take (aP (.str y)),hh,U,hpp,Vb,hy,(λh=>by have:=hn2 h;lia),λH4 s5=>⟨J,_,_,U,U,s5 _ _ h3l,?_,?_⟩⟩
   .rw[aF];exact Zw Vb
   have h5s:aA H4 J (.lst (l2.map V.int++[.int (iY y (q.take (aP (.str y))) hh)])) st=ap ((q.drop (aP (.str y))).map V.int).reverse:=by rw[Zk Z];exact s5 _ _ L
   have h5p:aA H4 J (.lst (l2.map V.int++[.int (iY y (q.take (aP (.str y))) hh)])) pp=ap ((q.take (aP (.str y))).map V.int):=by rw[Zk hpl2];exact s5 _ _ hpp
   have h5l:aA H4 J (.lst (l2.map V.int++[.int (iY y (q.take (aP (.str y))) hh)])) J=ap (l2.map V.int++[.int (iY y (q.take (aP (.str y))) hh)]):=Zb;have s6:Z8 H (aA H4 J (.lst (l2.map V.int++[.int (iY y (q.take (aP (.str y))) hh)]))):=Z7 (s4.trans s5) hlaH;generalize aA H4 J (.lst (l2.map V.int++[.int (iY y (q.take (aP (.str y))) hh)]))=H5 at *;refine⟨_,U,.inl ⟨U,_,aB.of h5s⟩,_,U,_,U,_,U,_,U,1,U,J,_,-1,.int (iY y (q.take (aP (.str y))) hh),U,U,aB.of h5l,Su _ _,y,pp,q.take (aP (.str y)),hh,_,U,h5p,Vb,hy,(λh=>by have:=hn2 h;lia),λH6 s7=>⟨st,_,_,U,U,s7 _ _ h5s,sml,_,_,_,U,hi,?_,?_,Z7 (s6.trans s7) O⟩⟩
   .rw[Zb,eX,fW,oE]
   .rw[Zk Z.symm,eX,b0];exact s7 _ _ h5l
  .show if bP (.str y) (allR.map V.str)=true then _ else _
   rw[ZG,bF hna];have eX:XT ys sw pl kp (.str y::r)=(Be y (q.take (aP (.str y)))::q.drop (aP (.str y)),l2):=by
    rw[eX];show(if y∈allR then _ else if y∈ys then _ else _)=_;rw[aG hna,aG hny]
   refine ZI ⟨_,U,_,_,_,_,U,.str y,X3,_,U,ZI ⟨_,U,_,U,dv,Ym wl (.inr y),U,.inl ⟨wl,.inr y,.inl (s4 _ _ hd),U,U⟩,_,U,?_⟩⟩;show if(Ym wl (.inr y)).isSome=true then _ else _;rw[hc.2 y hny];refine ZI ⟨_,U,.inl ⟨U,_,aB.of L⟩,_,U,_,U,y,pp,q.take (aP (.str y)),U,hpp,hy,by rw[hln3,hnp],λH4 s5=>?_⟩;obtain⟨f1,f2,f3⟩:=fin _ H4 eX s5;exact⟨st,_,_,U,U,s5 _ _ L,sml,_,_,_,U,hi,f1,f2,f3⟩
  .show if bP (.str y) (allR.map V.str)=true then _ else _
   rw[ZG,bF hna];have eX:XT ys sw pl kp (.str y::r)=(sw y::q.drop (aP (.str y)),l2):=by
    rw[eX];show(if y∈allR then _ else if y∈ys then _ else _)=_;rw[aG hna,aK hy]
   refine ZI ⟨_,U,_,_,_,_,U,.str y,X3,_,U,ZI ⟨_,U,_,U,dv,Ym wl (.inr y),U,.inl ⟨wl,.inr y,.inl (s4 _ _ hd),U,U⟩,_,U,?_⟩⟩;show if(Ym wl (.inr y)).isSome=true then _ else _;rw[hc.1 y hy];obtain⟨f1,f2,f3⟩:=fin _ H3 eX (Z8.refl _);exact Yl ⟨_,U,.inl ⟨U,_,aB.of L⟩,_,U,_,U,dv,_,U,.inl ⟨wl,.inr y,.inl (s4 _ _ hd),U,(hc.1 y hy).symm⟩,st,_,_,U,U,L,sml,_,_,_,U,hi,f1,f2,f3⟩
  .show if bP (.int z) (allR.map V.str)=true then _ else _
   rw[uf];refine ZI ⟨_,U,_,_,_,_,U,.int z,WE,_,U,Yl ⟨_,U,.inl ⟨U,_,aB.of L⟩,_,U,_,U,_,_,U,U,EJ pl,_,_,U,U,_,U,?_⟩⟩;have ev:-(Builtin.bitAnd (z/2^(pl:Int).toNat) 1)=-(bt z pl):=by
    rw[mP,lJ];rfl
   try dsimp only
   rw[ev];obtain⟨f1,f2,f3⟩:=fin _ H3 eX (Z8.refl _);exact⟨st,_,_,U,U,L,sml,_,_,_,U,hi,f1,f2,f3⟩
 .refine λσ H2=>ε3 λu6 u7 u8=>θ4 λzq0 hi0 Y h2l s3=>?_;subst zq0;rw[pM,DT,aV]at Y h2l;refine⟨_,U,.inl ⟨U,_,aB.of Y⟩,st,_,.int o,U,U,Y,U,_,U,GF,λtt htt=>?_⟩;have hlt:aA H2 st (.lst []) J=ap (lt.map V.int):=by rw[Zk Z.symm];exact h2l
  have s5:Z8 H (aA H2 st (.lst [])):=Z7 s3 O;exact k tt J _ (s5.free htt) Zb (Za htt _ _ hlt) (s5.trans (Za htt))
inductive Wd(P:Aq)(w:Au)(K:Af)(mg:Ae)(wv:Heap):Prop
 |mk(κ:Type)(dq:DecidableEq κ)(sk:SK κ)(pn f:Aw)(nm:Ai)(b:κ)(bv:V)(nx:κ->List κ)(ot:κ->List V)(Ua:List κ)(τ:Sp):vs=[.ref pn,bv,.ref f]->H pn=am (nm.map V.str)->sk.at_ H b bv->b∈Ua->(∀s∈Ua,(nx s).length<=8/\(ot s).length<=8/\∀x∈nx s,x∈Ua)->Ua.length<=1000000->nm.length<=3->Xi P w K mg wv 12 f H τ->(∀(s:κ)(sv:V)(H1:Hp)(Q':VK),s∈Ua->sk.at_ H1 s sv->Z8 H H1->(∀t r1 r2 ws H2,H2 t=am [.ref r1,.ref r2]->K9 H1 H2 r1 ws->lB sk H2 (nx s) ws->K9 H1 H2 r2 (ot s)->Z8 H1 H2->Q' (.ref t) H2)->τ [sv] H1 Q' E0)->(∀p sts m (l:List κ) ws H',dN nx b l->H' p=am [.ref sts,.ref m]->H sts=none->H' sts=ap ws->lB sk H' l ws->M4 H' m nm 0 (dG nx l) (l.map ot)->Z8 H H'->Q (.ref p) H')->Wd P w K mg wv
def xP(P:Aq)(w:Au)(K:Af)(mg:Ae)(wv:Heap):Sp:=λvs H Q _=>Wd vs H Q P w K mg wv
theorem Ji:bT T.ag P w wv 13 (xP P w K mg wv):=by
 have G:=jy P wv T TB;refine T.ag.go Yn ?_;rintro cdv A xz s H _ Q E hr ⟨κ,_,sk,pn,f,nm,b,bv,nx,ot,Ua,τ,rfl,hpn,hbv,hb,hU,h2,hn3,hc,hτ,k⟩;refine⟨_,(Zc (Zt 3 Yn.nd (ZC (Zh (qv 1) Zd)))
   (Zc (Zt 4 Yn.nd (QE.or (Zf0 (xy hr) (qv 1) Ze) (Zno (Zja (qv 1) Ze W4) U U nofun Va)))
   (Zc (Zt 5 Yn.nd (ZC Zd))
   (Zc (Zt 6 Yn.nd (ZC Zd))
   (Zc (XO dJ (Zn Dh (Zm Zq (by rfl) T.af Yc (Zh (qv 5) Zd)) (Zm Zq (by rfl) T.af Yc (Zh (qv 3) Zd)) (Zz _))
   (Zc (Zt 7 Yn.nd (Zi8 (k:=12) 2 (hr.mono Va) (Zh (Z5 Zr (qv 3) (Zm Zq (by rfl) T.af Yc (Zh (qv 5) Zd))) Zd)))
   (Zc (Yj (YH c9 fP fS ZM (qv 5) (Zh (Z4 Z1 (by rfl) T.ae ZO (Zh (Y8 ({}:ZX (Zj XA) _ ["names","begin","step_of","states","numbers","steps","out","told"] "state" ["states","numbers"] [3,4]) (QI.or (Xb (Z5 ZT (qv 7) Ze)) (X6 (Z5 ZT (qv 7) Ze))) (λ_ _ _ _=>Xv) (λ_ _ _ _=>(Zs T.cz G hr (Zh (qv 0) (Zh (qv 1) (Zh (qv 2) Zd)))))) Zd)) Zd)))
   (Zg (Yj (YH c9 fP fS ZM (qv 6) (Zh (Z4 Z1 (by rfl) T.ae ZO (Zh (Z5 ZT (qv 7) Ze) Zd)) Zd)))))))
   (Zg (Zp (Z3 (Zh (qv 3) (Zh (Z3 (Zh (Z4 Z1 (by rfl) T.ae ZO (Zh (qv 0) Zd)) (Zh Ze (Zh (Z4 Z1 (by rfl) T.ae ZO (Zh (qv 5) Zd)) (Zh (Z4 Z1 (by rfl) T.ae ZO (Zh (qv 6) Zd)) Zd))))) Zd)))))))))),?_⟩
 try dsimp only[L2.iP,L2.cK]
 refine L2.La ?_;intro U5 U4 U3 U2 U1;have hr:∀s∈Ua,∀x∈nx s,x∈Ua:=λs h=>(hU s h).2.2;refine⟨_,U,CV,λst aV=>?_⟩;have s1:=Za (o:=.lst [bv]) aV;refine Zf ?_;have begun:∀(C:Aw)(H3:Hp),H C=none->H3 st=some (.lst [bv])->sk.lN H3 C [b]->sk.at_ H3 b bv->Z8 H H3->U2 {nx:=λ_ H'=>Q .bN H',rt:=Q} [ac pn,some bv,ac f,ac st,ac C,none,none,none] H3:=by
  intro C H3 hndH hst3 hnd3 hbv3 s3;obtain⟨ond,hond,ndT,ndL⟩:=SK.ne hnd3;refine⟨uU,λpp hpp=>Zf ⟨uU,λF hpo=>Zf ?_⟩⟩;have sp:=Za (o:=.lst []) hpp;have so:=sp.trans (Za (o:=.lst []) hpo);have hppH:H pp=none:=s3.free hpp;have hpoH:H F=none:=s3.free (sp.free hpo);have pst:pp≠st:=(Zo hst3 hpp).symm;have pnd:pp≠C:=(Zo hond hpp).symm;have ppo:pp≠F:=Zo Zb hpo;have ost:F≠st:=(Zo (sp _ _ hst3) hpo).symm;have oNd:F≠C:=(Zo (sp _ _ hond) hpo).symm;have rl:∀{H:Hp} {zs:A8} {i:Nat},X0 H zs (jK nx b i)->zs.length=i:=λz=>by
   have:=z.1;unfold jK at this;rw[aF,dY]at this;exact this
  have ol:∀{H:Hp} {zs:A8} {i:Nat},X0 H zs (v3 nx ot b i)->zs.length=i:=λz=>by
   have:=z.1;unfold v3 at this;rw[aF,dY]at this;exact this
  have I:∀{Ha Hb:Hp},Z8 Ha Hb->∀b xs,Ha b=some (.tup xs)->Hb b=some (.tup xs):=λs b xs e=>s _ _ e;refine JD (λσ H2=>∃(i:Nat)(u7:Option V)(zs os ws:A8),σ=[ac pn,some bv,ac f,ac st,ac C,ac pp,ac F,u7]/\H2 st=some (.lst ws)/\lB sk H2 (bE nx b i) ws/\sk.lN H2 C (bE nx b i)/\H2 pp=some (.lst zs)/\H2 F=some (.lst os)/\X0 H2 zs (jK nx b i)/\X0 H2 os (v3 nx ot b i)/\(∀j,j<i->j<(bE nx b j).length)/\i<=(bE nx b i).length/\Z8 H H2) (λ_ H2=>match H2 pp with|some (.lst zs)=>Ua.length-zs.length|_=>0) (ι5 0 none [] [] [bv] ⟨U,so _ _ hst3,lB.one (SK.keep hbv3 (I so)),SK.cW hnd3 (λo e=>so _ _ e) (I so),Za hpo _ _ Zb,Zb,X0.nil,X0.nil,(λj hj=>absurd hj (AL _)),cM _,s3.trans so⟩) ?_;refine λσ H4=>ε5 λi u7 zs os ws=>θ10 λzq0 Y hA4 hnd4 J hpo4 Rz Ro hgo hil s4=>?_;subst zq0;have hzl:=rl Rz;have hol:=ol Ro;have hlen:=K4 hb hr i;have hnod:=qg (nx:=nx) (b:=b) i;have hinU:=Eo hb hr i;refine⟨_,U,pp,_,U,.inl (aB.of J),_,U,st,_,U,.inl (aB.of Y),_,_,U,U,_,U,?_⟩;rw[hzl,hA4.1];refine jB (λhlt=>?_) (λhlt=>?_)
  .have hlt':i<(bE nx b i).length:=by
    have:=dB hlt;lia
   obtain⟨B,hsi⟩:∃B,(bE nx b i)[i]?=some B:=⟨_,aQ hlt'⟩;have hsU:B∈Ua:=hinU _ (cY hsi);obtain⟨r8,o8,rU⟩:=hU B hsU;obtain⟨sv,hsv,hat⟩:=hA4.2 i B hsi;have eR:=Ue (nx:=nx) (b:=b) hsi;have eO:=Ut (nx:=nx) (ot:=ot) (b:=b) hsi;have eS:=vz (nx:=nx) (b:=b) hsi;refine⟨λσ' H'=>∃(u7:Option V)(zs' os' D:A8),σ'=[ac pn,some bv,ac f,ac st,ac C,ac pp,ac F,u7]/\H' st=some (.lst D)/\lB sk H' (bE nx b (i+1)) D/\sk.lN H' C (bE nx b (i+1))/\H' pp=some (.lst zs')/\H' F=some (.lst os')/\X0 H' zs' (jK nx b (i+1))/\X0 H' os' (v3 nx ot b (i+1))/\Z8 H H',?_,?_⟩
   .refine λσ' H'=>ε4 λu8 zs' os' D=>θ8 λzq0 g1 gA g2 g3 g4 g5 g6 s5=>?_;subst zq0;have hpre:(bE nx b i).length<=(bE nx b (i+1)).length:=by
     obtain⟨r,e⟩:=JW (nx B) (bE nx b i);rw[eS,e,bA];lia
    refine⟨Ua.length-(i+1),?_,?_,i+1,u8,zs',os',D,U,g1,gA,g2,g3,g4,g5,g6,λj hj=>?_,Vb,s5⟩
    .rw[J];show Ua.length-(i+1)<Ua.length-zs.length;lia
    .rw[g3];show _=Ua.length-zs'.length;rw[rl g5]
    .by_cases hji:j=i
     .rw[hji];exact hlt'
     .exact hgo j Vb
   .refine ι2 f τ ⟨U,hc.iL s4.iL,_,U,_,U,pp,_,U,.inl (aB.of J),st,_,_,sv,U,U,aB.of Y,by rw[hzl];exact Y7 hsv,qT.refl _,hτ B sv H4 _ hsU hat s4 λtt r1 r2 ws0 H5 htt hr1 hA5 hr2 s5=>?_⟩;refine Zf ?_;generalize hl0:bE nx b i=l0 at *;have hst5:=s5 _ _ Y;have hnd5:sk.lN H5 C l0:=SK.cW hnd4 (λo e=>s5 _ _ e) (I s5);have hpp5:=s5 _ _ J;have hpo5:=s5 _ _ hpo4;refine ω (SK.ne hnd4) (ε1 λond4=>θ2 λZ nd4T nd4L=>?_);have Fw:∀{r:Aw} {ys:A8},K9 H4 H5 r ys->r≠st/\r≠C/\r≠pp/\r≠F:=λ{r ys} z=>by
     have lst:∀{q:Aw} {o:HO},H4 q=some o->(∀xs,o≠.tup xs)->r≠q:=λ{q o} e ht e2=>by
      subst e2;rcases z with z|⟨_,z⟩
      .rw[s5 _ _ e]at z;exact ht ys (Option.some.inj z)
      .rw[e]at z;cases z
     exact⟨lst Y (λ_ z=>nomatch z),lst Z nd4T,lst J (λ_ z=>nomatch z),lst hpo4 λ_ z=>nomatch z⟩
    refine ω (Fw hr1) (θ3 λrst rnd _ _=>?_);refine⟨_,U,.inl ⟨U,_,aB.of hpp5⟩,?_⟩;have hr1':H5 r1=some (.tup ws0)\/H5 r1=some (.lst ws0):=hr1.imp id (λz=>z.1);have w8:ws0.length<=8:=by rw[hA5.1];exact r8
    refine Zjy (a:=r1) (xs:=ws0) (λR hR=>⟨_,U,tt,_,0,_,U,U,aL.of htt,U,hR⟩) hr1' (λj zs H'=>zs=((nx B).take j).map (λx=>Jq ((bE nx b (i+1)).idxOf x))/\(∃D,H' st=some (.lst D)/\lB sk H' (((nx B).take j).foldl YK l0) D)/\sk.lN H' C (((nx B).take j).foldl YK l0)/\(∀b o,H5 b=some o->b≠st->b≠C->H' b=some o)/\∀b,H5 b=none->H' b=none) ⟨U,⟨ws,hst5,hA4.keep (I s5)⟩,hnd5,(λ_ _ e _ _=>e),λ_ e=>e⟩ ?_ ?_ ?_ ?_
    .rintro j zs H6 ⟨rfl,_⟩;rw[aF,c8];exact bL (Zw Vb)
    .refine λj zs H6=>θ4 λ_ _ _ g3 _=>λo e=>?_;exact g3 _ _ e rst rnd
    .refine λj x zs H6 R hR hx=>θ4 λzq0 zq1 g2 g3 g4=>?_;subst zq0;obtain ⟨D,g1,gA⟩:=zq1;have hj:j<(nx B).length:=by rw[<-hA5.1];exact(bW.mp hx).1
     obtain⟨s',hs'⟩:∃s',(nx B)[j]?=some s':=⟨_,aQ hj⟩;have tp6:∀b xs,H5 b=some (.tup xs)->H6 b=some (.tup xs):=λb xs e=>g3 _ _ e (Yg e hst5 nofun) (λz=>by rw[z,s5 _ _ Z]at e;exact nd4T xs (Option.some.inj e));obtain⟨v',hv',hat'⟩:=hA5.2 j s' hs';rw[hx]at hv';cases hv';have hat6:=SK.keep hat' tp6;have e1:((nx B).take (j+1)).foldl YK l0=YK (((nx B).take j).foldl YK l0) s':=by
      rw[aE hs',r9];rfl
     have e2:(bE nx b (i+1)).idxOf s'=(YK (((nx B).take j).foldl YK l0) s').idxOf s':=by
      have e3:(nx B).foldl YK l0=((nx B).drop (j+1)).foldl YK (((nx B).take (j+1)).foldl YK l0):=by rw[<-r9,tE]
      obtain⟨r,e4⟩:=JW ((nx B).drop (j+1)) (((nx B).take (j+1)).foldl YK l0);rw[eS,e3,e4,e1,vf (XS.mpr (.inr U))]
     have hnj:(((nx B).take j).foldl YK l0).Nodup:=jf _ _ hnod;have hlj:(((nx B).take j).foldl YK l0).length<10000000:=by
      have:=Zgr ((nx B).take j) l0;rw[c8]at this;lia
     have ew:((nx B).take (j+1)).map (λx=>Jq ((bE nx b (i+1)).idxOf x))=((nx B).take j).map (λx=>Jq ((bE nx b (i+1)).idxOf x))++[Jq ((bE nx b (i+1)).idxOf s')]:=by
      rw[aE hs',b0];rfl
     rw[ew,e1]at hR;rw[e2]at hR;generalize ((nx B).take j).foldl YK l0=l' at *;refine Ds ⟨_,U,_,U,_,U,κ,_,sk,x,st,C,s',l',D,U,g1,gA.1,g2,hat6,hnj,hlj,λH7 ws7 q1 q0 q2 q3 q4=>hR _ _ ⟨U,⟨ws7,q1,?_⟩,q2,(λb o e h1 h2=>q3 _ _ (g3 b o e h1 h2) h1 h2),λb e=>q4 _ (g4 b e)⟩⟩;have tp7:∀b xs,H6 b=some (.tup xs)->H7 b=some (.tup xs):=λb xs e=>q3 _ _ e (Yg e g1 nofun) λz=>by
      obtain⟨o,e7,h7,_⟩:=SK.ne g2;rw[z,e7]at e;exact h7 xs (Option.some.inj e)
     rcases q0 with⟨hm,rfl⟩|⟨hm,rfl⟩
     .rw[show YK l' s'=l' from aK hm];exact gA.keep tp7
     .rw[show YK l' s'=l'++[s']from aG hm];exact(gA.keep tp7).snoc (SK.keep hat6 tp7)
    .refine λzs1 H6=>θ4 λzq0 zq1 g2 g3 g4=>λl hl=>?_;subst zq0;obtain ⟨D,g1,gA⟩:=zq1;rw[hA5.1,dR]at g2 gA ⊢;rw[<-eS]at g2 gA;have tp6:∀{c:Aw} {ys:A8},H5 c=some (.tup ys)->H6 c=some (.tup ys):=λ{c ys} e=>g3 _ _ e (Yg e hst5 nofun) (λz=>by rw[z,s5 _ _ Z]at e;exact nd4T ys (Option.some.inj e));have hpp6:=g3 _ _ hpp5 pst pnd;have hpo6:=g3 _ _ hpo5 ost oNd;have htt6:=tp6 htt;have L:H6 r2=some (.tup (ot B))\/H6 r2=some (.lst (ot B)):=by
      obtain⟨z1,z2,_⟩:=Fw hr2;rcases hr2 with z|⟨z,_⟩
      .exact .inl (g3 _ _ z z1 z2)
      .exact .inr (g3 _ _ z z1 z2)
     have ndr2:=Fw hr2;refine ι2 l _ ⟨U,.inl ⟨aB.of Zb,λq hq=>?_⟩⟩;have sl:=Za (o:=.lst ((nx B).map λx=>Jq ((bE nx b (i+1)).idxOf x))) hl;have sq:=sl.trans (Za (o:=.tup ((nx B).map λx=>Jq ((bE nx b (i+1)).idxOf x))) hq);have hqp:q≠pp:=(Zo (sl _ _ hpp6) hq).symm;have hqo:q≠F:=(Zo (sl _ _ hpo6) hq).symm;refine⟨pp,_,_,U,U,sq _ _ hpp6,Y5 Vb,?_⟩;have k8:∀c o,H6 c=some o->c≠pp->aA (aA (aA H6 l (.lst ((nx B).map λx=>Jq ((bE nx b (i+1)).idxOf x)))) q (.tup ((nx B).map λx=>Jq ((bE nx b (i+1)).idxOf x)))) pp (.lst (zs++[.ref q])) c=some o:=λc o e hc=>by
      rw[Zk hc];exact sq _ _ e
     have hq8:aA (aA (aA H6 l (.lst ((nx B).map λx=>Jq ((bE nx b (i+1)).idxOf x)))) q (.tup ((nx B).map λx=>Jq ((bE nx b (i+1)).idxOf x)))) pp (.lst (zs++[.ref q])) q=some (.tup ((nx B).map λx=>Jq ((bE nx b (i+1)).idxOf x))):=by
      rw[Zk hqp];exact Zb
     have hp8:=Zb (H:=aA (aA H6 l (.lst ((nx B).map λx=>Jq ((bE nx b (i+1)).idxOf x)))) q (.tup ((nx B).map λx=>Jq ((bE nx b (i+1)).idxOf x)))) (a:=pp) (o:=.lst (zs++[.ref q]));have d8:sk.lN (aA (aA (aA H6 l (.lst ((nx B).map λx=>Jq ((bE nx b (i+1)).idxOf x)))) q (.tup ((nx B).map λx=>Jq ((bE nx b (i+1)).idxOf x)))) pp (.lst (zs++[.ref q]))) C (bE nx b (i+1)):=SK.off (SK.cW g2 (λo e=>sq _ _ e) (I sq)) (sq _ _ hpp6);generalize aA (aA (aA H6 l (.lst ((nx B).map λx=>Jq ((bE nx b (i+1)).idxOf x)))) q (.tup ((nx B).map λx=>Jq ((bE nx b (i+1)).idxOf x)))) pp (.lst (zs++[.ref q]))=H8 at *;have tp8:∀{c:Aw} {ys:A8},H6 c=some (.tup ys)->H8 c=some (.tup ys):=λ{c ys} e=>k8 _ _ e (Yg e hpp6 nofun);have hpo8:=k8 _ _ hpo6 ppo.symm;have last:∀(O:Aw)(H9:Hp),H9 O=some (.tup (ot B))->Z8 H8 H9->H9 F=some (.lst os)/\(aA H9 F (.lst (os++[.ref O])) st=some (.lst D)/\lB sk (aA H9 F (.lst (os++[.ref O]))) (bE nx b (i+1)) D/\sk.lN (aA H9 F (.lst (os++[.ref O]))) C (bE nx b (i+1))/\aA H9 F (.lst (os++[.ref O])) pp=some (.lst (zs++[.ref q]))/\aA H9 F (.lst (os++[.ref O])) F=some (.lst (os++[.ref O]))/\X0 (aA H9 F (.lst (os++[.ref O]))) (zs++[.ref q]) (jK nx b (i+1))/\X0 (aA H9 F (.lst (os++[.ref O]))) (os++[.ref O]) (v3 nx ot b (i+1))/\Z8 H (aA H9 F (.lst (os++[.ref O])))):=by
      intro O H9 ha9 s9;have hpo9:=s9 _ _ hpo8;have tp9:∀{c:Aw} {ys:A8},H9 c=some (.tup ys)->aA H9 F (.lst (os++[.ref O])) c=some (.tup ys):=λ{c ys} e=>by rw[Zk (Yg e hpo9 nofun)];exact e
      have tp59:∀b xs,H5 b=some (.tup xs)->aA H9 F (.lst (os++[.ref O])) b=some (.tup xs):=λb xs e=>tp9 (s9 _ _ (tp8 (tp6 e)));refine⟨hpo9,?_,gA.keep (λb xs e=>tp9 (s9 _ _ (tp8 e))),SK.off (SK.cW d8 (λo e=>s9 _ _ e) (I s9)) hpo9,?_,Zb,?_,?_,λc o' e=>?_⟩
      .rw[Zk ost.symm];exact s9 _ _ (k8 _ _ g1 pst.symm)
      .rw[Zk ppo];exact s9 _ _ hp8
      .rw[eR];exact(yC (λb xs e=>tp59 b xs (s5 _ _ e)) Rz).snoc (tp9 (s9 _ _ hq8))
      .rw[eO];exact(yC (λb xs e=>tp59 b xs (s5 _ _ e)) Ro).snoc (tp9 ha9)
      .have cp:c≠pp:=Zo e hppH;have co:c≠F:=Zo e hpoH;rw[Zk co];exact s9 _ _ (k8 _ _ (g3 _ _ (s5 _ _ (s4 _ _ e)) (Zo e aV) (Zo e hndH)) cp)
     refine⟨_,U,.inl ⟨U,_,aB.of hpo8⟩,_,U,tt,_,1,_,U,U,aL.of (tp8 htt6),U,r2,ot B,U,?_⟩;rcases L with L|L
     .obtain⟨l1,l2⟩:=last r2 H8 (tp8 L) (Z8.refl _);exact .inr ⟨aL.of (tp8 L),F,_,_,U,U,l1,Y5 Vb,_,zs++[.ref q],os++[.ref r2],D,U,l2⟩
     .refine .inl ⟨aB.of (k8 _ _ L ndr2.2.2.1),λO ha9=>?_⟩;obtain⟨l1,l2⟩:=last O (aA H8 O (.tup (ot B))) Zb (Za ha9);exact⟨F,_,_,U,U,l1,Y5 Vb,_,zs++[.ref q],os++[.ref O],D,U,l2⟩
  .have hle:(bE nx b i).length=i:=by
    have:¬(i:Int)<((bE nx b i).length:Int):=λz=>hlt (aZ z);lia
   refine⟨_,U,_,U,pn,_,U,.inr ⟨aL.of (s4 _ _ hpn),_,U,pp,_,U,.inl ⟨aB.of J,λa1 ha1=>⟨_,U,F,_,U,.inl ⟨aB.of (Za ha1 _ _ hpo4),λa2 ha2=>⟨IV,λm hm=>⟨GF,λp hp=>?_⟩⟩⟩⟩⟩⟩⟩;have q1:=Za (o:=.tup zs) ha1;have q2:=Za (o:=.tup os) ha2;have q3:=Za (o:=.tup [.ref pn,.int 0,.ref a1,.ref a2]) hm;have q4:=Za (o:=.tup [.ref st,.ref m]) hp;have qq:=q1.trans (q2.trans (q3.trans q4));refine k p st m (bE nx b i) ws _ ⟨by rw[hle],λj hj=>hgo j (by simp_all)⟩ Zb aV (qq _ _ Y) (hA4.keep (I qq)) ⟨ι3 pn a1 a2 ⟨q4 _ _ Zb,qq _ _ (s4 _ _ hpn),⟨zs,(q2.trans (q3.trans q4)) _ _ Zb,?_,λj r hj=>?_⟩,⟨os,(q3.trans q4) _ _ Zb,?_,λj r hj=>?_⟩⟩⟩ (s4.trans qq)
   .rw[hzl,aF,jh,hle]
   .rw[<-Zgu hle hgo]at hj;obtain⟨a,g1,g2⟩:=Rz.2 j r hj;exact⟨a,g1,qq _ _ g2⟩
   .rw[hol,aF,hle]
   .rw[<-VE hle hgo]at hj;obtain⟨a,g1,g2⟩:=Ro.2 j r hj;exact⟨a,g1,qq _ _ g2⟩
 have fin:∀(C:Aw)(H3:Hp),H C=none->C≠st->(∃o,H3=aA (aA H st (.lst [bv])) C o)->sk.lN H3 C [b]->U2 {nx:=λ_ H'=>Q .bN H',rt:=Q} [ac pn,some bv,ac f,ac st,ac C,none,none,none] H3:=by
  intro C H3 hndH hne ho hd3;obtain⟨o,rfl⟩:=ho;have hnd1:aA H st (.lst [bv]) C=none:=by rw[Zk hne];exact hndH
  have s3:=s1.trans (Za (o:=o) hnd1);exact begun C _ hndH (by rw[Zk hne.symm];exact Zb) hd3 (SK.keep hbv λb xs e=>s3 _ _ e) s3
 cases sk with
 |int f9 inj=>
  have hbv:bv=.int (f9 b):=hbv;subst hbv;refine .inr λC hnd=>?_;have snd:st≠C:=Zo Zb hnd;refine⟨_,U,Zb,[(.inl (f9 b),.int 0)],U,by show 1<=15;decide,Zf ?_⟩;have em:yj [] [((.inl (f9 b):aX),V.int 0)]=nk ([b].map f9):=rfl;rw[em,yM];exact fin C _ (s1.free hnd) snd.symm ⟨_,U⟩ Zb
 |key kn=>
  obtain⟨a,rfl,ha⟩:=id hbv;refine .inl λC hnd=>?_;have snd:st≠C:=Zo Zb hnd;have sn2:=s1.trans (Za (o:=.dK []) hnd);refine⟨_,U,κ,_,kn,a,b,U,Zb,kn.keep _ _ _ _ (λb xs e=>sn2 _ _ e) ha,λH' n' _ ho=>Zf ?_⟩;obtain⟨o,rfl⟩:=ho;rw[yM]at n' ⊢;exact fin C _ (s1.free hnd) snd.symm ⟨_,U⟩ n'
inductive yL(pw:Aw):Prop
 |mk(m:Aw)(nm:Ai)(b:Nat)(nx:Ad)(ot:Az)(tr:Bool):vs=[.ref m]->M4 H m nm b nx ot->Wf nm b nx ot tr->Yy H pw Y1 Y2->(∀f (l cs:Aj) H',yB nx b l->cs=pL (cS nx l) (oS (fJ ot l)) l.length->pD (cS nx l) cs->Di (oS (fJ ot l)) cs->M4 H' f nm 0 (eI (cS nx l) cs) (nX (fJ ot l) cs)->Yy H' pw Y1 Y2->tU pw H H'->Q (.ref f) H')->yL pw
def RV(K:Af)(q:Aw):Sp:=λvs H Q _=>yL vs H Q q
theorem VT:bT T.eu P w wv 14 (RV K t.aq):=by
 have G:=qw P wv T TB;have I:=gp P wv T TB;have D:=xO P wv T TB;have C:=Ji P wv T TB;refine T.eu.F.Q1 XY (λvs H Q E h=>?_) (λA xz s H vs Q E hr h=>?_)
 .obtain⟨_,_,_,_,_,_,rfl,_⟩:=h;rfl
 .obtain⟨m,nm,b,nx,ot,tr,rfl,M,W,B,k⟩:=h;refine⟨_,@nW.out _ _ _ (Zc (Zt 1 XY.nd (Z5 ZT (Zft (kl:=11) C (hr.mono Va) U T.ag.m T.ag.F.kp T.ag.b U (Z5 ZT (qv 0) Ze) (Z5 ZT (qv 0) Ze) T.Vr TB.ie TB.B U U U U (⟨⟨by rfl,by rfl,by rfl,Wm,Wm,Wm,Wm⟩,Wm,Wm,by rfl⟩:QV (Zj zR) _ ["machine","found","steps","out","classes","firsts","least_steps","least_out"] ["state"] ["machine"] [0]) (λ_ _ _ _ us hl=>match us,hl with|[_],_=>rfl) (λ_ _ _ _ _ _ _ hrl=>(Z3 (Zh (Z5 (show i0 _ (mZ K)from ZT) (Z5 (show i0 _ (mZ K)from ZT) (qv 1) Ze) (qv 0)) (Zh (Z5 (show i0 _ (mZ K)from ZT) (Z5 (show i0 _ (mZ K)from ZT) (qv 1) Ze) (qv 0)) Zd))))) Ze))
    (Zc (Zt 2 XY.nd (Z5 ZT (qv 1) Ze))
    (Zc (Zt 3 XY.nd (Z5 ZT (qv 1) Ze))
    (Zc (Zt 4 XY.nd (Zs T.cq D hr (Zh (qv 2) (Zh (qv 3) Zd))))
    (Zc (Zt 5 XY.nd (Zs T.ff I hr (Zh (qv 4) Zd)))
    (Zc (gF (i:=6) XY.nd U U ({}:ZX (Zj zR) _ ["machine","found","steps","out","classes","firsts","least_steps","least_out"] "state" ["classes","steps"] [4,2]) (Xb (qv 5)) (λ_ _ _ _=>Xv) (λ_ _ _ _=>(Zs T.cf G hr (Zh (Z5 (show i0 _ (mZ K)from ZT) (qv 2) (qv 0)) (Zh (qv 1) Zd)))))
    (Zc (gF (i:=7) XY.nd U U ({}:ZX (Zj zR) _ ["machine","found","steps","out","classes","firsts","least_steps","least_out"] "state" ["out"] [3]) (Xb (qv 5)) (λ_ _ _ _=>Xv) (λ_ _ _ _=>(Z5 (show i0 _ (mZ K)from ZT) (qv 1) (qv 0))))
    (Zg (Zp (Z3 (Zh (Z5 ZT (qv 1) Ze) (Zh Ze (Zh (Z4 Z1 (by rfl) T.ae ZO (Zh (qv 6) Zd)) (Zh (Z4 Z1 (by rfl) T.ae ZO (Zh (qv 7) Zd)) Zd)))))))))))))),?_⟩
  try dsimp only[L2.iP,L2.cK]
  refine ω M.ex (ε3 λpn ps po=>θ3 λhm hn R O=>?_);obtain⟨pz,hpz⟩:=B.ex;have tP:∀{b:Aw} {xs:A8},H b=am xs->b≠t.aq:=λe=>Yg e hpz nofun;refine⟨_,U,m,_,0,_,U,U,aL.of hm,U,_,U,m,_,1,_,U,U,aL.of hm,U,B,λcs f H2 hcs hfz hf hT2 o2 hc=>?_⟩;have t2:∀(b:Aw)(xs:A8),H b=am xs->H2 b=am xs:=λb xs e=>o2 _ _ e (tP e);have hL8:=p8 W.n3;refine⟨Nat,inferInstance,.int (λs:Nat=>(s:Int)) (λa b e=>Int.ofNat.inj e),pn,f,nm,b,.int b,(λs=>nx.getD s []),(λs=>ot.getD s []),List.range nx.length,_,U,t2 _ _ hn,U,e8.mpr W.b,(λs hs=>⟨by rw[W.row (e8.mp hs)];exact hL8,by rw[W.or _ (aO (show s<ot.length by rw[W.ol];exact e8.mp hs))];exact hL8,λx hx=>e8.mpr (W.nl _ (aO (e8.mp hs)) x hx)⟩),by rw[dY];exact W.le,W.n3,hc,λs sv H1 Q' hs hat sH hQ=>⟨U,?_⟩,λp sts fm l wsl H3 B3 hp hsts0 hsts hA M3 s3=>?_⟩
  .have hs:=e8.mp hs;have hat:sv=.int s:=hat;subst hat;have th:∀(b:Aw)(xs:A8),H b=am xs->aY cs H1 b=am xs:=λb xs e=>GR hfz sH (sH _ _ (t2 _ _ e)) (λo z=>nomatch z);refine ω ((M.cB th).ex) (ε3 λpn' ps' po'=>θ3 λhm' _ R' O'=>?_);refine ω (vw R' (i:=s) (by rw[aF];exact hs)) (ε2 λas1 a1=>θ2 λg1 g2 g3=>?_);refine ω (vw O' (i:=s) (by rw[W.ol];exact hs)) (ε2 λas2 a2=>θ2 λY f2 f3=>?_);rw[wC]at g3;refine⟨_,U,m,_,2,_,U,U,aL.of hm',U,_,U,ps',_,_,_,U,U,aL.of g1,g2,_,U,m,_,3,_,U,U,aL.of hm',U,_,U,po',_,_,_,U,U,aL.of Y,f2,GF,λq hq hcn=>?_⟩;obtain⟨sq,hq2⟩:=UQ hq hcn;exact hQ q a1 a2 _ _ hq2 (.inl (sq _ _ (iS g3).2)) ⟨by unfold jc;rw[aF],λi k hk=>⟨Jq k,by unfold jc;rw[bG,hk];rfl,U⟩⟩ (.inl (sq _ _ (iS f3).2)) sq
  have B3:=Vl B3;have M3:M4 H3 fm nm 0 (cS nx l) (fJ ot l):=M3;have t3:∀(b:Aw)(xs:A8),H3 b=am xs->aY cs H3 b=am xs:=λb xs e=>GR hfz s3 e (λo z=>nomatch z);have T3:=hT2 H3 s3;have off3:tU t.aq H (aY cs H3):=λb o e hb=>by
   rw[ZJ (λm=>by rw[hcs b m]at e;cases e)];exact s3 _ _ (o2 _ _ e hb)
  have M3':M4 (aY cs H3) fm nm 0 (cS nx l) (fJ ot l):=M3.cB t3;have hp':=t3 _ _ hp;try dsimp only
  generalize aY cs H3=H4 at *;have W1:=Nj W B3;have hl1:=G9 nx l;have hle:=W1.le;have hb1:=W1.b;have C1:=vG B3;refine ω M3'.ex (ε3 λpn4 ps4 po4=>θ3 λhm4 hn4 R4 O4=>?_);refine⟨p,_,1,_,U,U,aL.of hp',U,Zf ?_⟩;refine⟨_,U,fm,_,2,_,U,U,aL.of hm4,U,_,U,fm,_,3,_,U,U,aL.of hm4,U,_,U,_,U,ps4,po4,cS nx l,fJ ot l,oS (fJ ot l),U,R4,O4,Zo1 W1,W1.ol,(λrow h=>⟨by rw[W1.nr row h];exact hL8,W1.nl row h⟩),hb1,Vb,λpc r H5 hpc0 hpc Z aV hnn hcls hcn s5=>?_⟩;have S:pD (cS nx l) r:=⟨Z,aV⟩;have F:=zf hnn;have hfl:=wO r;rw[hl1]at hcn hle;have hcl':r.length=l.length:=by rw[Z,hl1]
  refine⟨_,U,pc,r.map λc:Nat=>(c:Int),U,by rw[hpc,bI];rfl,by rw[aF];lia,λpf H6 hpf0 Ua s6=>?_⟩;have Ua:H6 pf=ap ((Xp r).map Jq):=Ua;have s56:=s5.trans s6;have fR:∀{i f:Nat},(Xp r)[i]?=some f->f<(cS nx l).length:=λ{i f} h=>by
   rw[<-Z];exact(bW.mp (F.at_ _ _ h).1).1
  have fl:(Xp r).length<=1000000:=Vb
  refine Zf ⟨_,U,pf,U,⟨_,aB.of Ua⟩,X7 (K:=K) (a:=pf) (xs:=(Xp r).map Jq) (λi zs H'=>X0 H' zs (((eI (cS nx l) r).map jc).take i)/\i<=(Xp r).length/\Z8 H6 H') ⟨X0.nil,cM _,Z8.refl _⟩ (λi zs H' h=>?_) (λi zs H' h=>aB.of (h.2.2 _ _ Ua)) (λi x zs H7 R7 hR hx h=>?_) (λzs H7 h p1 hp1=>?_)⟩
  .rw[h.1.1,c8];exact bL (Y5 Vb)
  .obtain⟨hZ,hi,s7⟩:=h;rw[bG]at hx;obtain⟨Y,L,rfl⟩:=eA.mp hx;have hil:=(bW.mp L).1;have J:=fR L;have s47:=s56.trans s7;refine ω (vw (R4.same s47) (i:=Y) (by rw[aF];exact J)) (ε2 λas1 a1=>θ2 λg1 g2 g3=>?_);rw[wC]at g3;have r8:=W1.nr _ (aO J);refine Ds ⟨_,U,_,U,ps4,_,_,_,U,U,aL.of g1,g2,_,U,a1,pc,(cS nx l).getD Y [],r.map λc:Nat=>(c:Int),U,g3,?_,(λs hs=>?_),Vb,by rw[aF];lia,λq H8 hq0 hq s8=>hR _ _ ⟨?_,hil,s7.trans s8⟩⟩
   .rw[(s6.trans s7) _ _ hpc,bI];rfl
   .rw[aF,Z];exact W1.nl _ (aO J) s hs
   .have e1:((eI (cS nx l) r).map jc)[i]?=some (jc (((cS nx l).getD Y []).map λx=>r.getD x 0)):=by
     unfold eI;rw[bG,bG,L];rfl
    have e2:(((cS nx l).getD Y []).map λs=>(r.map λc:Nat=>(c:Int)).getD s 0).map V.int=jc (((cS nx l).getD Y []).map λx=>r.getD x 0):=by
     unfold jc;rw[bI,bI];refine fE λs _=>?_;exact congrArg V.int (Vg r s)
    rw[e2]at hq;rw[aE e1];exact(hZ.same s8).snoc hq
  obtain⟨hZ,_,s7⟩:=h;have ll:((Xp r).map Jq).length=((eI (cS nx l) r).map jc).length:=by
   unfold eI;rw[aF,aF,aF]
  rw[ll,dR]at hZ;have u1:=Za (o:=.lst zs) hp1;have hp1':aA H7 p1 (.lst zs) p1=ap zs:=Zb;have hZ1:=hZ.same u1;have s67:=s7.trans u1;try dsimp only
  generalize aA H7 p1 (.lst zs)=H8 at *;have hpf8:=s67 _ _ Ua;refine Zf ⟨_,U,pf,U,⟨_,aB.of hpf8⟩,X7 (K:=K) (a:=pf) (xs:=(Xp r).map Jq) (λi zs H'=>X0 H' zs ((nX (fJ ot l) r).take i)/\i<=(Xp r).length/\Z8 H8 H') ⟨X0.nil,cM _,Z8.refl _⟩ (λi zs H' h=>?_) (λi zs H' h=>aB.of (h.2.2 _ _ hpf8)) (λi x zs H9 R9 hR hx h=>?_) (λzs2 H9 h p2 hp2=>?_)⟩
  .rw[h.1.1,c8];exact bL (Y5 Vb)
  .obtain⟨hZ,hi,s9⟩:=h;rw[bG]at hx;obtain⟨Y,L,rfl⟩:=eA.mp hx;have hil:=(bW.mp L).1;have J:=fR L;refine ω (vw (O4.same ((s56.trans s67).trans s9)) (i:=Y) (by rw[W1.ol];exact J)) (ε2 λas1 a1=>θ2 λg1 g2 g3=>?_);refine Ds ⟨_,U,_,U,po4,_,_,_,U,U,aL.of g1,g2,hR _ _ ⟨?_,hil,s9⟩⟩;have e1:(nX (fJ ot l) r)[i]?=some ((fJ ot l).getD Y []):=by
    unfold nX;rw[bG,L];rfl
   rw[aE e1];exact hZ.snoc g3
  obtain⟨hO,_,s9⟩:=h;have ll2:((Xp r).map Jq).length=(nX (fJ ot l) r).length:=by
   unfold nX;rw[aF,aF]
  rw[ll2,dR]at hO;have u2:=Za (o:=.lst zs2) hp2;have s4z:=(s56.trans s67).trans (s9.trans u2);have hm9:=s4z _ _ hm4;refine Zf ⟨_,U,fm,_,0,_,U,U,aL.of hm9,U,_,U,p1,_,U,.inl ⟨aB.of ((s9.trans u2) _ _ hp1'),λa1 ha1=>⟨_,U,p2,_,U,.inl ⟨aB.of (Za ha1 _ _ Zb),λa2 ha2=>⟨IV,λfr J=>?_⟩⟩⟩⟩⟩;have q1:=Za (o:=.tup zs) ha1;have q2:=Za (o:=.tup zs2) ha2;have q3:=Za (o:=.tup [.ref pn4,.int 0,.ref a1,.ref a2]) J;have q:=(q1.trans q2).trans q3;have s4q:=s4z.trans q;refine k fr l r _ B3 hcn S hcls ⟨ι3 pn4 a1 a2 ⟨Zb,s4q _ _ hn4,⟨zs,(q2.trans q3) _ _ Zb,(hZ1.same ((s9.trans u2).trans q)).1,(hZ1.same ((s9.trans u2).trans q)).2⟩,⟨zs2,q3 _ _ Zb,(hO.same (u2.trans q)).1,(hO.same (u2.trans q)).2⟩⟩⟩ (T3.same s4q) (λb o e hb=>s4q _ _ (off3 b o e hb))
inductive Xw(w:Au)(pw:Aw):Prop
 |mk(tw tn tt:Aw)(ws:A8)(nm:Ai)(o0 o1:V)(B kc:Nat):vs=[.ref tw,.ref tn,.ref tt]->H tw=am ws->ws.length<=100->H tn=am (nm.map V.str)->nm.Nodup->nm.length<=3->H tt=am [o0,o1]->(∀w∈ws,vq nm w)->JF ws->mQ ws=1->(∀z:Int,V.int z∈ws->0<=z/\z<2^B)->kc=Jr ws->(B+1)*2^kc<=1000000->Yy H pw Zy Zu->(∀m (l:List (Int×Ak)) H',dN (eZ nm (Xu (2^nm.length) nm) ws (b9 ws)) (0,List.replicate kc 0) l->M4 H' m nm 0 (dG (eZ nm (Xu (2^nm.length) nm) ws (b9 ws)) l) (l.map (lF nm (Xu (2^nm.length) nm) ws o0 o1))->Yy H' pw Zy Zu->tU pw H H'->Q (.ref m) H')->Xw w pw
def qJ(P:Aq)(w:Au)(K:Af)(mg:Ae)(wv:Heap)(q:Aw):Sp:=λvs H Q _=>Xw vs H Q w q
theorem qK:bT T.ao P w wv 14 (qJ P w K mg wv t.aa):=by
 have G:=Ji P wv T TB;have G_bits_at:=Zdk P wv T TB;have Z:=Vx P wv T TB;have O:=xA P wv T TB;have C:=xl P wv T TB;have I:=j7 P wv T TB;have Ua:=uK P wv T TB;refine T.ao.F.Q1 ZV (λvs H Q E h=>?_) (λA xz s H vs Q E hr h=>?_)
 .obtain⟨_,_,_,_,_,_,_,_,_,rfl,_⟩:=h;rfl
 .obtain⟨tw,tn,tt,r,nm,o0,o1,B,Y,rfl,ht,hl,hn,hnd,hn3,hto,hw,he,aV,hB,hkc,hbig,hT,k⟩:=h;refine⟨_,@nW.out _ _ _ (Zc (Zt 3 ZV.nd (Z4 (gX U) (by rfl) T.ro NN (Zh (Z4 gW (by rfl) T.bq Wm (Zh (Zs T.ft Ua hr (Zh (Zm Zq (by rfl) T.af Yc (Zh (qv 1) Zd)) Zd)) Zd)) Zd)))
    (Zc (Zt 4 ZV.nd (Zs T.df I hr (Zh (qv 1) (Zh (qv 3) Zd))))
    (Zc (Zt 5 ZV.nd (Zs T.cg C hr (Zh (qv 0) Zd)))
    (Zc (Bj (i:=6) (name:= "step_of") (tz:=Ju YV) (body:=Xr YV) (wn:=Zj YV) (sn:=Zy) (ut:=Zu) ZV.nd U (Or.inl U) T.ik TB.bw TB.B U U U U (S0:=Zj Yf) U Wm)
    (Zc (Zt 7 ZV.nd (Z3 (Zh Ze (Zh (Z4 Z1 (by rfl) T.ae ZO (Zh (Y8 ({}:ZX (Zj Yf) _ ["words","names","told","letters","columns","last_place","step_of","begin"] "word" [] []) (X6 (qv 0)) (λ_ _ _ _=>(kB (YJ (Zs T.cy O hr (Zh (qv 0) Zd))))) (λ_ _ _ _=>Ze)) Zd)) Zd))))
    (Zg (Zp (Z5 ZT (UB (kl:=11) (i:=6) (name:= "step_of") (tz:=Ju YV) (body:=Xr YV) (wn:=Zj YV) (ut:=Zu) G (hr.mono Va) U T.ag.m T.ag.F.kp T.ag.b U (Zh (qv 1) (Zh (qv 7) (Zh (qv 6) Zd))) U U (⟨Gb,Wm,Wm,by rfl⟩:Pl (Zj Yf) _ ["words","names","told","letters","columns","last_place","step_of","begin"] ["state"] ["step","place","reached"] ["words","columns","last_place","letters","told"] [0,4,5,3,2]) (λ_ _ _ _ _ us hl=>match us,hl with|[_],_=>rfl) (λ_ _ _ _ _ _ _ hrl=>(Zc (Zt 1 Gb.nd (Yk Z (hrl.mono Va) U T.cx.m T.cx.F.kp T.cx.b .nil Jl (Zh (qv 4) (Zh (qv 5) (Zh (Z5 (show i0 _ (mZ K)from ZT) (qv 0) Ze) (Zh (Z5 (show i0 _ (mZ K)from ZT) (qv 0) Ze) Zd))))))
    (Zc (Zt 2 Gb.nd (Zm (zp U) (by rfl) T.ma Mk (Zh (Zl Y3 (Z5 (show i0 _ (mZ K)from ZT) (qv 0) Ze) Ze) (Zh (qv 6) Zd))))
    (Zc (gF (i:=3) Gb.nd U U ({}:ZX (Zj YV) _ ["state","step","place","reached","words","columns","last_place","letters","told"] "letter" ["place","step"] [2,1]) (show QI _ _ _ (II K (rR 7))from Xb (qv 7)) (λ_ _ _ _=>Xv) (λ_ _ _ _=>(Z3 (Zh (qv 1) (Zh (Yk G_bits_at (hrl.mono Va) U T.cm.m T.cm.F.kp T.cm.b .nil Jl (Zh (Z5 (show i0 _ (mZ K)from ZT) (qv 2) Ze) (Zh (qv 0) Zd))) Zd)))))
    (Zg (Zp (Z3 (Zh (qv 3) (Zh (Y8 ({}:ZX (Zj YV) _ ["state","step","place","reached","words","columns","last_place","letters","told"] "letter" ["told","step"] [8,1]) (show QI _ _ _ (II K (rR 7))from Xb (qv 7)) (λ_ _ _ _=>Xv) (λ_ _ _ _=>(Z5 (show i0 _ (mZ K)from ZT) (qv 1) (Zl WS (Zl uY (Z5 (show i0 _ (mZ K)from ZT) (qv 2) Ze) (qv 0)) Ze)))) Zd)))))))))) Ze)))))))),?_⟩
  try dsimp only[L2.iP,L2.cK]
  have h8:=p8 hn3;have e2:((2:Int)^nm.length)=((2^nm.length:Nat):Int):=by rw[Int.natCast_pow];rfl
  have hflat:∀w∈r,XM w=true/\((∃y,w=.str y)\/∃z:Int,w=.int z):=λw h=>by
   rcases hw w h with⟨y,rfl,_⟩|⟨y,rfl,_⟩|⟨y,rfl,_⟩|⟨z,rfl,_⟩
   .exact⟨U,.inl ⟨y,U⟩⟩
   .exact⟨U,.inl ⟨y,U⟩⟩
   .exact⟨U,.inl ⟨y,U⟩⟩
   .exact⟨U,.inr ⟨z,U⟩⟩
  refine⟨_,U,tn,_,U,.inr (aL.of hn),nm.length,by rw[aF];rfl,Vb,_,U,λpr hpr=>ι2 pr (2^nm.length) ⟨U,by rw[Zb,e2],Vb,λtl htl=>Zf ?_⟩⟩;have s1:=Za (o:=.tF 0 ((2:Int)^nm.length)) hpr;have s2:=s1.trans (Za (o:=.lst ((List.range (2^nm.length)).map λi:Nat=>V.int i)) htl);have htl2:=Zb (H:=aA H pr (.tF 0 ((2:Int)^nm.length))) (a:=tl) (o:=.lst ((List.range (2^nm.length)).map λi:Nat=>V.int i));have htlH:H tl=none:=s1.free htl;try dsimp only
  generalize aA (aA H pr (.tF 0 ((2:Int)^nm.length))) tl (.lst ((List.range (2^nm.length)).map λi:Nat=>V.int i))=H2 at *;refine⟨_,U,_,U,tn,tl,nm,2^nm.length,U,s2 _ _ hn,hnd,Vb,htl2,Vb,λdv wl H3 hdv0 hdv hcol s3=>Zf ?_⟩;have s23:=s2.trans s3;generalize Xu (2^nm.length) nm=sw at *;refine⟨_,U,tw,r,U,s23 _ _ ht,Vb,λw h=>(hflat w h).2,λL H4 hL1 hL2 s4=>Zf ?_⟩;rw[<-RN hL1 hL2]at k;have s24:=s23.trans s4;have hLB:L<=B:=by
   rw[RN hL1 hL2];exact F6 hB
  have hdv4:=s4 _ _ hdv;have htl4:=(s3.trans s4) _ _ htl2;refine⟨hT.same s24,λf c' oc ctv doc H5 hf0 hf hc' hoc hT5 o5=>?_⟩;obtain⟨pz,hpz⟩:=(hT.same s24).ex;have o5':∀{b:Aw} {o:HO},H4 b=some o->(∀ps,o≠.dO ps)->H5 b=some o:=λ{b o} e h=>o5 b o e λz=>by
   rw[z,hpz]at e;exact h _ (Option.some.inj e).symm
  have t5:∀{b:Aw} {xs:A8},H b=am xs->H5 b=am xs:=λe=>o5' (s24 _ _ e) (λ_ z=>nomatch z);have hdv5:=o5' hdv4 (λ_ z=>nomatch z);have htl5:=o5' htl4 (λ_ z=>nomatch z);refine⟨_,U,tw,U,⟨_,aL.of (t5 ht)⟩,XQ (K:=K) (a:=tw) (xs:=r) (λi zs H'=>zs=List.replicate (Jr (r.take i)) (.int 0)/\H'=H5) ⟨U,U⟩ (λi zs H' h=>?_) (λi zs H' h=>by rw[h.2];exact aL.of (t5 ht)) (λi x zs H6 R hR hx h=>?_) (λzs H6 h pl hpl=>?_)⟩
  .rw[h.1,eJ];have:Jr (r.take i)<=(r.take i).length:=HN _ _;rw[c8]at this;exact bL (Zw Vb)
  .obtain⟨rfl,rfl⟩:=h;refine⟨_,U,x,U,(hflat x (cY hx)).1,_,U,?_⟩;have er:Jr (r.take (i+1))=Jr (r.take i)+if bP x (allR.map V.str)=true then 1 else 0:=by
    rw[aE hx];unfold Jr;rw[oW,bA,bU];split<;>rfl
   rw[er]at hR;refine jB (λhb=>?_) (λhb=>?_)
   .rw[aK hb,F7]at hR;exact hR _ _ ⟨U,U⟩
   .rw[aG hb]at hR;exact hR _ _ ⟨U,U⟩
  obtain⟨rfl,rfl⟩:=h;rw[dR,<-hkc];refine ι2 pl _ ⟨U,.inl ⟨aB.of Zb,λtb htb=>⟨GF,λtg htg=>Zf ?_⟩⟩⟩;have q1:=Za (o:=.lst (List.replicate Y (.int 0))) hpl;have q2:=Za (o:=.tup (List.replicate Y (.int 0))) htb;have q3:=Za (o:=.tup [.int 0,.ref tb]) htg;have s6:=q1.trans (q2.trans q3);have htb6:=q3 _ _ (Zb (H:=aA H6 pl (.lst (List.replicate Y (.int 0)))) (a:=tb) (o:=.tup (List.replicate Y (.int 0))));have htg6:=Zb (H:=aA (aA H6 pl (.lst (List.replicate Y (.int 0)))) tb (.tup (List.replicate Y (.int 0)))) (a:=tg) (o:=.tup [.int 0,.ref tb]);try dsimp only
  generalize aA (aA (aA H6 pl (.lst (List.replicate Y (.int 0)))) tb (.tup (List.replicate Y (.int 0)))) tg (.tup [.int 0,.ref tb])=H7 at *;refine⟨_,U,_,U,_,U,f,c',oc,ctv,doc,U,s6 _ _ hf,s6 _ _ hc',hoc,λcs H8 hcs0 hcsF o8 hcall=>?_⟩;have hU:∀s∈oG Y (L+1),(eZ nm sw r L s).length<=8/\(lF nm sw r o0 o1 s).length<=8/\∀x∈eZ nm sw r L s,x∈oG Y (L+1):=λs hs=>⟨by unfold eZ;rw[aF,dY];exact h8,by unfold lF;rw[aF,dY];exact h8,vD hw hkc hs⟩;have t8:∀{b:Aw} {xs:A8},H b=am xs->H8 b=am xs:=λe=>o8 _ _ (s6 _ _ (t5 e));have hUl:(oG Y (L+1)).length<=1000000:=by
   rw[vA];exact cC (Ic _ Vb) hbig
  refine⟨Int×Ak,_,.key PV,tn,f,nm,(0,List.replicate Y 0),.ref tg,eZ nm sw r L,lF nm sw r o0 o1,oG Y (L+1),_,U,t8 hn,⟨tg,U,tb,o8 _ _ htg6,by rw[o8 _ _ htb6,List.map_replicate]⟩,G7.mpr ⟨0,Vb,U,Xn.mpr ⟨eJ,λx hx=>.inl (Ki hx)⟩⟩,hU,hUl,hn3,hcall,λs sv H9 Q' hs hat s9 hQ=>⟨U,?_⟩,λp sts m l wsl H9 B9 hp hsts0 hsts hA M9 s9=>?_⟩
  .obtain⟨a,rfl,tk,ha,htk⟩:=hat;have hk9:∀{b:Aw} {u:HO},H9 b=some u->(∀o,u≠WC o)->aY cs H9 b=some u:=λe h=>GR hcsF s9 e h;have t9:∀{b:Aw} {xs:A8},H9 b=am xs->aY cs H9 b=am xs:=λe=>hk9 e (λ_ z=>nomatch z);refine ω (G7.mp hs) (ε1 λpn=>θ2 λhp1 hp2 hp3=>?_);obtain⟨sp,ks⟩:=s;have hp2:sp=(pn:Int):=hp2;subst hp2;obtain⟨hkl,hkb⟩:=Xn.mp hp3;have hkl:ks.length=Y:=hkl;have ha':=t9 ha;have htk':=t9 htk;have hln:(XT nm sw pn ks r).1.length=1:=by rw[vt r hw,aV]
   have hrm:(XT nm sw pn ks r).2.length=Y:=by rw[vC r hw,hkc]
   obtain⟨o,lt,hstp⟩:∃o lt,XT nm sw pn ks r=([o],lt):=by
    generalize XT nm sw pn ks r=q at hln;obtain⟨q1,q2⟩:=q
    match q1,hln with
    |[o],_=>exact⟨o,q2,U⟩
   have hltl:lt.length=Y:=by rw[hstp]at hrm;exact hrm
   have hsS:C7 nm sw r ((pn:Int),ks)=([o],lt):=hstp;refine⟨_,U,_,U,_,U,a,_,0,_,U,U,aL.of ha',U,_,U,a,_,1,_,U,U,aL.of ha',U,tw,dv,tk,nm,r,wl,sw,pn,ks,o,lt,U,t9 (s9 _ _ (t8 ht)),hl,hk9 (s9 _ _ (o8 _ _ (s6 _ _ hdv5))) (λ_ z=>nomatch z),hcol,htk',hw,he,hstp,by rw[hltl];show Y<=ks.length;lia,λta la H10 hta0 hta hla s10=>Zf ?_⟩;refine⟨_,U,a,_,0,_,U,U,aL.of (s10 _ _ ha'),U,_,_,U,U,_,U,_,_,U,Zf ?_⟩;have em:(if(L:Int)<(pn:Int)+1 then(L:Int)else(pn:Int)+1)=min ((pn:Int)+1) (L:Int):=by split<;>lia
   try dsimp only
   rw[em];have J:H10 tl=ap ((List.range (2^nm.length)).map λi:Nat=>V.int i):=s10 _ _ (hk9 (s9 _ _ (o8 _ _ (s6 _ _ htl5))) (λ_ z=>nomatch z));have hxs:((List.range (2^nm.length)).map λi:Nat=>V.int i).length=2^nm.length:=by rw[aF,dY]
   have hnx:eZ nm sw r L ((pn:Int),ks)=(List.range (2^nm.length)).map λl=>(min ((pn:Int)+1) (L:Int),lt.map λc=>bt c l):=by
    unfold eZ;rw[hsS]
   have hot:lF nm sw r o0 o1 ((pn:Int),ks)=(List.range (2^nm.length)).map λl=>if bt o l=1 then o1 else o0:=by
    unfold lF;rw[hsS];rfl
   refine⟨_,U,tl,U,⟨_,aB.of J⟩,X7 (K:=K) (a:=tl) (xs:=(List.range (2^nm.length)).map λi:Nat=>V.int i) (λi zs H'=>lB (.key PV) H' ((eZ nm sw r L ((pn:Int),ks)).take i) zs/\i<=2^nm.length/\Z8 H10 H') ⟨⟨U,λi k hk=>by cases hk⟩,cM _,Z8.refl _⟩ (λi zs H' h=>?_) (λi zs H' h=>aB.of (h.2.2 _ _ J)) (λi x zs H11 R hR hx h=>?_) (λzs H11 h rl hrl=>Zf ?_)⟩
   .rw[h.1.1,c8];exact bL (Zw Vb)
   .obtain⟨hA,hi,s11⟩:=h;have hil:i<2^nm.length:=by rw[<-hxs];exact(bW.mp hx).1
    rw[qd hil]at hx;cases hx;refine Ds ⟨_,U,_,U,ta,_,1,_,U,U,aL.of (s11 _ _ hta),U,_,U,la,lt,i,U,s11 _ _ hla,?_,Vb,λt5 H12 ht50 ht5 s12=>⟨GF,λq hq=>hR _ _ ⟨?_,hil,s11.trans (s12.trans (Za hq))⟩⟩⟩
    .have:Jr r<=r.length:=HN _ _;lia
    .have en:(eZ nm sw r L ((pn:Int),ks))[i]?=some (min ((pn:Int)+1) (L:Int),lt.map λc=>bt c i):=by rw[hnx,qd hil]
     rw[aE en];refine(hA.keep (H':=aA H12 q (.tup [.int (min ((pn:Int)+1) (L:Int)),.ref t5])) λb xs e=>Za hq _ _ (s12 _ _ e)).snoc ⟨q,U,t5,Zb,Za hq _ _ ht5⟩
   obtain⟨hA,_,s11⟩:=h;rw[hxs,rD (by rw[hnx,aF,dY];exact aN _)]at hA;have s12:=Za (o:=.lst zs) hrl;have hrl12:=Zb (H:=H11) (a:=rl) (o:=.lst zs);try dsimp only
   generalize aA H11 rl (.lst zs)=H12 at *;have D:=s11.trans s12;have htt12:H12 tt=am [o0,o1]:=D _ _ (s10 _ _ (t9 (s9 _ _ (t8 hto))));refine⟨_,U,_,U,tl,U,⟨_,aB.of (D _ _ J)⟩,eT (xs:=(List.range (2^nm.length)).map λi:Nat=>V.int i) (fI λc=>if bt o c.toNat=1 then o1 else o0) (aB.of (D _ _ J)) (by rw[hxs];exact bL (Zw Vb)) (λv hv R hR=>?_) (λq hq=>?_)⟩
   .obtain⟨l,_,rfl⟩:=bB.mp hv;refine⟨_,U,_,U,ta,_,0,_,U,U,aL.of (D _ _ hta),U,_,U,_,_,U,U,EJ l,_,_,U,U,tt,_,_,fI (λc=>if bt o c.toNat=1 then o1 else o0) (V.int l),U,U,aL.of htt12,?_,hR⟩;rw[mP,lJ];show dA [o0,o1] (bt o l)=some (if bt o (l:Int).toNat=1 then o1 else o0);rw[lJ];rcases YI o l with e|e<;>rw[e]<;>rfl
   .refine⟨GF,λt0 ht0 hcn=>?_⟩;have ef:((List.range (2^nm.length)).map λi:Nat=>V.int i).map (fI λc=>if bt o c.toNat=1 then o1 else o0)=lF nm sw r o0 o1 ((pn:Int),ks):=by
     rw[hot,bI];refine fE λl _=>?_;show(if bt o (l:Int).toNat=1 then o1 else o0)=_;rw[lJ]
    rw[ef]at ht0 hcn ⊢;have s13:=Za (o:=.lst (lF nm sw r o0 o1 ((pn:Int),ks))) hq;have s14:=s13.trans (Za (o:=.tup [.ref rl,.ref q]) ht0);have hsame:=s10.trans (D.trans s14);obtain⟨u1,u2,u3⟩:=Zc6 hsame hcn;have hrl14:=s14 _ _ hrl12;have hq14:=Za (o:=.tup [.ref rl,.ref q]) ht0 _ _ (Zb (H:=H12) (a:=q) (o:=.lst (lF nm sw r o0 o1 ((pn:Int),ks))));exact hQ t0 rl q zs _ (u2 _ _ Zb) (.inr ⟨u2 _ _ hrl14,u3 _ _ hrl14 (s10.free (s11.free hrl))⟩) (hA.keep λb xs e=>u2 _ _ ((s12.trans s14) _ _ e)) (.inr ⟨u2 _ _ hq14,u3 _ _ hq14 (s10.free (D.free hq))⟩) u1
  .have keep9:Z8 H7 (aY cs H9):=λb o e=>by
    rw[ZJ λm=>by rw[hcs0 b m]at e;cases e];exact s9 _ _ (o8 _ _ e)
   have tk9:∀(b:Aw)(xs:A8),H9 b=am xs->aY cs H9 b=am xs:=λb xs e=>GR hcsF s9 e (λ_ z=>nomatch z);refine⟨p,_,1,_,U,U,aL.of (tk9 _ _ hp),U,k m l (aY cs H9) B9 ?_ ((hT5.same s6).same keep9) λb o e hb=>keep9 _ _ (s6 _ _ (o5 _ _ (s24 _ _ e) hb))⟩;refine ω M9.ex (ε3 λpn ps po=>θ3 λh1 h2 h3 h4=>?_);exact⟨ι3 pn ps po ⟨tk9 _ _ h1,tk9 _ _ h2,yD h3 tk9,yD h4 tk9⟩⟩
inductive We(w:Au)(pw:Aw):Prop
 |mk(tw tn:Aw)(ws:A8)(nm:Ai)(B kc:Nat):vs=[.ref tw,.ref tn]->H tw=am ws->ws.length<=100->H tn=am (nm.map V.str)->nm.Nodup->nm.length<=3->(∀w∈ws,vq nm w)->JF ws->mQ ws=1->(∀z:Int,V.int z∈ws->0<=z/\z<2^B)->kc=Jr ws->(B+1)*2^kc<=1000000->Yy H pw Zy Zu->(∀m (l:List (Int×Ak)) H',dN (eZ nm (Xu (2^nm.length) nm) ws (b9 ws)) (0,List.replicate kc 0) l->M4 H' m nm 0 (dG (eZ nm (Xu (2^nm.length) nm) ws (b9 ws)) l) (l.map (lF nm (Xu (2^nm.length) nm) ws (.bl false) (.bl true)))->Yy H' pw Zy Zu->tU pw H H'->Q (.ref m) H')->We w pw
def xQ(P:Aq)(w:Au)(K:Af)(mg:Ae)(wv:Heap)(q:Aw):Sp:=λvs H Q _=>We vs H Q w q
theorem xR:bT T.ba P w wv 15 (xQ P w K mg wv t.aa):=by
 refine T.ba.go xK ?_;rintro J A xz s H _ Q E O ⟨tw,tn,ws,nm,B,kc,rfl,ht,hl,hn,G,D,hw,he,aV,L,C,q,Y,k⟩;refine⟨_,(Zg (Zp (Yk (qK P wv T TB) (O.mono Va) U T.ao.m T.ao.F.kp T.ao.b .nil Jl (Zh (qv 0) (Zh (qv 1) (Zh (Z3 (Zh YO (Zh YO Zd))) Zd)))))),⟨_,U,_,U,Va,λtt I=>?_⟩⟩;have r:=Za (o:=.tup [.bl false,.bl true]) I;exact⟨tw,tn,tt,ws,nm,_,_,B,kc,U,r _ _ ht,hl,r _ _ hn,G,D,Zb,hw,he,aV,L,C,q,Y.same r,λm l H' h1 h2 Z h4=>k m l H' h1 h2 Z λb o e Ua=>h4 _ _ (r _ _ e) Ua⟩
inductive XI(w:Au)(pw pl:Aw):Prop
 |mk(t:Aw)(ws:A8):vs=[.ref t]->H t=am ws->(∀w∈ws,x6 w)->ws.length<=60->(∀ms,i5 ws ms->Yz ms ws)->Yy H pw Zy Zu->Yy H pl Y1 Y2->(∀f ms nx ot H',i5 ws ms->M4 H' f ms 0 nx ot->Wf ms 0 nx ot true->tY ws ms nx ot->(FJ ms ws->EX nx (2^ms.length))->Yy H' pw Zy Zu->Yy H' pl Y1 Y2->IT pw pl H H'->Q (.ref f) H')->XI w pw pl
def xo(P:Aq)(w:Au)(K:Af)(mg:Ae)(wv:Heap)(q pl:Aw):Sp:=λvs H Q _=>XI vs H Q w q pl
theorem xp:bT T.ck P w wv 16 (xo P w K mg wv t.aa t.aq):=by
 refine T.ck.go xk ?_;rintro cdv A xz s H _ Q E O ⟨tw,Y,rfl,ht,hw,hl,hC,TW,TL,k⟩;refine⟨_,(Zg (Zp (Yk (VT P wv T TB) (O.mono Va) U T.eu.m T.eu.F.kp T.eu.b .nil Jl (Zh (Yk (xR P wv T TB) (O.mono Va) U T.ba.m T.ba.F.kp T.ba.b .nil Jl (Zh (qv 0) (Zh (Yk (uR P wv T TB) (O.mono Va) U T.bz.m T.bz.F.kp T.bz.b .nil Jl (Zh (qv 0) Zd)) Zd))) Zd)))),?_⟩;have D:=T.ib;refine⟨_,U,_,U,tw,Y,U,ht,hw,hl,λtn H1 q hn0 hn C hp hs=>?_⟩;have S:=hC q ⟨hp,hs⟩;have f:=S.ty.facts;refine⟨tw,tn,Y,q,10,_,U,C _ _ ht,S.ln,hn,S.nd,S.n3,S.wc,f.2.1,f.2.2,S.iz,U,S.big,TW.same C,λm l H2 B M Ua o2=>?_⟩;have MC:Hk q Y l H2 m:=⟨B,M⟩;have W1:=MC.wf S;obtain⟨pz,hz⟩:=(TW.same C).ex;have r:=(TL.same C).other D ⟨pz,hz⟩ o2;refine⟨m,q,0,_,_,true,U,M,W1,r,λg lf cs H3 hB G St J Mg Z o3=>?_⟩;have L:AU q 0 _ _ true lf cs:=⟨W1,hB,G,St,J⟩;have I:=Ua.other D.symm r.ex o3;refine k g q _ _ H3 ⟨hp,hs⟩ Mg L.W2 (λW ls hW hl hx=>?_) (λR=>Zpk S B L ⟨λs hs=>L.W2.nr _ (aO hs),λls h=>K0 ⟨L.W2.b,L.W2.ol,L.W2.nr,L.W2.nl,L.W2.or⟩ L.W2.b h⟩ R) I Z λb o e h1 h2=>o3 _ _ (o2 _ _ (C _ _ e) h1) h2;obtain⟨b,e1,e2⟩:=Zg6 (ls:=ls) (W:=W) S MC hW Vb hx;rw[rD Vb]at e1;exact⟨b,e1,by rw[<-Q0 L.al.MM L.W.nr L.W2.nr L.al.b hx];exact e2⟩
inductive Jj(w:Au)(pw pl:Aw):Prop
 |mk(t:Aw)(ws:A8)(wb:Bool):vs=[.ref t,.bl wb]->H t=am ws->(∀w∈ws,x6 w)->ws.length<=60->(∀ms,i5 ws ms->Yz ms ws)->(∀ms,i5 ws ms->FJ ms ws)->Yy H pw Zy Zu->Yy H pl Y1 Y2->(∀p q1 q2 ms tl rg H',i5 ws ms->Ya (Tw ws ms wb) tl rg->H' p=am [.ref q1,.ref q2]->H' q1=am (tl.map V.bl)->H' q2=am (rg.map V.bl)->tl.length<=100000->rg.length<=100000->Yy H' pw Zy Zu->Yy H' pl Y1 Y2->IT pw pl H H'->Q (.ref p) H')->Jj w pw pl
def ya(P:Aq)(w:Au)(K:Af)(mg:Ae)(wv:Heap)(q pl:Aw):Sp:=λvs H Q _=>Jj vs H Q w q pl
theorem Gy:bT T.ai P w wv 17 (ya P w K mg wv t.aa t.aq):=by
 have G:=uP P wv T TB;have F:=uM P wv T TB;have r:=xp P wv T TB;refine T.ai.go Ye ?_;rintro cdv A xz s H _ Q E hr ⟨tw,D,wb,rfl,ht,hw,hl,hC,hrm,TW,TL,k⟩;have hu:=jA hr;refine⟨_,(Zc (Zt 2 Ye.nd (Zs T.ck r hr (Zh (qv 0) Zd)))
   (Zc (Zt 3 Ye.nd (Z5 ZT (qv 2) Ze))
   (Zc (Zt 4 Ye.nd (Y8 ({}:ZX (Zj Xz) _ ["claim","wanted","machine","steps","telling","states","places","truths"] "row" ["wanted"] [1]) (X6 (Z5 ZT (qv 2) Ze)) (λ_ _ _ _=>Xv) (λ_ _ _ _=>(ZS (show bZ _ (compareOp .In) (Hu K false)from ZW) (qv 1) (qv 0) Vf))))
   (Zc (Zt 5 Ye.nd (Z3 (Zh (Z5 ZT (qv 2) Ze) Zd)))
   (Zc (Zt 6 Ye.nd vc)
   (Zc (Zt 7 Ye.nd (ZC Zd))
   (Zc (XO dJ (Zn (WK hu) (qv 5) (qv 6) Vf)
   (Zc (J1 hu (qv 6) (qv 5) (Zm Zq (by rfl) T.af Yc (Zh (qv 7) Zd)) U)
   (Zc (Yj (YH c9 fP fS ZM (qv 7) (Zh (Zm (TK U) (by rfl) T.R1 Wm (Zh (Y8 ({}:ZX (Zj Xz) _ ["claim","wanted","machine","steps","telling","states","places","truths"] "state" ["telling"] [4]) (X6 (qv 5)) (λ_ _ _ _=>Xv) (λ_ _ _ _=>(Z5 (show i0 _ (AY K)from Zr) (qv 1) (qv 0)))) Zd)) Zd)))
   (Zg (Zt 5 Ye.nd (Zs T.fu F hr (Zh (qv 5) (Zh (qv 3) Zd))))))))
   (Zg (Zp (Zs T.fy G hr (Zh (YE YZ (qv 7) Xs (YR (qO hu (qv 6) (qv 5) (λ_ _=>U)))) (Zh (YE YZ (qv 7) (YR (qO hu (qv 6) (qv 5) (λ_ _=>U))) Xs) Zd)))))))))))),?_⟩
 try dsimp only[L2.iP,L2.cK]
 refine⟨_,U,tw,D,U,ht,hw,hl,hC,TW,TL,λf B nx ot H1 hN M I hT hF TW1 TL1 o1=>Zf ?_⟩;refine ω M.ex (ε3 λpn ps po=>θ3 λhm hn R O=>?_);have Sk:=hC B hN;have Mc:rE nx (2^B.length):=⟨λs hs=>I.nr _ (aO hs),λls h=>K0 ⟨I.b,I.ol,I.nr,I.nl,I.or⟩ I.b h⟩;have ho:∀s,s<nx.length->(ot.getD s []).length=2^B.length:=λs hs=>I.or _ (aO (show s<ot.length by rw[I.ol];exact hs));have hob:∀s,s<ot.length->∀v∈ot.getD s [],∃b:Bool,v=.bl b:=λs hs v hv=>by
  rcases I.ok _ (aO hs) v hv with⟨_,b,e⟩|⟨z,_⟩
  .exact⟨b,e⟩
  .cases z
 have hF2:∀{k:Nat} {S:Aj},S.Nodup->(∀x∈S,AV nx (2^B.length) k x)->S.length<=63:=(hF (hrm B hN)).set;have hF3:∀{k:Nat},(∀i j,i<j->j<k->Wk nx (2^B.length) i≠Wk nx (2^B.length) j)->k<=65546:=λ{k} h=>cC ((hF (hrm B hN)).turns h) Va;have hti:∀i,Tw D B wb i=true↔_:=λi=>Bb (wb:=wb) (i:=i) Sk hT Mc ho;generalize 2^B.length=n at *;refine⟨_,U,f,_,2,_,U,U,aL.of hm,U,Zf ?_⟩;revert O;refine ε1 λas=>θ2 λo2 o3 o4=>?_;have asl:as.length<=1000000:=by rw[o3,I.ol];exact I.le
 refine⟨_,U,f,_,3,_,U,U,aL.of hm,U,po,U,⟨_,aL.of o2⟩,XQ (xs:=as) (λi zs H'=>zs=(List.range i).map (λs=>V.bl (bP (.bl wb) (ot.getD s [])))/\i<=as.length/\H'=H1) ⟨U,cM _,U⟩ (λi zs H' ⟨e,hi,_⟩=>by rw[e,aF,dY];exact bL (Y5 Vb)) (λi zs H' ⟨_,_,e⟩=>by rw[e];exact aL.of o2) ?_ ?_⟩
 .rintro i x zs H' N hN hx ⟨rfl,hi,rfl⟩;have hil:i<ot.length:=by rw[<-o3];exact(bW.mp hx).1
  obtain⟨ra,e1,e2⟩:=o4 i ot[i] (aQ hil);rw[hx]at e1;cases e1;have hg:ot.getD i []=ot[i]:=by rw[bO,aQ hil];rfl
  refine Ds ⟨_,U,_,U,ra,_,U,.inr (aL.of e2),U,mK.mpr λv hv=>?_,hN _ _ ⟨?_,Vb,U⟩⟩
  .obtain⟨b,rfl⟩:=hob i hil v (by rw[hg];exact hv);rfl
  .rw[tM,b0];show _=_++[V.bl (bP (.bl wb) (ot.getD i []))];rw[hg];rfl
 rintro zs H' ⟨rfl,_,e⟩ tl htl;rw[e]at htl ⊢;have asn:as.length=nx.length:=by rw[o3,I.ol]
 rw[asn];have s2:=Za (o:=.lst ((List.range nx.length).map λs=>V.bl (bP (.bl wb) (ot.getD s [])))) htl;have tl2:=Zb (H:=H1) (a:=tl) (o:=.lst ((List.range nx.length).map λs=>V.bl (bP (.bl wb) (ot.getD s []))));generalize aA H1 tl (.lst ((List.range nx.length).map λs=>V.bl (bP (.bl wb) (ot.getD s []))))=H2 at *;refine Zf ⟨_,U,f,_,1,_,U,U,aL.of (s2 _ _ hm),U,CV,λst aV=>Zf ?_⟩;have s3:=s2.trans (Za (o:=.tup [.int ((0:Nat):Int)]) aV);refineλd hd=>Zf ⟨uU,λC J=>Zf ?_⟩;have s4:=s3.trans ((Za (o:=.dT []) hd).trans (Za (o:=.lst []) J));have st4:=(Za (o:=.lst []) J) _ _ ((Za (o:=.dT []) hd) _ _ (Zb (H:=H2) (a:=st) (o:=.tup [.int ((0:Nat):Int)])));have d4:=(Za (o:=.lst []) J) _ _ (Zb (H:=aA H2 st (.tup [.int ((0:Nat):Int)])) (a:=d) (o:=.dT []));have tr4:=Zb (H:=aA (aA H2 st (.tup [.int ((0:Nat):Int)])) d (.dT [])) (a:=C) (o:=.lst []);have tl4:=((Za (o:=.tup [.int ((0:Nat):Int)]) aV).trans ((Za (o:=.dT []) hd).trans (Za (o:=.lst []) J))) _ _ tl2;have d1:H1 d=none:=s3.free hd;have tr1:H1 C=none:=(s3.trans (Za (o:=.dT []) hd)).free J;have htt:tl≠C:=λz=>by
  have:=((Za (o:=.tup [.int ((0:Nat):Int)]) aV).trans (Za (o:=.dT []) hd)) _ _ tl2;rw[z,J]at this;cases this
 generalize aA (aA (aA H2 st (.tup [.int ((0:Nat):Int)])) d (.dT [])) C (.lst [])=H4 at *;refine JD (λσ H'=>∃(k:Nat)(st:Aw),σ=[ac tw,some (.bl wb),ac f,ac ps,ac tl,ac st,ac d,ac C]/\H' st=some (.tup ((Wk nx n k).map Jq))/\H' d=some (.dT (fU nx n k))/\H' C=some (.lst (((List.range k).map (Tw D B wb)).map V.bl))/\H' tl=some (.lst ((List.range nx.length).map λs=>V.bl (bP (.bl wb) (ot.getD s []))))/\(∀i j,i<j->j<k->Wk nx n i≠Wk nx n j)/\Z8 H1 H') (λ_ H'=>match H' C with|some (.lst l)=>100000-l.length|_=>0) (ι2 0 st ⟨U,by rw[Zhl Mc];exact st4,d4,tr4,tl4,λi j h1 h2=>absurd h2 (AL _),s4⟩) ?_;refine λσ Y=>ε2 λq st=>θ6 λzq0 st5 d5 L tl5 hd5 s5=>?_;subst zq0;have hk:=hF3 hd5;have ln:(((List.range q).map (Tw D B wb)).map V.bl).length=q:=by rw[aF,aF,dY]
 have slt:∀s∈Wk nx n q,s<nx.length:=λs hs=>by
  obtain⟨ls,_,hb,rfl⟩:=(Y6 Mc).mp hs;exact Mc.st ls hb
 have ky:Y st=some (.tup ((nB (Wk nx n q)).map kV)):=by rw[Bl];exact st5
 refine⟨_,U,_,U,d,_,U,mX.t d5 ky,_,U,?_⟩
 by_cases hc:(Ym (fU nx n q) (nB (Wk nx n q))).isSome=true
 .rw[hc];obtain⟨j,hj,ej⟩:=CI hc;have dg:mX Y d (.ref st) (ad j):=by
   have:=mX.t d5 ky
   rwa [<-ej,QZ hd5 hj]at this
  refine ZI ⟨_,U,_,U,_,U,d,_,U,dg,_,U,C,_,U,aB.of L,λl1 hl1=>?_⟩;rw[YF,Xl];have s6:=Za (o:=.lst ((((List.range q).map (Tw D B wb)).take j).map V.bl)) hl1;have dg6:mX (aA Y l1 (.lst ((((List.range q).map (Tw D B wb)).take j).map V.bl))) d (.ref st) (ad j):=by
   have:=mX.t (s6 _ _ d5) (s6 _ _ ky)
   rwa [<-ej,QZ hd5 hj]at this
  refine⟨_,U,_,U,_,U,d,_,U,dg6,_,U,C,_,U,aB.of (s6 _ _ L),λl2 hl2=>?_⟩;rw[YF,zS];have s7:=Za (o:=.lst ((((List.range q).map (Tw D B wb)).drop j).map V.bl)) hl2;have lr:((List.range q).map (Tw D B wb)).length=q:=by rw[aF,dY]
  have hp:∀i,Tw D B wb (q+i)=Tw D B wb (j+i):=λi=>by
   rw[mV,hti,hti,P7 Mc ej.symm i]
  refine⟨l1,l2,_,_,Tw D B wb,U,s7 _ _ Zb,Zb,by rw[fX];lia,by rw[fX];lia,by rw[c8];lia,ux hj hp,λp q1 q2 tl' rg' H8 hS h1 h2 h3 h4 h5 s8=>?_⟩;have s18:=s5.trans (s6.trans (s7.trans s8));exact k p q1 q2 B tl' rg' H8 hN hS h1 h2 h3 h4 h5 (TW1.same s18) (TL1.same s18) λb o e x y=>s18 _ _ (o1 _ _ e x y)
 .have hc:(Ym (fU nx n q) (nB (Wk nx n q))).isSome=false:=Bool.eq_false_iff.mpr hc;rw[hc];have hd6:∀i j,i<j->j<q+1->Wk nx n i≠Wk nx n j:=λi j h1 h2=>by
   by_cases e:j=q
   .rw[e];exact AA hc i Vb
   .exact hd5 i j h1 Vb
  refine Yl ⟨λσ' H'=>∃Z:Aw,σ'=[ac tw,some (.bl wb),ac f,ac ps,ac tl,ac Z,ac d,ac C]/\H' Z=some (.tup ((Wk nx n (q+1)).map Jq))/\H' d=some (.dT (fU nx n (q+1)))/\H' C=some (.lst (((List.range (q+1)).map (Tw D B wb)).map V.bl))/\H' tl=some (.lst ((List.range nx.length).map λs=>V.bl (bP (.bl wb) (ot.getD s []))))/\Z8 H1 H',?_,?_⟩
  .refine λσ' H'=>ε1 λZ=>θ5 λzq0 h1 h2 h3 h4 h5=>?_;subst zq0;refine⟨100000-(q+1),?_,?_,q+1,Z,U,h1,h2,h3,h4,hd6,h5⟩
   .rw[L];show _<100000-_;rw[ln];lia
   .rw[h3];show _=100000-_;rw[aF,aF,dY]
  have pd:=SX hc;have dtr:C≠d:=Yg L d5 nofun;have dst:st≠d:=Yg st5 d5 nofun;have dtl:tl≠d:=Yg tl5 d5 nofun;refine⟨_,U,C,_,U,.inl (aB.of L),_,U,_,U,d,_,U,mU.t d5 ky (by rw[Ug];exact Y5 Vb),?_⟩;rw[ln,pd];have st6:aA Y d (.dT (fU nx n (q+1))) st=_:=(Zk dst).trans st5;have Ua:aA Y d (.dT (fU nx n (q+1))) C=_:=(Zk dtr).trans L;have tl6:aA Y d (.dT (fU nx n (q+1))) tl=_:=(Zk dtl).trans tl5;have d6:aA Y d (.dT (fU nx n (q+1))) d=_:=Zb;have s6:Z8 H1 (aA Y d (.dT (fU nx n (q+1)))):=Z7 s5 d1;generalize aA Y d (.dT (fU nx n (q+1)))=H6 at *;have sl:(Wk nx n q).length<=63:=hF2 (k:=q) ((Ga nx n q).imp λh=>cI h) λx hx=>(Y6 Mc).mp hx;refine⟨_,U,.inl ⟨U,_,aB.of Ua⟩,_,U,st,U,⟨_,aL.of st6⟩,z5 (xs:=(Wk nx n q).map Jq) (λv=>match v with|.int z=>.bl (bP (.bl wb) (ot.getD z.toNat []))|v=>v) (aL.of st6) (by rw[aF];exact bL (Y5 Vb)) (λx hx N hN=>?_) (λl hl=>?_)⟩
  .obtain⟨s,hs,rfl⟩:=bB.mp hx;refine⟨_,U,_,U,tl,_,_,_,U,U,aB.of tl6,Y7 (j:=s) ?_,hN⟩;rw[bG,M0 (slt s hs)];rfl
  have e7:((Wk nx n q).map Jq).map (λv=>match v with|.int z=>.bl (bP (.bl wb) (ot.getD z.toNat []))|v=>v)=((Wk nx n q).map λs=>bP (.bl wb) (ot.getD s [])).map V.bl:=by
   rw[bI,bI];rfl
  rw[e7];have s7:=Za (o:=.lst (((Wk nx n q).map λs=>bP (.bl wb) (ot.getD s [])).map V.bl)) hl;have htr7:C≠l:=λz=>by rw[z,hl]at Ua;cases Ua
  have ea:=AB (S:=Wk nx n q) (λs hs=>hob s (by rw[I.ol];exact slt s hs)) (hti q);refine⟨l,_,U,aB.of Zb,?_⟩;rw[ea];have tr7:=s7 _ _ Ua;have st7:=s7 _ _ st6;have tl7:=s7 _ _ tl6;have d7:=s7 _ _ d6;have s17:=s6.trans s7;generalize aA H6 l (.lst (((Wk nx n q).map λs=>bP (.bl wb) (ot.getD s [])).map V.bl))=H7 at *;refine⟨C,_,_,U,U,tr7,by rw[ln];exact Y5 Vb,?_⟩;rw[show((List.range q).map (Tw D B wb)).map V.bl++[V.bl (Tw D B wb q)]=((List.range (q+1)).map (Tw D B wb)).map V.bl by rw[tM,b0,b0];rfl];have ne8:∀{b:Aw} {u:HO},b≠C->H7 b=some u->aA H7 C (.lst (((List.range (q+1)).map (Tw D B wb)).map V.bl)) b=some u:=λ{b u} h e=>(Zk h).trans e;have st8:=ne8 (Yg st7 tr7 nofun) st7;have tl8:=ne8 htt tl7;have d8:=ne8 dtr.symm d7;have tr8:=Zb (H:=H7) (a:=C) (o:=.lst (((List.range (q+1)).map (Tw D B wb)).map V.bl));have s8:Z8 H1 _:=Z7 s17 tr1 (o:=.lst (((List.range (q+1)).map (Tw D B wb)).map V.bl));generalize aA H7 C (.lst (((List.range (q+1)).map (Tw D B wb)).map V.bl))=H8 at *;refine⟨_,U,_,U,st,ps,Wk nx n q,nx,U,st8,R.same s8,slt,λS h1 h2=>?_,λp ms' H9 hp hasc hmem s9=>Zf ⟨p,U,?_,s9 _ _ d8,s9 _ _ tr8,s9 _ _ tl8,s8.trans s9⟩⟩
  .have:=hF2 (k:=q+1) h1 λx hx=>by
    obtain⟨s,a,b⟩:=h2 x hx;exact Mc.succ.mpr ⟨s,(Y6 Mc).mp a,b⟩
   lia
  .rw[<-wU Mc hasc hmem];exact hp
def Sr(P:Aq)(w:Au)(K:Af)(mg:Ae)(wv:Heap)(q pl:Aw):Sp:=Rw (λT i=>!T i) false q pl
theorem SV:bT T.ia P w wv 18 (Sr P w K mg wv t.aa t.aq):=by
 have q:=Tv P wv T TB;refine T.ia.go yK ?_ (by refine λ_ _ _ _=>ε2 λ_ _=>θ1 λzq0 _=>?_;subst zq0;rfl);refine λZ A xz s H _ Q E G=>ε2 λtw ws=>θ8 λzq0 ht hw hl hC C TW TL k=>?_;subst zq0;refine⟨_,(Zc (Zt 1 yK.nd (Yk (Gy P wv T TB) (G.mono Va) U T.ai.m T.ai.F.kp T.ai.b .nil Jl (Zh (qv 0) (Zh YO Zd))))
   (Zg (Zp (Z3 (Zh (Zs T.fq q G (Zh (Z5 ZT (qv 1) Ze) Zd)) (Zh (Zs T.fq q G (Zh (Z5 ZT (qv 1) Ze) Zd)) Zd)))))),?_⟩
 refine⟨_,U,tw,ws,false,U,ht,hw,hl,hC,C,TW,TL,λp q1 q2 Y tl rg H1 N S h1 h2 h3 Ua l2 I D o1=>Zf ?_⟩;refine⟨_,U,p,_,0,_,U,U,aL.of h1,U,q1,tl,U,h2,Ua,λp1 H2 g1 J=>⟨_,U,p,_,1,_,U,U,aL.of (J _ _ h1),U,q2,rg,U,J _ _ h3,l2,λp2 H3 g2 O=>⟨GF,λp3 B=>?_⟩⟩⟩;have L:=Za (o:=.tup [V.ref p1,V.ref p2]) B;have r:=J.trans (O.trans L);exact k p3 p1 p2 Y _ _ _ N S.not Zb (L _ _ (O _ _ g1)) (L _ _ g2) (by rw[aF];exact Ua) (by rw[aF];exact l2) (I.same r) (D.same r) λb o e x y=>r _ _ (o1 _ _ e x y)
def uS(P:Aq)(w:Au)(K:Af)(mg:Ae)(wv:Heap)(q pl:Aw):Sp:=Rw (λT=>T) true q pl
theorem uT:bT T.gc P w wv 18 (uS P w K mg wv t.aa t.aq):=by
 refine T.gc.go uJ ?_ (by refine λ_ _ _ _=>ε2 λ_ _=>θ1 λzq0 _=>?_;subst zq0;rfl);refine λB A xz s H _ Q E C=>ε2 λtw J=>θ8 λzq0 I hw Ua O q L Y k=>?_;subst zq0;refine⟨_,(Zg (Zp (Yk (Gy P wv T TB) (C.mono Va) U T.ai.m T.ai.F.kp T.ai.b .nil Jl (Zh (qv 0) (Zh YO Zd))))),⟨_,U,tw,J,true,U,I,hw,Ua,O,q,L,Y,λp D G r tl Z H' a b c d e f g h i j=>k p D G r tl Z H' a b c d e f g h i j⟩⟩
inductive OS(K:Af)(pl pw:Aw):Prop
 |mk(a:Aw)(ns:Ak):vs=[.ref a]->aB K H a (ns.map V.int)->ns.length<=63->Yy H pl Y1 Y2->Yy H pw Zy Zu->(∀H',Q (.bl true) H')->OS K pl pw
def lW(K:Af)(pl q:Aw):Sp:=λvs H Q _=>OS vs H Q K pl q
theorem CG:bT T.P5 P w wv 19 (lW K t.aq t.aa):=by
 have C:=j6 P wv T TB;have q:=xm P wv T TB;have G_for_some:=uT P wv T TB;have G_for_all:=SV P wv T TB;have I:=vX P wv T TB;have Z:=gq P wv T TB;have L:=vW P wv T TB;have Y:=gy P wv T TB;have Ua:=gv P wv T TB;have O:=X1 P wv T TB;refine T.P5.go Wz ?_;rintro cdv A xz s H _ Q E hr ⟨a,ns,rfl,hS,h63,TL,TW,k⟩;have hu:=jA hr;refine⟨_,(Zc (Zt 1 Wz.nd (Zs T.au O hr (Zh (qv 0) (Zh Ze Zd))))
   (Zc (Zt 2 Wz.nd (Zs T.fj Ua hr (Zh (qv 0) (Zh Ze (Zh (Zl Y3 Ze (Zl ZL (qv 1) Ze)) Zd)))))
   (Zc (Zt 3 Wz.nd Ze)
   (Zc (Zt 4 Wz.nd (ZC (Zh Ze (Zh Ze Zd))))
   (Zc (ZF (Zn Yh (Zm Zq (by rfl) T.af Yc (Zh (qv 2) Zd)) Ze (Zz _))
   (Zc (Zt 3 Wz.nd Ze)
   (Zg (Zt 4 Wz.nd (Z5 Zr (ZC (Zh (ZC (Zh Ze (Zh Ze Zd))) (Zh (ZC (Zh Ze (Zh Ze Zd))) Zd))) (Zl ZL (Zl ZE (qv 1) Ze) Ze))))) Zx)
   (Zc (Zt 5 Wz.nd (Z5 Zr (ZC (Zh Ze (Zh Ze (Zh Ze Zd)))) (Zl ZL (Zl ZE (qv 1) Ze) Ze)))
   (Zc (ZF (Zn Yh (qv 5) Ze (Zz _))
   (Zg (Km (Zl YY (Z5 Zr (qv 4) Ze) Ze) (LX (qv 4) Ze fA))) Zx)
   (Zc (Zt 6 Wz.nd (Zs T.fk Y hr (Zh (qv 0) (Zh Ze (Zh (qv 2) (Zh (qv 3) (Zh (qv 4) (Zh (qv 5) (Zh YO Zd)))))))))
   (Zc (ZF (Zn Yh (Zl ZL (Zl ZE (qv 1) Ze) Ze) Ze (Zz _))
   (Zg (Zt 6 Wz.nd (Zs T.el L hr (Zh (qv 0) (Zh Ze (Zh (qv 2) Zd)))))) Zx)
   (Zc (Zt 7 Wz.nd (Zs T.et I hr (Zh (qv 6) (Zh (Zs T.fg Z hr (Zh (qv 6) Zd)) Zd))))
   (Zc (ZF (Zn Cr (qv 7) Pw Vf)
   (Zg (Zp YO)) Zx)
   (Zc (Zt 8 Wz.nd (Zs T.ia G_for_all hr (Zh (qv 6) Zd)))
   (Zc (Zt 9 Wz.nd (Zs T.gc G_for_some hr (Zh (qv 6) Zd)))
   (Zc (ZF (Jn (gE (yd (YJ (Zs T.bg q hr (Zh (qv 8) Zd)))) (zy (yd (YJ (Zs T.bg q hr (Zh (qv 9) Zd)))))))
   (Zg (Zp YO)) Zx)
   (Zg (Zp (ye (ZS (NJ (we hr)) (qv 8) (Zs T.bp C hr (Zh (Z5 ZT (qv 7) Ze) (Zh (Z5 ZT (qv 7) Ze) Zd))) (Zz _)) (Gf (ZS (NJ (we hr)) (qv 9) (Zs T.bp C hr (Zh (Z5 ZT (qv 7) Ze) (Zh (Z5 ZT (qv 7) Ze) Zd))) (Zz _)))))))))))))))))))),?_⟩
 try dsimp only[L2.iP,L2.cK]
 refine⟨_,U,a,ns,0,U,hS,h63,Vb,λr H1 r0 r1 s1=>Zf ?_⟩;have hS1:=qi hS s1;refine⟨_,U,_,U,_,_,U,U,(by show(0:Int)<3;decide),_,_,U,U,a,ns,1,1+(r%3).toNat,by rw[Ku,FR (lL _ Va)];rfl,hS1,h63,Vb,Vb,λpn nm H2 hpn hnd hl hne hn s2=>Zf (Zf ?_)⟩;have hne:=hne Vb;have s12:=s1.trans s2;have hn3:nm.length<=3:=Vb
 obtain⟨tp,etp,tp0,tp1⟩:∃tp:Int,dA [V.int 16,V.int 16,V.int 1000] (r/12%3)=ad tp/\1<=tp/\tp<=1000:=by
  rcases(by lia:r/12%3=0\/r/12%3=1\/r/12%3=2)with e|e|e<;>rw[e]
  .exact⟨16,U,Va,Va⟩
  .exact⟨16,U,Va,Va⟩
  .exact⟨1000,U,Va,Va⟩
 refine⟨GF,λlf hlf=>Zf ?_⟩;have hlf2:=Zb (H:=H2) (a:=lf) (o:=.lst [V.int 3,V.int 2]);have t0:=Za (o:=.lst [V.int 3,V.int 2]) hlf;try dsimp only
 generalize aA H2 lf (.lst [V.int 3,V.int 2])=H3 at *;show ZR (C4 _ _ _) _ _ _ _;refine WI (λσ H'=>∃(f:Aw)(mo:Nat)(k0 k1:Int),σ=[ac a,ad r,ac pn,ad mo,ac f,none,none,none,none,none]/\1<=mo/\mo<=24/\H2 f=none/\H' f=ap [.int k0,.int k1]/\1<=k0/\0<=k1/\k0+k1<=5/\Z8 H2 H') (λN hN=>?_) ?_
 .refine⟨_,U,pn,_,U,.inl (aB.of (t0 _ _ hpn)),U,_,U,?_⟩
  by_cases e:V.int ((nm.map V.str).length:Int)=V.int 3
  .rw[aZ e];refine Yl (Zf ⟨GF,λf1 hf1=>⟨GF,λf2 hf2=>⟨GF,λlg hlg=>⟨_,U,_,_,U,U,.of Va Va,_,_,U,U,(by show(0:Int)<2;decide),?_⟩⟩⟩⟩);have t1:=Za (o:=.lst [V.int 2,V.int 2]) hf1;have t2:=Za (o:=.lst [V.int 1,V.int 3]) hf2;have t3:=Za (o:=.lst [V.ref f1,V.ref f2]) hlg;have g1:=t3 _ _ (t2 _ _ (Zb (H:=H3) (a:=f1) (o:=.lst [V.int 2,V.int 2])));have g2:=t3 _ _ (Zb (H:=aA H3 f1 (.lst [V.int 2,V.int 2])) (a:=f2) (o:=.lst [V.int 1,V.int 3]));have g3:=Zb (H:=aA (aA H3 f1 (.lst [V.int 2,V.int 2])) f2 (.lst [V.int 1,V.int 3])) (a:=lg) (o:=.lst [V.ref f1,V.ref f2]);have s23:=t0.trans (t1.trans (t2.trans t3));have hf1n:=t0.free hf1;have hf2n:=(t0.trans t1).free hf2;try dsimp only
   generalize aA (aA (aA H3 f1 (.lst [V.int 2,V.int 2])) f2 (.lst [V.int 1,V.int 3])) lg (.lst [V.ref f1,V.ref f2])=H4 at *;rcases(by lia:r/6%2=0\/r/6%2=1)with e|e
   .exact⟨lg,_,_,_,U,U,aB.of g3,by rw[e];rfl,Zf (hN _ _ (ι4 f1 14 2 2 ⟨U,Va,Va,hf1n,g1,Va,Va,Va,s23⟩))⟩
   .exact⟨lg,_,_,_,U,U,aB.of g3,by rw[e];rfl,Zf (hN _ _ (ι4 f2 14 1 3 ⟨U,Va,Va,hf2n,g2,Va,Va,Va,s23⟩))⟩
  .rw[bF e];exact ZI (hN _ _ (ι4 lf 24 3 2 ⟨U,Va,Va,hlf,hlf2,Va,Va,Va,t0⟩))
 refine λσ H5=>ε4 λf mo k0 k1=>θ8 λzq0 mo1 mo24 hf f5 hk0 hk1 hk5 s25=>?_;subst zq0;refine⟨vZ,λl3 hl3=>⟨_,U,_,_,U,U,.of Va Va,_,_,U,U,(by show(0:Int)<3;decide),l3,_,_,_,U,U,aB.of Zb,etp,Zf ?_⟩⟩;have t4:=s25.trans (Za (o:=.lst [V.int 16,V.int 16,V.int 1000]) hl3);have f6:=Za (o:=.lst [V.int 16,V.int 16,V.int 1000]) hl3 _ _ f5;generalize aA H5 l3 (.lst [V.int 16,V.int 16,V.int 1000])=H6 at *;try dsimp only
 show ZR (C4 _ _ _) _ _ _ _;refine WI (λσ H'=>∃k0:Int,σ=[ac a,ad r,ac pn,ad mo,ac f,ad tp,none,none,none,none]/\H' f=ap [.int k0,.int k1]/\0<=k0/\k0+k1<=5/\Z8 H2 H') (λN hN=>?_) ?_
 .refine⟨_,U,U,_,U,?_⟩
  by_cases e:V.int tp=V.int 1000
  .rw[aZ e];exact Yl ⟨_,U,f,_,0,.int k0,U,U,aB.of f6,U,_,_,U,U,_,U,f,_,0,0,U,U,f6,U,hN _ _ ⟨k0-1,U,Zb,Vb,Vb,Z7 t4 hf⟩⟩
  .rw[bF e];exact ZI (hN _ _ ⟨k0,U,f6,Vb,hk5,t4⟩)
 refine λσ H6=>ε1 λk0=>θ4 λzq0 f6 hk0 hk5 t6=>?_;subst zq0;have nef:∀{b:Aw} {o:HO},H2 b=some o->b≠f:=λe z=>by rw[z,hf]at e;cases e
 refine⟨_,U,_,U,_,U,_,U,_,U,a,pn,f,ns,4,nm,mo,tp,k0,k1,U,?_,h63,Vb,mo24,mo1,t6 _ _ hpn,hn3,λy hy=>(hn y hy).k,f6,hk0,hk1,Vb,nef hpn,tp0,tp1,λwa G H7 hwa hwl hty hrm s7=>Zf ?_⟩
 .rcases hS with(z|⟨o,z⟩)|z
  .exact .inl ⟨.inl (t6 _ _ (s12 _ _ z)),nef (s12 _ _ z)⟩
  .exact .inl ⟨.inr ⟨o,t6 _ _ (s12 _ _ z)⟩,nef (s12 _ _ z)⟩
  .exact .inr (.inr z)
 have s07:Z8 H H7:=λb o e=>s7 _ _ (nef (s12 _ _ e)) (t6 _ _ (s12 _ _ e));have n7:=s7 _ _ (nef hpn) (t6 _ _ hpn)
 try dsimp only
 show ZR (C4 _ _ _) _ _ _ _;refine WI (λσ H'=>∃(wa:Aw)(G:A8),σ=[ac a,ad r,ac pn,ad mo,ac f,ad tp,ac wa,none,none,none]/\H' wa=am G/\G.length<=40/\bQ nm G [true]/\Jr G<=15/\(∀ms,i5 G ms->Yz ms G->mF ms G)/\Z8 H H') (λN hN=>?_) ?_
 .refine⟨_,U,_,_,U,U,.of Va Va,_,_,U,U,(by show(0:Int)<2;decide),U,_,U,?_⟩
  by_cases e:V.int (r/3%2)=V.int 0
  .rw[aZ e];exact Yl ⟨_,U,_,U,a,pn,ns,4,nm,U,qi hS s07,h63,Vb,n7,hne,hn,λp G H' hp hl ht hr F s=>Zf (hN _ _ (ι2 p G ⟨U,hp,hl,ht,hr,F,s07.trans s⟩))⟩
  .rw[bF e];exact ZI (hN _ _ ⟨wa,G,U,hwa,Vb,hty,Vb,λms N S=>T4 S (by rw[<-Wx hty.facts.1];lia),s07⟩)
 refine λσ H8=>ε2 λwa G=>θ6 λzq0 hwa hwl hty hrm FH s8=>?_;subst zq0;obtain⟨hsi,hfl⟩:=Fl hty hn;refine⟨_,U,_,U,wa,G,U,hwa,hsi,Vb,λpm H9 ms hpm s9 hp hs=>?_⟩;rw[hfl]at hp;have NC:i5 G ms:=⟨hp,hs⟩;have hC:∀ms,i5 G ms->Yz ms G:=λms N=>AN hty hn hn3 Vb (by omega) N;have one:∀J,i5 G J->J=ms:=λJ N=>yo _ _ N.2 hs (N.1.trans hp.symm);have S:=hC ms NC;have hwl2:G.length<=60:=Vb
 refine⟨wa,pm,G,ms,U,s9 _ _ hwa,hpm,S,hsi,hwl2,FH ms NC S,λHA sA=>Zf ⟨_,U,U,_,U,Yl (k _)⟩,λp q1 q2 bk N HA hb hN he hdu h1 h2 sA=>Zf ⟨_,U,U,_,U,ZI ?_⟩⟩;have wA:=sA _ _ (s9 _ _ hwa);have s0A:=s8.trans (s9.trans sA);have TWA:=TW.same s0A;have TLA:=TL.same s0A;have hR:∀J,i5 G J->FJ J G:=λJ N'=>⟨FH J N' (hC J N'),bk,N,hb,bL hN,by rw[one J N'];exact he⟩;have keep:∀{Ha Hb:Hp},Yy Ha t.aa Zy Zu->Yy Ha t.aq Y1 Y2->IT t.aa t.aq Ha Hb->∀{b:Aw} {u:HO},Ha b=some u->(∀z,u≠.dO z)->Hb b=some u:=λ{Ha Hb} A B o {b u} e hu=>by
  obtain⟨pz1,Co⟩:=A.ex;obtain⟨pz2,sZ⟩:=B.ex;exact o _ _ e (Yg e Co (hu _)) (Yg e sZ (hu _))
 refine⟨_,U,wa,G,U,wA,hsi,hwl2,hC,hR,TWA,TLA,λpA a1 a2 ms1 tA rA HB N1 SA hA hA1 hA2 lA1 lA2 TWB TLB oB=>Zf ?_⟩;have e1:=one _ N1;subst e1;have kb:=@keep _ _ TWA TLA oB;have nt:∀{xs:A8} (z:Ah),HO.tup xs≠.dO z:=λz h=>nomatch h;have nl:∀{xs:A8} (z:Ah),HO.lst xs≠.dO z:=λz h=>nomatch h;refine⟨_,U,wa,G,U,kb wA nt,hsi,hwl2,hC,hR,TWB,TLB,λpB b1 b2 ms2 tB rB HC N2 SB hB hB1 hB2 lB1 lB2 TWC TLC oC=>Zf ?_⟩;have e2:=one _ N2;subst e2;have kc:=@keep _ _ TWB TLB oC;have A:=kc hA nt;have A1:=kc hA1 nt;have A2:=kc hA2 nt;have D:=kc (kb hdu nt) nt;have D1:=kc (kb h1 nl) nl;have D2:=kc (kb h2 nl) nl;have ln:∀T:Nat->Bool,((List.range N).map T).length=N:=λT=>by rw[aF,dY]
 have mW:∀wb i,Tw G ms2 wb (N+i)=Tw G ms2 wb (bk+i):=λwb i=>by
  rw[mV,MV S,MV S];exact HH λh=>and_congr_left λ_=>(c7.mW he i h).symm
 refine⟨_,U,pA,a1,a2,tA,rA,U,A,A1,A2,λHD sD=>⟨_,U,ZI ⟨_,U,pB,b1,b2,tB,rB,U,sD _ _ hB,sD _ _ hB1,sD _ _ hB2,λHE sE=>⟨_,U,ZI ?_⟩⟩⟩⟩;have s:=sD.trans sE;refine⟨_,U,_,U,p,_,0,_,U,U,aL.of (s _ _ D),U,_,U,p,_,2,_,U,U,aL.of (s _ _ D),U,q1,_,bk,λi=>!Tw G ms2 false i,U,s _ _ D1,by rw[ln];exact hb,by rw[ln];lia,ux hb λi=>by rw[mW],λp3 c1 c2 tC rC HF SC hC0 hC1 hC2 sF=>?_⟩;obtain⟨x1,x2⟩:=SA.one SC;subst x1 x2;have s:=s.trans sF;refine ι4 pA p3 _ _ ⟨U,U,s _ _ A,hC0,U,Pe (s _ _ A1) (s _ _ A2) hC1 hC2,?_⟩;refine⟨true,U,Yl ⟨_,U,_,U,p,_,1,_,U,U,aL.of (s _ _ D),U,_,U,p,_,2,_,U,U,aL.of (s _ _ D),U,q2,_,bk,λi=>Tw G ms2 true i,U,s _ _ D2,by rw[ln];exact hb,by rw[ln];lia,ux hb λi=>mW true i,λp4 c1 c2 tC rC HG SC hC0 hC1 hC2 sG=>?_⟩⟩;obtain⟨x1,x2⟩:=SB.one SC;subst x1 x2;have s:=s.trans sG;exact ι4 pB p4 _ _ ⟨U,U,s _ _ hB,hC0,U,Pe (s _ _ hB1) (s _ _ hB2) hC1 hC2,k _⟩
end
def oF(K:Af)(f:Aw):Obj:=(K.lookup f).getD default
def fx(K:Af)(f:Aw):Ao:=match (oF K f).data with
 |.func g=>g
 |_=>default
abbrev PB(K:Af)(x:Str)(st:Ay)(f:Aw):Ao:=PySem.W.fnOf x x (Ju st) (Xr st) (Zj st) .none (fx K f).kwdefaults (fx K f).doc (fx K f).pyModule (fx K f).annotations (fx K f).code (fx K f).closureTuple
abbrev Kw(K:Af)(x:Str)(st:Ay)(f:Aw):Prop:=(PySem.W.nsIn K mainGlobals x,K.lookup f,PySem.W.codeIn K (fx K f).code x,PySem.W.keepIn K (.ref f))=(some (some (.ref f)),some ⟨(oF K f).cls,(oF K f).dict,.func (PB K x st f),(oF K f).slots⟩,true,true)
theorem RO{st:Ay}(e:Kw K x st f):fx K f=PB K x st f:=
 congrArg (λo:Option Obj=>match (o.getD default).data with|.func g=>g|_=>default) (congrArg (λz=>z.2.1) e)
def de{C:Heap}{mg:Ae}{st:Ay}(X:K.In C)(G:C.Ns mainGlobals mg)(e:Kw K x st f)
  (h:∀(kV r D:Av)(I:Option Aw)(B ct:Av)(q:Ag),q.length=N.length->bindArgs (PySem.W.fnOf x x (Ju st) (Xr st) (Zj st) .none kV r D I B ct) ⟨q,[]⟩=pure (N.zip q):=by first|(show∀_ _ _ _ _ _ q,List.length q=1->_;exactλ_ _ _ _ _ _=>L2.Mn λ_=>U)|(show∀_ _ _ _ _ _ q,List.length q=2->_;exactλ_ _ _ _ _ _=>L2.KZ λ_ _=>U)|(show∀_ _ _ _ _ _ q,List.length q=3->_;exactλ_ _ _ _ _ _=>L2.K7 λ_ _ _=>U)|(show∀_ _ _ _ _ _ q,List.length q=4->_;exactλ_ _ _ _ _ _=>L2.My λ_ _ _ _=>U)|(show∀_ _ _ _ _ _ q,List.length q=5->_;exactλ_ _ _ _ _ _=>L2.KY λ_ _ _ _ _=>U)|(show∀_ _ _ _ _ _ q,List.length q=7->_;exactλ_ _ _ _ _ _=>L2.Lb λ_ _ _ _ _ _ _=>U)):Df K mg x st N f (fx K f):=by
 have F:=CP (st:=st) (congrArg (λz=>z.2.1) e) (congrArg (λz=>z.2.2.1) e) (congrArg (λz=>z.2.2.2) e);exact Eq.mp (congrArg (Df K mg x st N f) (RO e).symm) ⟨F,PySem.W.mg_of X G (congrArg (·.1) e),F.binds h⟩
def Mp(P:Params):List (Str×Int)->List (Nat×Nat)->List DictEntry
 |x::l,t::r=>⟨PyData.keyHash P x.1,.str x.1 t.1,.int x.2 t.2⟩::Mp P l r
 |_,_=>[]
theorem NA(P:Params):∀(l:List (Str×Int))(r:List (Nat×Nat)),l.length=r.length->lY P (Mp P l r) l
 |[],[],_=>.nil
 |_::l,_::r,h=>.cons (NA P l r (Nat.succ.inj h))
theorem Lf{mg:Ae}{l:List (Str×Int)}(X:K.In h)(G:h.Ns mainGlobals mg)(r:List (Nat×Nat))(n:Nat)
  (e:(PySem.W.nsIn K mainGlobals x,K.lookup a)=(some (some (.ref a)),some ⟨.type "dict",none,.dict (Array.mk (Mp w.params l r)) n,#[]⟩)) (B:l.length=r.length) (q:(l.map (·.1)).Nodup) (hs:(a == sysModules)=false):Kg K w mg x a l:=
 ⟨PySem.W.mg_of X G (congrArg (·.1) e),⟨⟨_,_,congrArg (·.2) e,NA _ l r B⟩,q,hs⟩⟩
def sV:Nat->List Str->List Av
 |_,[]=>[]
 |t,x::l=>.str x t::sV (t+1) l
theorem Nq:∀(l:Ai)(t:Nat),aH (l.map V.str) (sV t l)
 |[],_=>.nil
 |_::l,t=>.cons ⟨_,U⟩ (Nq l (t+1))
theorem kto{mg:Ae}{l:Ai}(X:K.In h)(G:h.Ns mainGlobals mg)(t:Nat)
  (e:(PySem.W.nsIn K mainGlobals x,K.lookup a)=(some (some (.ref a)),some ⟨.type "tuple",none,.seq (Array.mk (sV t l)) 0,#[]⟩)) (hs:(sV t l).length<=sizeLine):Kt K mg x a l:=
 ⟨PySem.W.mg_of X G (congrArg (·.1) e),λ_=>.inr ⟨_,_,_,congrArg (·.2) e,U,U,hs,Nq l t⟩⟩
def KK(w:Au):Af:=L2.lV (Hw.K w.params)
set_option maxHeartbeats 0 in
theorem all_mk {l:W.OpenLaw} {w:Au} {h:Heap} {mg:Ae} {fa:Aw} (X:(KK w).In h) (G:h.Ns mainGlobals mg) (hfa:mg "law" = some (.ref fa)):
  ∃fd:Ao,(∀(s:As)(v:Av),BindsTo s fd ⟨[v],[]⟩ [("script",v)])/\∀wv:Heap,(KK w).In wv->wv.Ns mainGlobals mg->(∀q∈([(44,42),(181,179)]:List (Aw×Aw)),W.CodeHd wv q.1 q.2)->yY mg wv->g7 l.prog w (KK w) mg wv lR 19 fa fd ["script"] (lW (KK w) 42 179):=by
 cases hfa.symm.trans (W.mg_of X G (show W.nsIn (KK w) mainGlobals "law" = some (some (.ref 376)) by kernel_rfl));have T:OV (KK w) w mg ⟨21,fx (KK w) 21,28,fx (KK w) 28,40,fx (KK w) 40,55,fx (KK w) 55,60,fx (KK w) 60,67,fx (KK w) 67,77,fx (KK w) 77,84,fx (KK w) 84,91,fx (KK w) 91,98,fx (KK w) 98,110,fx (KK w) 110,130,fx (KK w) 130,156,fx (KK w) 156,170,fx (KK w) 170,187,fx (KK w) 187,192,fx (KK w) 192,223,fx (KK w) 223,235,fx (KK w) 235,249,fx (KK w) 249,256,fx (KK w) 256,263,fx (KK w) 263,277,fx (KK w) 277,303,fx (KK w) 303,310,fx (KK w) 310,317,fx (KK w) 317,324,fx (KK w) 324,331,fx (KK w) 331,345,fx (KK w) 345,364,fx (KK w) 364,369,fx (KK w) 369,50,fx (KK w) 50,105,fx (KK w) 105,117,fx (KK w) 117,135,fx (KK w) 135,149,fx (KK w) 149,163,fx (KK w) 163,242,fx (KK w) 242,270,fx (KK w) 270,284,fx (KK w) 284,291,fx (KK w) 291,338,fx (KK w) 338,352,fx (KK w) 352,122,fx (KK w) 122,197,fx (KK w) 197,298,fx (KK w) 298,357,fx (KK w) 357,142,fx (KK w) 142,33,fx (KK w) 33,45,fx (KK w) 45,182,fx (KK w) 182,177,fx (KK w) 177,218,fx (KK w) 218,228,fx (KK w) 228,204,fx (KK w) 204,211,fx (KK w) 211,376,fx (KK w) 376,44,42,181,179,68,69,70,325,327,123⟩:=by
  constructor
  .exact Lf X G [(262,263),(264,265),(266,267),(268,269),(270,271),(272,273),(274,275),(276,277),(278,279),(280,281)] 10 Ve U Wm U
  .exact Lf X G [(293,294),(295,296),(297,298),(299,300),(301,302)] 5 Ve U Wm U
  .exact Lf X G [(309,310),(311,312),(313,314),(315,316),(317,318)] 5 Ve U Wm U
  .exact W.mg_of X G Ve
  .exact W.mg_of X G Ve
  .exact kto X G 387 Ve (by show _<=_;decide)
  all_goals first|exact de X G Ve|exact W.mg_none_of X G Ve|exact Nat.ne_of_beq_eq_false U|kernel_rfl
 exact⟨_,λs v=>RO (show Kw (KK w) "law" Lz 376 by kernel_rfl) ▸ .of_eq U,λwv hKb _ hC hB=>CG _ _ T ⟨hC (44,42) Vd,hC (181,179) Vd,hB⟩⟩
end Lw
end
open PySem PySem.W PyProof.Rows
set_option maxRecDepth 100000 in
set_option maxHeartbeats 0 in
theorem PySem.Challenge.cw_everywidth_k27_whole_all_widths_holds : PySem.Challenge.rw_everywidth_k27_whole_all_widths.Holds := by
 w_on;refine holds_law Hw.ws λsaid=>?_
 refine holds_openX Hw.left (λs e=>xl_of s (LI.mp e).1) XL.keeps
  (by rfl) (by rfl) (by rfl)
  (λs e=>recFacts_of (LI.mp e).2) (by rfl)
  (by first|assumption|decide +kernel) (by decide +kernel) ⟨U,U,U,U,U,by decide +kernel⟩ ?hw ?_
 (case hw=>w_witness2)
 refine L2.Ca (λ_=>by kernel_rfl) ?_
 exact L2.oR (K:=λP=>L2.lV (Hw.K P)) (n:=63) (k:=19) (x:= "script") (CX:=λ_=>L2.lR) (sp:=λw=>Lw.lW (Lw.KK w) 42 179) U (by decide) U ⟨U,by decide,by decide⟩ (λw h Y=>L2.B8 (by kernel_rfl) Y) (λw mean mg mb h T X=>List.forall_mem_cons.mpr ⟨PySem.W.tab_of (x:=PySem.Str.ofString "least") (c:=44) (P:=42) T X U (by kernel_rfl),List.forall_mem_cons.mpr ⟨PySem.W.tab_of (x:=PySem.Str.ofString "machine_telling") (c:=181) (P:=179) T X U (by kernel_rfl),List.forall_mem_nil _⟩⟩) (λw=>L2.Cu _) (λw mg fa h X G e=>Lw.all_mk X G e) (λ_ _ a ns hl hT hS=>⟨a,ns,U,hS,hl,.inl (hT (44,42) (by simp)),.inl (hT (181,179) (by simp)),λ_=>U⟩) λ_ _ _ _ _ z=>z
#print axioms PySem.Challenge.cw_everywidth_k27_whole_all_widths_holds
