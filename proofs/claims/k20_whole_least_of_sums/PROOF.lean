import PyProof.Rows.All
import Wide.All
import OpenK.AllK
import Wide.FinOn
import Lean
import PyProof.EqAt
import PyProof.EqKinds
import PyProof.TupleCall
import PyProof.NeKinds
import KE.KRevSl
import KE.KRevIter
import PyProof.FactsAll.tuple
import PyProof.Rows.SortWalk
import PyProof.Rows.StrJoin2
import PyProof.StrBlockH
import PyProof.StrWalks
import PyProof.StrCalls2
import PyProof.ConsumeWalk
import KE.KIntText
import PyProof.Rows.SortStr
import PyProof.EnumStmt
import PyProof.WalksMore
import KE.KEqDict
import PyProof.DictWalks
import KE.KLam
import PyProof.Rows.SortShellK
import PyProof.AttrMissHeap
import KE.KDictOf
import PyProof.ZipIter
import PyProof.CollectWalk
import PyProof.ListNew
import KE.KSortTup
import PyProof.Rows.TupDisplay
import OpenK.KOwn
import PyProof.Rows.TopTwo
import PyProof.Rows.CatchOwn
import PyProof.RulesDel
import PyProof.RulesAs
import KE.KIsNot
import PyProof.ExcAttrAll.ValueError
import KE.KIsAll
import PyProof.StrReplace2
import PyProof.ReprStr
import PyProof.FString
import PyProof.StrLawsChain
import PyProof.SetRoads
import PyProof.StrLawsRepr
import PyProof.ReprHeads
import PyProof.ReprLen
import PyProof.FactsAll.bool
import KE.KNest
import PyProof.Rows.RuleM_int
import PyProof.Rows.CallKwBuiltin
import KE.KMinKey
import PySem.Challenge.RW_everywidth_k20_whole_least_of_sums
noncomputable section
set_option Elab.async false
set_option maxRecDepth 100000
set_option maxHeartbeats 0
namespace Hw
open PySem PySem.W
theorem ws:PySem.Challenge.rw_everywidth_k20_whole_least_of_sums.wellSaid=true:=by kernel_rfl
def p:Program:=PySem.Challenge.rw_everywidth_k20_whole_least_of_sums.row.toRowW.prog
def B:List Stmt:=behindTheImports p
def nth:List Stmt→Nat→Option Stmt
  | [],_=>none
  | x::_,0=>some x
  | _::r,n + 1=>nth r n
def fx:Option Stmt→Arguments × List Stmt × Scope × Str × Nat
  | some (.FunctionDef n a b _ _ _ s _ _ x)=>(a,b,s,n,x.line)
  | _=>default
def fd(i:Nat):=fx (nth B i)
def vs(s:String)(t:Nat):Value:=.str (Str.ofString s) t
def en(P:Params)(s:String)(t:Nat)(v:Value):DictEntry:=⟨PyData.keyHash P (Str.ofString s),.str (Str.ofString s) t,v⟩
def tu (l:List Value):Obj:=⟨.type "tuple",none,.seq ⟨l⟩ 0,#[]⟩
def t0:Obj:=tu []
def fi(l:List Value):Obj:=⟨.none,none,.fields ⟨l⟩,#[]⟩
def f0:Obj:=fi []
def vk:Nat→List String→List Value
  | _,[]=>[]
  | t,s::r=>vs s t::vk (t + 1) r
def vt(t:Nat)(l:List String):Obj:=tu (vk t l)
abbrev Fd:=Arguments × List Stmt × Scope × Str × Nat
def rO(x:Fd):Obj:=⟨.none,none,.func ⟨x.2.2.2.1,x.2.2.2.1,x.1,.stmts x.2.1,x.2.2.1,0,[],.none,.none,.none,.none,none,.none,.none,0⟩,#[]⟩
def fO (x:Fd) (m:Value) (c:Nat):Obj:=⟨.type "function",none,.func ⟨x.2.2.2.1,x.2.2.2.1,x.1,.stmts x.2.1,x.2.2.1,3,[],.none,.none,.none,m,none,.ref c,.none,0⟩,#[]⟩
def fl:String := "/claim/cut.py"
def r(i:Nat):Obj:=rO (fd i)
def f(i:Nat)(m:Value)(c:Nat):Obj:=fO (fd i) m c
def ci(n:Nat):Value:=.int n 0
def c (i t x v:Nat):Obj:=let y:=(fd i).2.2.2;⟨.type "code",none,.fields #[.str y.1 t,.str y.1 (t + 1),vs fl (t + 2),ci y.2,ci (fd i).1.args.length,ci 0,ci 0,ci 3,.ref x,.bool true,ci 181,.ref (x + 1),.none,if v == 0 then .none else .ref (x + 2),if v == 0 then .none else .ref (x + 3),.ref (if v == 0 then x + 2 else x + 4),ci (t + 3 + v),ci y.2,vs fl (t + 4 + v)],#[]⟩
def e(P:Params)(i t a:Nat):DictEntry:=let y:=(fd i).2.2.2.1;⟨PyData.keyHash P y,.str y t,.ref a⟩
def bt(P:Params):List DictEntry:=match (boot_o_3 P).data with
  | .dict e _=>e.toList.tail
  | _=>[]
def m0:Value:=vs "everywidth.machines.found" 187
def m1:Value:=vs "everywidth.machines.least" 204
def m2:Value:=vs "everywidth.bits" 240
def m3:Value:=vs "everywidth.vocabulary" 260
def m4:Value:=vs "everywidth.rows" 346
def m5:Value:=vs "everywidth.machines.columns" 354
def m6:Value:=vs "everywidth.machines.made" 431
def m7:Value:=vs "law_everywidth_k20_whole_least_of_sums" 467
def es (P:Params):List DictEntry:=[e P 1 194 19,e P 2 203 26,e P 4 211 31,e P 5 217 36,e P 6 223 41,e P 7 229 46,e P 8 239 53,e P 10 250 60,e P 11 259 67,en P "SUM_PARTS" 292 (.ref 68),en P "SUMS_IN_CLAIM" 308 (.ref 69),en P "CLAIMS_IN_CLAIM" 324 (.ref 70),e P 16 331 77,e P 17 338 84,e P 18 345 91,e P 20 353 96,en P "REMEMBERING" 365 (.ref 97),e P 23 372 104,e P 24 378 109,e P 25 393 116,e P 26 403 123,e P 27 412 130,e P 28 422 137,e P 29 430 144,e P 31 440 151,e P 32 448 158,e P 33 454 163,e P 34 460 168,e P 35 466 173,e P 37 476 180,e P 38 490 187,e P 39 496 192,e P 40 504 199,e P 41 514 206,e P 42 520 211,e P 43 536 218,e P 44 547 225,e P 45 556 232,e P 46 571 239,e P 47 585 246,e P 48 600 253,e P 49 613 260]
def vl:List (Nat × Nat):=[(2,18),(12,25),(18,30),(27,35),(34,40),(37,45),(39,52),(46,59),(51,66),(60,76),(62,83),(64,90),(67,95),(71,103),(73,108),(78,115),(94,122),(105,129),(107,136),(121,143),(138,150),(140,157),(142,162),(154,167),(156,172),(159,179),(163,186),(179,191),(190,198),(196,205),(205,210),(207,217),(228,224),(246,231),(260,238),(270,245),(284,252),(299,259)]
def md (P:Params) (m:String) (t e k:Nat):Obj:=⟨.type "dict",none,.dict (Array.mk (en P "__name__" 165 (vs m t)::bt P++(es P).take e)) k,#[]⟩
def tl:List (Nat × Nat)→List Value
  | []=>[]
  | x::r=>.int x.1 0::.int 0 0::.ref x.2::tl r
def tb(c:Nat):Obj:=fi (tl (vl.take c))
def K (P:Params):PySem.W.Frag:=(nat_lit 0,boot_o_0 P)::(nat_lit 1,boot_o_1 P)::(nat_lit 2,boot_o_2 P)::(nat_lit 3,md P "law_everywidth_k20_whole_least_of_sums" 467 42 51)::(nat_lit 4,boot_o_4 P)::(nat_lit 5,boot_o_5 P)::(nat_lit 6,boot_o_6 P)::(nat_lit 7,boot_o_7 P)::(nat_lit 8,boot_o_8 P)::(nat_lit 9,boot_o_9 P)::(nat_lit 10,boot_o_10 P)::(nat_lit 11,t0)::(nat_lit 12,tb 38)::(nat_lit 13,⟨(.type "code"),none,.fields #[(vs "<module>" 182),(vs "<module>" 183),(vs "/claim/cut.py" 184),(.int 1 0),(.int 0 0),(.int 0 0),(.int 0 0),(.int 0 0),(.ref 11),(.bool false),(.int 181 0),(.ref 12),.none,.none,.none,.none,(.int 185 0),(.int 1 0),(vs "/claim/cut.py" 186)],#[]⟩)::(nat_lit 14,⟨(.type "frame"),none,.plain,#[some (.ref 13),some (.ref 3),some (.ref 3),none,some (vs "__main__" 164),none,some (.ref 0)]⟩)::(nat_lit 15,t0)::(nat_lit 16,f0)::(nat_lit 17,r 1)::(nat_lit 18,c 1 189 15 0)::(nat_lit 19,f 1 m0 18)::(nat_lit 20,t0)::(nat_lit 21,f0)::(nat_lit 22,vt 198 ["state","states","numbers"])::(nat_lit 23,t0)::(nat_lit 24,r 2)::(nat_lit 25,c 2 195 20 3)::(nat_lit 26,f 2 m0 25)::(nat_lit 27,t0)::(nat_lit 28,f0)::(nat_lit 29,r 4)::(nat_lit 30,c 4 206 27 0)::(nat_lit 31,f 4 m1 30)::(nat_lit 32,t0)::(nat_lit 33,f0)::(nat_lit 34,r 5)::(nat_lit 35,c 5 212 32 0)::(nat_lit 36,f 5 m1 35)::(nat_lit 37,t0)::(nat_lit 38,f0)::(nat_lit 39,r 6)::(nat_lit 40,c 6 218 37 0)::(nat_lit 41,f 6 m1 40)::(nat_lit 42,t0)::(nat_lit 43,f0)::(nat_lit 44,r 7)::(nat_lit 45,c 7 224 42 0)::(nat_lit 46,f 7 m1 45)::(nat_lit 47,t0)::(nat_lit 48,f0)::(nat_lit 49,vt 233 ["classes","firsts","state","number"])::(nat_lit 50,t0)::(nat_lit 51,r 8)::(nat_lit 52,c 8 230 47 4)::(nat_lit 53,f 8 m1 52)::(nat_lit 54,t0)::(nat_lit 55,f0)::(nat_lit 56,vt 245 ["width","many","bit_number"])::(nat_lit 57,t0)::(nat_lit 58,r 10)::(nat_lit 59,c 10 242 54 3)::(nat_lit 60,f 10 m2 59)::(nat_lit 61,t0)::(nat_lit 62,f0)::(nat_lit 63,vt 254 ["bits","number","bit"])::(nat_lit 64,t0)::(nat_lit 65,r 11)::(nat_lit 66,c 11 251 61 3)::(nat_lit 67,f 11 m2 66)::(nat_lit 68,⟨(.type "dict"),none,.dict #[en P "not" 262 (.int 1 263),en P "neg" 264 (.int 1 265),en P "twice" 266 (.int 1 267),en P "low" 268 (.int 1 269),en P "and" 270 (.int 2 271),en P "or" 272 (.int 2 273),en P "odd" 274 (.int 2 275),en P "add" 276 (.int 2 277),en P "sub" 278 (.int 2 279),en P "pick" 280 (.int 3 281)] 10,#[]⟩)::(nat_lit 69,⟨(.type "dict"),none,.dict #[en P "same" 293 (.int 2 294),en P "under" 295 (.int 2 296),en P "beneath" 297 (.int 2 298),en P "sign" 299 (.int 1 300),en P "nought" 301 (.int 1 302)] 5,#[]⟩)::(nat_lit 70,⟨(.type "dict"),none,.dict #[en P "both" 309 (.int 2 310),en P "either" 311 (.int 2 312),en P "so" 313 (.int 2 314),en P "never" 315 (.int 1 316),en P "yes" 317 (.int 0 318)] 5,#[]⟩)::(nat_lit 71,t0)::(nat_lit 72,f0)::(nat_lit 73,vt 328 ["word"])::(nat_lit 74,t0)::(nat_lit 75,r 16)::(nat_lit 76,c 16 325 71 1)::(nat_lit 77,f 16 m3 76)::(nat_lit 78,t0)::(nat_lit 79,f0)::(nat_lit 80,vt 335 ["word"])::(nat_lit 81,t0)::(nat_lit 82,r 17)::(nat_lit 83,c 17 332 78 1)::(nat_lit 84,f 17 m3 83)::(nat_lit 85,t0)::(nat_lit 86,f0)::(nat_lit 87,vt 342 ["word"])::(nat_lit 88,t0)::(nat_lit 89,r 18)::(nat_lit 90,c 18 339 85 1)::(nat_lit 91,f 18 m3 90)::(nat_lit 92,t0)::(nat_lit 93,f0)::(nat_lit 94,r 20)::(nat_lit 95,c 20 348 92 0)::(nat_lit 96,f 20 m4 95)::(nat_lit 97,vt 356 ["neg","twice","low","add","sub","same","under","beneath","nought"])::(nat_lit 98,t0)::(nat_lit 99,f0)::(nat_lit 100,vt 369 ["word"])::(nat_lit 101,t0)::(nat_lit 102,r 23)::(nat_lit 103,c 23 366 98 1)::(nat_lit 104,f 23 m5 103)::(nat_lit 105,t0)::(nat_lit 106,f0)::(nat_lit 107,r 24)::(nat_lit 108,c 24 373 105 0)::(nat_lit 109,f 24 m5 108)::(nat_lit 110,t0)::(nat_lit 111,f0)::(nat_lit 112,vt 382 ["words","columns","place","kept","stack","later","word","parts","held"])::(nat_lit 113,t0)::(nat_lit 114,r 25)::(nat_lit 115,c 25 379 110 9)::(nat_lit 116,f 25 m5 115)::(nat_lit 117,t0)::(nat_lit 118,f0)::(nat_lit 119,vt 397 ["word","parts","held","one"])::(nat_lit 120,t0)::(nat_lit 121,r 26)::(nat_lit 122,c 26 394 117 4)::(nat_lit 123,f 26 m5 122)::(nat_lit 124,t0)::(nat_lit 125,f0)::(nat_lit 126,vt 407 ["one","other","held"])::(nat_lit 127,t0)::(nat_lit 128,r 27)::(nat_lit 129,c 27 404 124 3)::(nat_lit 130,f 27 m5 129)::(nat_lit 131,t0)::(nat_lit 132,f0)::(nat_lit 133,vt 416 ["word","parts","held","then"])::(nat_lit 134,t0)::(nat_lit 135,r 28)::(nat_lit 136,c 28 413 131 4)::(nat_lit 137,f 28 m5 136)::(nat_lit 138,t0)::(nat_lit 139,f0)::(nat_lit 140,vt 426 ["word","parts"])::(nat_lit 141,t0)::(nat_lit 142,r 29)::(nat_lit 143,c 29 423 138 2)::(nat_lit 144,f 29 m5 143)::(nat_lit 145,t0)::(nat_lit 146,f0)::(nat_lit 147,vt 436 ["words","names"])::(nat_lit 148,t0)::(nat_lit 149,r 31)::(nat_lit 150,c 31 433 145 2)::(nat_lit 151,f 31 m6 150)::(nat_lit 152,t0)::(nat_lit 153,f0)::(nat_lit 154,vt 444 ["claim","names"])::(nat_lit 155,t0)::(nat_lit 156,r 32)::(nat_lit 157,c 32 441 152 2)::(nat_lit 158,f 32 m6 157)::(nat_lit 159,t0)::(nat_lit 160,f0)::(nat_lit 161,r 33)::(nat_lit 162,c 33 449 159 0)::(nat_lit 163,f 33 m6 162)::(nat_lit 164,t0)::(nat_lit 165,f0)::(nat_lit 166,r 34)::(nat_lit 167,c 34 455 164 0)::(nat_lit 168,f 34 m6 167)::(nat_lit 169,t0)::(nat_lit 170,f0)::(nat_lit 171,r 35)::(nat_lit 172,c 35 461 169 0)::(nat_lit 173,f 35 m6 172)::(nat_lit 174,t0)::(nat_lit 175,f0)::(nat_lit 176,vt 472 ["script","k"])::(nat_lit 177,t0)::(nat_lit 178,r 37)::(nat_lit 179,c 37 469 174 2)::(nat_lit 180,f 37 m7 179)::(nat_lit 181,t0)::(nat_lit 182,f0)::(nat_lit 183,vt 480 ["cell","many","most","found","rest","k","one","two"])::(nat_lit 184,t0)::(nat_lit 185,r 38)::(nat_lit 186,c 38 477 181 8)::(nat_lit 187,f 38 m7 186)::(nat_lit 188,t0)::(nat_lit 189,f0)::(nat_lit 190,r 39)::(nat_lit 191,c 39 491 188 0)::(nat_lit 192,f 39 m7 191)::(nat_lit 193,t0)::(nat_lit 194,f0)::(nat_lit 195,vt 500 ["number","names"])::(nat_lit 196,t0)::(nat_lit 197,r 40)::(nat_lit 198,c 40 497 193 2)::(nat_lit 199,f 40 m7 198)::(nat_lit 200,t0)::(nat_lit 201,f0)::(nat_lit 202,vt 508 ["number","left","words","word"])::(nat_lit 203,t0)::(nat_lit 204,r 41)::(nat_lit 205,c 41 505 200 4)::(nat_lit 206,f 41 m7 205)::(nat_lit 207,t0)::(nat_lit 208,f0)::(nat_lit 209,r 42)::(nat_lit 210,c 42 515 207 0)::(nat_lit 211,f 42 m7 210)::(nat_lit 212,t0)::(nat_lit 213,f0)::(nat_lit 214,vt 524 ["numbers","names","most","some","left","number","word","wants","built","part"])::(nat_lit 215,t0)::(nat_lit 216,r 43)::(nat_lit 217,c 43 521 212 10)::(nat_lit 218,f 43 m7 217)::(nat_lit 219,t0)::(nat_lit 220,f0)::(nat_lit 221,vt 540 ["pick","p","q","r","pairs"])::(nat_lit 222,t0)::(nat_lit 223,r 44)::(nat_lit 224,c 44 537 219 5)::(nat_lit 225,f 44 m7 224)::(nat_lit 226,t0)::(nat_lit 227,f0)::(nat_lit 228,vt 551 ["number","words","r"])::(nat_lit 229,t0)::(nat_lit 230,r 45)::(nat_lit 231,c 45 548 226 3)::(nat_lit 232,f 45 m7 231)::(nat_lit 233,t0)::(nat_lit 234,f0)::(nat_lit 235,vt 560 ["cell","names","xs","most","p","q","r","one","other"])::(nat_lit 236,t0)::(nat_lit 237,r 46)::(nat_lit 238,c 46 557 233 9)::(nat_lit 239,f 46 m7 238)::(nat_lit 240,t0)::(nat_lit 241,f0)::(nat_lit 242,vt 575 ["cell","names","xs","p","q","under","pairs","some"])::(nat_lit 243,t0)::(nat_lit 244,r 47)::(nat_lit 245,c 47 572 240 8)::(nat_lit 246,f 47 m7 245)::(nat_lit 247,t0)::(nat_lit 248,f0)::(nat_lit 249,vt 589 ["one","other","pairs","seen","k","left","right","letter","behind"])::(nat_lit 250,t0)::(nat_lit 251,r 48)::(nat_lit 252,c 48 586 247 9)::(nat_lit 253,f 48 m7 252)::(nat_lit 254,t0)::(nat_lit 255,f0)::(nat_lit 256,vt 604 ["script","names","one","other","machine","found","number"])::(nat_lit 257,t0)::(nat_lit 258,r 49)::(nat_lit 259,c 49 601 254 7)::(nat_lit 260,f 49 m7 259)::[]
def ob(P:Params):List Obj:=(K P).map (·.2)
def od:Bool→List Obj→List Obj
  | _,[]=>[]
  | true,x::r=>x::od false r
  | false,_::r=>od true r
def tL:Nat→List Obj→BT
  | 0,_=>.nil
  | _,[]=>.nil
  | k + 1,x::r=>.node x (tL k (od true r)) (tL k (od false r))
def tn(P:Params)(n:Nat):BT:=tL 12 ((ob P).take n)
abbrev SS(T:BT)(n k:Nat)(o:OsState):SharedT:=⟨T,n,{},Array.mk [],{},k,o⟩
def ev:Env:={ scope:=p.main.scope,locals:=mainNs,globals:=mainNs,cells:=[],code:=(.ref 13),frame:=some 14 }
def c0:Code:=.body B ev
abbrev an:Option Value:=some (.ref 6)
abbrev z0:Pos:=⟨0,0,0,0⟩
abbrev q0:List Frame:=[topFrame z0]
def sg(a b:Nat):List Stmt:=(B.drop a).take b
def pc(a b:Nat)(x:Pos):Thread:=piecesOf (sg a b) ev c0 x q0
def R(w:World)(o:OsState)(n:Nat)(S:Params→BT)(a k:Nat)(t:Thread)(S':Params→BT)(a' k':Nat)(y:Pos):Prop:=segRunT treeTable p w 11 an 1 n (SS (S w.params) a k o) t=some (.next,SS (S' w.params) a' k' o,c0,y)
variable (w:World)(o:OsState)
def S0(P:Params):BT:=((tn P 15).set 3 fun _=>boot_o_3 P).set 12 fun _=>tb 0
def S1 (P:Params):BT:=((tn P 68).set 3 fun _=>md P "everywidth.vocabulary" 260 9 18).set 12 fun _=>tb 9
def S2 (P:Params):BT:=((tn P 85).set 3 fun _=>md P "everywidth.vocabulary" 260 14 23).set 12 fun _=>tb 11
def S3 (P:Params):BT:=((tn P 159).set 3 fun _=>md P "everywidth.machines.made" 431 26 35).set 12 fun _=>tb 22
def S4 (P:Params):BT:=((tn P 233).set 3 fun _=>md P "law_everywidth_k20_whole_least_of_sums" 467 38 47).set 12 fun _=>tb 34
def S5(P:Params):BT:=tn P 261
def H1(P:Params):Heap:=⟨Array.mk (ob P),{}⟩
theorem pre:topGo treeTable p w 11 an 12 ⟨boot_heap w.params,Array.mk [],boot_drawn,boot_toks,o⟩ (topStub p)=some ((SS (S0 w.params) 15 187 o).abs,⟨denote treeTable c0,c0,z0,q0⟩):=by
  rw [Fast.te15667345088766844465,Fast.te14364793385576792824,Fast.te11892475500146522536];kernel_rfl
theorem blk:segRunT treeTable p w 11 an 1 1 (SS (S0 w.params) 15 187 o) (blockOf B ev c0 z0 q0)=some (.next,SS (S0 w.params) 15 187 o,c0,z0):=by
  rw [Fast.te10110043849684766642,Fast.te14364793385576792824];kernel_rfl
theorem g1:R w o 292 S0 15 187 (pc 0 13 z0) S1 68 262 ⟨56,0,56,8⟩:=by
  unfold R;rw [Fast.te10110043849684766642,Fast.te14364793385576792824];kernel_rfl
theorem g2f:R (w.withFollow "special-get-raises" false) o 389 S1 68 262 (pc 13 5 ⟨56,0,56,8⟩) S2 85 339 ⟨62,0,63,39⟩:=by
  unfold R;rw [Fast.te10110043849684766642,Fast.te14364793385576792824];kernel_rfl
theorem g2t:R (w.withFollow "special-get-raises" true) o 389 S1 68 262 (pc 13 5 ⟨56,0,56,8⟩) S2 85 339 ⟨62,0,63,39⟩:=by
  unfold R;rw [Fast.te10110043849684766642,Fast.te14364793385576792824];kernel_rfl
theorem g2 (w:World):∀o:OsState,R w o 389 S1 68 262 (pc 13 5 ⟨56,0,56,8⟩) S2 85 339 ⟨62,0,63,39⟩:=byRow2 "special-get-raises" (P:=fun w=>∀o:OsState,R w o 389 S1 68 262 (pc 13 5 ⟨56,0,56,8⟩) S2 85 339 ⟨62,0,63,39⟩) g2f g2t w
theorem g3:R w o 379 S2 85 339 (pc 18 15 ⟨62,0,63,39⟩) S3 159 449 ⟨140,0,141,55⟩:=by
  unfold R;rw [Fast.te10110043849684766642,Fast.te14364793385576792824];kernel_rfl
theorem g4:R w o 370 S3 159 449 (pc 33 13 ⟨140,0,141,55⟩) S4 233 557 ⟨246,0,259,16⟩:=by
  unfold R;rw [Fast.te10110043849684766642,Fast.te14364793385576792824];kernel_rfl
theorem g5:R w o 146 S4 233 557 (pc 46 4 ⟨246,0,259,16⟩) S5 261 614 ⟨299,0,314,65⟩:=by
  unfold R;rw [Fast.te10110043849684766642,Fast.te14364793385576792824];kernel_rfl
theorem fn:topRun treeTable p w 11 an 2 (SS (S5 w.params) 261 614 o).abs ⟨doneF .next,c0,⟨299,0,314,65⟩,q0⟩=some ⟨H1 w.params,Array.mk [],{},614,o⟩:=by
  rw [Fast.te14082659384304107361,Fast.te14364793385576792824];kernel_rfl
theorem sp:B=sg 0 13++(sg 13 5++(sg 18 15++(sg 33 13++(sg 46 4++[])))):=by kernel_rfl
theorem bl{w:World}{N:Nat}{s s' r:Shared}{b:List Stmt}{x y:Pos}{n:Nat}(e:B=b)(h:segRun treeTable p w 11 an 1 n s (blockOf B ev c0 x q0)=some (.next,s',c0,y))(k:topRun treeTable p w 11 an N s' (restOf b ev c0 y q0)=some r):topRun treeTable p w 11 an (n + N) s ⟨denote treeTable c0,c0,x,q0⟩=some r :=
  piece_block h (by rw [e];exact k)
theorem rn:topRun treeTable p w 11 an (12+(1+(292+(389+(379+(370+(146+2))))))) ⟨boot_heap w.params,Array.mk [],boot_drawn,boot_toks,o⟩ (topStub p)=some ⟨H1 w.params,Array.mk [],{},614,o⟩ :=
  go_top (pre w o) (bl sp (segRun_of (blk w o)) (piece_app (segRun_of (g1 w o)) (piece_app (segRun_of (g2 w o)) (piece_app (segRun_of (g3 w o)) (piece_app (segRun_of (g4 w o)) (piece_app (segRun_of (g5 w o)) (fn w o)))))))
def rg(l:List Stmt):List (Nat × Nat)→List Stmt
  | []=>[]
  | x::r=>(l.drop x.1).take x.2++rg l r
def vw:Program:={ p with main:={ p.main with body:=rg p.main.body [(1,2),(4,5),(10,2),(13,6),(20,1),(22,8),(31,5),(37,13)] } }
def lo:List Str:=[Str.ofString "SUM_PARTS",Str.ofString "SUMS_IN_CLAIM",Str.ofString "CLAIMS_IN_CLAIM"]
def xt(s:Shared):Bool:=xlAt vw [] s && recOk PySem.Challenge.rw_everywidth_k20_whole_least_of_sums.row.toRowW.records s
def as:List Addr:=List.range 261
theorem sz:((boot_heap w.params).isNs mainGlobals && (Array.mk []:Array GenState).size == 0,(boot_heap w.params).objs.size,(boot_heap w.params).nsMap mainGlobals "__annotations__")=(true,11,an):=by
  rw [Fast.te8920871248978507458];kernel_rfl
abbrev sh(w:World)(o:OsState):Shared:=⟨H1 w.params,Array.mk [],{},614,o⟩
theorem l1:(staticsOk (importedModules p.main.body) (boot_heap w.params) (H1 w.params) && namesBound p (H1 w.params) && gensDone (sh w o) && laidKept (boot_heap w.params) (H1 w.params))=true:=by
  rw [Fast.te5923862056798008813];kernel_rfl
theorem l2:openSeen vw lo (importedModules p.main.body) xt true (sh w o)=openGood vw lo:=by
  rw [Fast.te4187177175401517315,Fast.te5923862056798008813];kernel_rfl
theorem l3:X.obsZ as (sh w o)=X.valZ K 261 614 w:=by kernel_rfl
theorem left:LeftO p vw lo xt (X.obsZ as) (X.valZ K 261 614) 3268 :=
  LeftO.of_pieces (boot_open (by kernel_rfl) (by kernel_rfl) (fun _=>by kernel_rfl)) sz rn (by kernel_rfl) fun w=>funext fun o=>looks_pair (l1 w o) (looks_pair (l2 w o) (l3 w o))
end Hw
end
set_option Elab.async false
set_option linter.all false
set_option maxRecDepth 100000
noncomputable section
def Qaa:=@PySem.wpAny_bind
def Qab:=@List.getElem?_eq_getElem
def Qac:=@List.getElem?_eq_some_iff
def Qad:=@List.length_map
def Qae:=@PySem.Heap.get?_push_of_some
def Qaf:=@List.length_append
def Qag:=@List.getD_eq_getElem?_getD
def Qah:=@List.getElem?_map
def Qai:=@Nat.le_refl
def Qaj:=@decide_eq_true
def Qak:=@decide_eq_false
def Qal:=@List.mem_cons_self
def Qam:=@List.mem_cons_of_mem
def Qan:=@PySem.wpAny_pure
def Qao:=@List.mem_of_getElem?
def Qap:=@PySem.F.plainAttrs_list
def Qaq:=@PySem.F.slot_list_append
def Qar:=@PySem.F.type_list_append
def Qas:=@List.mem_cons
def Qat:=@Bool.and_eq_true_iff
def Qau:=@List.getElem?_append_right
def Qav:=@PySem.Heap.lt_size
def Qaw:=@List.getElem?_append_left
def Qax:=@if_neg
def Qay:=@List.mem_singleton
def Qaz:=@PySem.Heap.get?_push_size
def Qa0:=@List.mem_append_right
def Qa1:=@List.length_take
def Qa2:=@List.mem_map
def Qa3:=@Bool.false_ne_true
def Qa4:=@if_pos
def Qa5:=@Nat.le_of_lt
def Qa6:=@List.not_mem_nil
def Qa7:=@List.map_cons
def Qa8:=@List.size_toArray
def Qa9:=@Int.toNat_natCast
def Qba:=@of_decide_eq_true
def Qbb:=@Int.emod_lt_of_pos
def Qbc:=@List.length_cons
def Qbd:=@List.idxOf_lt_length_of_mem
def Qbe:=@List.getElem?_eq_none
def Qbf:=@Nat.lt_of_lt_of_le
def Qbg:=@Nat.le_trans
def Qbh:=@Option.map_eq_some_iff
def Qbi:=@Int.emod_nonneg
def Qbj:=@List.map_map
def Qbk:=@List.mem_append
def Qbl:=@List.append_nil
def Qbm:=@List.map_append
def Qbn:=@List.length_drop
def Qbo:=@List.lookup_cons
def Qbp:=@Nat.zero_le
def Qbq:=@PySem.wpAny_setField_rec
def Qbr:=@List.length_range
def Qbs:=@PySem.wpAny_field
def Qbt:=@Nat.ne_of_lt
def Qbu:=@List.append_assoc
def Qbv:=@Bool.and_eq_true
def Qbw:=@List.mem_map_of_mem
def Qbx:=@List.length_replicate
def Qby:=@Nat.lt_irrefl
def Qbz:=@List.take_of_length_le
def Qb0:=@beq_self_eq_true
def Qb1:=@List.getElem_mem
def Qb2:=@List.take_length
def Qb3:=@List.nodup_cons
def Qb4:=@PySem.wpAny_call_entry
def Qb5:=@List.mem_iff_getElem?
def Qb6:=@PySem.mem_of_lookup
def Qb7:=@Int.emod_eq_of_lt
def Qb8:=@PySem.PassesOwn.never
def Qb9:=@List.mem_range
def Qca:=@PySem.Heap.size_push
def Qcb:=@PySem.wpAny_seqItems
def Qcc:=@List.take_append_drop
def Qcd:=@beq_eq_false_iff_ne
def Qce:=@Array.length_toList
def Qcf:=@List.eq_nil_of_length_eq_zero
def Qcg:=@PySem.wpAny_newObj_type
def Qch:=@PySem.Heap.get?_update_other
def Qci:=@PySem.Calls.spliced_cons
def Qcj:=@List.all_cons
def Qck:=@PyProof.Rows.callWith_type1
def Qcl:=@PySem.wpAny_of_eq
def Qcm:=@PySem.F.slot_enumerate_next
def Qcn:=@List.map_congr_left
def Qco:=@List.getElem?_range
def Qcp:=@List.flatten_append
def Qcq:=@Nat.mod_two_eq_zero_or_one
def Qcr:=@Int.natCast_nonneg
def Qcs:=@Bool.false_eq_true
def Qct:=@Int.ediv_one
def Qcu:=@PySem.F.plain_max_loop
def Qcv:=@PySem.W.kia_one
def Qcw:=@List.drop_eq_getElem_cons
def Qcx:=@PySem.Heap.get?_update_self
def Qcy:=@List.foldl_append
def Qcz:=@List.ext_getElem?
def Qc0:=@List.eq_of_mem_replicate
def Qc1:=@or_false
def Qc2:=@List.nodup_nil
def Qc3:=@PySem.wpAny_Call_Name_kw
def Qc4:=@PySem.Obj.data_mapFields
def Qc5:=@List.foldl_cons
def Qc6:=@List.mem_append_left
def Qc7:=@List.mem_of_mem_drop
def Qc8:=@PySem.W.mg_none_of
def Qc9:=@List.length_pos_of_mem
def Qda:=@PySem.Heap.SameBut.update
def Qdb:=@List.find?_cons
def Qdc:=@List.length_nil
def Qdd:=@Nat.sub_self
def Qde:=@Int.emod_add_mul_ediv
def Qdf:=@List.filter_cons
def Qdg:=@List.all_eq_true
def Qdh:=@decide_eq_decide
def Qdi:=@PySem.lookup_relabel_local
def Qdj:=@List.mem_of_mem_take
def Qdk:=@Ne.symm
def Qdl:=@Int.pow_succ
def Qdm:=@PySem.wpAny_mono
def Qdn:=@PySem.Calls.spliced_nil
def Qdo:=@List.flatten_cons
def Qdp:=@PySem.F.slot_tuple_iterator_next
def Qdq:=@PySem.wpAny_isInstance
def Qdr:=@Nat.ne_of_gt
def Qds:=@Nat.lt_of_le_of_lt
def Qdt:=@PySem.wpAny_attempt
def Qdu:=@List.getElem_idxOf
def Qdv:=@List.map_take
def Qdw:=@Int.pow_zero
def Qdx:=@PySem.wpAny_rule
def Qdy:=@PySem.wpAny_passesOwn
def Qdz:=@List.forIn_cons
def Qd0:=@List.length_zip
def Qd1:=@List.nodup_append
def Qd2:=@List.length_erase_of_mem
def Qd3:=@Nat.not_lt_zero
def Qd4:=@Int.mul_comm
def Qd5:=@Nat.lt_or_ge
def Qd6:=@List.length_reverse
def Qd7:=@PySem.wpAny_getItem_str_slice
def Qd8:=@PySem.F.args_enumerate_next_1
def Qd9:=@List.map_drop
def Qea:=@List.drop_length
def Qeb:=@PySem.wpAny_setField
def Qec:=@PySem.Calls.callWith_builtin
def Qed:=@PySem.F.entry_enumerate_next
def Qee:=@PySem.wpAny_pyIter_tuple
def Qef:=@List.filter_append
def Qeg:=@Nat.le_succ
def Qeh:=@PySem.builtinLookup_eq_fast
def Qei:=@PySem.wpAny_specialOf
def Qej:=@PySem.Obj.isFreed_of_fields
def Qek:=@List.length_filter_le
def Qel:=@PySem.wpAny_letGo
def Qem:=@Nat.min_eq_left
def Qen:=@Int.pow_pos
def Qeo:=@PySem.wpAny_pyIter_list
def Qep:=@Nat.lt_succ_of_lt
def Qeq:=@PySem.wpAny_holding
def Qer:=@List.reverse_cons
def Qes:=@Int.add_mul_emod_self_left
def Qet:=@List.getElem?_of_mem
def Qeu:=@PySem.isSubtype_type
def Qev:=@List.forIn_nil
def Qew:=@List.drop_zero
def Qex:=@List.getElem_zip
def Qey:=@List.cons_append
def Qez:=@Nat.le_add_right
def Qe0:=@PySem.F.args_tuple_add_2
def Qe1:=@List.map_nil
def Qe2:=@PySem.wpAny_comprehension_free
def Qe3:=@PySem.Paired.length
def Qe4:=@Bool.eq_iff_iff
def Qe5:=@List.of_mem_zip
def Qe6:=@PySem.F.entry_tuple_add
def Qe7:=@if_false
def Qe8:=@PySem.tupleKind_room_in1
def Qe9:=@PySem.F.slot_zip_next
def Qfa:=@PySem.slot_listiter_next
def Qfb:=@Int.ediv_ediv_of_nonneg
def Qfc:=@Int.mul_assoc
def Qfd:=@List.getElem?_take
def Qfe:=@Int.emod_emod
def Qff:=@PySem.F.slot_tuple_add
def Qfg:=@PySem.F.entry_max_loop
def Qfh:=@Int.ediv_eq_zero_of_lt
def Qfi:=@PyProof.Rows.slot_tuple_getitem
def Qfj:=@PySem.wpAny_mkInt
def Qfk:=@PySem.wpAny_pyIter_enum
def Qfl:=@List.pairwise_map
def Qfm:=@PySem.wpAny_tryCatch
def Qfn:=@PySem.codeAny_mono
def Qfo:=@Array.getElem?_toList
def Qfp:=@PySem.Txt.slice_le
def Qfq:=@Int.add_mul_ediv_left
def Qfr:=@Nat.lt_succ_self
def Qfs:=@List.flatten_nil
def Qft:=@PySem.Around.frames_deeper
def Qfu:=@PySem.Calls.evalArgs_plain
def Qfv:=@PySem.wpAny_newFunctionEnv
def Qfw:=@PySem.F.args_object_init_2
def Qfx:=@PySem.Heap.get?_push_cases
def Qfy:=@PySem.wpAny_updateSeq_pair
def Qfz:=@List.mem_erase_of_ne
def Qf0:=@PySem.Around.under_plainId
def Qf1:=@Nat.pow_le_pow_right
def Qf2:=@Nat.mul_le_mul_right
def Qf3:=@List.any_cons
def Qf4:=@PySem.F.args_tuple_iterator_next_1
def Qf5:=@Nat.not_lt
def Qf6:=@List.mem_filter
def Qf7:=@List.filterMap_cons
def Qf8:=@PySem.wpAny_execs_nil
def Qf9:=@if_true
def Qga:=@PySem.typeLookup_type
def Qgb:=@PySem.post_val_or_str
def Qgc:=@Option.map_some
def Qgd:=@PySem.F.entry_tuple_iterator_next
def Qge:=@List.idxOf_cons
def Qgf:=@Nat.two_pow_pos
def Qgg:=@Int.mul_add
def Qgh:=@PyProof.Rows.assignInOrder_cons
def Qgi:=@List.mem_filterMap
def Qgj:=@PySem.W.callWith_K
def Qgk:=@PySem.wpAny_forIn_array'
def Qgl:=@Int.ne_of_gt
def Qgm:=@Int.emod_one
def Qgn:=@Int.zero_add
def Qgo:=@Int.lt_of_lt_of_le
def Qgp:=@PySem.isSubtype_stop
def Qgq:=@PySem.wpAny_newTuple
def Qgr:=@PySem.wpAny_truthy_bool
def Qgs:=@PySem.Obj.cls_mapFields
def Qgt:=@Option.isSome_map
def Qgu:=@Bool.eq_false_iff
def Qgv:=@PySem.wpAny_onRaise
def Qgw:=@Bool.and_true
def Qgx:=@PySem.plainId_quiet
def Qgy:=@Int.zero_ediv
def Qgz:=@Int.zero_emod
def Qg0:=@PySem.wpAny_pyHash_int
def Qg1:=@PySem.noFill_tuple_add
def Qg2:=@PyProof.Rows.IsTup.new
def Qg3:=@PySem.SeqAt.EqAt.same
def Qg4:=@Nat.le_of_eq
def Qg5:=@PySem.callType_new
def Qg6:=@PySem.codeAny_builtin
def Qg7:=@PySem.wpAny_updateSeq
def Qg8:=@List.range_succ
def Qg9:=@Int.add_emod
def Qha:=@Int.sub_emod
def Qhb:=@Prod.ext
def Qhc:=@PySem.sizeLine_eq
variable {i n:Nat}
variable {a f T:PySem.Addr}
variable {N:List PySem.Str}
variable {e o:PySem.Expr}
variable {x:PySem.Str}
variable {p E:PySem.Pos}
variable {u:PySem.Value}
variable {j:Bool}
variable {d:List Nat}
variable {K:PySem.W.Frag}
variable {Q:PySem.Value->PySem.Shared->Prop}
variable {s:PySem.Shared}
variable {z:Int}
variable {R:List (List Nat)}
variable {h:PySem.Heap}
variable {g:Type}
variable {q:PySem.Program}
variable {w:PySem.World}
variable {r:List (PySem.Addr × PySem.Obj)}
variable {y:List Int}
variable {C:List PySem.Expr}
variable {D:Array PySem.Value}
variable {L:List PySem.Addr}
variable {U:List PySem.Value}
namespace L2
open PySem PySem.Spec PyProof.Rows
abbrev Key:=Sum Int Str
def wA:Key->Value->Bool
 | .inl k,v=>Value.isInt k v
 | .inr x,v=>Value.isStrOf x v
def keyH(w:World):Key->Int
 | .inl k=>hashInt k
 | .inr x=>hashStr w x
theorem Y4:∀{k:Key} {v:Value},wA k v=true->(∃i t,k=Sum.inl i/\v=Value.int i t)\/(∃x t,k=Sum.inr x/\v=Value.str x t)
 | .inl i,v,h=>by
  obtain ⟨t,e⟩:=Value.isInt_shape (k:=i) (v:=v) h;exact .inl ⟨i,t,rfl,e⟩
 | .inr x,v,h=>by
  obtain ⟨t,e⟩:=Value.isStrOf_shape (x:=x) (v:=v) h;exact .inr ⟨x,t,rfl,e⟩
theorem g9(i:Int)(t:Tok):wA (.inl i) (.int i t)=true:=by simp [wA,Value.isInt]
theorem gC(x:Str)(t:Tok):wA (.inr x) (.str x t)=true:=by simp [wA,Value.isStrOf]
theorem key_ll(a b:Int):decide ((Sum.inl a:Key)=Sum.inl b)=(a == b):=by
 by_cases e:a=b
 ·subst e;simp
 ·have h:¬(Sum.inl a:Key)=Sum.inl b:=fun q=>e (Sum.inl.inj q)
  rw [Qak h];exact (Qcd.mpr e).symm
theorem key_rr(a b:Str):decide ((Sum.inr a:Key)=Sum.inr b)=decide (a=b):=by
 by_cases e:a=b
 ·subst e;simp
 ·have h:¬(Sum.inr a:Key)=Sum.inr b:=fun q=>e (Sum.inr.inj q)
  rw [Qak h,Qak e]
theorem key_lr(a:Int)(b:Str):decide ((Sum.inl a:Key)=Sum.inr b)=false:=Qak (fun q=>nomatch q)
theorem key_rl(a:Str)(b:Int):decide ((Sum.inr a:Key)=Sum.inl b)=false:=Qak (fun q=>nomatch q)
def Yz(prog:Program)(w:World):PySem.KeyKind prog w Key where
 is:=wA
 hash:=keyH w
 inj:=fun v a b ha hb=>by
  rcases Y4 ha with ⟨i,t,rfl,rfl⟩ | ⟨x,t,rfl,rfl⟩
  ·rcases Y4 hb with ⟨j,u,rfl,e⟩ | ⟨y,u,rfl,e⟩
   ·injection e with e1 _;rw [e1]
   ·exact nomatch e
  ·rcases Y4 hb with ⟨j,u,rfl,e⟩ | ⟨y,u,rfl,e⟩
   ·exact nomatch e
   ·injection e with e1 _;rw [e1]
 byValue:=fun k v h=>by
  rcases Y4 h with ⟨i,t,rfl,rfl⟩ | ⟨x,t,rfl,rfl⟩ <;> rfl
 pyHash:=fun hv h=>by
  rcases Y4 hv with ⟨i,t,rfl,rfl⟩ | ⟨x,t,rfl,rfl⟩
  ·exact Qg0 h
  ·exact wpAny_pyHash_str h
 eqBool:=fun hu hv h=>by
  rcases Y4 hu with ⟨i,t,rfl,rfl⟩ | ⟨x,t,rfl,rfl⟩
  ·rcases Y4 hv with ⟨j,u,rfl,rfl⟩ | ⟨y,u,rfl,rfl⟩
   ·rw [key_ll] at h;exact wpAny_eqBool_int h
   ·rw [key_lr] at h;exact SeqAt.EqAt.int_str i t y u _ _ _ _ h
  ·rcases Y4 hv with ⟨j,u,rfl,rfl⟩ | ⟨y,u,rfl,rfl⟩
   ·rw [key_rl] at h;exact SeqAt.EqAt.str_int x t j u _ _ _ _ h
   ·rw [key_rr] at h;exact wpAny_eqBool_str h
 «strs»:=fun k x t v h=>by
  rcases Y4 h with ⟨i,u,rfl,e⟩ | ⟨y,u,rfl,e⟩
  ·exact nomatch e
  ·injection e with e1 _
   subst e1;cases v <;> rfl
theorem yL(prog:Program)(w:World)(i:Int)(t:Tok):(Yz prog w).is (.inl i) (.int i t)=true:=g9 i t
theorem JR(prog:Program)(w:World)(x:Str)(t:Tok):(Yz prog w).is (.inr x) (.str x t)=true:=gC x t
inductive V where
 | non | bl (b:Bool) | int (i:Int) | str (x:Str) | byt (b:Array UInt8) | flt (b:UInt64) | ref (a:Addr) | ty (n:String)
 deriving DecidableEq
def RelV:V->Value->Prop
 | .non,u=>u=Value.none
 | .bl b,u=>u=Value.bool b
 | .int i,u=>∃t,u=Value.int i t
 | .str x,u=>∃t,u=Value.str x t
 | .byt b,u=>∃t,u=Value.bytes b t
 | .flt b,u=>∃t,u=Value.float b t
 | .ref a,u=>u=Value.ref a
 | .ty n,u=>u=Value.type n
abbrev Vals:List V->List Value->Prop:=Paired RelV
theorem Vals.length{xs:List V}{g:List Value}(r:Vals xs g):xs.length=g.length:=Qe3 r
theorem Vals.get:∀{xs:List V} {g:List Value} {i:Nat} {x:V},Vals xs g->xs[i]?=some x->∃u,g[i]?=some u/\RelV x u
 | _,_,_,_,.nil,e=>by simp at e
 | _,_,0,_,.cons r _,e=>by simp at e;subst e;exact ⟨_,rfl,r⟩
 | _,_,i + 1,x,.cons _ t,e=>by
  obtain ⟨u,h1,h2⟩:=Vals.get (i:=i) (x:=x) t (by simpa using e);exact ⟨u,by simpa using h1,h2⟩
theorem Vals.append:∀{xs ys:List V} {g q:List Value},Vals xs g->Vals ys q->Vals (xs++ys) (g++q)
 | _,_,_,_,.nil,s=>s
 | _,_,_,_,.cons r t,s=>.cons r (Vals.append t s)
theorem Vals.take:∀{xs:List V} {g:List Value} (n:Nat),Vals xs g->Vals (xs.take n) (g.take n)
 | _,_,0,_=>.nil
 | _,_,_ + 1,.nil=>.nil
 | _,_,n + 1,.cons r t=>.cons r (Vals.take n t)
theorem Vals.drop:∀{xs:List V} {g:List Value} (n:Nat),Vals xs g->Vals (xs.drop n) (g.drop n)
 | _,_,0,r=>r
 | _,_,_ + 1,.nil=>.nil
 | _,_,n + 1,.cons _ t=>Vals.drop n t
def wB:Option V->Option Value->Prop
 | some v,some u=>RelV v u
 | none,none=>True
 | _,_=>False
def KV:List (g × V)->List (g × Value)->Prop:=Paired fun (p:g × V) (q:g × Value)=>p.1=q.1/\RelV p.2 q.2
def kV:Key->V
 | .inl i=>.int i
 | .inr x=>.str x
inductive HO where
 /-- a list -/
 | lst (xs:List V)
 /-- a tuple (never changes) -/
 | tup (xs:List V)
 /-- a dict whose keys are ints and texts; one whose keys are tuples of ints and texts (the empty one is both) -/
 | dK (kvs:List (Key × V)) | dT (kvs:List (List Key × V))
 /-- a set of ints: its members, its size -/
 | set (S:Int->Bool) (n:Nat)
 /-- an instance of the class at C, its dict at dx, its attributes -/
 | ins (C dx:Addr) (fs:List (Str × V))
 /-- the dict of the instance at x -/
 | own (x:Addr)
 /-- the dict of an exception -/
 | xd (fs:List (Str × V))
 /-- a bound method, f of x -/
 | met (f x:Addr)
 /-- a range object lo, lo + 1, .. below hi -/
 | rng (lo hi:Int)
 /-- a thing that is known to the object (the script; a dict while a loop walks it): read, never written while it is so -/
 | frz (o:Obj) (u:HO)
 /-- a code object's table -/
 | tbl (ps:Array Value)
 /-- any other thing, by what is true of its one object (a def of one's own: SetO a S n := HO.ext fun h => ..) -/
 | ext (φ:Heap->Prop)
abbrev Hp:=Addr->Option HO
def upd(H:Hp)(a:Addr)(o:HO):Hp:=fun b=>if b=a then some o else H b
theorem Zc{H:Hp}{o:HO}:upd H a o a=some o:=by unfold upd;rw [Qa4 rfl]
theorem Zp{H:Hp}{b:Addr}{o:HO}(h:b≠a):upd H a o b=H b:=by unfold upd;rw [Qax h]
theorem gD{H:Hp}{o u:HO}:upd (upd H a o) a u=upd H a u:=by
 funext b;unfold upd;split <;> rfl
theorem XW{H:Hp}{b:Addr}{o u:HO}(h:H a=some o)(h':H b=some u)(d:o≠u):a≠b:=by
 intro e;subst e;rw [h] at h';exact d (Option.some.inj h')
theorem Zn{H:Hp}{b:Addr}{o:HO}(h:H a=some o)(h':H b=none):a≠b:=by
 intro e;subst e;rw [h] at h';cases h'
section
variable (P:Program)(w:World)
def YO(H:Hp)(h:Heap)(a:Addr):HO->Prop
 | .lst xs=>xs.length<=sizeLine/\∃(g:List Value) (n:Nat),Vals xs g/\h.get? a=some { cls:=.type "list",data:=.seq g.toArray n }
 | .tup xs=>xs.length<=sizeLine/\∃g:List Value,Vals xs g/\IsTup h a g.toArray
 | .dK kvs=>kvs.length<=sizeLine/\(a == sysModules)=false/\∃vs,KV kvs vs/\h.DictOf (Yz P w) a vs
 | .dT kvs=>kvs.length<=sizeLine/\(a == sysModules)=false/\∃xs:List (List Key × Addr × Value),
   Paired (fun (p:List Key × V) (q:List Key × Addr × Value)=>p.1=q.1/\H q.2.1=some (.tup (p.1.map kV))/\RelV p.2 q.2.2) kvs xs /\
   ∃o es ep,h.get? a=some o/\o.ExactDict/\o.data=.dict es ep/\es.toList=xs.map (entryOfKey (tupleKind (Yz P w)))/\(xs.map (·.1)).Nodup
 | .set S n=>h.SetOf (intKind P w) a S n
 | .ins C dx fs=>H dx=some (.own a)/\fs.length<=1000/\dx≠a/\h.get? a=some (PySem.W.instObj C dx) /\
   ∃mA,h.Ns1 dx mA/\(∀f,wB (fs.lookup f) (mA f))/\PySem.Within mA (fs.map (·.1))
 | .own _=>∃o,h.get? a=some o
 | .xd fs=>∃mA,h.Ns1 a mA/\∀f,wB (fs.lookup f) (mA f)
 | .rng lo hi=>∃t u v,h.get? a=some { cls:=.type "range",data:=.fields #[.int lo t,.int hi u,.int 1 v] }
 | .frz o u=>h.get? a=some o/\YO H h a u
 | .tbl ps=>h.get? a=some { cls:=.none,data:=.fields ps }
 | .met f x=>h.get? a=some (PySem.W.methodObj (.ref f) (.ref x))
 | .ext φ=>φ h/\(∃o,h.get? a=some o)/\∀h1 h2:Heap,φ h1->(∀o,h1.get? a=some o->h2.get? a=some o)->φ h2
def HOk(H:Hp)(h:Heap):Prop:=∀a o,H a=some o->YO P w H h a o
end
section
variable {P:Program}{w:World}{H H':Hp}{h h':Heap}{a:Addr}{o:HO}
theorem YO.lt(x:YO P w H h a o):a < h.objs.size:=by
 cases o with
 | lst xs=>obtain ⟨_,_,_,_,e⟩:=x;exact Qav e
 | tup xs=>obtain ⟨_,_,_,p⟩:=x;exact p.lt
 | dK kvs=>obtain ⟨_,_,_,_,o,_,_,e,_⟩:=x;exact Qav e
 | dT kvs=>obtain ⟨_,_,_,_,o,_,_,e,_⟩:=x;exact Qav e
 | set S n=>obtain ⟨o,_,_,_,e,_⟩:=x;exact Qav e
 | ins C dx fs=>obtain ⟨_,_,_,e,_⟩:=x;exact Qav e
 | own y=>obtain ⟨_,e⟩:=x;exact Qav e
 | xd fs=>obtain ⟨_,⟨_,_,_,e,_⟩,_⟩:=x;exact Qav e
 | rng lo hi=>obtain ⟨_,_,_,e⟩:=x;exact Qav e
 | frz ob u=>obtain ⟨e,_⟩:=x;exact Qav e
 | tbl ps=>exact Qav (show h.get? a=some _ from x)
 | met f y=>exact Qav (show h.get? a=some _ from x)
 | ext φ=>obtain ⟨_,⟨_,e⟩,_⟩:=x;exact Qav e
theorem Paired.mapP{α β:Type}{F G:α->β->Prop}:∀{q:List α} {g:List β},Paired F q g->(∀a b,F a b->G a b)->Paired G q g
 | _,_,.nil,_=>.nil
 | _,_,.cons r t,f=>.cons (f _ _ r) (Paired.mapP t f)
theorem YO.stay(x:YO P w H h a o)(k:∀b u,(b=a\/H b=some (.own a))->h.get? b=some u->h'.get? b=some u)
  (ho:∀b,H b=some (.own a)->H' b=some (.own a)) (D:∀b xs,H b=some (.tup xs)->H' b=some (.tup xs)):YO P w H' h' a o:=by
 induction o with
 | lst xs=>obtain ⟨z,g,n,r,e⟩:=x;exact ⟨z,g,n,r,k _ _ (.inl rfl) e⟩
 | tup xs=>obtain ⟨z,g,r,ob,e,c⟩:=x;exact ⟨z,g,r,ob,k _ _ (.inl rfl) e,c⟩
 | dK kvs=>obtain ⟨z,y,vs,r,ob,es,ep,e,c⟩:=x;exact ⟨z,y,vs,r,ob,es,ep,k _ _ (.inl rfl) e,c⟩
 | dT kvs =>
  obtain ⟨z,y,xs,r,ob,es,ep,e,c⟩:=x;exact ⟨z,y,xs,Paired.mapP r fun p q z=>⟨z.1,D _ _ z.2.1,z.2.2⟩,ob,es,ep,k _ _ (.inl rfl) e,c⟩
 | set S n=>obtain ⟨ob,es,ep,t,e,c⟩:=x;exact ⟨ob,es,ep,t,k _ _ (.inl rfl) e,c⟩
 | ins C dx fs =>
  obtain ⟨d,z,ne,e,mA,⟨od,es,ep,e2,c⟩,r⟩:=x;exact ⟨ho _ d,z,ne,k _ _ (.inl rfl) e,mA,⟨od,es,ep,k _ _ (.inr d) e2,c⟩,r⟩
 | own y=>obtain ⟨ob,e⟩:=x;exact ⟨ob,k _ _ (.inl rfl) e⟩
 | xd fs=>obtain ⟨mA,⟨od,es,ep,e,c⟩,r⟩:=x;exact ⟨mA,⟨od,es,ep,k _ _ (.inl rfl) e,c⟩,r⟩
 | rng lo hi=>obtain ⟨t,u,v,e⟩:=x;exact ⟨t,u,v,k _ _ (.inl rfl) e⟩
 | frz ob u E=>obtain ⟨e,q⟩:=x;exact ⟨k _ _ (.inl rfl) e,E q⟩
 | tbl ps =>
  have e:h.get? a=some { cls:=.none,data:=.fields ps }:=x;show h'.get? a=some { cls:=.none,data:=.fields ps };exact k a _ (.inl rfl) e
 | met f y =>
  have e:h.get? a=some (PySem.W.methodObj (.ref f) (.ref y)):=x;show h'.get? a=some (PySem.W.methodObj (.ref f) (.ref y));exact k a _ (.inl rfl) e
 | ext φ=>obtain ⟨p,⟨o,e⟩,st⟩:=x;exact ⟨st _ _ p fun o q=>k _ _ (.inl rfl) q,⟨o,k _ _ (.inl rfl) e⟩,st⟩
theorem HOk.lt(x:HOk P w H h)(e:H a=some o):a < h.objs.size:=(x a o e).lt
theorem HOk.fresh(x:HOk P w H h)(e:h.objs.size<=a):H a=none:=by
 cases q:H a with
 | none=>rfl
 | some u=>exact absurd (Qbf (x.lt q) e) (Qby _)
theorem HOk.kept(x:HOk P w H h)(k:∀b u,h.get? b=some u->h'.get? b=some u):HOk P w H h':=fun a o e =>
 (x a o e).stay (fun b u _ q=>k b u q) (fun _ q=>q) fun _ _ q=>q
theorem HOk.laid(x:HOk P w H h)(k:∀b u,h.get? b=some u->h'.get? b=some u)(hp:h.objs.size<=a)(g:YO P w (upd H a o) h' a o):HOk P w (upd H a o) h':=fun b u e=>by
 have hn:=x.fresh hp
 by_cases hb:b=a
 ·subst hb;rw [Zc] at e;cases e;exact g
 ·rw [Zp hb] at e
  exact (x b u e).stay (fun c v _ q=>k c v q) (fun c q=>by rw [Zp (Zn q hn)];exact q) fun c xs q=>by rw [Zp (Zn q hn)];exact q
end
def Rd(H:Hp)(a:Addr)(u:HO):Prop:=H a=some u\/∃o,H a=some (.frz o u)
theorem Rd.ok{P:Program}{H:Hp}{u:HO}(r:Rd H a u)(x:HOk P w H h):YO P w H h a u:=by
 rcases r with r | ⟨o,r⟩
 ·exact x a u r
 ·obtain ⟨_,q⟩:=x a _ r
  exact q
def Mut:Option HO->Prop
 | some (.lst _)=>True
 | some (.dK _)=>True
 | some (.dT _)=>True
 | some (.set _ _)=>True
 | some (.ins _ _ _)=>True
 | some (.ext _)=>True
 | _=>False
section
variable {P:Program}{w:World}{H:Hp}{h h':Heap}{x e:Addr}{o':HO}
theorem HOk.write(ok:HOk P w H h)(E:Mut (H x))(he:e=x\/H e=some (.own x))(k:∀b u,b≠e->h.get? b=some u->h'.get? b=some u)(I:∃u,h'.get? e=some u)
  (G:YO P w (upd H x o') h' x o'):HOk P w (upd H x o') h':=fun b u q=>by
 have C:∀c y,H c=some (.own y)->c≠x:=fun c y r z=>by subst z;rw [r] at E;exact E
 have D:∀c xs,H c=some (.tup xs)->c≠x:=fun c xs r z=>by subst z;rw [r] at E;exact E
 by_cases hb:b=x
 ·subst hb;rw [Zc] at q;cases q;exact G
 ·rw [Zp hb] at q
  by_cases g:b=e
  ·have q':H b=some (.own x):=by
    rcases he with z | z
    ·exact absurd (g.trans z) hb
    ·rw [g];exact z
   rw [q] at q';cases q';obtain ⟨v,hv⟩:=I;exact ⟨v,by rw [g];exact hv⟩
  ·refine (ok b u q).stay (fun c v hc r=>k c v ?_ r) (fun c r=>by rw [Zp (C c b r)];exact r) fun c xs r=>by rw [Zp (D c xs r)];exact r
   rcases hc with rfl | hc
   ·exact g
   ·rintro rfl
    rcases he with z | z
    ·exact C c b hc z
    ·rw [hc] at z;cases z;exact hb rfl
end
structure Un(fs ex:List Addr)(H H':Hp)(h h':Heap):Prop where
 keep:∀b o,h.get? b=some o->H b=none->b∉fs->b∉ex->h'.get? b=some o
 slot:∀b o,h.get? b=some o->H b=none->b∈fs->b∉ex->∃sl,h'.get? b=some { o with slots:=sl }
 free:∀b o,h.get? b=some o->H b=none->b∉ex->H' b=none
 there:∀b o,h.get? b=some o->b∉ex->∃o',h'.get? b=some o'
 tups:∀b xs,H b=some (.tup xs)->H' b=some (.tup xs)
 frzs:∀b o u,H b=some (.frz o u)->H' b=some (.frz o u)
 tbls:∀b ps,H b=some (.tbl ps)->∃more,H' b=some (.tbl (ps++more))
section
variable {fs fs' ex ex':List Addr}{H H1 H2:Hp}{h h1 h2 h':Heap}{a x e:Addr}{o:HO}
theorem Un.any(u:Un fs ex H H1 h h1){b:Addr}{ob:Obj}(q:h.get? b=some ob)(n:H b=none)(hx:b∉ex):∃g,h1.get? b=some { ob with slots:=g }:=by
 by_cases hb:b∈fs
 ·exact u.slot b ob q n hb hx
 ·exact ⟨ob.slots,u.keep b ob q n hb hx⟩
theorem Un.kept(k:∀b u,h.get? b=some u->h'.get? b=some u):Un fs ex H H h h' :=
 ⟨fun b ob q _ _ _=>k b ob q,fun b ob q _ _ _=>⟨ob.slots,k b ob q⟩,fun _ _ _ n _=>n,fun b ob q _=>⟨ob,k b ob q⟩,fun _ _ q=>q,fun _ _ _ q=>q,fun _ ps q=>⟨#[],by rw [q];simp⟩⟩
theorem Un.refl:Un fs ex H H h h:=Un.kept fun _ _ q=>q
theorem Un.laid(k:∀b u,h.get? b=some u->h'.get? b=some u)(hp:h.objs.size<=a)(hn:H a=none):Un fs ex H (upd H a o) h h' where
 keep:=fun b u q _ _ _=>k b u q
 slot:=fun b u q _ _ _=>⟨u.slots,k b u q⟩
 free:=fun b u q n _=>by rw [Zp (Qbt (Qbf (Qav q) hp))];exact n
 there:=fun b u q _=>⟨u,k b u q⟩
 tups:=fun b xs q=>by rw [Zp (Zn q hn)];exact q
 frzs:=fun b u xs q=>by rw [Zp (Zn q hn)];exact q
 tbls:=fun b ps q=>⟨#[],by rw [Zp (Zn q hn),q];simp⟩
theorem Un.write(C:Mut (H x))(he:e=x\/H e=some (.own x))(k:∀b u,b≠e->h.get? b=some u->h'.get? b=some u)(D:∃u,h'.get? e=some u):Un fs ex H (upd H x o) h h':=by
 have hx:∀b,H b=none->b≠x:=fun b n z=>by subst z;rw [n] at C;exact C
 have hb:∀b,H b=none->b≠e:=fun b n z=>by
  subst z;rcases he with r | r
  ·exact hx b n r
  ·rw [n] at r;cases r
 have hm:∀b u,H b=some u->¬Mut (some u)->b≠x:=fun b u q nm z=>by subst z;rw [q] at C;exact nm C
 refine ⟨fun b u q n _ _=>k b u (hb b n) q,fun b u q n _ _=>⟨u.slots,k b u (hb b n) q⟩,fun b u q n _=>by rw [Zp (hx b n)];exact n,fun b u q _=>?_,
  fun b xs q=>by rw [Zp (hm b _ q fun z=>z)];exact q,fun b u xs q=>by rw [Zp (hm b _ q fun z=>z)];exact q,fun b ps q=>⟨#[],by rw [Zp (hm b _ q fun z=>z),q];simp⟩⟩
 by_cases g:b=e
 ·subst g;exact D
 ·exact ⟨u,k b u g q⟩
end
def trk(h:Heap)(H:Hp):List Addr:=(List.range h.objs.size).filter fun a=>(H a).isSome
def gE(h:Heap)(H:Hp):Heap:=PySem.W.hideAll h (trk h H)
theorem gF(h:Heap)(H:Hp):(gE h H).objs.size=h.objs.size:=PySem.W.hideAll_size _ _
theorem Zcp{H:Hp}{b:Addr}{o:Obj}(e:h.get? b=some o)(n:H b=none):(gE h H).get? b=some o :=
 PySem.W.hideAll_get _ e fun hm=>by
  have q:(H b).isSome=true:=(Qf6.mp hm).2;rw [n] at q;simp at q
theorem Zfy{H:Hp}{b:Addr}{o:Obj}(e:(gE h H).get? b=some o):h.get? b=some o/\H b=none:=by
 have g:h.get? b=some o:=PySem.W.of_hideAll (trk h H) e;refine ⟨g,?_⟩;cases q:H b with
 | none=>rfl
 | some x =>
  have hm:b∈trk h H:=Qf6.mpr ⟨Qb9.mpr (Qav g),by simp [q]⟩;have z:(gE h H).get? b=none:=PySem.W.hideAll_none (trk h H) hm;rw [z] at e;cases e
structure Mod(K:PySem.W.Frag)(mg:Str->Option Value)(base:Heap):Prop where
 kin:K.In base
 glob:base.Ns mainGlobals mg
 blt:∃mb,base.Ns builtinsNs mb/\∀x:Str,x ≠ "__name__" -> mb x=bootBuiltins x
 nolimit:base.NoLimit
set_option genInjectivity false in
set_option genSizeOfSpec false in
structure Cx where
 prog:Program
 w:World
 K:PySem.W.Frag
 mg:Str->Option Value
 base:Heap
 A:Around
 N:List Str
 s₀:Shared
 H₀:Hp
 env:Env
 outer:List Env
 stack:List Env
 ex:List Addr
 fn:Str->Bool
 calm:Bool
 pn:List (Addr × Obj)
 xe:Value->Shared->Prop
def frs(l:List Env):List Addr:=l.filterMap (·.frame)
abbrev Cx.fs(X:Cx):List Addr:=frs X.outer
def Vis(g:Scope)(x:Str):Prop:=g.names.lookup x=some .local\/g.names.lookup x=some .cell\/g.names.lookup x=some .free
def Loc(g:Scope)(x:Str):Prop:=g.names.lookup x=some .local\/g.names.lookup x=some .cell
def Look(env:Env)(h:Heap)(m:Str->Option Value)(x:Str)(u:Value):Prop :=
 (env.kindOf x=some .local/\m x=some u)\/((env.kindOf x=some .cell\/env.kindOf x=some .free)/\∃c,env.cells.lookup x=some c/\h.IsCell c (some u))
set_option genInjectivity false in
set_option genSizeOfSpec false in
structure Cx.Ok(X:Cx):Prop where
 mod:Mod X.K X.mg X.base
 kind:X.env.scope.kind=.function
 glob:X.env.globals=mainGlobals
 blt:X.env.builtins=builtinsNs
 above:X.s₀.heap.objs.size<=X.env.locals
 inj:∀x y c,X.env.cells.lookup x=some c->X.env.cells.lookup y=some c->x=y
 has:∀x,(X.env.kindOf x=some .cell\/X.env.kindOf x=some .free)->∃c,X.env.cells.lookup x=some c
 cab:∀x c,X.fn x=true->X.env.cells.lookup x=some c->X.s₀.heap.objs.size<=c
 hd:X.calm=true->X.A.handled=none
 frames:X.A.frames=some X.stack
 stk:X.stack=X.outer\/(X.stack=X.env::X.outer/\X.env.frame=some X.env.locals)
 exf:∀b∈X.ex,b≠X.env.locals/\∀x c,X.env.cells.lookup x=some c->c≠b
 bs:∀b o,X.base.get? b=some o->X.s₀.heap.get? b=some o/\X.H₀ b=none
 bsz:X.base.objs.size<=X.s₀.heap.objs.size
 noex:∀b o,X.base.get? b=some o->b∉X.ex
 exfs:∀b∈X.ex,b∉X.fs
 funs:X.s₀.heap.FunFrames X.base X.outer
 frf:∀b∈X.fs,X.H₀ b=none
structure Inv(X:Cx)(pins:List (Addr × Obj))(σ:List (Option V))(H:Hp)(s:Shared):Prop where
 ok:X.Ok
 os:s.os=X.s₀.os
 bare:AllBare s.gens
 base:Un X.fs X.ex X.H₀ H X.s₀.heap s.heap
 loc:∃m,s.heap.Ns X.env.locals m/\∀(i:Nat) (x:Str) (v:V),X.N[i]?=some x->σ[i]?=some (some v)->Vis X.env.scope x->∃u,RelV v u/\Look X.env s.heap m x u
 cell:∀x c,X.env.cells.lookup x=some c->∃v,s.heap.IsCell c v
 free:H X.env.locals=none
 freeC:∀x c,X.env.cells.lookup x=some c->H c=none
 pin:∀p∈X.pn++pins,s.heap.get? p.1=some p.2/\H p.1=none/\p.1≠X.env.locals/\p.1∉X.fs/\∀v,p.2.data≠.cell v
 hok:HOk X.prog X.w H s.heap
 len:σ.length=X.N.length
section
variable {X:Cx}{pins:List (Addr × Obj)}{σ:List (Option V)}{H H':Hp}{s:Shared}{h':Heap}
theorem Cx.Ok.nofr(ok:X.Ok){b:Addr}{o:Obj}(e:X.base.get? b=some o):b∉X.fs:=fun hb=>by
 have:=(ok.funs.mem hb).1;rw [e] at this;cases this
theorem Inv.bs(I:Inv X pins σ H s):∀b o,X.base.get? b=some o->s.heap.get? b=some o/\H b=none:=fun b o e =>
 ⟨I.base.keep b o (I.ok.bs b o e).1 (I.ok.bs b o e).2 (I.ok.nofr e) (I.ok.noex b o e),I.base.free b o (I.ok.bs b o e).1 (I.ok.bs b o e).2 (I.ok.noex b o e)⟩
theorem Inv.bk(I:Inv X pins σ H s):∀b o,X.base.get? b=some o->s.heap.get? b=some o:=fun b o e=>(I.bs b o e).1
theorem Inv.mod(I:Inv X pins σ H s):Mod X.K X.mg X.base:=I.ok.mod
theorem Inv.kIn(I:Inv X pins σ H s):X.K.In s.heap:=I.ok.mod.kin.keeps I.bk
theorem Inv.lt(I:Inv X pins σ H s):X.env.locals < s.heap.objs.size:=let ⟨_,hn,_⟩:=I.loc;hn.lt
theorem Inv.sz(I:Inv X pins σ H s):X.s₀.heap.objs.size<=s.heap.objs.size:=Qbg I.ok.above (Qa5 I.lt)
theorem Inv.nofs(I:Inv X pins σ H s)(h:s.heap.objs.size<=a):a∉X.fs:=fun hb=>by
 obtain ⟨_,o,ho,_⟩:=I.ok.funs.mem hb;exact absurd (Qbf (Qav ho) (Qbg I.sz h)) (Qby _)
theorem Inv.cne(I:Inv X pins σ H s):∀x c,X.env.cells.lookup x=some c->c≠X.env.locals:=fun x c e z=>by
 obtain ⟨v,o,ho,hd⟩:=I.cell x c e;obtain ⟨m,⟨o',es,ep,g,q,_⟩,_⟩:=I.loc;rw [z,g] at ho;cases ho;rw [q] at hd;cases hd
theorem Inv.funs(I:Inv X pins σ H s):s.heap.FunFrames X.base X.outer:=by
 have all:∀(l:List Env),(∀b∈frs l,b∈X.fs)->X.s₀.heap.FunFrames X.base l->s.heap.FunFrames X.base l:=by
  intro l
  induction l with
  | nil=>intro _ _;trivial
  | cons env r q =>
   intro hs hl;obtain ⟨hk,⟨L,o,hf,hn,ho,hd⟩,hr⟩:=hl;have g:L∈X.fs:=hs L (by unfold frs;rw [Qf7,hf];exact Qal);obtain ⟨C,e⟩:=I.base.slot L o ho (I.ok.frf L g) g fun z=>I.ok.exfs L z g;exact ⟨hk,⟨L,_,hf,hn,e,hd⟩,q (fun b hb=>hs b (by unfold frs;rw [Qf7,hf];exact Qam _ hb)) hr⟩
 exact all X.outer (fun _ hb=>hb) I.ok.funs
theorem Inv.stack(I:Inv X pins σ H s):s.heap.FunFrames X.base X.stack:=by
 rcases I.ok.stk with e | ⟨e,hf⟩
 ·rw [e];exact I.funs
 ·rw [e]
  obtain ⟨m,hn,_⟩:=I.loc;refine .cons (by rw [I.ok.kind];decide) hf hn ?_ I.funs;exact Heap.get?_none_of_le (Qbg I.ok.bsz I.ok.above)
theorem Inv.stkSub(I:Inv X pins σ H s):∀b∈frs X.stack,b∈X.env.locals::X.fs:=fun b hb=>by
 rcases I.ok.stk with e | ⟨e,hf⟩
 ·rw [e] at hb;exact Qam _ hb
 ·rw [e] at hb
  unfold frs at hb;rw [Qf7,hf] at hb;exact hb
theorem Inv.stkFree(I:Inv X pins σ H s):∀b∈frs X.stack,H b=none:=fun b hb=>by
 rcases Qas.mp (I.stkSub b hb) with e | hb
 ·rw [e];exact I.free
 ·obtain ⟨_,o,ho,_⟩:=I.ok.funs.mem hb
  exact I.base.free b o ho (I.ok.frf b hb) fun z=>I.ok.exfs b z hb
theorem Inv.step{g':Array GenState}{t':Nat}{d':Drawn}{ch:List Addr}(I:Inv X pins σ H s)
  (g:∀b∈ch,(b∈X.ex\/X.s₀.heap.objs.size<=b)/\b≠X.env.locals/\(∀x c,X.env.cells.lookup x=some c->c≠b)/\∀p∈X.pn++pins,p.1≠b)
  (keep:∀b o,b≠X.env.locals->b∉X.fs->b∉ch->s.heap.get? b=some o->H b=none->h'.get? b=some o)
  (slot:∀b o,b≠X.env.locals->b∈X.fs->b∉ch->s.heap.get? b=some o->H b=none->∃O,h'.get? b=some { o with slots:=O }) (free:∀b o,b∉ch->s.heap.get? b=some o->H b=none->H' b=none)
  (G:∀b o,b∉ch->s.heap.get? b=some o->∃o',h'.get? b=some o')
  (tups:∀b xs,H b=some (.tup xs)->H' b=some (.tup xs)) (L:∀b o u,H b=some (.frz o u)->H' b=some (.frz o u)) (M:∀b ps,H b=some (.tbl ps)->∃J,H' b=some (.tbl (ps++J)))
  (ns:∀m,s.heap.Ns X.env.locals m->h'.Ns X.env.locals m) (S:HOk X.prog X.w H' h') (hg:AllBare g') :
  Inv X pins σ H' { s with heap:=h',gens:=g',drawn:=d',toks:=t' }:=by
 have N:∀b o,X.s₀.heap.get? b=some o->b≠X.env.locals:=fun b o e=>Qbt (Qbf (Qav e) I.ok.above);have E:∀b o,X.s₀.heap.get? b=some o->b∉X.ex->b∉ch:=fun b o e hx hb=>by
  rcases (g b hb).1 with z | z
  ·exact hx z
  ·exact absurd (Qbf (Qav e) z) (Qby _)
 have D:∀x c,X.env.cells.lookup x=some c->∀v,s.heap.IsCell c v->h'.IsCell c v:=fun x c e v ⟨o,ho,hd⟩=>by
  have C:c∉ch:=fun z=>(g c z).2.2.1 x c e rfl
  by_cases hc:c∈X.fs
  ·obtain ⟨O,q⟩:=slot c o (I.cne x c e) hc C ho (I.freeC x c e)
   exact ⟨_,q,hd⟩
  ·exact ⟨o,keep c o (I.cne x c e) hc C ho (I.freeC x c e),hd⟩
 refine ⟨I.ok,I.os,hg,⟨fun b o e n hb hx=>?_,fun b o e n hb hx=>?_,fun b o e n hx=>?_,fun b o e hx=>?_,fun b xs e=>tups b xs (I.base.tups b xs e),fun b o xs e=>L b o xs (I.base.frzs b o xs e),fun b ps e=>?_⟩,?_,fun x c e=>?_,?_,fun x c e=>?_,fun p hp=>?_,S,I.len⟩
 ·exact keep b o (N b o e) hb (E b o e hx) (I.base.keep b o e n hb hx) (I.base.free b o e n hx)
 ·obtain ⟨O,e1⟩:=I.base.slot b o e n hb hx
  obtain ⟨R,e2⟩:=slot b _ (N b o e) hb (E b o e hx) e1 (I.base.free b o e n hx);exact ⟨R,e2⟩
 ·obtain ⟨o',e1⟩:=I.base.there b o e hx
  exact free b o' (E b o e hx) e1 (I.base.free b o e n hx)
 ·obtain ⟨o',e1⟩:=I.base.there b o e hx
  exact G b o' (E b o e hx) e1
 ·obtain ⟨m1,e1⟩:=I.base.tbls b ps e
  obtain ⟨Z,e2⟩:=M b _ e1;exact ⟨m1++Z,by rw [e2,Array.append_assoc]⟩
 ·obtain ⟨m,hn,hl⟩:=I.loc
  refine ⟨m,ns m hn,fun i x v e1 e2 e3=>?_⟩;obtain ⟨u,r,l⟩:=hl i x v e1 e2 e3;refine ⟨u,r,?_⟩;rcases l with l | ⟨k,c,e,z⟩
  ·exact .inl l
  ·exact .inr ⟨k,c,e,D x c e _ z⟩
 ·obtain ⟨v,z⟩:=I.cell x c e
  exact ⟨v,D x c e v z⟩
 ·obtain ⟨m,⟨o,_,_,ho,_⟩,_⟩:=I.loc
  exact free _ o (fun z=>(g _ z).2.1 rfl) ho I.free
 ·obtain ⟨v,o,ho,hd⟩:=I.cell x c e
  exact free c o (fun z=>(g c z).2.2.1 x c e rfl) ho (I.freeC x c e)
 ·obtain ⟨e,n,ne,Y,d⟩:=I.pin p hp
  have C:p.1∉ch:=fun z=>(g p.1 z).2.2.2 p hp rfl;exact ⟨keep p.1 p.2 ne Y C e n,free p.1 p.2 C e n,ne,Y,d⟩
theorem Inv.un{t':Nat}(I:Inv X pins σ H s)(u:Un X.fs [] H H' s.heap h')(D:HOk X.prog X.w H' h'):Inv X pins σ H' { s with heap:=h',toks:=t' }:=by
 obtain ⟨m,⟨o,es,ep,ho,r⟩,_⟩:=id I.loc;obtain ⟨J,E⟩:=u.any ho I.free (by simp);exact I.step (g':=s.gens) (d':=s.drawn) (ch:=[]) (fun _ z=>nomatch z) (fun b o _ hb _ e n=>u.keep b o e n hb (by simp)) (fun b o _ hb _ e n=>u.slot b o e n hb (by simp)) (fun b o _ e n=>u.free b o e n (by simp)) (fun b o _ e=>u.there b o e (by simp)) u.tups u.frzs u.tbls (fun L hm=>by
  obtain ⟨o',q,C,g,G⟩:=hm;rw [ho] at g;cases g;exact ⟨_,q,C,E,G⟩) D I.bare
theorem Inv.call{g':Array GenState}{t':Nat}{d':Drawn}{ch:List Addr}(I:Inv X pins σ H s)(u:Un (frs X.stack) ch H H' s.heap h')(G:HOk X.prog X.w H' h')(hg:AllBare g')
  (g:∀b∈ch,(b∈X.ex\/X.s₀.heap.objs.size<=b)/\b≠X.env.locals/\(∀x c,X.env.cells.lookup x=some c->c≠b)/\∀p∈X.pn++pins,p.1≠b) :
  Inv X pins σ H' { s with heap:=h',gens:=g',drawn:=d',toks:=t' }:=by
 obtain ⟨m,⟨o,es,ep,ho,r⟩,_⟩:=id I.loc;obtain ⟨L,E⟩:=u.any ho I.free fun z=>(g _ z).2.1 rfl;exact I.step (ch:=ch) g (fun b o E hb hc e n=>u.keep b o e n (fun z=>(Qas.mp (I.stkSub b z)).elim E hb) hc) (fun b o _ _ hc e n=>u.any e n hc) (fun b o hc e n=>u.free b o e n hc) (fun b o hc e=>u.there b o e hc) u.tups u.frzs u.tbls (fun M hm=>by
  obtain ⟨o',C,D,q,J⟩:=hm;rw [ho] at q;cases q;exact ⟨_,C,D,E,J⟩) G hg
theorem Inv.turned{t':Nat}{it:Addr}(I:Inv X pins σ H s)(k:∀b o,b≠it->s.heap.get? b=some o->h'.get? b=some o)(hn:H it=none)(C:it≠X.env.locals)
  (h1:it∈X.ex\/X.s₀.heap.objs.size<=it) (h2:∀x c,X.env.cells.lookup x=some c->c≠it) (D:∀p∈X.pn++pins,p.1≠it):Inv X pins σ H { s with heap:=h',toks:=t' }:=by
 have g:∀b u,H b=some u->b≠it:=fun b u e z=>by rw [z,hn] at e;cases e
 refine I.step (g':=s.gens) (d':=s.drawn) (ch:=[it]) (fun b hb=>?_) (fun b o _ _ hc e _=>k b o (fun z=>hc (by simp [z])) e) (fun b o _ _ hc e _=>⟨o.slots,k b o (fun z=>hc (by simp [z])) e⟩) (fun _ _ _ _ n=>n)
  (fun b o hc e=>⟨o,k b o (fun z=>hc (by simp [z])) e⟩) (fun _ _ e=>e) (fun _ _ _ e=>e) (fun b ps e=>⟨#[],by rw [e];simp⟩) (fun m hm=>?_) (fun b u e=>?_) I.bare
 ·have e:b=it:=by simpa using hb
  subst e;exact ⟨h1,C,h2,D⟩
 ·obtain ⟨o,es,ep,ho,r⟩:=hm
  exact ⟨o,es,ep,k _ o (Qdk C) ho,r⟩
 ·refine (I.hok b u e).stay (fun c v hc q=>k c v ?_ q) (fun _ q=>q) fun _ _ q=>q
  rcases hc with z | z
  ·rw [z];exact g b u e
  ·exact g c _ z
theorem Inv.tok(I:Inv X pins σ H s)(t:Nat):Inv X pins σ H { s with toks:=t }:=I.un (h':=s.heap) (t':=t) Un.refl I.hok
theorem Inv.kept{t':Nat}(I:Inv X pins σ H s)(k:∀b u,s.heap.get? b=some u->h'.get? b=some u):Inv X pins σ H { s with heap:=h',toks:=t' }:=I.un (Un.kept k) (I.hok.kept k)
theorem Inv.laid{a:Addr}{o:HO}{t':Nat}(I:Inv X pins σ H s)(k:∀b u,s.heap.get? b=some u->h'.get? b=some u)(hp:s.heap.objs.size<=a)(g:YO X.prog X.w (upd H a o) h' a o) :
  Inv X pins σ (upd H a o) { s with heap:=h',toks:=t' }:=I.un (Un.laid k hp (I.hok.fresh hp)) (I.hok.laid k hp g)
theorem Inv.write{x e:Addr}{o:HO}{t':Nat}(I:Inv X pins σ H s)(C:Mut (H x))(he:e=x\/H e=some (.own x))(k:∀b u,b≠e->s.heap.get? b=some u->h'.get? b=some u)(g:∃u,h'.get? e=some u)
  (q:YO X.prog X.w (upd H x o) h' x o):Inv X pins σ (upd H x o) { s with heap:=h',toks:=t' }:=I.un (Un.write C he k g) (I.hok.write C he k g q)
theorem Inv.pins_of(I:Inv X pins σ H s)(h:∀p∈r,s.heap.get? p.1=some p.2/\H p.1=none/\p.1≠X.env.locals/\p.1∉X.fs/\∀v,p.2.data≠.cell v):Inv X r σ H s :=
 ⟨I.ok,I.os,I.bare,I.base,I.loc,I.cell,I.free,I.freeC,fun p hp=>(Qbk.mp hp).elim (fun z=>I.pin p (Qc6 _ z)) (h p),I.hok,I.len⟩
theorem vS(hN:N.Nodup){j:Nat}(a:N[i]?=some x)(b:N[j]?=some x):i=j:=by
 obtain ⟨h1,e1⟩:=Qac.mp a;obtain ⟨h2,e2⟩:=Qac.mp b;exact (List.getElem_inj hN).mp (e1.trans e2.symm)
theorem gG{M:Model}{A:Around}{E:Value->Shared->Prop}{v:V}{Q:Unit->Shared->Prop}(I:Inv X pins σ H s)(hN:X.N.Nodup)(hi:X.N[i]?=some x)(hx:Loc X.env.scope x)(r:RelV v u)
  (h:∀s',Inv X pins (σ.set i (some v)) H s'->(∃a,Heap.SameBut a s.heap s'.heap/\(a=X.env.locals\/X.env.cells.lookup x=some a))->Q () s') (hf:X.fn x=true\/X.env.scope.names.lookup x=some .local:=by first | exact .inl rfl | exact .inr rfl | assumption):wpAny M A (storeName X.env x u) Q E s:=by
 obtain ⟨m,hn,hl⟩:=id I.loc;have Y:(X.env.scope.kind == .class || (X.env.scope.kind == .module && X.env.locals != X.env.globals))=false:=by rw [I.ok.kind];rfl
 have D:i < σ.length:=by rw [I.len];exact (Qac.mp hi).1
 have cne:=I.cne;have g:∀{a:Addr} {h':Heap},(∃o,s.heap.get? a=some o/\H a=none)->Heap.SameBut a s.heap h'->HOk X.prog X.w H h':=fun {a h'} ha hs b ob e=>by
  obtain ⟨_,_,C⟩:=ha;refine (I.hok b ob e).stay (fun c w' hc q=>(hs.2 c ?_).trans q) (fun _ q=>q) fun _ _ q=>q;rintro rfl;rcases hc with rfl | hc
  ·rw [C] at e;cases e
  ·rw [C] at hc;cases hc
 rcases hx with hk | hk
 ·refine wpAny_storeName_local hk hn (fun h' hn' hs=>?_) Y
  obtain ⟨oL,_,_,hoL,_⟩:=id hn;refine h _ ⟨I.ok,I.os,I.bare,⟨fun b o e n hb hx=>?_,fun b o e n hb hx=>?_,I.base.free,fun b o e hx=>?_,I.base.tups,I.base.frzs,I.base.tbls⟩,⟨_,hn',fun j y v' e1 e2 e3=>?_⟩,fun y c e=>?_,I.free,I.freeC,fun p hp=>?_,g ⟨oL,hoL,I.free⟩ hs,by simpa using I.len⟩ ⟨_,hs,.inl rfl⟩
  ·exact (hs.2 b (Qbt (Qbf (Qav e) I.ok.above))).trans (I.base.keep b o e n hb hx)
  ·obtain ⟨sl,e1⟩:=I.base.slot b o e n hb hx
   exact ⟨sl,(hs.2 b (Qbt (Qbf (Qav e) I.ok.above))).trans e1⟩
  ·obtain ⟨o',e1⟩:=I.base.there b o e hx
   exact ⟨o',(hs.2 b (Qbt (Qbf (Qav e) I.ok.above))).trans e1⟩
  ·by_cases G:j=i
   ·subst G
    rw [hi] at e1;cases e1;rw [List.getElem?_set_self D] at e2;cases e2;exact ⟨u,r,.inl ⟨hk,by simp⟩⟩
   ·rw [List.getElem?_set_ne (Qdk G)] at e2
    obtain ⟨u',r',q⟩:=hl j y v' e1 e2 e3;refine ⟨u',r',?_⟩;rcases q with ⟨k,e⟩ | ⟨k,c,e,z⟩
    ·refine .inl ⟨k,?_⟩
     have:y≠x:=fun e=>G (vS hN e1 (e ▸ hi));simp [this,e]
    ·exact .inr ⟨k,c,e,z.sameBut hs (cne y c e)⟩
  ·obtain ⟨w',z⟩:=I.cell y c e
   exact ⟨w',z.sameBut hs (cne y c e)⟩
  ·obtain ⟨e,n,ne,nf,d⟩:=I.pin p hp
   exact ⟨(hs.2 p.1 ne).trans e,n,ne,nf,d⟩
 ·have J:X.fn x=true:=by
   rcases hf with z | z
   ·exact z
   ·rw [z] at hk;cases hk
  obtain ⟨c,hc⟩:=I.ok.has x (.inl hk);obtain ⟨w',z⟩:=I.cell x c hc;refine wpAny_storeName_cell I.ok.kind hk hc z (fun h' L hs=>?_);obtain ⟨oc,O,R⟩:=id z;refine h { s with heap:=h' } ⟨I.ok,I.os,I.bare,⟨fun b o e n hb hx=>?_,fun b o e n hb hx=>?_,I.base.free,fun b o e hx=>?_,I.base.tups,I.base.frzs,I.base.tbls⟩,⟨m,hn.sameBut hs (Qdk (cne x c hc)),fun j y v' e1 e2 e3=>?_⟩,fun y Z e=>?_,I.free,I.freeC,fun p hp=>?_,g ⟨oc,O,I.freeC x c hc⟩ hs,by simpa using I.len⟩ ⟨c,hs,.inr hc⟩
  ·exact (hs.2 b (Qbt (Qbf (Qav e) (I.ok.cab x c J hc)))).trans (I.base.keep b o e n hb hx)
  ·obtain ⟨sl,e1⟩:=I.base.slot b o e n hb hx
   exact ⟨sl,(hs.2 b (Qbt (Qbf (Qav e) (I.ok.cab x c J hc)))).trans e1⟩
  ·obtain ⟨o',e1⟩:=I.base.there b o e hx
   exact ⟨o',(hs.2 b (Qbt (Qbf (Qav e) (I.ok.cab x c J hc)))).trans e1⟩
  ·by_cases G:j=i
   ·subst G
    rw [hi] at e1;cases e1;rw [List.getElem?_set_self D] at e2;cases e2;exact ⟨u,r,.inr ⟨.inl hk,c,hc,L⟩⟩
   ·rw [List.getElem?_set_ne (Qdk G)] at e2
    obtain ⟨u',r',q⟩:=hl j y v' e1 e2 e3;refine ⟨u',r',?_⟩;rcases q with q | ⟨k,Z,e,z'⟩
    ·exact .inl q
    ·refine .inr ⟨k,Z,e,z'.sameBut hs ?_⟩
     rintro rfl;exact G (vS hN e1 (I.ok.inj _ _ _ e hc ▸ hi))
  ·by_cases S:Z=c
   ·subst S;exact ⟨_,L⟩
   ·obtain ⟨w2,z2⟩:=I.cell y Z e
    exact ⟨w2,z2.sameBut hs S⟩
  ·obtain ⟨e,n,ne,nf,d⟩:=I.pin p hp
   refine ⟨(hs.2 p.1 ?_).trans e,n,ne,nf,d⟩;intro q;rw [q,O] at e;have q':oc=p.2:=Option.some.inj e;exact d w' (by rw [<-q'];exact R)
theorem WD{M:Model}{A:Around}{E:Value->Shared->Prop}{v:V}{Q:Unit->Shared->Prop}(I:Inv X pins σ H s)(hN:X.N.Nodup)(hi:X.N[i]?=some x)(hx:Loc X.env.scope x)(r:RelV v u)
  (h:∀s',Inv X pins (σ.set i (some v)) H s'->Q () s') (hf:X.fn x=true\/X.env.scope.names.lookup x=some .local:=by first | exact .inl rfl | exact .inr rfl | assumption):wpAny M A (storeName X.env x u) Q E s :=
 gG I hN hi hx r (fun s' g _=>h s' g) hf
theorem Inv.call'{s':Shared}{ch:List Addr}(I:Inv X pins σ H s)(ho:s'.os=s.os)(u:Un (frs X.stack) ch H H' s.heap s'.heap)(q:HOk X.prog X.w H' s'.heap)(hg:AllBare s'.gens)
  (g:∀b∈ch,(b∈X.ex\/X.s₀.heap.objs.size<=b)/\b≠X.env.locals/\(∀x c,X.env.cells.lookup x=some c->c≠b)/\∀p∈X.pn++pins,p.1≠b):Inv X pins σ H' s':=by
 obtain ⟨h',g',d',t',o'⟩:=s';have e:o'=s.os:=ho;subst e;exact I.call (g':=g') (t':=t') (d':=d') u q hg g
end
abbrev XK:=Value->Option Addr->Hp->Prop
abbrev St:=List (Option V)
abbrev VK:=V->Hp->Prop
abbrev TE:=St->Hp->VK->Prop
abbrev TT:=St->Hp->(Bool->Hp->Prop)->Prop
abbrev TA:=St->Hp->(List V->Hp->Prop)->Prop
structure Ends where
 nx:St->Hp->Prop
 rt:VK
 bk:St->Hp->Prop:=fun _ _=>False
 ct:St->Hp->Prop:=fun _ _=>False
abbrev TS:=Ends->St->Hp->Prop
inductive EP_i(X:Cx)(pins:List (Addr × Obj))(σ:St)(Q:VK)(u:Value)(s':Shared):Prop
 | mk (v H':_):(Inv X pins σ H' s')->(RelV v u)->(Q v H')->EP_i X pins σ Q u s'
def EP(X:Cx)(pins:List (Addr × Obj))(σ:St)(Q:VK)(u:Value)(s':Shared):Prop:=EP_i X pins σ Q u s'
inductive TP_i(X:Cx)(pins:List (Addr × Obj))(σ:St)(Q:Bool->Hp->Prop)(b:Bool)(s':Shared):Prop
 | mk (H':_):(Inv X pins σ H' s')->(Q b H')->TP_i X pins σ Q b s'
def TP(X:Cx)(pins:List (Addr × Obj))(σ:St)(Q:Bool->Hp->Prop)(b:Bool)(s':Shared):Prop:=TP_i X pins σ Q b s'
inductive AP_i(X:Cx)(pins:List (Addr × Obj))(σ:St)(Q:List V->Hp->Prop)(us:List Value)(s':Shared):Prop
 | mk (vs H':_):(Inv X pins σ H' s')->(Vals vs us)->(Q vs H')->AP_i X pins σ Q us s'
def AP(X:Cx)(pins:List (Addr × Obj))(σ:St)(Q:List V->Hp->Prop)(g:List Value)(s':Shared):Prop:=AP_i X pins σ Q g s'
def SP(X:Cx)(pins:List (Addr × Obj))(D:Ends)(f:Flow)(s':Shared):Prop :=
 match f with
 | .next=>∃g H',Inv X pins g H' s'/\D.nx g H'
 | .brk=>∃g H',Inv X pins g H' s'/\D.bk g H'
 | .cont=>∃g H',Inv X pins g H' s'/\D.ct g H'
 | .ret u=>∃v g H',Inv X pins g H' s'/\RelV v u/\D.rt v H'
def PE(X:Cx)(e:Expr)(t:TE):Prop :=
 ∀(pins:List (Addr × Obj)) (s:Shared) (σ:St) (H:Hp) (Q:VK),Inv X pins σ H s->t σ H Q->wpAny (model X.prog X.w) X.A (eval e X.env) (EP X pins σ Q) X.xe s
def PT(X:Cx)(e:Expr)(t:TT):Prop :=
 ∀(pins:List (Addr × Obj)) (s:Shared) (σ:St) (H:Hp) (Q:Bool->Hp->Prop),Inv X pins σ H s->t σ H Q->wpAny (model X.prog X.w) X.A (isTrue e X.env (eval e X.env)) (TP X pins σ Q) X.xe s
def PW(X:Cx)(e:Expr)(t:TT):Prop :=
 ∀(g:Sem Value) (pins:List (Addr × Obj)) (s:Shared) (σ:St) (H:Hp) (Q:Bool->Hp->Prop),Inv X pins σ H s->t σ H Q->wpAny (model X.prog X.w) X.A (isTrue e X.env g) (TP X pins σ Q) X.xe s
theorem PW.pt{X:Cx}{t:TT}(h:PW X e t):PT X e t:=h _
def PA(X:Cx)(es:List Expr)(t:TA):Prop :=
 ∀(pos:Pos) (pins:List (Addr × Obj)) (s:Shared) (σ:St) (H:Hp) (Q:List V->Hp->Prop),Inv X pins σ H s->t σ H Q->wpAny (model X.prog X.w) X.A (spliced (backTo pos (starEach es X.env))) (AP X pins σ Q) X.xe s
def PS(X:Cx)(st:Stmt)(t:TS):Prop :=
 ∀(pins:List (Addr × Obj)) (s:Shared) (σ:St) (H:Hp) (D:Ends),Inv X pins σ H s->t D σ H->wpAny (model X.prog X.w) X.A (exec st X.env) (SP X pins D) X.xe s
def PSs(X:Cx)(st:List Stmt)(t:TS):Prop :=
 ∀(pins:List (Addr × Obj)) (s:Shared) (σ:St) (H:Hp) (D:Ends),Inv X pins σ H s->t D σ H->wpAny (model X.prog X.w) X.A (execs st X.env) (SP X pins D) X.xe s
theorem thn{t:Sem g}{Q q:g->Shared->Prop}{M:Model}{A:Around}{E:Value->Shared->Prop}(h:wpAny M A t Q E s)(C:∀a s,Q a s->q a s):wpAny M A t q E s:=Qdm h C fun _ _ x=>x
section
variable {X:Cx}
inductive Zef(i:Nat)(σ:St)(H:Hp)(Q:VK):Prop
 | mk (v:_):(σ[i]?=some (some v))->(Q v H)->Zef i σ H Q
def JC(i:Nat):TE:=fun σ H Q=>Zef i σ H Q
def tC(v:V):TE:=fun _ H Q=>Q v H
theorem Zeg    (hN:X.N[i]?=some x) (hv:Vis X.env.scope x) (hd:(x == ("__debug__" : Str))=false:=by decide) (hcd:(x == ("__classdict__" : Str))=false:=by decide):PE X (.Name x p) (JC i):=by
 intro pins s σ H Q I h;obtain ⟨v,e,h⟩:=h;obtain ⟨m,hn,hl⟩:=I.loc;obtain ⟨u,r,l⟩:=hl i x v hN e hv;have fin:EP X pins σ Q u s:=⟨v,H,I,r,h⟩;rcases l with ⟨hk,hm⟩ | ⟨hk,c,hc,g⟩
 ·exact wpAny_Name (wpAny_loadName_local I.ok.kind hk hn hm fin) hd
 ·rcases hk with hk | hk
  ·exact wpAny_Name (wpAny_loadName_cell I.ok.kind hk hc g fin) hd
  ·exact wpAny_Name (wpAny_loadName_free I.ok.kind hk hc g fin hcd) hd
theorem pe_int{i j pos:_}:PE X (.Constant (.int i) j pos) (tC (.int i)):=fun _ _ _ H _ I h=>wpAny_Constant_int ⟨.int i,H,I.tok _,⟨_,rfl⟩,h⟩
theorem pe_bl{b j pos:_}:PE X (.Constant (.bool b) j pos) (tC (.bl b)):=fun _ _ _ H _ I h=>Constant_bool ⟨.bl b,H,I,rfl,h⟩
theorem pe_str{x j pos:_}:PE X (.Constant (.str x) j pos) (tC (.str x)):=fun _ _ _ H _ I h=>Calls.Constant_str ⟨.str x,H,I.tok _,⟨_,rfl⟩,h⟩
def Gl(X:Cx)(x:Str):Prop:=X.env.kindOf x=some .globalImplicit
theorem jc{E:Value->Shared->Prop}{σ:St}{H:Hp}(I:Inv X r σ H s)(hg:Gl X x)(hm:X.mg x=some u)(h:Q u s)
  (hd:(x == ("__debug__" : Str))=false:=by decide):wpAny (model X.prog X.w) X.A (eval (.Name x p) X.env) Q E s :=
 Calls.Name_function_global I.ok.kind hg (Calls.loadGlobal_global (by rw [I.ok.glob];exact I.mod.glob.keeps I.bk) hm h) hd
theorem Gn{E:Value->Shared->Prop}{σ:St}{H:Hp}(I:Inv X r σ H s)(hg:Gl X x)(hm:X.mg x=none)(hv:bootBuiltins x=some u)(h:Q u s)
  (hn:x ≠ "__name__" := by decide) (hd:(x == ("__debug__" : Str))=false:=by decide):wpAny (model X.prog X.w) X.A (eval (.Name x p) X.env) Q E s:=by
 obtain ⟨g,h1,h2⟩:=I.mod.blt;exact Calls.Name_function_global I.ok.kind hg (Calls.loadGlobal_builtin (by rw [I.ok.glob];exact I.mod.glob.keeps I.bk) hm (by rw [I.ok.blt];exact h1.keeps I.bk) ((h2 x hn).trans hv) h) hd
theorem Zfz  {v:V}   (hg:Gl X x) (hm:X.mg x=some u) (r:RelV v u) (hd:(x == ("__debug__" : Str))=false:=by decide):PE X (.Name x p) (tC v) :=
 fun _ _ _ H _ I h=>jc I hg hm ⟨v,H,I,r,h⟩ hd
theorem Zf0  {v:V}   (hg:Gl X x) (hm:X.mg x=none) (hv:bootBuiltins x=some u) (r:RelV v u) (hn:x ≠ "__name__" := by decide) (hd:(x == ("__debug__" : Str))=false:=by decide):PE X (.Name x p) (tC v) :=
 fun _ _ _ H _ I h=>Gn I hg hm hv ⟨v,H,I,r,h⟩ hn hd
variable {a b:Expr}{ta tb:TE}{pos:Pos}
inductive tB_i(Q:Bool->Hp->Prop)(x:V)(H1:Hp):Prop
 | mk (c:_):(x=.bl c)->(Q c H1)->tB_i Q x H1
def tB(t:TE):TT:=fun σ H Q=>t σ H fun x H1=>tB_i Q x H1
theorem pt_val{t:TE}(h:PE X e t)(he:∀g,isTrue e X.env g=(do let v <-g;standAt e.pos;holding [v] (truthy v)):=by intro _;rfl):PT X e (tB t):=by
 intro pins s σ H Q I hw;refine isTrue_plain (thn (h pins s σ H _ I hw) fun v G ⟨x,H1,C,D,E⟩=>?_) (he _);obtain ⟨d,rfl,q⟩:=E;cases D;exact Qgr ⟨H1,C,q⟩
variable {tA tB':TT}{rest:List Expr}
def tAnd(t u:TT):TT:=fun σ H Q=>t σ H fun c H1=>if c=true then u σ H1 Q else Q false H1
def tOr(t u:TT):TT:=fun σ H Q=>t σ H fun c H1=>if c=true then Q true H1 else u σ H1 Q
def tNot(t:TT):TT:=fun σ H Q=>t σ H fun c H1=>Q (!c) H1
theorem Zf1(ha:PT X a tA):PW X (.BoolOp .And [a] pos) tA:=by
 intro q pins s σ H Q I h;refine isTrue_and (thn (ha pins s σ H Q I h) fun c g e=>?_);cases c with
 | true=>exact isTrue_and_nil e
 | false=>exact e
theorem pw_or1(ha:PT X a tA):PW X (.BoolOp .Or [a] pos) tA:=by
 intro q pins s σ H Q I h;refine isTrue_or (thn (ha pins s σ H Q I h) fun c g e=>?_);cases c with
 | false=>exact isTrue_or_nil e
 | true=>exact e
theorem pw_and(ha:PT X a tA)(hb:PW X (.BoolOp .And (b::rest) pos) tB'):PW X (.BoolOp .And (a::b::rest) pos) (tAnd tA tB'):=by
 intro D pins s σ H Q I h;refine isTrue_and (thn (ha pins s σ H _ I h) fun c C ⟨H1,q,g⟩=>?_);cases c with
 | true=>exact hb D pins C σ H1 Q q g
 | false=>exact ⟨H1,q,g⟩
theorem pw_or(ha:PT X a tA)(hb:PW X (.BoolOp .Or (b::rest) pos) tB'):PW X (.BoolOp .Or (a::b::rest) pos) (tOr tA tB'):=by
 intro D pins s σ H Q I h;refine isTrue_or (thn (ha pins s σ H _ I h) fun c C ⟨H1,q,g⟩=>?_);cases c with
 | true=>exact ⟨H1,q,g⟩
 | false=>exact hb D pins C σ H1 Q q g
theorem pt_not(ha:PT X a tA):PT X (.UnaryOp .Not a pos) (tNot tA):=by
 intro pins s σ H Q I h;exact isTrue_not (thn (ha pins s σ H (fun c H1=>Q (!c) H1) I h) fun c C ⟨H1,g,q⟩=>⟨H1,g,q⟩)
end
def SqL(K:PySem.W.Frag)(H:Hp)(a:Addr)(xs:List V):Prop :=
 Rd H a (.lst xs) \/
  ∃(o:Obj) (g:Array Value) (n:Nat),K.lookup a=some o/\o.cls=.type "list" /\ o.dict=none/\o.data=.seq g n/\g.size<=sizeLine/\Vals xs g.toList
def SqT(K:PySem.W.Frag)(H:Hp)(a:Addr)(xs:List V):Prop :=
 Rd H a (.tup xs) \/
  ∃(o:Obj) (g:Array Value) (n:Nat),K.lookup a=some o/\o.cls=.type "tuple" /\ o.data=.seq g n/\g.size<=sizeLine/\Vals xs g.toList
def absV:Value->Option V
 | .none=>some .non
 | .bool b=>some (.bl b)
 | .int i _=>some (.int i)
 | .str x _=>some (.str x)
 | .bytes b _=>some (.byt b)
 | .float b _=>some (.flt b)
 | .ref a=>some (.ref a)
 | .type n=>some (.ty n)
 | _=>none
theorem RelV.abs{x:V}(r:RelV x u):absV u=some x:=by
 cases x with
 | non=>cases r;rfl
 | bl _=>cases r;rfl
 | int _=>obtain ⟨t,rfl⟩:=r;rfl
 | str _=>obtain ⟨t,rfl⟩:=r;rfl
 | byt _=>obtain ⟨t,rfl⟩:=r;rfl
 | flt _=>obtain ⟨t,rfl⟩:=r;rfl
 | ref _=>cases r;rfl
 | ty _=>cases r;rfl
theorem RelV.inj{x y:V}{u:Value}(r:RelV x u)(q:RelV y u):x=y:=Option.some.inj (r.abs.symm.trans q.abs)
theorem Vals.inj:∀{xs ys:List V} {g:List Value},Vals xs g->Vals ys g->xs=ys
 | _,_,_,.nil,.nil=>rfl
 | _,_,_,.cons r t,.cons q t'=>by rw [r.inj q,Vals.inj t t']
section
variable {X:Cx}{pins:List (Addr × Obj)}{σ:St}{H:Hp}{s:Shared}{a:Addr}{xs ys:List V}
theorem SqL.of(h:H a=some (.lst xs)):SqL K H a xs:=.inl (.inl h)
theorem SqT.of(h:H a=some (.tup xs)):SqT K H a xs:=.inl (.inl h)
theorem Inv.list(I:Inv X pins σ H s)(h:SqL X.K H a xs):∃g:List Value,Vals xs g/\PlainL s.heap a g.toArray/\xs.length<=sizeLine:=by
 rcases h with h | ⟨o,g,n,hk,hc,hd,hs,q,r⟩
 ·obtain ⟨z,g,n,r,e⟩:=h.ok I.hok
  exact ⟨g,r,⟨_,n,e,rfl,rfl,rfl⟩,z⟩
 ·refine ⟨g.toList,r,⟨o,n,I.kIn a o hk,hc,hd,by simpa using hs⟩,?_⟩
  have e:=r.length;simp only [Qce] at e;lia
theorem Inv.tuple(I:Inv X pins σ H s)(h:SqT X.K H a xs):∃g:List Value,Vals xs g/\IsTup s.heap a g.toArray/\xs.length<=sizeLine:=by
 rcases h with h | ⟨o,g,n,hk,hc,hs,q,r⟩
 ·obtain ⟨z,g,r,p⟩:=h.ok I.hok
  exact ⟨g,r,p,z⟩
 ·refine ⟨g.toList,r,⟨o,I.kIn a o hk,hc,n,by simpa using hs⟩,?_⟩
  have e:=r.length;simp only [Qce] at e;lia
theorem Inv.list_inj(I:Inv X pins σ H s)(h:SqL X.K H a xs)(h':SqL X.K H a ys):xs=ys:=by
 obtain ⟨g,r,⟨o,n,e,_,_,d⟩,_⟩:=I.list h;obtain ⟨its',C,⟨o',D,q,_,_,d'⟩,_⟩:=I.list h';rw [e] at q;cases q;rw [d] at d';injection d' with d1 _;have:g=its':=by simpa using congrArg Array.toList d1
 subst this;exact r.inj C
theorem Inv.tuple_inj(I:Inv X pins σ H s)(h:SqT X.K H a xs)(h':SqT X.K H a ys):xs=ys:=by
 obtain ⟨g,r,⟨o,e,_,n,d⟩,_⟩:=I.tuple h;obtain ⟨its',C,⟨o',q,_,D,d'⟩,_⟩:=I.tuple h';rw [e] at q;cases q;rw [d] at d';injection d' with d1 _;have:g=its':=by simpa using congrArg Array.toList d1
 subst this;exact r.inj C
end
abbrev Cx.wish(X:Cx)(E:Value->Shared->Prop):Cx:={ X with xe:=E }
abbrev Cx.nox(X:Cx):Cx:=X.wish fun _ _=>False
theorem Cx.Ok.wish{X:Cx}(ok:X.Ok)(E:Value->Shared->Prop):(X.wish E).Ok :=
 ⟨ok.mod,ok.kind,ok.glob,ok.blt,ok.above,ok.inj,ok.has,ok.cab,ok.hd,ok.frames,ok.stk,ok.exf,ok.bs,ok.bsz,ok.noex,ok.exfs,ok.funs,ok.frf⟩
theorem Cx.Ok.unwish{X:Cx}(ok:(X.wish Q).Ok):X.Ok :=
 ⟨ok.mod,ok.kind,ok.glob,ok.blt,ok.above,ok.inj,ok.has,ok.cab,ok.hd,ok.frames,ok.stk,ok.exf,ok.bs,ok.bsz,ok.noex,ok.exfs,ok.funs,ok.frf⟩
section
variable {X:Cx}{pins:List (Addr × Obj)}{σ:St}{H:Hp}{s:Shared}{E:Value->Shared->Prop}
theorem Inv.wish(I:Inv X pins σ H s)(E:Value->Shared->Prop):Inv (X.wish E) pins σ H s:=⟨I.ok.wish E,I.os,I.bare,I.base,I.loc,I.cell,I.free,I.freeC,I.pin,I.hok,I.len⟩
theorem Inv.unwish(I:Inv (X.wish E) pins σ H s):Inv X pins σ H s:=⟨I.ok.unwish,I.os,I.bare,I.base,I.loc,I.cell,I.free,I.freeC,I.pin,I.hok,I.len⟩
theorem SP.unwish{D:Ends}{f:Flow}{s':Shared}(h:SP (X.wish E) pins D f s'):SP X pins D f s':=by
 cases f with
 | next=>obtain ⟨g,H',I,q⟩:=h;exact ⟨g,H',I.unwish,q⟩
 | brk=>obtain ⟨g,H',I,q⟩:=h;exact ⟨g,H',I.unwish,q⟩
 | cont=>obtain ⟨g,H',I,q⟩:=h;exact ⟨g,H',I.unwish,q⟩
 | ret u=>obtain ⟨v,g,H',I,r,q⟩:=h;exact ⟨v,g,H',I.unwish,r,q⟩
theorem PSs.nox{st:List Stmt}{t:TS}(h:PSs X.nox st t):PSs X st t:=fun pins s σ H D I hw =>
 Qdm (h pins s σ H D (I.wish _) hw) (fun _ _ q=>q.unwish) fun _ _ z=>False.elim z
end
section
variable {X:Cx}{st:Stmt}{rest:List Stmt}{t u:TS}{e:Expr}{te:TE}{pos:Pos}
def Ziq:TS:=fun D σ H=>D.nx σ H
def Yy(t u:TS):TS:=fun D σ H=>t { D with nx:=u D } σ H
theorem Zf2:PSs X [] Ziq:=fun _ _ σ H _ I h=>Qf8 ⟨σ,H,I,h⟩
theorem Zcq(h1:PS X st t)(h2:PSs X rest u):PSs X (st::rest) (Yy t u):=by
 intro pins s σ H D I h;refine wpAny_execs_cons (thn (h1 pins s σ H { D with nx:=u D } I h) fun f C q=>?_);cases f with
 | next =>
  obtain ⟨g,H',E,q⟩:=q;exact h2 pins C g H' D E q
 | ret v=>exact q
 | brk=>exact q
 | cont=>exact q
theorem Zf3(h1:PS X st t):PSs X [st] t:=by
 intro pins s σ H D I h;refine wpAny_execs_cons (thn (h1 pins s σ H D I h) fun f g q=>?_);cases f with
 | next=>exact Qf8 q
 | ret v=>exact q
 | brk=>exact q
 | cont=>exact q
theorem Inv.quiet{σ:St}{H:Hp}(I:Inv X r σ H s):interactive X.env=false:=by simp [interactive,I.ok.kind]
def wC(te:TE):TS:=fun D σ H=>te σ H fun _ H1=>D.nx σ H1
theorem Zf4(he:PE X e te)(hs:swapsWith e none pos.line X.env=pure false:=by rfl):PS X (.Expr e pos) (wC te):=by
 intro pins s σ H D I h;exact wpAny_Expr_any (thn (he pins s σ H _ I h) fun v C ⟨x,H1,q,E,g⟩=>⟨σ,H1,q,g⟩) I.quiet hs
def tRet(te:TE):TS:=fun D σ H=>te σ H D.rt
theorem ps_ret(he:PE X e te):PS X (.Return (some e) pos) (tRet te):=by
 intro pins s σ H D I h;exact wpAny_Return_some (thn (he pins s σ H _ I h) fun v E ⟨x,H1,C,g,q⟩=>⟨x,σ,H1,C,g,q⟩)
def tIfS(c:TT)(t u:TS):TS:=fun D σ H=>c σ H fun b H1=>if b=true then t D σ H1 else u D σ H1
theorem ps_if{c:Expr}{a b:List Stmt}{tc:TT}(hc:PT X c tc)(ha:PSs X a t)(hb:PSs X b u):PS X (.If c a b pos) (tIfS tc t u):=by
 intro pins s σ H D I h;refine wpAny_If (thn (hc pins s σ H _ I h) fun d g ⟨H1,q,C⟩=>?_);cases d with
 | true=>exact ha pins g σ H1 D q C
 | false=>exact hb pins g σ H1 D q C
end
abbrev TG:=V->St->Hp->(St->Hp->Prop)->Prop
abbrev TGs:=List V->St->Hp->(St->Hp->Prop)->Prop
def PG(X:Cx)(g:Expr)(t:TG):Prop :=
 ∀(pins:List (Addr × Obj)) (s:Shared) (σ:St) (H:Hp) (v:V) (u:Value) (Q:St->Hp->Prop),Inv X pins σ H s->RelV v u->t v σ H Q ->
  wpAny (model X.prog X.w) X.A (assign g X.env u) (fun _ s'=>∃q H',Inv X pins q H' s'/\Q q H') X.xe s
def PGs(X:Cx)(ts:List Expr)(t:TGs):Prop :=
 ∀(pins:List (Addr × Obj)) (s:Shared) (σ:St) (H:Hp) (vs:List V) (q:List Value) (Q:St->Hp->Prop),Inv X pins σ H s->Vals vs q->t vs σ H Q ->
  wpAny (model X.prog X.w) X.A (assignInOrder ((assignEach ts X.env).map (·.2)) q) (fun _ s'=>∃g H',Inv X pins g H' s'/\Q g H') X.xe s
section
variable {X:Cx}{pos:Pos}
def JS(i:Nat):TG:=fun v σ H Q=>Q (σ.set i (some v)) H
theorem jd(hN:X.N.Nodup)(hi:X.N[i]?=some x)(hx:Loc X.env.scope x)(hf:X.fn x=true\/X.env.scope.names.lookup x=some .local:=by first | exact .inl rfl | exact .inr rfl | assumption):PG X (.Name x pos) (JS i):=by
 intro pins s σ H v u Q I r h;exact wpAny_assign_Name (WD I hN hi hx r (fun s' g=>⟨_,H,g,h⟩) hf)
inductive Zeh(vs:List V)(σ:St)(H:Hp)(Q:St->Hp->Prop):Prop
 | mk  : (vs=[])->(Q σ H)->Zeh vs σ H Q
def Zir  : TGs:=fun vs σ H Q=>Zeh vs σ H Q
inductive gH(t:TG)(u:TGs)(vs:List V)(σ:St)(H:Hp)(Q:St->Hp->Prop):Prop
 | mk (v r:_):(vs=v::r)->(t v σ H fun σ' H'=>u r σ' H' Q)->gH t u vs σ H Q
def je(t:TG)(u:TGs):TGs:=fun vs σ H Q=>gH t u vs σ H Q
theorem gI:PGs X [] Zir:=by
 intro pins s σ H vs g Q I r h;obtain ⟨e,h⟩:=h;subst e;cases r;exact assignInOrder_nil ⟨σ,H,I,h⟩
theorem qR{t:TG}{u:TGs}(h1:PG X e t)(h2:PGs X C u)
  (hs:(assignEach (e::C) X.env).map (·.2)=assign e X.env::(assignEach C X.env).map (·.2):=by rfl):PGs X (e::C) (je t u):=by
 intro pins s σ H vs J Q I r h;obtain ⟨v,L,e1,h⟩:=h;subst e1;cases r with
 | cons r D =>
  rw [hs];refine Qgh (thn (h1 pins s σ H _ _ _ I r h) fun _ q ⟨g,H1,E,G⟩=>?_);exact h2 pins q g H1 _ _ Q E D G
inductive Zei(K:PySem.W.Frag)(n:Nat)(t:TGs)(v:V)(σ:St)(H:Hp)(Q:St->Hp->Prop):Prop
 | mk (a xs:_):(v=.ref a)->(SqT K H a xs)->(xs.length=n)->(t xs σ H Q)->Zei K n t v σ H Q
def Zis(K:PySem.W.Frag)(n:Nat)(t:TGs):TG:=fun v σ H Q=>Zei K n t v σ H Q
theorem Zej{k:Nat}{t:TGs}(hc:X.calm=true)(h:PGs X C t)
  (hn:(assignEach C X.env).length=n:=by rfl) (g:(assignEach C X.env).findIdx? (·.1)=none:=by rfl):PG X (.Tuple C k pos) (Zis X.K n t):=by
 intro pins s σ H v u Q I r hw;obtain ⟨a,xs,e1,E,hl,hw⟩:=hw;subst e1;cases r;obtain ⟨J,q,G,L⟩:=I.tuple E;refine assign_Tuple_tuple (I.ok.hd hc) G (by simp [hn,<-hl,q.length]) g fun h' hx=>?_;have D:Inv X pins σ H { s with heap:=h' }:=I.kept (t':=s.toks) fun b o e=>hx b o (Qbt (Qav e)) e;exact h pins _ σ H xs _ Q D (by simpa using q) hw
def Zek(te:TE)(g:TG):TS:=fun D σ H=>te σ H fun x H1=>g x σ H1 D.nx
theorem ps_asg{te:TE}{g:TG}(he:PE X e te)(hg:PG X o g)(hs:swapsWithSole [o] e pos.line X.env=pure false:=by rfl)(hw:swappedStores [o] e X.env=pure none:=by rfl)
  (h1:(assignEach [o] X.env).map (·.2)=[assign o X.env]:=by rfl):PS X (.Assign [o] e pos) (Zek te g):=by
 intro pins s σ H D I h;refine wpAny_Assign_stores (thn (he pins s σ H _ I h) fun v C ⟨x,H1,E,G,J⟩=>?_) hs hw;rw [h1];exact thn (hg pins C σ H1 x v _ E G J) fun _ L q=>q
theorem ps_set{te:TE}(hN:X.N.Nodup)(hi:X.N[i]?=some x)(hx:Loc X.env.scope x)(he:PE X e te)(hs:swapsWith e (some (.Name x p)) pos.line X.env=pure false:=by rfl)(hf:X.fn x=true\/X.env.scope.names.lookup x=some .local:=by first | exact .inl rfl | exact .inr rfl | assumption) :
  PS X (.Assign [.Name x p] e pos) (Zek te (JS i)):=by
 intro pins s σ H D I h;refine wpAny_Assign_Name (thn (he pins s σ H _ I h) fun v G ⟨y,H1,g,q,C⟩=>?_) hs;exact WD g hN hi hx q (fun J E=>⟨_,H1,E,C⟩) hf
def tPar(i j:Nat)(ta:TA):TS:=fun D σ H=>ta σ H fun vs H1=>∃v w,vs=[v,w]/\D.nx ((σ.set i (some v)).set j (some w)) H1
theorem ps_par{j:Nat}{y:Str}{a b:Expr}{ta:TA}{S pt:Pos}{R k2 g:_}(hc:X.calm=true)(hN:X.N.Nodup)(hi:X.N[i]?=some x)(hj:X.N[j]?=some y)(M:i≠j)
  (hx:X.env.scope.names.lookup x=some .local) (Z:X.env.scope.names.lookup y=some .local) (ha:PA X [a,b] ta)
  (hw:swappedStores [.Tuple [.Name x E,.Name y S] R pt] (.Tuple [a,b] k2 g) X.env=pure (some [x,y]))
  (hs:swapsWithSole [.Tuple [.Name x E,.Name y S] R pt] (.Tuple [a,b] k2 g) pos.line X.env=pure false:=by rfl) :
  PS X (.Assign [.Tuple [.Name x E,.Name y S] R pt] (.Tuple [a,b] k2 g) pos) (tPar i j ta):=by
 intro pins s σ H D I h;rw [exec_Assign_arm];refine Qaa (wpAny_standAt ?_);rw [hs];refine Qaa (Qan ?_);rw [Qax (by decide)];refine Qaa (Tuple_ (thn (ha _ pins s σ H _ I h) fun us C ⟨vs,H1,I1,r1,L⟩=>?_));obtain ⟨v,w,e1,L⟩:=L;subst e1;obtain ⟨G,J,rfl,rv,Y⟩:∃G J,us=[G,J]/\RelV v G/\RelV w J:=by
  cases r1 with
  | cons p q =>
   cases q with
   | cons p' q' =>
    cases q';exact ⟨_,_,rfl,p,p'⟩
 refine Qcg ?_ (by show 2<=sizeLine;decide);have I2:Inv X pins σ H1 { C with heap:=C.heap.push { cls:=.type "tuple",data:=.seq [G,J].toArray } }:=I1.kept (t':=C.toks) fun b o e=>Qae _ e;rw [hw];refine Qaa (Qan ?_);show wpAny (model X.prog X.w) X.A (do rule "assign.swapped-stores";let items <-unpackItems (.ref C.heap.objs.size) 2 none;assignInOrder [fun v=>bindName X.env y v,fun v=>bindName X.env x v] items.reverse;pure Flow.next) _ _ _;refine Qaa (Qdx (Qaa (unpackItems_tuple (items:=#[G,J]) (I.ok.hd hc) (Qg2 C.heap _) fun h' O=>?_)));have I3:=I2.kept (h':=h') (t':=C.toks) fun b o e=>O b o (Qbt (Qav e)) e;show wpAny _ _ (assignInOrder [fun v=>bindName X.env y v,fun v=>bindName X.env x v] [J,G] >>= fun _=>pure Flow.next) _ _ _;refine Qaa (Qgh (wpAny_bindName (WD I3 hN hj (.inl Z) Y (fun s2 I4=>?_) (.inr Z))));refine Qgh (wpAny_bindName (WD I4 hN hi (.inl hx) rv (fun s3 I5=>assignInOrder_nil (Qan ?_)) (.inr hx)));rw [List.set_comm _ _ (Qdk M)] at I5;exact ⟨_,H1,I5,L⟩
def gJ(c:TT)(tb:TS):TS:=fun D σ H=>∃W:Nat->St->Hp->Prop,(∃m,W m σ H)/\∀m σ H,W m σ H ->
 c σ H fun b H1=>if b=true then ∃N:St->Hp->Prop,(∀g H',N g H'->∃q,q < m/\W q g H')/\tb { D with nx:=N,ct:=N,bk:=D.nx } σ H1 else D.nx σ H1
theorem Zcr{c:Expr}{body:List Stmt}{tc:TT}{tb:TS}(hp:PassesOwn (model X.prog X.w) X.A X.env X.xe)(hc:PT X c tc)(hb:PSs X body tb):PS X (.While c body [] pos) (gJ tc tb):=by
 intro pins s σ H D I h;obtain ⟨W,⟨Z,w0⟩,E⟩:=h;refine wpAny_While (codeAny_whileLoop (fun n s'=>∃C H',Inv X pins C H' s'/\W n C H') ?_ Z ⟨σ,H,I,w0⟩);rintro n s1 ⟨q,H1,I1,w1⟩;refine Qdy hp (thn (hc pins s1 q H1 _ I1 (E n q H1 w1)) fun b Y ⟨H2,S,J⟩=>?_);cases b with
 | true =>
  obtain ⟨N,hN,J⟩:=J;rw [Qa4 rfl];refine Qdy hp (thn (hb pins Y q H2 _ S J) fun f s3 L=>?_);cases f with
  | next =>
   obtain ⟨g,G,M,R⟩:=L;obtain ⟨O,hm,w3⟩:=hN g G R;exact ⟨O,hm,g,G,M,w3⟩
  | cont =>
   obtain ⟨g,G,M,R⟩:=L;obtain ⟨O,hm,w3⟩:=hN g G R;exact ⟨O,hm,g,G,M,w3⟩
  | brk=>exact L
  | ret v=>exact L
 | false =>
  rw [Qax Qa3];exact Qf8 ⟨q,H2,S,J⟩
end
structure It where
 go:Nat->Hp->Prop
 yld:Nat->Hp->V->Hp->Prop
 stop:Nat->Hp->Prop
def xY(X:Cx)(pins:List (Addr × Obj))(H:Hp)(b:Addr):Prop :=
 H b=none/\b≠X.env.locals/\b∉X.fs/\(b∈X.ex\/X.s₀.heap.objs.size<=b)/\(∀x c,X.env.cells.lookup x=some c->c≠b)/\∀p∈X.pn++pins,p.1≠b
theorem Inv.fpOk{X:Cx}{σ:St}{H H':Hp}{b:Addr}(I:Inv X r σ H s)(hb:s.heap.objs.size<=b)(hn:H' b=none):xY X r H' b:=by
 refine ⟨hn,Qdr (Qbf I.lt hb),I.nofs hb,.inr (Qbg I.sz hb),fun x c e z=>?_,fun p hp z=>?_⟩
 ·obtain ⟨v,q⟩:=I.cell x c e
  exact absurd (Qbf q.lt (by rw [z];exact hb)) (Qby _)
 ·exact absurd (Qbf (Qav (I.pin p hp).1) (by rw [z];exact hb)) (Qby _)
structure Turn(P:Program)(w:World)(K:PySem.W.Frag)(tg:Expr)(J:It)(fp:List Addr)(it:Addr)(tn:Nat->Heap->Prop):Prop where
 mem:it∈fp
 obj:∀i h,tn i h->∀b∈fp,∃o,h.get? b=some o/\∀v,o.data≠.cell v
 keep:∀i h h',tn i h->(∀b∈fp,∀o,h.get? b=some o->h'.get? b=some o)->tn i h'
 item:∀(X:Cx),X.prog=P->X.w=w->X.K=K->X.calm=true->∀(i:Nat) (pins:List (Addr × Obj)) (s:Shared) (σ:St) (H:Hp) (E:Value->Shared->Prop),Inv X pins σ H s->(∀b∈fp,xY X pins H b)->tn i s.heap->J.go i H ->
  wpAny (model P w) X.A (pyNext (.ref it)) (fun r s1=>∃u,r=some u /\
   wpAny (model P w) X.A (letOwnedTupleGo tg (.ref it) u) (fun _ s2=>∃x H',Inv X pins σ H' s2/\RelV x u/\J.yld i H x H'/\tn (i + 1) s2.heap/\∀b∈fp,H' b=none) E s1) E s
 done:∀(X:Cx),X.prog=P->X.w=w->X.K=K->X.calm=true->∀(i:Nat) (pins:List (Addr × Obj)) (s:Shared) (σ:St) (H:Hp) (E:Value->Shared->Prop),Inv X pins σ H s->(∀b∈fp,xY X pins H b)->tn i s.heap->J.stop i H ->
  wpAny (model P w) X.A (pyNext (.ref it)) (fun r s1=>r=none/\Inv X pins σ H s1) E s
 self:∀(A:Around) (i:Nat) (s:Shared) (Q:Value->Shared->Prop) (E:Value->Shared->Prop),tn i s.heap->Q (.ref it) s->wpAny (model P w) A (pyIter (.ref it)) Q E s
abbrev TI:=St->Hp->(It->Hp->Prop)->Prop
def PIE(X:Cx)(pins:List (Addr × Obj))(σ:St)(tg:Expr)(R:It->Hp->Prop)(g:Value)(q:Shared):Prop :=
 ∃(it:Addr) (fp:List Addr) (C:Nat->Heap->Prop) (J:It) (H':Hp),g=.ref it/\Inv X pins σ H' q/\Turn X.prog X.w X.K tg J fp it C/\C 0 q.heap/\(∀b∈fp,xY X pins H' b)/\R J H'
def PI(X:Cx)(tg iter:Expr)(wi:TI):Prop :=
 ∀(pins:List (Addr × Obj)) (s:Shared) (σ:St) (H:Hp) (R:It->Hp->Prop),Inv X pins σ H s->wi σ H R ->
  wpAny (model X.prog X.w) X.A (eval iter X.env) (fun v g=>wpAny (model X.prog X.w) X.A (pyIter v) (PIE X pins σ tg R) X.xe g) X.xe s
theorem Zcs{M:Model}{A:Around}{E:Value->Shared->Prop}{it:Addr}{o:Obj}{n:String}{vs:Array Value}{Q:Unit->Shared->Prop}(ho:s.heap.get? it=some o)(hc:o.cls=.type n)(hd:o.data=.fields vs)
    (hn:["enumerate","zip","dict_itemiterator","dict_reverseitemiterator","odict_iterator","itertools.zip_longest","itertools.pairwise"].contains n=false) (g:Q () s):wpAny M A (letOwnedTupleGo e (.ref it) u) Q E s:=by
  unfold letOwnedTupleGo;cases e <;> first
    | exact Qan g
    | (cases u <;> first
        | exact Qan g
        | (refine Qaa (wpAny_load ho ?_)
           rw [hc,hd];show wpAny M A (if (["enumerate","zip","dict_itemiterator","dict_reverseitemiterator","odict_iterator","itertools.zip_longest","itertools.pairwise"].contains n && vs[0]? == some (rawInt _))=true then _ else _) Q E s;rw [Qax (by intro h;rw [hn,Bool.false_and] at h;cases h)];exact Qan g))
def Itl(K:PySem.W.Frag)(a:Addr):It :=
 ⟨fun i H=>∃xs x,SqL K H a xs/\xs[i]?=some x,fun i H x H'=>H'=H/\∀xs,SqL K H a xs->xs[i]?=some x,fun i H=>∃xs,SqL K H a xs/\xs.length<=i⟩
def Itt(K:PySem.W.Frag)(a:Addr):It :=
 ⟨fun i H=>∃xs x,SqT K H a xs/\xs[i]?=some x,fun i H x H'=>H'=H/\∀xs,SqT K H a xs->xs[i]?=some x,fun i H=>∃xs,SqT K H a xs/\xs.length<=i⟩
def Itr(lo:Int)(n:Nat):It:=⟨fun i _=>i < n,fun i H x H'=>H'=H/\x=.int (lo + i),fun i _=>n<=i⟩
theorem gK{P:Program}{tg:Expr}(a it:Addr):Turn P w K tg (Itl K a) [it] it (fun i h=>h.IsListIter it a i) where
 mem:=by simp
 obj:=fun i h st b hb=>by
  have e:b=it:=by simpa using hb
  subst e;obtain ⟨o,e,c,d⟩:=st;exact ⟨o,e,fun v z=>by rw [d] at z;cases z⟩
 keep:=fun i h h' st k=>st.at fun o e=>k it (by simp) o e
 item:=by
  intro X O hw M hc i pins s σ H E I hf st hg;subst O hw M;obtain ⟨xs,x,q,hx⟩:=hg;obtain ⟨N,G,p,Y⟩:=I.list q;obtain ⟨u,hu,ru⟩:=G.get hx;obtain ⟨f0,C,R,L,J,D⟩:=hf it (by simp);refine wpAny_pyNext_list_item st p.isList (x:=u) (by simpa using hu) fun h' g sb=>?_;have Z:Inv X pins σ H { s with heap:=h' }:=I.turned (t':=s.toks) (fun b o hb e=>(sb.2 b hb).trans e) f0 C L J D;obtain ⟨o,e,c,d⟩:=id g;exact ⟨u,rfl,Zcs (s:={ s with heap:=h' }) e c d (by decide) ⟨x,H,Z,ru,⟨rfl,fun ys S=>by rw [I.list_inj S q];exact hx⟩,g,fun b hb=>(hf b hb).1⟩⟩
 done:=by
  intro X O hw M hc i pins s σ H E I hf st hg;subst O hw M;obtain ⟨xs,q,hx⟩:=hg;obtain ⟨N,G,p,Y⟩:=I.list q;obtain ⟨f0,C,R,L,J,D⟩:=hf it (by simp);have hl:=G.length;exact wpAny_pyNext_list_end (I.ok.hd hc) st p.isList (by simp;lia) fun h' eb=>⟨rfl,I.turned (t':=s.toks) (fun b o hb e=>eb b o hb e) f0 C L J D⟩
 self:=fun _ _ _ _ _ st h=>wpAny_pyIter_listiter st h
theorem wD{P:Program}{tg:Expr}(a it:Addr):Turn P w K tg (Itt K a) [it] it (fun i h=>h.IsTupleIter it a i) where
 mem:=by simp
 obj:=fun i h st b hb=>by
  have e:b=it:=by simpa using hb
  subst e;obtain ⟨o,e,c,d⟩:=st;exact ⟨o,e,fun v z=>by rw [d] at z;cases z⟩
 keep:=fun i h h' st k=>st.at fun o e=>k it (by simp) o e
 item:=by
  intro X O hw N hc i pins s σ H E I hf st hg;subst O hw N;obtain ⟨xs,x,C,hx⟩:=hg;obtain ⟨g,J,p,Y⟩:=I.tuple C;obtain ⟨u,hu,ru⟩:=J.get hx;obtain ⟨f0,D,R,M,L,G⟩:=hf it (by simp);refine wpAny_pyNext_tuple_item st (show s.heap.IsTuple a g.toArray from p) (x:=u) (by simpa using hu) fun h' q sb=>?_;have Z:Inv X pins σ H { s with heap:=h' }:=I.turned (t':=s.toks) (fun b o hb e=>(sb.2 b hb).trans e) f0 D M L G;obtain ⟨o,e,c,d⟩:=id q;exact ⟨u,rfl,Zcs (s:={ s with heap:=h' }) e c d (by decide) ⟨x,H,Z,ru,⟨rfl,fun ys S=>by rw [I.tuple_inj S C];exact hx⟩,q,fun b hb=>(hf b hb).1⟩⟩
 done:=by
  intro X O hw N hc i pins s σ H E I hf st hg;subst O hw N;obtain ⟨xs,C,hx⟩:=hg;obtain ⟨g,J,p,Y⟩:=I.tuple C;obtain ⟨f0,D,R,M,L,G⟩:=hf it (by simp);have hl:=J.length;exact wpAny_pyNext_tuple_end (I.ok.hd hc) st (show s.heap.IsTuple a g.toArray from p) (by simp;lia) fun h' eb=>⟨rfl,I.turned (t':=s.toks) (fun b o hb e=>eb b o hb e) f0 D M L G⟩
 self:=fun _ _ _ _ _ st h=>wpAny_pyIter_tupleiter st h
theorem wF{P:Program}{tg:Expr}(it:Addr)(lo:Int)(n:Nat):Turn P w K tg (Itr lo n) [it] it (fun i h=>IsRangeIter h it (lo + (i:Nat) * 1) ((n:Int) - (i:Nat)) 1) where
 mem:=by simp
 obj:=fun i h st b hb=>by
  have e:b=it:=by simpa using hb
  subst e;exact ⟨_,st,fun v z=>by
   have O:Data.fields _=Data.cell v:=z;cases O⟩
 keep:=fun i h h' st k=>k it (by simp) _ st
 item:=by
  intro X C hw L hc i pins s σ H E I hf st hg;subst C hw L;obtain ⟨f0,q,M,J,G,D⟩:=hf it (by simp);have W:=Walks.range (prog:=X.prog) (w:=X.w) (I.ok.hd hc) it lo 1 n;refine W.item i s _ _ hg st fun v h' tk hv g N=>?_;obtain ⟨t,rfl⟩:=hv;have R:Inv X pins σ H { s with heap:=h',toks:=tk }:=I.turned (fun b o hb e=>N b o (by simpa using hb) e) f0 q J G D;refine ⟨_,rfl,Zcs (s:={ s with heap:=h',toks:=tk }) (n := "range_iterator") g rfl rfl (by decide) ⟨.int (lo + i),H,R,⟨t,?_⟩,⟨rfl,rfl⟩,g,fun b hb=>(hf b hb).1⟩⟩;rw [Int.mul_one]
 done:=by
  intro X C hw L hc i pins s σ H E I hf st hg;subst C hw L;obtain ⟨f0,q,M,J,G,D⟩:=hf it (by simp);exact wpAny_pyNext_range_end (I.ok.hd hc) st (by have:n<=i:=hg;lia) fun h' S=>⟨rfl,I.turned (t':=s.toks) (fun b o hb e=>S b o hb e) f0 q J G D⟩
 self:=fun _ _ _ _ _ st h=>wpAny_pyIter_rangeiter st h
section
variable {X:Cx}{tg:Expr}
inductive gL(K:PySem.W.Frag)(R:It->Hp->Prop)(x:V)(H1:Hp):Prop
 | mk (a:_):(x=.ref a)->((∃xs,SqL K H1 a xs))->(R (Itl K a) H1)->gL K R x H1
def gM(K:PySem.W.Frag)(tl:TE):TI:=fun σ H R=>tl σ H fun x H1=>gL K R x H1
inductive Zel(K:PySem.W.Frag)(R:It->Hp->Prop)(x:V)(H1:Hp):Prop
 | mk (a:_):(x=.ref a)->((∃xs,SqT K H1 a xs))->(R (Itt K a) H1)->Zel K R x H1
def iTup(K:PySem.W.Frag)(tl:TE):TI:=fun σ H R=>tl σ H fun x H1=>Zel K R x H1
theorem Zf5{l:Expr}{tl:TE}(hl:PE X l tl):PI X tg l (gM X.K tl):=by
 intro pins s σ H R I h;refine thn (hl pins s σ H _ I h) fun v g ⟨x,H1,C,E,G⟩=>?_;obtain ⟨a,e,⟨xs,D⟩,q⟩:=G;subst e;cases E;obtain ⟨J,M,p,L⟩:=C.list D;refine Qeo p.isList ?_;refine ⟨g.heap.objs.size,[g.heap.objs.size],_,_,H1,rfl,C.kept (t':=g.toks) fun b o e=>Qae _ e,gK a _,⟨_,Qaz _ rfl,rfl,rfl⟩,fun b hb=>?_,q⟩;have e:b=g.heap.objs.size:=by simpa using hb
 subst e;exact C.fpOk (Qai _) (C.hok.fresh (Qai _))
theorem pi_tup{l:Expr}{tl:TE}(hl:PE X l tl):PI X tg l (iTup X.K tl):=by
 intro pins s σ H R I h;refine thn (hl pins s σ H _ I h) fun v g ⟨x,H1,C,G,J⟩=>?_;obtain ⟨a,e,⟨xs,E⟩,q⟩:=J;subst e;cases G;obtain ⟨D,M,p,L⟩:=C.tuple E;refine Qee (show g.heap.IsTuple a D.toArray from p) ?_;refine ⟨g.heap.objs.size,[g.heap.objs.size],_,_,H1,rfl,C.kept (t':=g.toks) fun b o e=>Qae _ e,wD a _,⟨_,Qaz _ rfl,rfl,rfl⟩,fun b hb=>?_,q⟩;have e:b=g.heap.objs.size:=by simpa using hb
 subst e;exact C.fpOk (Qai _) (C.hok.fresh (Qai _))
theorem Zct{σ:St}{H:Hp}{R:It->Hp->Prop}{lo hi:Int}{t u v:Tok}{tk:Nat}(I:Inv X r σ H s)(h1:-(2 ^ 62)<=lo)(h2:lo < 2 ^ 62)(D:-(2 ^ 62)<=hi)(C:hi < 2 ^ 62)
  (q:R (Itr lo (hi - lo).toNat) H):wpAny (model X.prog X.w) X.A (pyIter (.ref s.heap.objs.size)) (PIE X r σ tg R) Q { s with heap:=s.heap.push { cls:=.type "range",data:=.fields #[.int lo t,.int hi u,.int 1 v] },toks:=tk }:=by
 refine wpAny_pyIter_range (IsRange.new ..) (small_one h1 h2 D C) ?_;have g:Inv X r σ H { s with heap:=s.heap.push { cls:=.type "range",data:=.fields #[.int lo t,.int hi u,.int 1 v] },toks:=tk }:=I.kept fun b o e=>Qae _ e;refine ⟨(s.heap.push { cls:=.type "range",data:=.fields #[.int lo t,.int hi u,.int 1 v] }).objs.size,[(s.heap.push { cls:=.type "range",data:=.fields #[.int lo t,.int hi u,.int 1 v] }).objs.size],_,_,H,rfl,
  g.kept (t':=tk) fun b o e=>Qae _ e,wF _ lo (hi - lo).toNat,?_,fun b hb=>?_,q⟩
 ·have e1:lo + ((0:Nat):Int) * 1=lo:=by simp
  have e2:(((hi - lo).toNat:Nat):Int) - ((0:Nat):Int)=Builtin.Range.rangeSize lo hi 1:=by rw [rangeSize_one];split <;> lia
  show IsRangeIter _ _ (lo + ((0:Nat):Int) * 1) ((((hi - lo).toNat:Nat):Int) - ((0:Nat):Int)) 1;rw [e1,e2];exact Qaz _ rfl
 ·have e:b=(s.heap.push { cls:=.type "range",data:=.fields #[.int lo t,.int hi u,.int 1 v] }).objs.size:=by simpa using hb
  subst e;exact g.fpOk (Qai _) (g.hok.fresh (Qai _))
inductive gN(R:It->Hp->Prop)(vs:List V)(H1:Hp):Prop
 | mk (j:Int):(vs=[.int j])->(-(2 ^ 62)<=j)->(j < 2 ^ 62)->(R (Itr 0 j.toNat) H1)->gN R vs H1
def Zf6(ta:TA):TI:=fun σ H R=>ta σ H fun vs H1=>gN R vs H1
theorem gO {a:Expr} {ta:TA}  (hg:Gl X "range") (hm:X.mg "range" = none) (ha:PA X [a] ta) (hs:starEach [a] X.env=[(false,eval a X.env)]:=by rfl):PI X tg (.Call (.Name "range" p) [a] [] E) (Zf6 ta):=by
 intro pins s σ H R I h;refine Call_ (Gn I hg hm boot_range (Qck (thn (ha E pins s σ H _ I h) fun M L ⟨vs,H1,D,G,g⟩=>?_) hs rfl));obtain ⟨j,e,g,J,q⟩:=g;subst e;cases G with
 | cons r C =>
  cases C;obtain ⟨t,rfl⟩:=r;exact call_range_1 (Zct D (by lia) (by lia) g J (by simpa using q))
def tFor(wi:TI)(g:TG)(tb:TS):TS:=fun D σ H=>wi σ H fun J H1=>∃W:Nat->Nat->St->Hp->Prop,(∃m,W 0 m σ H1)/\∀i m σ H,W i m σ H ->
 (J.stop i H/\D.nx σ H)\/(J.go i H/\∃N:St->Hp->Prop,(∀q H',N q H'->∃E,E < m/\W (i + 1) E q H')/\∀x H',J.yld i H x H'->g x σ H' fun C H2=>tb { D with nx:=N,ct:=N,bk:=D.nx } C H2)
def zw(fp:List Addr)(h:Heap):List (Addr × Obj):=fp.filterMap fun b=>(h.get? b).map fun o=>(b,o)
theorem X8{b:Addr}{o:Obj}(hb:b∈L)(e:h.get? b=some o):(b,o)∈zw L h:=Qgi.mpr ⟨b,hb,by rw [e];rfl⟩
theorem gP{p:Addr × Obj}(hp:p∈zw L h):p.1∈L/\h.get? p.1=some p.2:=by
 obtain ⟨b,hb,e⟩:=Qgi.mp hp;cases q:h.get? b with
 | none=>rw [q] at e;cases e
 | some o =>
  rw [q] at e;have g:(b,o)=p:=Option.some.inj e;subst g;exact ⟨hb,q⟩
theorem Inv.pinned{σ:St}{H:Hp}(I:Inv X r σ H s)(hf:∀b∈L,xY X r H b)(ho:∀b∈L,∃o,s.heap.get? b=some o/\∀v,o.data≠.cell v):Inv X (r++zw L s.heap) σ H s :=
 I.pins_of fun p hp=>(Qbk.mp hp).elim (fun z=>I.pin p (Qa0 _ z)) fun z=>by
  obtain ⟨hb,e⟩:=gP z;obtain ⟨f0,C,q,_⟩:=hf p.1 hb;obtain ⟨o,g,d⟩:=ho p.1 hb;rw [e] at g;cases g;exact ⟨e,f0,C,q,d⟩
theorem Inv.unpinned{pl:List (Addr × Obj)}{σ:St}{H:Hp}(I:Inv X (r++pl) σ H s):Inv X r σ H s:=I.pins_of fun p hp=>I.pin p (Qa0 _ (Qc6 _ hp))
theorem ps_for{iter:Expr}{body:List Stmt}{wi:TI}{g:TG}{tb:TS}(hp:PassesOwn (model X.prog X.w) X.A X.env X.xe)(hc:X.calm=true)(hi:PI X tg iter wi)(hg:PG X tg g)(hb:PSs X body tb)
  (hs:∀x,foldedSetIterable iter X.env x=pure x:=by intro _;rfl):PS X (.For tg iter body [] p) (tFor wi g tb):=by
 intro pins s σ H D I h;refine wpAny_For (thn (hi pins s σ H _ I h) fun v s1 h1=>thn h1 fun itv s2 h2=>?_) hs;obtain ⟨it,fp,tn,J,H2,e,I2,T,st2,f2,W,⟨m0,w0⟩,turn⟩:=h2;subst e;have E:∀{H':Hp},(∀b∈fp,H' b=none)->∀b∈fp,xY X pins H' b:=fun hn b hb=>⟨hn b hb,(f2 b hb).2⟩;refine codeAny_forLoop_any (fun n s'=>∃i C H',Inv X pins C H' s'/\tn i s'.heap/\(∀b∈fp,H' b=none)/\W i n C H') ?_ m0 ⟨0,σ,H2,I2,st2,fun b hb=>(f2 b hb).1,w0⟩;rintro n s3 ⟨i,G,H3,I3,Z,S,w3⟩;rcases turn i n G H3 w3 with ⟨stop,qn⟩ | ⟨go,N,hN,step⟩
 ·refine Qdy hp (thn (T.done X rfl rfl rfl hc i pins s3 G H3 X.xe I3 (E S) Z stop) fun r s4 ⟨hr,I4⟩=>?_)
  subst hr;exact Qf8 ⟨G,H3,I4,qn⟩
 ·refine Qdy hp (thn (T.item X rfl rfl rfl hc i pins s3 G H3 X.xe I3 (E S) Z go) fun r s4 ⟨u,hr,h4⟩=>?_)
  subst hr;refine Qdy hp (thn h4 fun _ s5 ⟨x,H5,I5,r5,y5,R,fr5⟩=>?_);have I5':=I5.pinned (E fr5) (T.obj _ _ R);refine Qdy hp (thn (hg _ s5 G H5 x u _ I5' r5 (step x H5 y5)) fun _ s6 ⟨σ6,H6,I6,q6⟩=>?_);refine Qdy hp (thn (hb _ s6 σ6 H6 _ I6 q6) fun f s7 O=>?_);have again:∀{q:St} {M:Hp},Inv X (pins++zw fp s5.heap) q M s7->N q M->∃m,m < n/\∃i C H',Inv X pins C H' s7/\tn i s7.heap/\(∀b∈fp,H' b=none)/\W i m C H':=fun {q M} L Y=>by
   obtain ⟨m',hm,w7⟩:=hN q M Y;refine ⟨m',hm,i + 1,q,M,L.unpinned,T.keep _ _ _ R fun b hb o e=>(L.pin (b,o) (Qa0 _ (Qa0 _ (X8 hb e)))).1,fun b hb=>?_,w7⟩;obtain ⟨o,e,d⟩:=T.obj _ _ R b hb;exact (L.pin (b,o) (Qa0 _ (Qa0 _ (X8 hb e)))).2.1
  cases f with
  | next=>obtain ⟨q,M,L,Y⟩:=O;exact again L Y
  | cont=>obtain ⟨q,M,L,Y⟩:=O;exact again L Y
  | brk=>obtain ⟨q,M,L,O⟩:=O;exact ⟨q,M,L.unpinned,O⟩
  | ret v=>obtain ⟨x7,q,M,L,r7,O⟩:=O;exact ⟨x7,q,M,L.unpinned,r7,O⟩
end
theorem vT{xs:List V}{g:TG}{tb:TS}{D:Ends}{σ:St}{H:Hp}(C:Nat->St->Hp->Prop)(M:C 0 σ H)(hl:∀i σ H,i<=xs.length->C i σ H->SqL K H a xs)
  (hs:∀i x σ H,xs[i]?=some x->C i σ H->g x σ H fun G H2=>tb { D with nx:=C (i + 1),ct:=C (i + 1),bk:=D.nx } G H2) (hd:∀σ H,C xs.length σ H->D.nx σ H) :
  ∃W:Nat->Nat->St->Hp->Prop,(∃m,W 0 m σ H)/\∀i m σ H,W i m σ H ->
   ((Itl K a).stop i H/\D.nx σ H)\/((Itl K a).go i H/\∃N:St->Hp->Prop,(∀E H',N E H'->∃J,J < m/\W (i + 1) J E H')/\∀x H',(Itl K a).yld i H x H'->g x σ H' fun G H2=>tb { D with nx:=N,ct:=N,bk:=D.nx } G H2):=by
 refine ⟨fun i m σ H=>m=xs.length - i/\i<=xs.length/\C i σ H,⟨xs.length,by simp,Qbp _,M⟩,?_⟩;rintro i m σ H ⟨rfl,hi,p⟩;have q:=hl i σ H hi p
 by_cases I:i < xs.length
 ·refine .inr ⟨⟨xs,xs[i],q,by simp [I]⟩,C (i + 1),fun E H' L=>⟨xs.length - (i + 1),by lia,rfl,I,L⟩,fun x H' y=>?_⟩
  obtain ⟨e,y⟩:=y;subst e;exact hs i x σ _ (y xs q) p
 ·have e:i=xs.length:=by lia
  subst e;exact .inl ⟨⟨xs,q,Qai _⟩,hd σ H p⟩
theorem Gp{lo:Int}{g:TG}{tb:TS}{D:Ends}{σ:St}{H:Hp}(E:Nat->St->Hp->Prop)(L:E 0 σ H)
  (hs:∀i σ H,i < n->E i σ H->g (.int (lo + i)) σ H fun C H2=>tb { D with nx:=E (i + 1),ct:=E (i + 1),bk:=D.nx } C H2) (hd:∀σ H,E n σ H->D.nx σ H) :
  ∃W:Nat->Nat->St->Hp->Prop,(∃m,W 0 m σ H)/\∀i m σ H,W i m σ H ->
   ((Itr lo n).stop i H/\D.nx σ H)\/((Itr lo n).go i H/\∃N:St->Hp->Prop,(∀q H',N q H'->∃I,I < m/\W (i + 1) I q H')/\∀x H',(Itr lo n).yld i H x H'->g x σ H' fun C H2=>tb { D with nx:=N,ct:=N,bk:=D.nx } C H2):=by
 refine ⟨fun i m σ H=>m=n - i/\i<=n/\E i σ H,⟨n,by simp,Qbp _,L⟩,?_⟩;rintro i m σ H ⟨rfl,hi,p⟩
 by_cases G:i < n
 ·refine .inr ⟨G,E (i + 1),fun q H' J=>⟨n - (i + 1),by lia,rfl,G,J⟩,fun x H' y=>?_⟩
  obtain ⟨e,y⟩:=y;subst e y;exact hs i σ _ G p
 ·have e:i=n:=by lia
  subst e;exact .inl ⟨Qai _,hd σ H p⟩
abbrev R2:=V->V->Hp->VK->Prop
def OpR(X:Cx)(f:Value->Value->Sem Value)(r:R2):Prop :=
 ∀(pins:List (Addr × Obj)) (s:Shared) (σ:St) (H:Hp) (x y:V) (v u:Value) (Q:VK),Inv X pins σ H s->RelV x v->RelV y u->r x y H Q ->
  wpAny (model X.prog X.w) X.A (f v u) (EP X pins σ Q) X.xe s
def UnR(X:Cx)(f:Value->Sem Value)(r:V->Hp->VK->Prop):Prop :=
 ∀(pins:List (Addr × Obj)) (s:Shared) (σ:St) (H:Hp) (x:V) (v:Value) (Q:VK),Inv X pins σ H s->RelV x v->r x H Q ->
  wpAny (model X.prog X.w) X.A (f v) (EP X pins σ Q) X.xe s
def Jh(X:Cx)(f:Value)(r:List V->Hp->VK->Prop):Prop :=
 ∀(pins:List (Addr × Obj)) (s:Shared) (σ:St) (H:Hp) (xs:List V) (g:List Value) (Q:VK),Inv X pins σ H s->Vals xs g->r xs H Q ->
  wpAny (model X.prog X.w) X.A (call f g) (EP X pins σ Q) X.xe s
def tOp(r:R2)(ta tb:TE):TE:=fun σ H Q=>ta σ H fun x H1=>tb σ H1 fun y H2=>r x y H2 Q
def tUn(r:V->Hp->VK->Prop)(ta:TE):TE:=fun σ H Q=>ta σ H fun x H1=>r x H1 Q
inductive rI_i(C:Int->Int->Prop)(g:Int->Int->V)(x:V)(y:V)(H:Hp)(Q:VK):Prop
 | mk (i j:_):(x=.int i)->(y=.int j)->(C i j)->(Q (g i j) H)->rI_i C g x y H Q
def rI(C:Int->Int->Prop)(g:Int->Int->V):R2:=fun x y H Q=>rI_i C g x y H Q
inductive Zit(g:Int->Int->V)(x:V)(y:V)(H:Hp)(Q:VK):Prop
 | mk (i j:_):(x=.int i)->(y=.int j)->(Q (g i j) H)->Zit g x y H Q
def rI0(g:Int->Int->V):R2:=fun x y H Q=>Zit g x y H Q
inductive rU_i(g:Int->V)(x:V)(H:Hp)(Q:VK):Prop
 | mk (i:_):(x=.int i)->(Q (g i) H)->rU_i g x H Q
def rU(g:Int->V):V->Hp->VK->Prop:=fun x H Q=>rU_i g x H Q
section
variable {X:Cx}{a b c:Expr}{ta tb tc:TE}{pos:Pos}
theorem binT(ha:PE X a ta)(hb:PE X b tb){σ:St}{H:Hp}{R:V->V->Hp->Prop}(I:Inv X r σ H s)
  (h:ta σ H fun x H1=>tb σ H1 fun y H2=>R x y H2)  {f:Value->Value->Sem Value}
  (hf:∀v u q x y H2,Inv X r σ H2 q->RelV x v->RelV y u->R x y H2->wpAny (model X.prog X.w) X.A (f v u) Q X.xe q) :
  wpAny (model X.prog X.w) X.A (eval a X.env) (fun v g=>wpAny (model X.prog X.w) X.A (eval b X.env) (fun u s₂=>wpAny (model X.prog X.w) X.A (f v u) Q X.xe s₂) X.xe g) X.xe s:=by
 refine thn (ha r s σ H _ I h) fun v C ⟨x,H1,E,G,J⟩=>?_;refine thn (hb r C σ H1 _ E J) fun u q ⟨y,H2,M,D,L⟩=>?_;exact hf v u q x y H2 M G D L
theorem pe_op{g:Operator}{r:R2}(ho:OpR X (binaryOp g) r)(ha:PE X a ta)(hb:PE X b tb):PE X (.BinOp a g b pos) (tOp r ta tb):=by
 intro pins s σ H Q I h;exact wpAny_BinOp (binT ha hb I h fun v u D x y H2 G C E q=>ho pins D σ H2 x y v u Q G C E q)
theorem pe_un{g:UnaryOp}{r:V->Hp->VK->Prop}(ho:UnR X (unaryOp g) r)(ha:PE X a ta):PE X (.UnaryOp g a pos) (tUn r ta):=by
 intro pins s σ H Q I h;exact UnaryOp_ (thn (ha pins s σ H _ I h) fun v q ⟨x,H1,E,C,D⟩=>ho pins q σ H1 x v Q E C D)
theorem opI{f:Value->Value->Sem Value}{C:Int->Int->Prop}{g:Int->Int->Int}
  (rule:∀(i j:Int) (t u:Tok) (s:Shared) (Q:Value->Shared->Prop) (E:Value->Shared->Prop),C i j->Q (.int (g i j) s.toks) { s with toks:=s.toks + 1 }->wpAny (model X.prog X.w) X.A (f (.int i t) (.int j u)) Q E s) :
  OpR X f (rI C fun i j=>.int (g i j)):=by
 intro pins s σ H x y v u Q I D G h;obtain ⟨i,j,rfl,rfl,hc,q⟩:=h;obtain ⟨t,rfl⟩:=D;obtain ⟨t',rfl⟩:=G;exact rule i j t t' s _ _ hc ⟨.int (g i j),H,I.tok _,⟨_,rfl⟩,q⟩
theorem Ziu{f:Value->Value->Sem Value}{g:Int->Int->Int}
  (rule:∀(i j:Int) (t u:Tok) (s:Shared) (Q:Value->Shared->Prop) (E:Value->Shared->Prop),Q (.int (g i j) s.toks) { s with toks:=s.toks + 1 }->wpAny (model X.prog X.w) X.A (f (.int i t) (.int j u)) Q E s) :
  OpR X f (rI0 fun i j=>.int (g i j)):=by
 intro pins s σ H x y v u Q I C D h;obtain ⟨i,j,rfl,rfl,q⟩:=h;obtain ⟨t,rfl⟩:=C;obtain ⟨t',rfl⟩:=D;exact rule i j t t' s _ _ ⟨.int (g i j),H,I.tok _,⟨_,rfl⟩,q⟩
theorem opB0{f:Value->Value->Sem Value}{g:Int->Int->Bool}
  (rule:∀(i j:Int) (t u:Tok) (s:Shared) (Q:Value->Shared->Prop) (E:Value->Shared->Prop),Q (.bool (g i j)) s->wpAny (model X.prog X.w) X.A (f (.int i t) (.int j u)) Q E s) :
  OpR X f (rI0 fun i j=>.bl (g i j)):=by
 intro pins s σ H x y v u Q I C D h;obtain ⟨i,j,rfl,rfl,q⟩:=h;obtain ⟨t,rfl⟩:=C;obtain ⟨t',rfl⟩:=D;exact rule i j t t' s _ _ ⟨.bl (g i j),H,I,rfl,q⟩
def CPow(i j:Int):Prop:=0<=j/\j<=1000000/\i.natAbs < 2 ^ 64
def CMul(i j:Int):Prop:=(-(2 ^ 64) < i/\i < 2 ^ 64)\/(-(2 ^ 64) < j/\j < 2 ^ 64)
theorem CMul.ok{i j:Int}(h:CMul i j):IntMulOk i j:=by
 rcases h with ⟨h1,h2⟩ | ⟨h1,h2⟩
 ·exact .of_left (intBits_le_64 h1 h2)
 ·exact .of_right (intBits_le_64 h1 h2)
theorem wG(k:Nat):(0:Int)<=2 ^ k:=by
 rw [two_pow_cast];exact Qcr _
theorem YY:OpR X (binaryOp .Add) (rI0 fun i j=>.int (i + j)):=Ziu fun _ _ _ _ _ _ _ q=>add_int q
theorem jO:OpR X (binaryOp .Sub) (rI0 fun i j=>.int (i - j)):=Ziu fun _ _ _ _ _ _ _ q=>sub_int q
theorem Yg:OpR X (binaryOp .Mod) (rI (fun _ j=>0 < j) fun i j=>.int (i % j)):=opI fun i j _ _ _ _ _ hc q=>by
 have h1:(0:Int) < j:=hc;exact mod_int' (by lia) (by rw [Int.fmod_eq_emod_of_nonneg i (by lia)];exact q)
theorem Zem:OpR X (binaryOp .Pow) (rI CPow fun i j=>.int (i ^ j.toNat)):=opI fun _ _ _ _ _ _ _ hc q=>pow_int_small hc.1 hc.2.1 hc.2.2 q
theorem vU:OpR X (binaryOp .RShift) (rI (fun _ j=>0<=j) fun i j=>.int (i / 2 ^ j.toNat)):=opI fun i j _ _ _ _ _ hc q =>
 rshift_int hc (by rw [Int.fdiv_eq_ediv_of_nonneg i (wG _)];exact q)
theorem WU:OpR X (binaryOp .BitAnd) (rI0 fun i j=>.int (Builtin.bitAnd i j)):=Ziu fun _ _ _ _ _ _ _ q=>and_int q
theorem jP:OpR X (binaryOp .BitOr) (rI0 fun i j=>.int (Builtin.bitOr i j)):=Ziu fun _ _ _ _ _ _ _ q=>or_int q
theorem zx:OpR X (binaryOp .BitXor) (rI0 fun i j=>.int (Builtin.bitXor i j)):=Ziu fun _ _ _ _ _ _ _ q=>xor_int q
theorem unI{f:Value->Sem Value}{g:Int->Int}
  (rule:∀(i:Int) (t:Tok) (s:Shared) (Q:Value->Shared->Prop) (E:Value->Shared->Prop),Q (.int (g i) s.toks) { s with toks:=s.toks + 1 }->wpAny (model X.prog X.w) X.A (f (.int i t)) Q E s) :
  UnR X f (rU fun i=>.int (g i)):=by
 intro pins s σ H x v Q I C h;obtain ⟨i,rfl,q⟩:=h;obtain ⟨t,rfl⟩:=C;exact rule i t s _ _ ⟨.int (g i),H,I.tok _,⟨_,rfl⟩,q⟩
theorem xm:UnR X (unaryOp .USub) (rU fun i=>.int (-i)):=unI fun _ _ _ _ _ q=>neg_int q
theorem xo:UnR X (unaryOp .Invert) (rU fun i=>.int (Builtin.bitNot i)):=unI fun _ _ _ _ _ q=>invert_int q
end
def scal:V->V->Bool
 | .non,.non=>true | .non,.int _=>true | .int _,.non=>true | .non,.bl _=>true | .bl _,.non=>true | .non,.str _=>true | .str _,.non=>true
 | .int _,.int _=>true | .bl _,.bl _=>true | .str _,.str _=>true | .byt _,.byt _=>true
 | .int _,.str _=>true | .str _,.int _=>true | .bl _,.str _=>true | .str _,.bl _=>true
 | _,_=>false
inductive Ziv(x:V)(y:V)(H:Hp)(Q:VK):Prop
 | mk  : (scal x y=true)->(Q (.bl (decide (x=y))) H)->Ziv x y H Q
def rEq  : R2:=fun x y H Q=>Ziv x y H Q
inductive Ziw(x:V)(y:V)(H:Hp)(Q:VK):Prop
 | mk  : (scal x y=true)->(Q (.bl (!decide (x=y))) H)->Ziw x y H Q
def rNe  : R2:=fun x y H Q=>Ziw x y H Q
theorem gQ{i j:Int}:decide (V.int i=V.int j)=(i == j):=by
 rw [Qe4];simp
theorem Zen{i:Bool}:decide (V.bl i=V.bl j)=(i == j):=by
 rw [Qe4];simp
theorem gR{i j:Str}:decide (V.str i=V.str j)=(i == j):=by
 rw [Qe4];simp
theorem gS{i j:Array UInt8}:decide (V.byt i=V.byt j)=(i.toList == j.toList):=by
 rw [Qe4];cases i;cases j;simp
section
variable {X:Cx}{a b c:Expr}{ta tb tc:TE}{pos:Pos}
theorem Yl{σ:St}{H:Hp}{Q:VK}{k:Bool}(I:Inv X r σ H s)(q:Q (.bl k) H)(e:k=j):EP X r σ Q (.bool j) s:=by
 subst e;exact ⟨.bl k,H,I,rfl,q⟩
theorem Xp:OpR X (compareOp .Eq) rEq:=by
 intro pins s σ H x y v u Q I C g h;obtain ⟨hs,q⟩:=h;cases x with
 | non =>
  cases C;cases y with
  | non=>cases g;exact PySem.EqNone.eq_none_none (Yl I q (by simp))
  | bl j=>cases g;exact PySem.EqNone.eq_none_bool (Yl I q (by simp))
  | int j=>obtain ⟨t',rfl⟩:=g;exact PySem.EqNone.eq_none_int (Yl I q (by simp))
  | str j=>obtain ⟨t',rfl⟩:=g;exact PySem.EqNone.eq_none_str (Yl I q (by simp))
  | _=>exact absurd (show false=true from hs) Qa3
 | bl i =>
  cases C;cases y with
  | non=>cases g;exact PySem.EqNone.eq_bool_none (Yl I q (by simp))
  | bl j=>cases g;exact eq_bool (Yl I q Zen)
  | str j=>obtain ⟨t',rfl⟩:=g;exact PySem.EqMixed.eq_bool_str (Yl I q (by simp))
  | _=>exact absurd (show false=true from hs) Qa3
 | int i =>
  obtain ⟨t,rfl⟩:=C;cases y with
  | non=>cases g;exact PySem.EqNone.eq_int_none (Yl I q (by simp))
  | int j=>obtain ⟨t',rfl⟩:=g;exact eq_int (Yl I q gQ)
  | str j=>obtain ⟨t',rfl⟩:=g;exact PySem.EqMixed.eq_int_str (Yl I q (by simp))
  | _=>exact absurd (show false=true from hs) Qa3
 | str i =>
  obtain ⟨t,rfl⟩:=C;cases y with
  | non=>cases g;exact PySem.EqNone.eq_str_none (Yl I q (by simp))
  | bl j=>cases g;exact PySem.EqMixed.eq_str_bool (Yl I q (by simp))
  | int j=>obtain ⟨t',rfl⟩:=g;exact PySem.EqMixed.eq_str_int (Yl I q (by simp))
  | str j=>obtain ⟨t',rfl⟩:=g;exact eq_str (Yl I q gR)
  | _=>exact absurd (show false=true from hs) Qa3
 | byt i =>
  obtain ⟨t,rfl⟩:=C;cases y with
  | byt j=>obtain ⟨t',rfl⟩:=g;exact PySem.W.eq_bytes (Yl I q gS)
  | _=>exact absurd (show false=true from hs) Qa3
 | _=>cases y <;> exact absurd (show false=true from hs) Qa3
theorem op_ne:OpR X (compareOp .NotEq) rNe:=by
 intro pins s σ H x y v u Q I C g h;obtain ⟨hs,q⟩:=h;cases x with
 | non =>
  cases C;cases y with
  | non=>cases g;exact PySem.EqNone.ne_none_none (Yl I q (by simp))
  | bl j=>cases g;exact PySem.EqNone.ne_none_bool (Yl I q (by simp))
  | int j=>obtain ⟨t',rfl⟩:=g;exact PySem.EqNone.ne_none_int (Yl I q (by simp))
  | str j=>obtain ⟨t',rfl⟩:=g;exact PySem.EqNone.ne_none_str (Yl I q (by simp))
  | _=>exact absurd (show false=true from hs) Qa3
 | bl i =>
  cases C;cases y with
  | non=>cases g;exact PySem.EqNone.ne_bool_none (Yl I q (by simp))
  | bl j=>cases g;exact ne_bool (Yl I q (congrArg not Zen))
  | str j=>obtain ⟨t',rfl⟩:=g;exact PySem.EqMixed.ne_bool_str (Yl I q (by simp))
  | _=>exact absurd (show false=true from hs) Qa3
 | int i =>
  obtain ⟨t,rfl⟩:=C;cases y with
  | non=>cases g;exact PySem.EqNone.ne_int_none (Yl I q (by simp))
  | int j=>obtain ⟨t',rfl⟩:=g;exact ne_int (Yl I q (congrArg not gQ))
  | str j=>obtain ⟨t',rfl⟩:=g;exact PySem.EqMixed.ne_int_str (Yl I q (by simp))
  | _=>exact absurd (show false=true from hs) Qa3
 | str i =>
  obtain ⟨t,rfl⟩:=C;cases y with
  | non=>cases g;exact PySem.EqNone.ne_str_none (Yl I q (by simp))
  | bl j=>cases g;exact PySem.EqMixed.ne_str_bool (Yl I q (by simp))
  | int j=>obtain ⟨t',rfl⟩:=g;exact PySem.EqMixed.ne_str_int (Yl I q (by simp))
  | str j=>obtain ⟨t',rfl⟩:=g;exact ne_str (Yl I q (congrArg not gR))
  | _=>exact absurd (show false=true from hs) Qa3
 | byt i =>
  obtain ⟨t,rfl⟩:=C;cases y with
  | byt j=>obtain ⟨t',rfl⟩:=g;exact PySem.W.ne_bytes (Yl I q (congrArg not gS))
  | _=>exact absurd (show false=true from hs) Qa3
 | _=>cases y <;> exact absurd (show false=true from hs) Qa3
theorem gT:OpR X (compareOp .Lt) (rI0 fun i j=>.bl (decide (i < j))):=opB0 fun _ _ _ _ _ _ _ q=>lt_int q
theorem Zf7:OpR X (compareOp .Gt) (rI0 fun i j=>.bl (decide (j < i))):=opB0 fun _ _ _ _ _ _ _ q=>gt_int q
theorem op_ge:OpR X (compareOp .GtE) (rI0 fun i j=>.bl (decide (j<=i))):=opB0 fun _ _ _ _ _ _ _ q=>ge_int q
theorem OpR.or{f:Value->Value->Sem Value}{r C:R2}(h:OpR X f r)(h':OpR X f C):OpR X f (fun x y H Q=>r x y H Q\/C x y H Q):=by
 intro pins s σ H x y v u Q I g D q;rcases q with q | q
 ·exact h pins s σ H x y v u Q I g D q
 ·exact h' pins s σ H x y v u Q I g D q
theorem ZZ(b:Expr){g:CmpOp}(h:g≠.In:=by decide)(h2:g≠.NotIn:=by decide):behindInMarks g b=false:=by
 have e1:(g == CmpOp.In)=false:=by cases g <;> first | rfl | exact absurd rfl h
 have e2:(g == CmpOp.NotIn)=false:=by cases g <;> first | rfl | exact absurd rfl h2
 cases b <;> simp [behindInMarks,e1,e2]
theorem Zf8{g:CmpOp}{r:R2}(ho:OpR X (compareOp g) r)(ha:PE X a ta)(hb:PE X b tb)(hm:behindInMarks g b=false):PE X (.Compare a [g] [b] pos) (tOp r ta tb):=by
 intro pins s σ H Q I h;exact wpAny_Compare1 (binT ha hb I h fun v u D x y H2 G C E q=>ho pins D σ H2 x y v u Q G C E q) hm
inductive gW(Q:Bool->Hp->Prop)(x:V)(H':Hp):Prop
 | mk (k:_):(x=.bl k)->(Q k H')->gW Q x H'
def Zix(t:TE):TT:=fun σ H Q=>t σ H fun x H'=>gW Q x H'
theorem Zf9{g:CmpOp}{r:R2}(ho:OpR X (compareOp g) r)(ha:PE X a ta)(hb:PE X b tb)(hm:behindInMarks g b=false):PT X (.Compare a [g] [b] pos) (Zix (tOp r ta tb)):=by
 intro pins s σ H Q I h;refine wpAny_isTrue_Compare1 (thn (ha pins s σ H _ I h) fun v q ⟨x,H1,G,M,N⟩=>thn (hb pins q σ H1 _ G N) fun u D ⟨y,H2,S,C,O⟩ =>
  thn (ho pins D σ H2 x y v u _ S M C O) fun c Y ⟨z,L,J,R,k,e,E⟩=>?_) hm
 subst e;cases R;exact Qgr ⟨L,J,E⟩
theorem xp:(sizeLine:Nat) < 2 ^ 63:=by rw [Qhc];decide
theorem GO:OpR X (binaryOp .Add) (fun x y H Q=>∃i j,x=.str i/\y=.str j/\i.length + j.length<=sizeLine/\Q (.str (i++j)) H):=by
 intro pins s σ H x y v u Q I g D h;obtain ⟨i,j,rfl,rfl,C,q⟩:=h;obtain ⟨t,rfl⟩:=g;obtain ⟨t',rfl⟩:=D;exact add_str (fun t' tk=>⟨.str (i++j),H,I.tok _,⟨_,rfl⟩,q⟩) C
theorem vals1{x:V}(r:Vals [x] U):∃u,U=[u]/\RelV x u:=by
 cases r with
 | cons g q=>cases q;exact ⟨_,rfl,g⟩
theorem vals2{x y:V}(r:Vals [x,y] U):∃u g,U=[u,g]/\RelV x u/\RelV y g:=by
 cases r with
 | cons C D =>
  cases D with
  | cons E q=>cases q;exact ⟨_,_,rfl,C,E⟩
theorem vV:Jh X (.builtin "abs") (fun xs H Q=>∃i,xs=[.int i]/\Q (.int (if i < 0 then -i else i)) H):=by
 intro pins s σ H xs g Q I r h;obtain ⟨i,rfl,q⟩:=h;obtain ⟨u,rfl,t,rfl⟩:=vals1 r;exact call_abs_int fun u tk=>⟨.int (if i < 0 then -i else i),H,I.tok _,⟨_,rfl⟩,q⟩
theorem gX (hc:X.calm=true):Jh X (.builtin "min") (fun xs H Q=>∃i j,xs=[.int i,.int j]/\Q (.int (if j < i then j else i)) H):=by
 intro pins s σ H xs C Q I r h;obtain ⟨i,j,rfl,q⟩:=h;obtain ⟨u,D,rfl,⟨t,rfl⟩,⟨t',rfl⟩⟩:=vals2 r;refine min_two_ints (I.ok.hd hc) fun h' tk k=>⟨_,H,I.kept k,?_,q⟩
 by_cases g:j < i
 ·rw [Qa4 g,Qa4 g];exact ⟨_,rfl⟩
 ·rw [Qax g,Qax g];exact ⟨_,rfl⟩
end
structure ObjM(h:Heap)(x dx C:Addr)(mA:Str->Option Value):Prop where
 obj:h.get? x=some (PySem.W.instObj C dx)
 ns:h.Ns1 dx mA
 ne:dx≠x
theorem gY{mA:Str->Option Value}(n:h.Ns1 f mA):∃od,h.get? f=some od/\∀name,PySem.W.lookIn name od=some (mA name):=by
 obtain ⟨o,es,ep,ho,hd,hk,_,hm⟩:=n;refine ⟨o,ho,fun name=>?_⟩;have e:=hm name;unfold nsFind findBy at e;rw [<-Array.find?_toList] at e;unfold PySem.W.lookIn;rw [hd];dsimp only
 split
 ·rename_i y q
  rw [q] at e;exact congrArg some e
 ·rename_i q
  rw [q] at e;have a:es.toList.any (·.refKey)=false:=by
   rw [List.any_eq_false];intro y C;obtain ⟨z,t,g⟩:=hk y (Array.mem_toList_iff.mp C);simp [DictEntry.refKey,g]
  have D:¬es.toList.any (·.refKey)=true:=by rw [a];exact Qa3
  rw [Qax D];exact congrArg some e
theorem ObjM.look{x:Addr}{mA:Str->Option Value}(I:ObjM h x a f mA):∃od,PySem.W.InstAt h x (PySem.W.instObj f a) f (some od)/\∀name,PySem.W.lookIn name od=some (mA name) :=
 let ⟨od,ho,hl⟩:=gY I.ns
 ⟨od,⟨I.obj,rfl,rfl,ho⟩,hl⟩
section
variable {prog:Program}{w:World}{A:Around}{E:Value->Shared->Prop}{s:Shared}{K:PySem.W.Frag}{x dx C f:Addr}{mA:Str->Option Value}{name:Str}{v:Value}
end
theorem wB.some_of{v:V}{o:Option Value}(r:wB (some v) o):∃u,o=some u/\RelV v u:=by
 cases o with
 | none=>exact (show False from r).elim
 | some u=>exact ⟨u,rfl,r⟩
section
variable {P:Program}{w:World}{H H':Hp}{h h':Heap}{a C dx:Addr}{fs fs':List (Str × V)}
theorem Zga(g:HOk P w H h)(e:H a=some (.ins C dx fs)):∃mA,ObjM h a dx C mA/\(∀f,wB (fs.lookup f) (mA f))/\PySem.Within mA (fs.map (·.1))/\fs.length<=1000/\H dx=some (.own a):=by
 obtain ⟨d,z,ne,ob,mA,n,r,q⟩:=(show YO P w H h a (.ins C dx fs) from g a _ e);exact ⟨mA,⟨ob,n,ne⟩,r,q,z,d⟩
end
structure Cls(K:PySem.W.Frag)(C:Addr):Prop where
 pg:PySem.W.plainGet K C Str.empty=true
 hd:PySem.W.hasDictIn K C=true
 po:PySem.W.plainOver K C=true
 sa:PySem.W.findIn K (.ref C) "__setattr__" = some (some (.builtin "object.__setattr__"))
theorem Cls.get(c:Cls K a)(f:Str):PySem.W.plainGet K a f=true:=c.pg
section
variable {X:Cx}{pins:List (Addr × Obj)}{σ:St}{H:Hp}{s:Shared}{a C dx:Addr}{fs:List (Str × V)}{f:Str}{v:V}{A:Around}{E:Value->Shared->Prop}
end
section
variable {X:Cx}{o e value:Expr}{f:Str}{pos pos' tpos:Pos}{ta tv:TE}
end
section
variable {X:Cx}{pins:List (Addr × Obj)}{σ:St}{H:Hp}{s:Shared}{A:Around}{E:Value->Shared->Prop}{Q:Value->Shared->Prop}{c:Value}{b:Bool}
inductive wH(K:PySem.W.Frag)(H:Hp):V->Value->Prop where
 | non:wH K H .non (.type "NoneType")
 | bl (x:Bool):wH K H (.bl x) (.type "bool")
 | int (i:Int):wH K H (.int i) (.type "int")
 | str (x:Str):wH K H (.str x) (.type "str")
 | flt (x:UInt64):wH K H (.flt x) (.type "float")
 | lst {a:Addr} {xs:List V} (e:H a=some (.lst xs)):wH K H (.ref a) (.type "list")
 | frz {a:Addr} {o:Obj} {xs:List V} (e:H a=some (.frz o (.lst xs))):wH K H (.ref a) (.type "list")
 | tup {a:Addr} {xs:List V} (e:H a=some (.tup xs)):wH K H (.ref a) (.type "tuple")
 | dK {a:Addr} {kvs:List (Key × V)} (e:H a=some (.dK kvs)):wH K H (.ref a) (.type "dict")
 | dT {a:Addr} {kvs:List (List Key × V)} (e:H a=some (.dT kvs)):wH K H (.ref a) (.type "dict")
 | ins {a C dx:Addr} {fs:List (Str × V)} (e:H a=some (.ins C dx fs)) (cl:Cls K C) (ha:PySem.W.findIn K (.ref C) "__class__" = some (some (.builtin "object.__class__")))
   (hn:PySem.W.specialIn K (.builtin "object.__class__") "__get__" = some (some (.builtin "getset_descriptor.__get__"))) (htk:PySem.W.takesIn K (.builtin "object.__class__")=some true)
   (hm:PySem.W.mroIn K C (.type "object")=some true):wH K H (.ref a) (.ref C)
theorem gZ{x:V}{t:Value}(I:Inv X pins σ H s)(D:RelV x u)(ty:wH X.K H x t)(e:PySem.W.kitOne X.K t c=some b)(h:∀tk,Q (.bool b) { s with toks:=tk }) :
  wpAny (model X.prog X.w) A (call (.builtin "isinstance") [u,c]) Q E s:=by
 cases ty with
 | non=>cases (show u=Value.none from D);exact Qcv PySem.W.kitx_none I.kIn True.intro e (fun z=>nomatch z) h
 | bl y=>cases (show u=Value.bool y from D);exact Qcv PySem.W.kitx_bool I.kIn True.intro e (fun z=>nomatch z) h
 | int i=>obtain ⟨t,q⟩:=(show ∃t,u=Value.int i t from D);cases q;exact Qcv PySem.W.kitx_int I.kIn True.intro e (fun z=>nomatch z) h
 | str y=>obtain ⟨t,q⟩:=(show ∃t,u=Value.str y t from D);cases q;exact Qcv PySem.W.kitx_str I.kIn True.intro e (fun z=>nomatch z) h
 | flt y=>obtain ⟨t,q⟩:=(show ∃t,u=Value.float y t from D);cases q;exact Qcv PySem.W.kitx_float I.kIn True.intro e (fun z=>nomatch z) h
 | @lst a xs g =>
  cases (show u=Value.ref a from D);obtain ⟨_,_,n,_,h1⟩:=(show YO X.prog X.w H s.heap a (.lst xs) from I.hok a _ g);exact Qcv PySem.W.kitx_list I.kIn ⟨_,h1,rfl⟩ e (fun z=>nomatch z) h
 | @frz a ob xs g =>
  cases (show u=Value.ref a from D);obtain ⟨_,_,_,n,_,h1⟩:=(show YO X.prog X.w H s.heap a (.frz ob (.lst xs)) from I.hok a _ g);exact Qcv PySem.W.kitx_list I.kIn ⟨_,h1,rfl⟩ e (fun z=>nomatch z) h
 | @tup a xs g =>
  cases (show u=Value.ref a from D);obtain ⟨_,_,_,p⟩:=(show YO X.prog X.w H s.heap a (.tup xs) from I.hok a _ g);obtain ⟨o,h1,h2,_⟩:=p;exact Qcv PySem.W.kitx_tuple I.kIn ⟨o,h1,h2⟩ e (fun z=>nomatch z) h
 | @dK a kvs g =>
  cases (show u=Value.ref a from D);obtain ⟨_,_,vs,_,p⟩:=(show YO X.prog X.w H s.heap a (.dK kvs) from I.hok a _ g);obtain ⟨o,es,ep,h1,h2,_⟩:=p;exact Qcv PySem.W.kitx_dict I.kIn ⟨o,h1,h2.1⟩ e (fun z=>nomatch z) h
 | @dT a kvs g =>
  cases (show u=Value.ref a from D);obtain ⟨_,_,xs,_,o,es,ep,h1,h2,_⟩:=(show YO X.prog X.w H s.heap a (.dT kvs) from I.hok a _ g);exact Qcv PySem.W.kitx_dict I.kIn ⟨o,h1,h2.1⟩ e (fun z=>nomatch z) h
 | @ins a C dx fs g cl ha hn G hm =>
  cases (show u=Value.ref a from D);obtain ⟨mA,O,_⟩:=Zga I.hok g;obtain ⟨od,J,_⟩:=O.look;exact Qcv (PySem.W.kitx_own (cl.get _) cl.hd ha hn G hm) I.kIn J e (fun z=>nomatch z) h
end
structure JD(k:Nat)(A:Around):Prop where
 hd:A.handled=none
 dp:A.depth + 3 * k + 5 < recursionLimit
 un:A.units + 16 * k + 200 < cLine
theorem JD.mono{j k:Nat}{A:Around}(r:JD k A)(h:j<=k):JD j A:=⟨r.hd,by have:=r.dp;lia,by have:=r.un;lia⟩
theorem JD.deeper{k:Nat}{A:Around}(r:JD (k + 1) A)(env:Env):JD k (A.deeper env) :=
 ⟨r.hd,by have:=r.dp;show A.depth + 1 + 3 * k + 5 < _;lia,by have:=r.un;show A.units + 3 + 16 * k + 200 < _;lia⟩
theorem JD.depth{k:Nat}{A:Around}(r:JD k A):A.depth < recursionLimit:=by have:=r.dp;lia
theorem JD.units{k:Nat}{A:Around}(r:JD k A):A.units + 64 < cLine:=by have:=r.un;lia
def qS:TA:=fun _ H Q=>Q [] H
def Y1(ta:TE)(tr:TA):TA:=fun σ H Q=>ta σ H fun x H1=>tr σ H1 fun xs H2=>Q (x::xs) H2
section
variable {X:Cx}{e:Expr}{es:List Expr}{te:TE}{t:TA}{pos:Pos}
theorem pa_nil:PA X [] qS:=fun _ _ _ _ H Q I h=>Qdn ⟨[],H,I,.nil,h⟩
theorem Zgb(ha:PE X e te)(hr:PA X es t)(hs:starEach (e::es) X.env=(false,eval e X.env)::starEach es X.env:=by rfl):PA X (e::es) (Y1 te t):=by
 intro pos pins s σ H Q I h;rw [hs];show wpAny _ _ (spliced ((false,eval e X.env)::backTo pos (starEach es X.env))) _ _ s;refine Qci (thn (ha pins s σ H _ I h) fun u g ⟨x,H1,C,D,E⟩=>?_);exact thn (hr pos pins g σ H1 _ C E) fun M L ⟨xs,H2,J,q,G⟩=>⟨x::xs,H2,J,.cons D q,G⟩
inductive Zeo(Q:VK)(xs:List V)(H1:Hp):Prop
 | mk  : (xs.length<=sizeLine)->(∀p,H1 p=none->Q (.ref p) (upd H1 p (.tup xs)))->Zeo Q xs H1
def jf(t:TA):TE:=fun σ H Q=>t σ H fun xs H1=>Zeo Q xs H1
inductive Zep(Q:VK)(xs:List V)(H1:Hp):Prop
 | mk  : (xs.length<=sizeLine)->(∀p,H1 p=none->Q (.ref p) (upd H1 p (.lst xs)))->Zep Q xs H1
def Ziy(t:TA):TE:=fun σ H Q=>t σ H fun xs H1=>Zep Q xs H1
theorem pe_tup{G:_}(h:PA X es t):PE X (.Tuple es G pos) (jf t):=by
 intro pins s σ H Q I D;refine wpAny_Tuple_spliced (thn (h pos pins s σ H _ I D) fun E g ⟨xs,H1,C,r,z,q⟩=>⟨by rw [<-r.length];exact z,?_⟩);have hf:H1 g.heap.objs.size=none:=C.hok.fresh (Qai _);refine ⟨.ref g.heap.objs.size,upd H1 g.heap.objs.size (.tup xs),C.laid (t':=g.toks) (fun b u e=>Qae _ e) (Qai _) ?_,rfl,q _ hf⟩;exact ⟨z,E,r,⟨_,Qaz _ rfl,rfl,_,rfl⟩⟩
theorem pe_lst(h:PA X es t):PE X (.List es pos) (Ziy t):=by
 intro pins s σ H Q I D;refine wpAny_List_spliced (thn (h pos pins s σ H _ I D) fun E g ⟨xs,H1,C,r,z,q⟩=>⟨by rw [<-r.length];exact z,?_⟩);have hf:H1 g.heap.objs.size=none:=C.hok.fresh (Qai _);refine ⟨.ref g.heap.objs.size,upd H1 g.heap.objs.size (.lst xs),C.laid (t':=g.toks) (fun b u e=>Qae _ e) (Qai _) ?_,rfl,q _ hf⟩;exact ⟨z,E,0,r,Qaz _ rfl⟩
end
abbrev Sp:=List V->Hp->VK->XK->Prop
abbrev CXT:=List Env->Hp->Shared->XK->Value->Shared->Prop
structure Zgc(P:Program)(w:World)(K:PySem.W.Frag)(mg:Str->Option Value)(base:Heap)(A:Around)(outer:List Env)(s:Shared)(H:Hp):Prop where
 frames:A.frames=some outer
 mod:Mod K mg base
 bs:∀b o,base.get? b=some o->s.heap.get? b=some o/\H b=none
 bsz:base.objs.size<=s.heap.objs.size
 funs:s.heap.FunFrames base outer
 frf:∀b∈frs outer,H b=none
 hok:HOk P w H s.heap
 bare:AllBare s.gens
def CE(outer:List Env)(P:Program)(w:World)(H:Hp)(s:Shared)(Q:VK)(u:Value)(s':Shared):Prop :=
 ∃v H',s'.os=s.os/\AllBare s'.gens/\Un (frs outer) [] H H' s.heap s'.heap/\HOk P w H' s'.heap/\RelV v u/\Q v H'
def CR(CX:CXT)(outer:List Env)(P:Program)(w:World)(H:Hp)(s:Shared)(Q:VK)(E:XK)(r:Result)(s':Shared):Prop :=
 match r with
 | .ok (.ret u)=>CE outer P w H s Q u s'
 | .ok _=>False
 | .error e=>CX outer H s E e s'
structure Ym(P:Program)(w:World)(K:PySem.W.Frag)(mg:Str->Option Value)(base:Heap)(CX:CXT)(k:Nat)(f:Addr)(fd:FuncData)(ps:List Str)(sp:Sp):Prop where
 len:∀vs H Q E,sp vs H Q E->vs.length=ps.length
 run:∀(A:Around) (outer:List Env) (s:Shared) (H:Hp) (args:Args) (us:List Value) (vs:List V) (Q:VK) (E:XK),JD k A->Zgc P w K mg base A outer s H->BindsTo s fd args (ps.zip us)->Vals vs us->sp vs H Q E ->
  codeAny (model P w) A (.call (.ref f) args) (CR CX outer P w H s Q E) s
section
variable {X:Cx}{pins:List (Addr × Obj)}{σ:St}{H:Hp}{s s':Shared}
theorem Inv.env0(I:Inv X pins σ H s):Zgc X.prog X.w X.K X.mg X.base X.A X.stack s H :=
 ⟨I.ok.frames,I.ok.mod,I.bs,Qbg I.ok.bsz I.sz,I.stack,I.stkFree,I.hok,I.bare⟩
theorem Inv.after{Q:VK}(I:Inv X pins σ H s)(h:CE X.stack X.prog X.w H s Q u s'):EP X pins σ Q u s':=by
 obtain ⟨v,H',os,C,un,E,r,q⟩:=h;obtain ⟨hh,g,d,t,D⟩:=s';obtain rfl:D=s.os:=os;exact ⟨v,H',I.call (h':=hh) (g':=g) (d':=d) (t':=t) (ch:=[]) un E C (fun b z=>absurd z (by simp)),r,q⟩
end
def Zcu(sp:Sp)(dvs:List V)(E:XK)(t:TA):TE:=fun σ H Q=>t σ H fun vs H1=>sp (vs++dvs) H1 Q E
def Binds(K:PySem.W.Frag)(fd:FuncData)(ps:List Str)(ds:List Value):Prop :=
 ∀(s:Shared) (g:List Value),K.In s.heap->(g++ds).length=ps.length->BindsTo s fd ⟨g,[]⟩ (ps.zip (g++ds))
theorem Binds.all{fd:FuncData}{ps:List Str}(h:∀g:List Value,g.length=ps.length->bindArgs fd ⟨g,[]⟩=pure (ps.zip g)):Binds K fd ps []:=fun s g _ hl=>by
 rw [Qbl] at hl ⊢;exact .of_eq (h g hl)
def Passes(CX:CXT)(X:Cx)(E:XK):Prop:=∀(pins:List (Addr × Obj)) (σ:St) (H:Hp) (s:Shared) (e:Value) (s':Shared),Inv X pins σ H s->CX X.stack H s E e s'->X.xe e s'
section
variable {X:Cx}{CX:CXT}{k:Nat}{f C:Addr}{fd:FuncData}{ps:List Str}{sp:Sp}{dvs:List V}{ds:List Value}{E:XK}{x m:Str}{p pos apos:Pos}{e o:Expr}{es:List Expr}{ta:TE}{t:TA}
theorem run_fn{pins:List (Addr × Obj)}{σ:St}{H:Hp}{Q:VK}{vs:List V}(F:Ym X.prog X.w X.K X.mg X.base CX k f fd ps sp)(hr:JD k X.A)(hb:Binds X.K fd ps ds)(hd:Vals dvs ds)(hx:Passes CX X E)
  (I:Inv X pins σ H s) (r:Vals vs U) (h:sp (vs++dvs) H Q E):wpAny (model X.prog X.w) X.A (call (.ref f) U) (EP X pins σ Q) X.xe s:=by
 have q:Vals (vs++dvs) (U++ds):=r.append hd;have hl:(U++ds).length=ps.length:=by rw [<-q.length];exact F.len _ _ _ _ h
 refine wpAny_call (Qfn (F.run X.A X.stack s H ⟨U,[]⟩ (U++ds) (vs++dvs) Q E hr I.env0 (hb s U I.kIn hl) q h) fun r s' g=>?_);cases r with
 | error e=>exact hx pins σ H s e s' I g
 | ok C =>
  cases C with
  | ret u=>exact I.after g
  | next=>exact False.elim g
  | brk=>exact False.elim g
  | cont=>exact False.elim g
theorem Zgd(F:Ym X.prog X.w X.K X.mg X.base CX k f fd ps sp)(hr:JD k X.A)(hg:Gl X x)(hm:X.mg x=some (.ref f))(hk:PySem.W.keepIn X.K (.ref f)=true)(hb:Binds X.K fd ps ds)(hd:Vals dvs ds)(hx:Passes CX X E)
  (ha:PA X (e::es) t) (hdb:(x == ("__debug__" : Str))=false:=by decide) (he:starEach (e::es) X.env=(false,eval e X.env)::starEach es X.env:=by rfl) (g:(backTo pos (starEach es X.env)).any (·.1)=false:=by rfl) :
  PE X (.Call (.Name x p) (e::es) [] pos) (Zcu sp dvs E t):=by
 intro pins s σ H Q I h;refine Qc3 (jc I hg hm ?_ hdb);refine Qgj (h₀:=X.base) I.ok.mod.kin hk (thn (ha pos pins s σ H _ I h) fun G D ⟨vs,H1,C,r,q⟩=>⟨C.kIn,?_⟩) he g;exact run_fn F hr hb hd hx C r q
end
section
variable {X:Cx}{CX:CXT}{k:Nat}{f C:Addr}{fd:FuncData}{ps ks:List Str}{sp:Sp}{E:XK}{x m:Str}{p pos apos kpos:Pos}{e o:Expr}{es:List Expr}{kws:List Keyword}{te ta:TE}{t tk:TA}{nm:Option Str}
variable {g:List Value->List Value->List Value}{gV:List V->List V->List V}
end
structure ZQ(N P:List Str)(sc:Scope):Prop where
 kind:sc.kind=.function
 co:sc.isCoroutine=false
 gen:sc.isGenerator=false
 nd:N.Nodup
 pre:N.take P.length=P
 par:∀x∈P,sc.names.lookup x=some .local\/sc.names.lookup x=some .cell
 nofree:∀y∈sc.names,y.2≠.free
theorem jQ{kindOf:Str->Option NameKind}{x:Str}:∀{binds:List (Str × Value)} {m:Str->Option Value},(∀v,(x,v)∉binds)->bindL kindOf binds m x=m x
 | [],_,_=>rfl
 | (n,v)::r,m,h=>by
  unfold bindL;rw [jQ fun w hw=>h w (Qam _ hw)]
  split
  ·have:x≠n:=by rintro rfl;exact h v Qal
   simp [this]
  ·rfl
theorem jR{kindOf:Str->Option NameKind}{x:Str}:∀{binds:List (Str × Value)} {m:Str->Option Value},(∀v,(x,v)∉binds)->bindC kindOf binds m x=m x
 | [],_,_=>rfl
 | (n,v)::r,m,h=>by
  unfold bindC;rw [jR fun w hw=>h w (Qam _ hw)]
  split
  ·rfl
  ·have:x≠n:=by rintro rfl;exact h v Qal
   simp [this]
theorem jS{kindOf:Str->Option NameKind}{x:Str}{v:Value}:∀{P:List Str} {vs:List Value} {i:Nat} {m:Str->Option Value},P.Nodup->P[i]?=some x->vs[i]?=some v->kindOf x=some .local ->
  bindL kindOf (P.zip vs) m x=some v
 | [],_,_,_,_,h,_,_=>by simp at h
 | _::_,[],_,_,_,_,h,_=>by simp at h
 | p::P,w::vs,0,m,g,h1,h2,hk=>by
  simp at h1 h2;subst h1;subst h2;show bindL kindOf ((p,w)::P.zip vs) m p=_;unfold bindL;rw [jQ fun v hv=>(Qb3.mp g).1 (Qe5 hv).1,Qa4 hk];simp
 | p::P,w::vs,i + 1,m,g,h1,h2,hk=>by
  show bindL kindOf ((p,w)::P.zip vs) m x=_;unfold bindL;exact jS (i:=i) (Qb3.mp g).2 (by simpa using h1) (by simpa using h2) hk
theorem jT{kindOf:Str->Option NameKind}{x:Str}{v:Value}:∀{P:List Str} {vs:List Value} {i:Nat} {m:Str->Option Value},P.Nodup->P[i]?=some x->vs[i]?=some v->kindOf x≠some .local ->
  bindC kindOf (P.zip vs) m x=some v
 | [],_,_,_,_,h,_,_=>by simp at h
 | _::_,[],_,_,_,_,h,_=>by simp at h
 | p::P,w::vs,0,m,g,h1,h2,hk=>by
  simp at h1 h2;subst h1;subst h2;show bindC kindOf ((p,w)::P.zip vs) m p=_;unfold bindC;rw [jR fun v hv=>(Qb3.mp g).1 (Qe5 hv).1,Qax hk];simp
 | p::P,w::vs,i + 1,m,g,h1,h2,hk=>by
  show bindC kindOf ((p,w)::P.zip vs) m x=_;unfold bindC;exact jT (i:=i) (Qb3.mp g).2 (by simpa using h1) (by simpa using h2) hk
def start(N:List Str)(vs:List V):St:=vs.map some++List.replicate (N.length - vs.length) none
def Zcv(CX:CXT)(P:Program)(w:World)(K:PySem.W.Frag)(mg:Str->Option Value)(base:Heap)(N:List Str)(qual:Str)(scope:Scope)(f:Addr)(q:Value)(A:Around)(outer:List Env)(s:Shared)(H:Hp)(E:XK):Cx where
 prog:=P
 w:=w
 K:=K
 mg:=mg
 base:=base
 A:=A.deeper (envOfC qual scope s.heap.objs.size f q)
 N:=N
 s₀:=s
 H₀:=H
 env:=envOfC qual scope s.heap.objs.size f q
 outer:=outer
 stack:=envOfC qual scope s.heap.objs.size f q::outer
 ex:=[]
 calm:=true
 fn:=fun _=>true
 pn:=[]
 xe:=fun e s'=>wpAny (model P w) (A.deeper (envOfC qual scope s.heap.objs.size f q)) (leaving (envOfC qual scope s.heap.objs.size f q) e) (fun _ g=>CX outer H s E e g) (fun C g=>CX outer H s E C g) s'
theorem qT{g:Scope}(h:g.names.lookup x=some .cell):∃c,(cellsFrom n g.names []).lookup x=some c:=by
 have q:=PySem.W.cellsFrom_some g.names n [] (.inl h);exact Option.isSome_iff_exists.mp q
theorem ua{CX:CXT}{P:Program}{mg:Str->Option Value}{base:Heap}{ps:List Str}{qual:Str}{scope:Scope}{I:Value}{A:Around}{outer:List Env}{J:Shared}{H:Hp}{E:XK}{vs:List V}
  (S:ZQ N ps scope) (hd:A.handled=none) (g:Zgc P w K mg base A outer s H) (hl:vs.length=ps.length) (r:Vals vs U)
  (x:InCallC s s.heap.objs.size (bindL (envOfC qual scope s.heap.objs.size f I).kindOf (ps.zip U) fun _=>none) (cellsFrom (s.heap.objs.size + 1) scope.names []) (bindC (envOfC qual scope s.heap.objs.size f I).kindOf (ps.zip U) fun _=>none) J) :
  Inv (Zcv CX P w K mg base N qual scope f I A outer s H E) [] (start N vs) H J:=by
 have M:ps.length<=N.length:=by have:=congrArg List.length S.pre;rw [Qa1] at this;lia
 obtain ⟨h1,tk,rfl,hk⟩:=x.done;have D:∀b:Addr,b∉(Zcv CX P w K mg base N qual scope f I A outer s H E).ex:=fun b z=>absurd (show b∈([]:List Addr) from z) (by simp);refine ⟨⟨g.mod,S.kind,rfl,rfl,Qai _,fun y z c h1 h2=>?_,fun y C=>?_,fun y c _ h=>?_,fun _=>hd,Qft g.frames,.inr ⟨rfl,rfl⟩,fun b z=>absurd z (D b),g.bs,g.bsz,fun b _ _=>D b,fun b z=>absurd z (D b),g.funs,g.frf⟩,
  rfl,g.bare,Un.kept hk,⟨_,x.toInCall.ns,fun i y v h1 h2 O=>?_⟩,fun y c h=>⟨_,x.cell y c h⟩,g.hok.fresh (Qai _),fun y c h=>?_,fun p hp=>absurd (show p∈([]:List (Addr × Obj)) from hp) (by simp),g.hok.kept hk,?_⟩
 ·exact name_of_addr x.apart (Qb6 h1) (Qb6 h2)
 ·have C:scope.names.lookup y=some .cell\/scope.names.lookup y=some .free:=C
  rcases C with C | C
  ·exact qT C
  ·exact absurd rfl (S.nofree _ (Qb6 C))
 ·exact Qa5 (x.above y c (Qb6 h))
 ·have hi:i < vs.length:=by
   unfold start at h2
   by_cases hi:i < vs.length
   ·exact hi
   ·rw [Qau (by simpa using hi)] at h2
    rw [List.getElem?_replicate] at h2
    split at h2 <;> cases h2
  have ha:vs[i]?=some v:=by
   unfold start at h2;rw [Qaw (by simpa using hi),Qah] at h2;cases e:vs[i]? with
   | none=>rw [e] at h2;cases h2
   | some a=>rw [e] at h2;cases h2;rfl
  obtain ⟨u,hu,L⟩:=r.get ha;have hp:ps[i]?=some y:=by
   rw [<-S.pre,List.getElem?_take_of_lt (by lia)];exact h1
  have G:ps.Nodup:=by rw [<-S.pre];exact S.nd.sublist (List.take_sublist _ _)
  refine ⟨u,L,?_⟩;rcases S.par y (Qao hp) with k | k
  ·exact .inl ⟨k,jS G hp hu k⟩
  ·obtain ⟨c,e⟩:=qT (n:=s.heap.objs.size + 1) k
   refine .inr ⟨.inl k,c,e,?_⟩;have q:=x.cell y c e;rw [jT G hp hu (by show scope.names.lookup y≠_;rw [k];decide)] at q;exact q
 ·exact g.hok.fresh (Qa5 (x.above y c (Qb6 h)))
 ·unfold start
  show _=N.length;rw [Qaf,Qad,Qbx];lia
theorem Ziz{CX:CXT}{P:Program}{mg:Str->Option Value}{k:Nat}{name qual:Str}{params:Arguments}{body:List Stmt}{scope:Scope}{dV kV M pm g ct oc:Value}{an od:Option Addr}
  {Z:Array (Option Value)} {ps:List Str} {sp:Sp} (lk:K.lookup f=some ⟨oc,od,.func (PySem.W.fnOf name qual params body scope dV kV M pm an g ct),Z⟩) (hcd:PySem.W.codeIn K g qual=true) (S:ZQ N ps scope)
  (len:∀vs H Q E,sp vs H Q E->vs.length=ps.length)
  (D:∀(A:Around) (outer:List Env) (s:Shared) (H:Hp) (vs:List V) (Q:VK) (E:XK),JD k (A.deeper (envOfC qual scope s.heap.objs.size f g))->sp vs H Q E ->
   ∃t,PSs (Zcv CX P w K mg h N qual scope f g A outer s H E) body t/\t { nx:=fun _ H'=>Q .non H',rt:=Q } (start N vs) H) :
  Ym P w K mg h CX (k + 1) f (PySem.W.fnOf name qual params body scope dV kV M pm an g ct) ps sp:=by
 refine ⟨len,fun A outer s H args us vs Q E hr O hb r L=>?_⟩;have hl:=len _ _ _ _ L;have KX:K.In s.heap:=O.mod.kin.keeps fun b o e=>(O.bs b o e).1;have Y:s.heap.NoLimit:=O.mod.nolimit.keeps fun b o e=>(O.bs b o e).1;have G:∀y∈ps.zip us,scope.names.lookup y.1=some .local\/(scope.names.lookup y.1=some .cell/\((cellsFrom (s.heap.objs.size + 1) scope.names []).lookup y.1).isSome=true):=fun ⟨n,v⟩ hy=>by
  rcases S.par n (Qe5 hy).1 with q | q
  ·exact .inl q
  ·exact .inr ⟨q,PySem.W.cellsFrom_some _ _ _ (.inl q)⟩
 refine codeAny_call_function hr.depth (KX _ _ lk) rfl S.co S.gen rfl (PySem.W.codeRec_of KX hcd) (hb _ _ _ _ ?_);refine wpAny_newFunctionEnv_cells S.kind G fun env he s1 x=>?_;subst he;refine ⟨Y.keeps x.toInCall.keep,codeAny_func ?_⟩;obtain ⟨t,ht,hq⟩:=D A outer s H vs Q E (hr.deeper _) L;have I:Inv (Zcv CX P w K mg h N qual scope f g A outer s H E) [] (start N vs) H s1:=ua S hr.hd O hl r x;refine Qdm (ht [] s1 (start N vs) H _ I hq) (fun fl s' hs=>?_) fun e s' hs=>hs;have fin:∀{C:St} {H':Hp} {v:V} {u:Value},Inv (Zcv CX P w K mg h N qual scope f g A outer s H E) [] C H' s'->RelV v u->Q v H'->CE outer P w H s Q u s' :=
  fun {C H' v u} J R q=>⟨v,H',J.os,J.bare,J.base,J.hok,R,q⟩
 cases fl with
 | ret u =>
  obtain ⟨v,C,H',J,R,q⟩:=hs;exact fin J R q
 | next =>
  obtain ⟨C,H',J,q⟩:=hs;exact fin (v:=V.non) (u:=Value.none) J rfl q
 | brk =>
  obtain ⟨_,_,_,q⟩:=hs;exact False.elim q
 | cont =>
  obtain ⟨_,_,_,q⟩:=hs;exact False.elim q
section
variable {X:Cx}{x:Str}{p pos:Pos}{e:Expr}{es:List Expr}{t:TA}{id T:String}{r:List V->Hp->VK->Prop}
def tCB(r:List V->Hp->VK->Prop)(t:TA):TE:=fun σ H Q=>t σ H fun vs H1=>r vs H1 Q
theorem Zcw (hc:Jh X (.builtin id) r) (hg:Gl X x) (hm:X.mg x=none) (hv:bootBuiltins x=some (.builtin id)) (ha:PA X (e::es) t) (hn:x ≠ "__name__" := by decide) (hdb:(x == ("__debug__" : Str))=false:=by decide)
  (he:starEach (e::es) X.env=(false,eval e X.env)::starEach es X.env:=by rfl) (g:(backTo pos (starEach es X.env)).any (·.1)=false:=by rfl):PE X (.Call (.Name x p) (e::es) [] pos) (tCB r t):=by
 intro pins s σ H Q I h;refine Qc3 (Gn I hg hm hv ?_ hn hdb);exact PyProof.Rows.callWith_builtin1 (thn (ha pos pins s σ H _ I h) fun E q ⟨vs,H1,C,D,G⟩=>hc pins q σ H1 vs E Q C D G) he g
theorem ub (hc:Jh X (.type T) r) (hg:Gl X x) (hm:X.mg x=none) (hv:bootBuiltins x=some (.type T)) (ha:PA X (e::es) t) (hn:x ≠ "__name__" := by decide) (hdb:(x == ("__debug__" : Str))=false:=by decide)
  (he:starEach (e::es) X.env=(false,eval e X.env)::starEach es X.env:=by rfl) (g:(backTo pos (starEach es X.env)).any (·.1)=false:=by rfl):PE X (.Call (.Name x p) (e::es) [] pos) (tCB r t):=by
 intro pins s σ H Q I h;refine Qc3 (Gn I hg hm hv ?_ hn hdb);exact Qck (thn (ha pos pins s σ H _ I h) fun E q ⟨vs,H1,C,D,G⟩=>hc pins q σ H1 vs E Q C D G) he g
end
end L2
variable {H B:L2.Hp}
variable {P G:List L2.V}
variable {b:L2.Cx}
variable {c:L2.St}
variable {A I:L2.TE}
variable {v:L2.V}
variable {m Z:L2.TS}
variable {O:List (List L2.V)}
variable {J:L2.TT}
variable {M:L2.Ends}
variable {S:L2.VK}
variable {Y:L2.HO}
namespace HT
open PySem PyProof.Rows
section
open PySem.SeqAt
open PySem.AutoSeq1 (wpAny_loadPart')
open PySem.MeetsSeq PySem.MeetsSeq2 PySem.MeetsSeq3
end
section
variable {prog:Program}{w:World}{A:Around}{E:Value->Shared->Prop}{s:Shared}
theorem cat_tup{t b:Addr}{vs:List Value}(M:IsTup s.heap t vs.toArray)(hb:IsTup s.heap b U.toArray)(hv:vs≠[])
  (h1:U=[]->Q (.ref t) s) (h2:U≠[]->Q (.ref s.heap.objs.size) { s with heap:=s.heap.push { cls:=.type "tuple",data:=.seq (vs++U).toArray } })
  (hsz:vs.length + U.length<=sizeLine):wpAny (model prog w) A (binaryOp .Add (.ref t) (.ref b)) Q E s:=by
 obtain ⟨⟨cls,dd,data,I⟩,ho,hc,n,hd⟩:=id M;obtain ⟨⟨J,D,data2,C⟩,g,q,L,G⟩:=id hb;simp only at hc hd q G;subst hc hd q G;have e:vs.toArray++U.toArray=(vs++U).toArray:=by simp
 by_cases hw:U=[]
 ·exact concat_meets ⟨_,ho,rfl⟩ ⟨_,g,rfl⟩ Qg1 seq_tuple_add Qff Qe6 (Qe0 _ _)
   (tuple_addW1 t b vs.toArray U.toArray n L dd D I C (by simpa using hv) (by simp [hw])) ⟨ho,g,h1 hw⟩
 ·refine concat_meets ⟨_,ho,rfl⟩ ⟨_,g,rfl⟩ Qg1 seq_tuple_add Qff Qe6 (Qe0 _ _)
   (tuple_addW2 t b vs.toArray U.toArray n L dd D I C (by simpa using hv) (by simpa using hw) (by rw [Qa8,Qa8];exact hsz)) ⟨ho,g,?_⟩
  rw [e];exact h2 hw
def sIx(n d:Nat):Option Int->Nat
 | none=>d
 | some v=>if v < 0 then (v + (n:Int)).toNat else min v.toNat n
theorem sIx_none(n d:Nat):sIx n d none=d:=rfl
theorem sIx_nat(n d k:Nat):sIx n d (some (k:Int))=min k n:=by
 show (if (k:Int) < 0 then ((k:Int) + (n:Int)).toNat else min (k:Int).toNat n)=min k n;rw [Qax (by lia),Qa9]
end
end HT
namespace L2
open PySem PySem.Spec PyProof.Rows
abbrev TO:=St->Hp->(Option Int->Hp->Prop)->Prop
def PO(X:Cx)(e:Option Expr)(t:TO):Prop :=
 ∀(pins:List (Addr × Obj)) (s:Shared) (σ:St) (H:Hp) (Q:Option Int->Hp->Prop),Inv X pins σ H s->t σ H Q ->
  wpAny (model X.prog X.w) X.A (evalPart e X.env) (fun u s'=>∃o H',Inv X pins σ H' s'/\IsPart u o/\Q o H') X.xe s
def uc:TO:=fun _ H Q=>Q none H
inductive ud(Q:Option Int->Hp->Prop)(x:V)(H1:Hp):Prop
 | mk (i:_):(x=.int i)->(Q (some i) H1)->ud Q x H1
def Zi0(t:TE):TO:=fun σ H Q=>t σ H fun x H1=>ud Q x H1
theorem intsAre_of:∀{g:List Value},Vals (y.map V.int) g->IntsAre g y:=by
 induction y with
 | nil=>intro g r;rw [Qe1] at r;cases r;exact .nil
 | cons n y q =>
  intro g r;rw [Qa7] at r;cases r with
  | cons C D =>
   obtain ⟨t,e⟩:=C;subst e;exact .cons n t (q D)
section
variable {X:Cx}{e:Expr}{te:TE}{lo hi:Option Expr}{tl th:TO}{pos p2:Pos}
theorem Zge:PO X none uc:=by
 intro pins s σ H Q I h;rw [evalPart_none];exact Qan ⟨none,H,I,.none,h⟩
theorem Zgf(h:PE X e te):PO X (some e) (Zi0 te):=by
 intro pins s σ H Q I hw;rw [evalPart_some];refine thn (h pins s σ H _ I hw) fun u E ⟨x,H1,g,C,D⟩=>?_;obtain ⟨i,rfl,q⟩:=D;obtain ⟨t,rfl⟩:=C;exact ⟨some i,H1,g,.int i t,q⟩
def SlR(X:Cx)(r:V->Option Int->Option Int->Hp->VK->Prop):Prop :=
 ∀(pins:List (Addr × Obj)) (s:Shared) (σ:St) (H:Hp) (x:V) (v q vu:Value) (lo hi:Option Int) (g:Addr) (Q:VK),Inv X pins σ H s->RelV x v->s.heap.IsSliceOf g q vu .none->IsPart q lo->IsPart vu hi->r x lo hi H Q ->
  ∃T id,typeLookup (.type T) "__getitem__" = pure (some (.builtin id))/\s.TypeIs v T/\wpAny (model X.prog X.w) X.A (getItem v (.ref g)) (EP X pins σ Q) X.xe s
def tSl(r:V->Option Int->Option Int->Hp->VK->Prop)(te:TE)(tl th:TO):TE:=fun σ H Q=>te σ H fun x H1=>tl σ H1 fun l H2=>th σ H2 fun u g=>r x l u g Q
theorem Zcx{r:V->Option Int->Option Int->Hp->VK->Prop}(hr:SlR X r)(he:PE X e te)(hl:PO X lo tl)(hu:PO X hi th):PE X (.Subscript e (.Slice lo hi none p2) pos) (tSl r te tl th):=by
 intro pins s σ H Q I h;refine Subscript_ (thn (he pins s σ H _ I h) fun v S ⟨x,H1,I1,r1,M⟩=>?_);refine wpAny_Slice (thn (hl pins S σ H1 _ I1 M) fun C G ⟨l,H2,R,pl,N⟩=>thn (hu pins G σ H2 _ R N) fun vu g ⟨u,D,J,E,Y⟩=>?_);rw [evalPart_none];refine Qan ?_;have O:Inv X pins σ D { g with heap:=g.heap.push { cls:=.type "slice",data:=.fields #[C,vu,.none] } }:=J.kept (t':=g.toks) fun b ob q=>Qae _ q;obtain ⟨T,id,Z,L,hg⟩:=hr pins { g with heap:=g.heap.push { cls:=.type "slice",data:=.fields #[C,vu,.none] } } σ D x v C vu l u g.heap.objs.size Q O r1 (Heap.IsSliceOf.new ..) pl E Y;show wpAny (model X.prog X.w) X.A (subscriptTail e (.Slice lo hi none p2) v (.ref g.heap.objs.size)) (EP X pins σ Q) X.xe { g with heap:=g.heap.push { cls:=.type "slice",data:=.fields #[C,vu,.none] } };exact tail_any (ops:=[.ref g.heap.objs.size,v]) L Z hg (by with_unfolding_all rfl)
def zy(xs:List V)(lo hi:Option Int):List V:=(xs.drop (HT.sIx xs.length 0 lo)).take (HT.sIx xs.length xs.length hi - HT.sIx xs.length 0 lo)
theorem yM(xs:List V)(lo hi:Option Int):(zy xs lo hi).length<=xs.length:=by
 unfold zy;rw [Qa1,Qbn];lia
theorem Vals.nil_iff{xs:List V}(r:Vals xs U):U=[]↔xs=[]:=by
 cases r with
 | nil=>simp
 | cons _ _=>simp
end
end L2
namespace L2
open PySem PySem.Spec PyProof.Rows
def ixN(n:Nat)(i:Int):Option Nat:=if 0<=i then (if i < n then some i.toNat else none) else if -(n:Int)<=i then some (i + n).toNat else none
def atI(xs:List g)(i:Int):Option g:=(ixN xs.length i).bind fun j=>xs[j]?
theorem Zgg{i:Int}{j:Nat}(h:ixN n i=some j):seqIndex? i n=some j/\j < n/\-(n:Int)<=i/\i < n:=by
 unfold ixN at h
 by_cases g:0<=i
 ·rw [Qa4 g] at h
  by_cases h1:i < n
  ·rw [Qa4 h1] at h
   have e:i.toNat=j:=Option.some.inj h;exact ⟨by rw [seqIndex_of g h1,e],by lia,by lia,h1⟩
  ·rw [Qax h1] at h;cases h
 ·rw [Qax g] at h
  by_cases h1:-(n:Int)<=i
  ·rw [Qa4 h1] at h
   have e:(i + n).toNat=j:=Option.some.inj h;exact ⟨by rw [seqIndex_neg (by lia) h1,e],by lia,h1,by lia⟩
  ·rw [Qax h1] at h;cases h
theorem yN{xs:List g}{i:Int}{v:g}(h:atI xs i=some v):∃j,seqIndex? i xs.length=some j/\xs[j]?=some v/\j < xs.length/\-(xs.length:Int)<=i/\i < xs.length:=by
 unfold atI at h;cases e:ixN xs.length i with
 | none=>rw [e] at h;cases h
 | some j =>
  rw [e] at h;obtain ⟨h1,h2,C,q⟩:=Zgg e;exact ⟨j,h1,h,h2,C,q⟩
theorem YI{xs:List g}{j:Nat}{v:g}(h:xs[j]?=some v):atI xs (j:Int)=some v:=by
 have q:j < xs.length:=(Qac.mp h).1;have e:ixN xs.length (j:Int)=some j:=by
  unfold ixN;rw [Qa4 (by lia),Qa4 (by lia)];simp
 unfold atI;rw [e];exact h
theorem Zcy(xs:List g)(v:g):atI (xs++[v]) (-1)=some v:=by
 have hl:(xs++[v]).length=xs.length + 1:=by simp
 have e:ixN (xs++[v]).length (-1)=some xs.length:=by
  unfold ixN;rw [hl,Qax (by decide),Qa4 (by lia)];congr 1;lia
 unfold atI;rw [e];show (xs++[v])[xs.length]?=some v;simp
def ue(b:Expr):Prop:=∀o i,subscripted b false o i=operate [o,i] (getItem o i)
def IxR(X:Cx)(r:R2):Prop :=
 ∀(value g:Expr) (pins:List (Addr × Obj)) (s:Shared) (σ:St) (H:Hp) (x y:V) (v u:Value) (Q:VK),Inv X pins σ H s->RelV x v->RelV y u->r x y H Q ->
  subscripted g false v u=operate [v,u] (getItem v u)->wpAny (model X.prog X.w) X.A (subscriptTail value g v u) (EP X pins σ Q) X.xe s
def MtR(X:Cx)(id:String)(r:V->List V->Hp->VK->Prop):Prop :=
 ∀(pins:List (Addr × Obj)) (s:Shared) (σ:St) (H:Hp) (x:V) (xs:List V) (v:Value) (g:List Value) (Q:VK),Inv X pins σ H s->RelV x v->Vals xs g->r x xs H Q ->
  wpAny (model X.prog X.w) X.A (call (.builtin id) (v::g)) (EP X pins σ Q) X.xe s
section
variable {X:Cx}{a b:Expr}{ta tb:TE}{pos:Pos}
theorem pe_ix{r:R2}(hr:IxR X r)(ha:PE X a ta)(hb:PE X b tb)(hs:ue b):PE X (.Subscript a b pos) (tOp r ta tb):=by
 intro pins s σ H Q I h;exact Subscript_ (binT ha hb I h fun v u C x y H2 E g D q=>hr a b pins C σ H2 x y v u Q E g D q (hs _ _))
inductive Zeq(K:PySem.W.Frag)(x:V)(y:V)(H:Hp)(Q:VK):Prop
 | mk (p xs i v:_):(x=.ref p)->(y=.int i)->(SqL K H p xs)->(atI xs i=some v)->(Q v H)->Zeq K x y H Q
def Zin(K:PySem.W.Frag):R2:=fun x y H Q=>Zeq K x y H Q
inductive Zer(K:PySem.W.Frag)(x:V)(y:V)(H:Hp)(Q:VK):Prop
 | mk (p xs i v:_):(x=.ref p)->(y=.int i)->(SqT K H p xs)->(atI xs i=some v)->(Q v H)->Zer K x y H Q
def wI(K:PySem.W.Frag):R2:=fun x y H Q=>Zer K x y H Q
inductive Zes(x:V)(y:V)(H:Hp)(Q:VK):Prop
 | mk (z i c:_):(x=.str z)->(y=.int i)->(z.length<=sizeLine)->(atI z.cps.toList i=some c)->(Q (.str ⟨#[c]⟩) H)->Zes x y H Q
def rIxS  : R2:=fun x y H Q=>Zes x y H Q
theorem Zt:IxR X (Zin X.K):=by
 intro value g pins s σ H x y v u Q I M R h hs;obtain ⟨p,xs,i,z,rfl,rfl,O,he,q⟩:=h;cases M;obtain ⟨t,rfl⟩:=R;obtain ⟨E,r,pl,S⟩:=I.list O;obtain ⟨j,h1,h2,Y,L,N⟩:=yN he;obtain ⟨w,J,D⟩:=r.get h2;have hl:=r.length;have hn:=xp;have fin:EP X pins σ Q w s:=⟨z,H,I,D,q⟩
 by_cases G:0<=i
 ·have C:i.toNat=j:=by
   rw [seqIndex_of G N] at h1;exact Option.some.inj h1
  exact item_listR pl.isList G (by lia) (by rw [C];simpa using J) fin hs
 ·have C:(i + (E.toArray.size:Int)).toNat=j:=by
   rw [seqIndex_neg (by lia) L] at h1;rw [Qa8,<-hl];exact Option.some.inj h1
  exact subscriptTail_builtinR (x:=w) pl.isList.typeIs slot_list_getitem.lookup
   (wpAny_getItem_list_neg (Q:=fun r s'=>r=w/\EP X pins σ Q r s') pl.isList (by lia) (by rw [Qa8] <;> lia) (by lia) (by rw [C];simpa using J) ⟨rfl,fin⟩) hs
theorem ZX:IxR X (wI X.K):=by
 intro value g pins s σ H x y v u Q I D G h hs;obtain ⟨p,xs,i,z,rfl,rfl,E,he,q⟩:=h;cases D;obtain ⟨t,rfl⟩:=G;obtain ⟨L,r,pl,O⟩:=I.tuple E;obtain ⟨j,h1,h2,R,M,N⟩:=yN he;obtain ⟨w,J,C⟩:=r.get h2;have hl:=r.length;have hn:=xp;have fin:EP X pins σ Q w s:=⟨z,H,I,C,q⟩;exact subscriptTail_builtinR (x:=w) pl.typeIs slot_tuple_getitem.lookup
  (getItem_tuple (j:=j) (Q:=fun r s'=>r=w/\EP X pins σ Q r s') pl (by lia) (by lia) (by rw [Qa8,<-hl];exact h1) (by simpa using J) ⟨rfl,fin⟩) hs
theorem uf:IxR X rIxS:=by
 intro value g pins s σ H x y v u Q I C G h hs;obtain ⟨z,i,c,rfl,rfl,J,he,q⟩:=h;obtain ⟨t,rfl⟩:=C;obtain ⟨t',rfl⟩:=G;obtain ⟨j,h1,h2,L,D,E⟩:=yN he;have hl:z.cps.toList.length=z.length:=by simp [Str.length]
 rw [hl] at h1 D E;have hn:=xp;exact tail_any (typeIs_str s z t) slot_str_getitem.lookup (getItem_str (c:=c) (by
  have e1:decide (i < -(2 ^ 63:Int))=false:=Qak (by lia);have e2:decide (i>=2 ^ 63)=false:=Qak (by lia);rw [e1,e2,Bool.or_false]) (by rw [h1];simpa using h2) ⟨.str ⟨#[c]⟩,H,I.tok _,⟨_,rfl⟩,q⟩) hs
theorem jU(lo hi:Option Int)(n:Nat):(sliceBounds lo hi none n).1=((HT.sIx n 0 lo:Nat):Int)/\(sliceBounds lo hi none n).2.1=((HT.sIx n n hi:Nat):Int)/\(sliceBounds lo hi none n).2.2=1:=by
 refine ⟨?_,?_,rfl⟩
 ·cases lo with
  | none=>simp [sliceBounds,HT.sIx]
  | some i =>
   simp only [sliceBounds,HT.sIx,Option.getD_none,show (1:Int) > 0 by decide,Qf9]
   by_cases h:i < 0
   ·simp only [h,Qf9] <;> lia
   ·simp only [h,Qe7] <;> lia
 ·cases hi with
  | none=>simp [sliceBounds,HT.sIx]
  | some i =>
   simp only [sliceBounds,HT.sIx,Option.getD_none,show (1:Int) > 0 by decide,Qf9]
   by_cases h:i < 0
   ·simp only [h,Qf9] <;> lia
   ·simp only [h,Qe7] <;> lia
theorem jg(g:List Value)(lo hi:Option Int):slicePick g.toArray lo hi none=((g.drop (HT.sIx g.length 0 lo)).take (HT.sIx g.length g.length hi - HT.sIx g.length 0 lo)).toArray:=by
 obtain ⟨h1,h2,q⟩:=jU lo hi g.toArray.size;unfold slicePick;rw [h1,h2,q];simp only [sliceRange_one,pick_run,Qa8] <;> rfl
inductive Zet(K:PySem.W.Frag)(x:V)(lo:Option Int)(hi:Option Int)(H:Hp)(Q:VK):Prop
 | mk (a xs:_):(x=.ref a)->(SqL K H a xs)->(∀p,H p=none->Q (.ref p) (upd H p (.lst (zy xs lo hi))))->Zet K x lo hi H Q
def rSlL(K:PySem.W.Frag):V->Option Int->Option Int->Hp->VK->Prop:=fun x lo hi H Q=>Zet K x lo hi H Q
theorem XB:SlR X (rSlL X.K):=by
 intro pins s σ H x v M vu lo hi L Q I D hs pl E h;obtain ⟨a,xs,rfl,hx,q⟩:=h;cases D;obtain ⟨J,r,C,G⟩:=I.list hx;have g:=r.length;refine ⟨"list",_,slot_list_getitem.lookup,C.isList.typeIs,?_⟩;refine wpAny_getItem_list_slice C.isList hs pl E .none (by simp) ?_ (by rw [Qa8] <;> lia);rw [jg,<-g];refine ⟨.ref s.heap.objs.size,_,I.laid (t':=s.toks) (o:=.lst (zy xs lo hi)) (fun b ob q=>Qae _ q) (Qai _) ?_,rfl,q _ (I.hok.fresh (Qai _))⟩;exact ⟨Qbg (yM xs lo hi) G,_,0,(r.drop (HT.sIx xs.length 0 lo)).take (HT.sIx xs.length xs.length hi - HT.sIx xs.length 0 lo),Qaz _ rfl⟩
def XX:V->Bool
 | .non=>true
 | .bl _=>true
 | .int _=>true
 | .str _=>true
 | _=>false
def eqV:V->V->Bool
 | .non,.non=>true
 | .bl a,.bl b=>a == b
 | .bl a,.int b=>(if a then 1 else 0) == b
 | .int a,.bl b=>a == (if b then 1 else 0)
 | .int a,.int b=>a == b
 | .str a,.str b=>a == b
 | _,_=>false
theorem ug{A:Around}{y x:V}{v:Value}(q:RelV y u)(g:RelV x v)(D:XX y=true)(C:XX x=true):SeqAt.EqAt A s u v (eqV y x):=by
 cases y with
 | non =>
  cases q;cases x with
  | non=>cases g;exact Qg3 _
  | bl b=>cases g;exact SeqAt.EqAt.none_bool b
  | int b=>obtain ⟨t,rfl⟩:=g;exact SeqAt.EqAt.none_int b t
  | str b=>obtain ⟨t,rfl⟩:=g;exact SeqAt.EqAt.none_str b t
  | _=>exact absurd (show false=true from C) Qa3
 | bl a =>
  cases q;cases x with
  | non=>cases g;exact SeqAt.EqAt.bool_none a
  | bl b=>cases g;exact SeqAt.EqAt.bool_bool a b
  | int b=>obtain ⟨t,rfl⟩:=g;exact SeqAt.EqAt.bool_int a b t
  | str b=>obtain ⟨t,rfl⟩:=g;exact SeqAt.EqAt.bool_str a b t
  | _=>exact absurd (show false=true from C) Qa3
 | int a =>
  obtain ⟨t',rfl⟩:=q;cases x with
  | non=>cases g;exact SeqAt.EqAt.int_none a t'
  | bl b=>cases g;exact SeqAt.EqAt.int_bool a t' b
  | int b=>obtain ⟨t,rfl⟩:=g;exact SeqAt.EqAt.int_int a t' b t
  | str b=>obtain ⟨t,rfl⟩:=g;exact SeqAt.EqAt.int_str a t' b t
  | _=>exact absurd (show false=true from C) Qa3
 | str a =>
  obtain ⟨t',rfl⟩:=q;cases x with
  | non=>cases g;exact SeqAt.EqAt.str_none a t'
  | bl b=>cases g;exact SeqAt.EqAt.str_bool a t' b
  | int b=>obtain ⟨t,rfl⟩:=g;exact SeqAt.EqAt.str_int a t' b t
  | str b=>obtain ⟨t,rfl⟩:=g;exact SeqAt.EqAt.str_str a t' b t
  | _=>exact absurd (show false=true from C) Qa3
 | _=>exact absurd (show false=true from D) Qa3
def eqU(x:V)(u:Value):Bool:=match u with
 | .none=>eqV .non x
 | .bool b=>eqV (.bl b) x
 | .int i _=>eqV (.int i) x
 | .str z _=>eqV (.str z) x
 | _=>false
theorem Zeu{x y:V}(r:RelV y u)(f:XX y=true):eqU x u=eqV y x:=by
 cases y with
 | non=>cases r;rfl
 | bl b=>cases r;rfl
 | int i=>obtain ⟨t,rfl⟩:=r;rfl
 | str z=>obtain ⟨t,rfl⟩:=r;rfl
 | _=>exact absurd (show false=true from f) Qa3
theorem yO{x:V}:∀{xs:List V} {g:List Value},Vals xs g->xs.all XX=true->g.any (eqU x)=xs.any fun y=>eqV y x
 | _,_,.nil,_=>rfl
 | y::xs,u::g,.cons r t,f=>by
  rw [Qcj,Qbv] at f;rw [Qf3,Qf3,Zeu r f.1,yO t f.2]
theorem jh{A:Around}{s:Shared}{x:V}{v:Value}(q:RelV x v)(C:XX x=true):∀{xs:List V} {g:List Value},Vals xs g->xs.all XX=true->∀u∈g,SeqAt.EqAt A s u v (eqU x u)
 | _,_,.nil,_=>fun u hu=>by cases hu
 | y::xs,u::g,.cons r t,f=>fun D hu=>by
  rw [Qcj,Qbv] at f;rcases Qas.mp hu with rfl | hu
  ·rw [Zeu r f.1];exact ug r q f.1 C
  ·exact jh q C t f.2 D hu
def inV(x:V)(xs:List V):Bool:=xs.any fun y=>eqV y x
inductive Zi1(K:PySem.W.Frag)(neg:Bool)(x:V)(y:V)(H:Hp)(Q:VK):Prop
 | mk (p xs:_):(y=.ref p)->((SqL K H p xs\/SqT K H p xs))->(XX x=true)->(xs.all XX=true)->(Q (.bl (if neg then !inV x xs else inV x xs)) H)->Zi1 K neg x y H Q
def rIn(K:PySem.W.Frag)(neg:Bool):R2:=fun x y H Q=>Zi1 K neg x y H Q
theorem YJ:OpR X (compareOp .In) (rIn X.K false):=by
 intro pins s σ H x y v u Q I D J h;obtain ⟨p,xs,rfl,C,E,fs,q⟩:=h;cases J;rcases C with C | C
 ·obtain ⟨g,r,pl,G⟩:=I.list C
  refine SeqAt.in_listAt (eqU x) pl.isList (fun w hw=>jh D E r fs w (by simpa using hw)) ⟨.bl _,H,I,rfl,?_⟩;rw [show g.toArray.any (eqU x)=g.any (eqU x) by simp,yO r fs];exact q
 ·obtain ⟨g,r,pl,G⟩:=I.tuple C
  refine SeqAt.in_tupleAt (eqU x) pl (fun w hw=>jh D E r fs w (by simpa using hw)) ⟨.bl _,H,I,rfl,?_⟩;rw [show g.toArray.any (eqU x)=g.any (eqU x) by simp,yO r fs];exact q
theorem Z0:Jh X (.builtin "len") (fun xs H Q=>∃p ys,xs=[.ref p]/\(SqL X.K H p ys\/SqT X.K H p ys)/\Q (.int ys.length) H):=by
 intro pins s σ H xs L Q I r h;obtain ⟨p,ys,rfl,C,q⟩:=h;obtain ⟨u,rfl,G⟩:=vals1 r;cases G;have hn:=xp;rcases C with C | C
 ·obtain ⟨E,D,pl,J⟩:=I.list C
  have g:=D.length;exact Calls.call_len_list pl.isList (by simp only [Qa8] <;> lia) ⟨.int ys.length,H,I.tok _,⟨s.toks + 1,by rw [Qa8,g]⟩,q⟩
 ·obtain ⟨E,D,pl,J⟩:=I.tuple C
  have g:=D.length;exact len_tuple pl (by simp only [Qa8] <;> lia) ⟨.int ys.length,H,I.tok _,⟨s.toks + 1,by rw [Qa8,g]⟩,q⟩
theorem jV:Jh X (.builtin "len") (fun xs H Q=>∃z,xs=[.str z]/\z.length<=sizeLine/\Q (.int z.length) H):=by
 intro pins s σ H xs g Q I r h;obtain ⟨z,rfl,C,q⟩:=h;obtain ⟨u,rfl,t,rfl⟩:=vals1 r;have hn:=xp;exact len_str (by lia) ⟨.int z.length,H,I.tok _,⟨_,rfl⟩,q⟩
theorem ZW:Jh X (.type "tuple") (fun xs H Q=>∃p ys,xs=[.ref p]/\((SqL X.K H p ys/\∀l,H l=none->Q (.ref l) (upd H l (.tup ys)))\/(SqT X.K H p ys/\Q (.ref p) H))):=by
 intro pins s σ H xs N Q I r h;obtain ⟨p,ys,rfl,h⟩:=h;obtain ⟨u,rfl,L⟩:=vals1 r;cases L;rcases h with ⟨C,q⟩ | ⟨C,q⟩
 ·obtain ⟨g,D,pl,E⟩:=I.list C
  have J:=D.length;refine call_tuple_list pl.isList (fun h' kp=>?_) (by simp only [Qa8] <;> lia);have G:Inv X pins σ H { s with heap:=h' }:=I.kept (t':=s.toks) kp;have M:Inv X pins σ (upd H h'.objs.size (.tup ys)) { s with heap:=h'.push { cls:=.type "tuple",data:=.seq g.toArray } } :=
   G.laid (t':=s.toks) (fun b o e=>Qae _ e) (Qai _) (show YO X.prog X.w _ _ _ (.tup ys) from ⟨E,g,D,Qg2 _ _⟩)
  exact ⟨.ref h'.objs.size,_,M,rfl,q _ (G.hok.fresh (Qai _))⟩
 ·obtain ⟨g,D,pl,E⟩:=I.tuple C
  exact call_tuple_same pl ⟨.ref p,H,I,rfl,q⟩
def tyV(K:PySem.W.Frag)(T:String)(x:V)(H:Hp):Prop:=match x with
 | .str _=>T = "str"
 | .int _=>T = "int"
 | .ref p=>(T = "list" /\ ∃xs,SqL K H p xs)\/(T = "tuple" /\ ∃o,K.lookup p=some o/\o.cls=.type "tuple" /\ o.dict=none) \/
   (T = "dict" /\ ((∃kvs,H p=some (.dK kvs))\/∃kvs,H p=some (.dT kvs)))\/(T = "set" /\ ∃S n,H p=some (.set S n))
 | _=>False
theorem Zev{pins:List (Addr × Obj)}{σ:St}{T:String}{x:V}{v:Value}(I:Inv X pins σ H s)(r:RelV x v)(ty:tyV X.K T x H) :
  s.TypeIs v T/\∀a,v=.ref a->∃ob,s.heap.get? a=some ob/\ob.dict=none:=by
 cases x with
 | str z =>
  obtain ⟨t,rfl⟩:=r;cases (show T = "str" from ty);exact ⟨typeIs_str s z t,fun _ e=>nomatch e⟩
 | int i =>
  obtain ⟨t,rfl⟩:=r;cases (show T = "int" from ty);exact ⟨typeIs_int s i t,fun _ e=>nomatch e⟩
 | ref p =>
  cases r;rcases ty with ⟨rfl,xs,g⟩ | ⟨rfl,o,hk,hc,hd⟩ | ⟨rfl,hk⟩ | ⟨rfl,S,n,hk⟩
  ·obtain ⟨q,_,pl,_⟩:=I.list g
   refine ⟨pl.isList.typeIs,fun a e=>?_⟩;cases e;obtain ⟨o,n,e,c,hd,_⟩:=pl;exact ⟨o,e,hd⟩
  ·refine ⟨⟨o,I.kIn p o hk,hc⟩,fun a e=>?_⟩
   cases e;exact ⟨o,I.kIn _ o hk,hd⟩
  ·have z:∃o,s.heap.get? p=some o/\o.ExactDict:=by
    rcases hk with ⟨kvs,hk⟩ | ⟨kvs,hk⟩
    ·obtain ⟨_,_,_,_,o,_,_,e,ex,_⟩:=I.hok p _ hk
     exact ⟨o,e,ex⟩
    ·obtain ⟨_,_,_,_,o,_,_,e,ex,_⟩:=I.hok p _ hk
     exact ⟨o,e,ex⟩
   obtain ⟨o,e,ex⟩:=z;refine ⟨⟨o,e,ex.1⟩,fun a e2=>?_⟩;cases e2;exact ⟨o,e,ex.2.1⟩
  ·obtain ⟨o,_,_,_,e,ex,_⟩:=I.hok p _ hk
   refine ⟨⟨o,e,ex.1⟩,fun a e2=>?_⟩;cases e2;exact ⟨o,e,ex.2.1⟩
 | _=>exact False.elim ty
inductive Zew(K:PySem.W.Frag)(T:String)(r:V->List V->Hp->VK->Prop)(Q:VK)(x:V)(H1:Hp):Prop
 | mk  : (tyV K T x H1)->(r x [] H1 Q)->Zew K T r Q x H1
def Zjv(K:PySem.W.Frag)(T:String)(r:V->List V->Hp->VK->Prop)(to:TE):TE:=fun σ H Q=>to σ H fun x H1=>Zew K T r Q x H1
inductive Zi2(K:PySem.W.Frag)(T:String)(r:V->List V->Hp->VK->Prop)(t:TA)(σ:St)(Q:VK)(x:V)(H1:Hp):Prop
 | mk  : (tyV K T x H1)->(t σ H1 fun xs H2=>r x xs H2 Q)->Zi2 K T r t σ Q x H1
def tBM(K:PySem.W.Frag)(T:String)(r:V->List V->Hp->VK->Prop)(to:TE)(t:TA):TE:=fun σ H Q=>to σ H fun x H1=>Zi2 K T r t σ Q x H1
variable {o e:Expr}{es:List Expr}{to:TE}{t:TA}{name:Str}{apos cpos:Pos}{T id:String}{r:V->List V->Hp->VK->Prop}
theorem pe_bm0 (pa:PlainAttrs T) (slot:Slot T name id) (hty:typeOf (.builtin id)=pure (.type "method_descriptor")) (hm:MtR X id r) (ho:PE X o to)
  (hbase:attributeBase o name X.env (eval o X.env)=eval o X.env:=by rfl) (hline:(apos.endLine == cpos.line)=true:=by rfl):PE X (.Call (.Attribute o name apos) [] [] cpos) (Zjv X.K T r to):=by
 intro pins s σ H Q I h;refine wpAny_Call_method0_late hbase hline (thn (ho pins s σ H _ I h) fun v C ⟨x,H1,g,q,ty,D⟩=>?_);obtain ⟨h1,h2⟩:=Zev g q ty;exact ⟨T,id,pa,slot,hty,h1,h2,Qec rfl (PySem.evalArgs_none (hm pins C σ H1 x [] v [] Q g q .nil D))⟩
theorem pe_bm (pa:PlainAttrs T) (slot:Slot T name id) (hty:typeOf (.builtin id)=pure (.type "method_descriptor")) (hm:MtR X id r) (ho:PE X o to) (ha:PA X (e::es) t)
  (hbase:attributeBase o name X.env (eval o X.env)=eval o X.env:=by rfl)
  (q:((backTo cpos (starEach (e::es) X.env)).all (fun x=>!x.1) && (backToKw cpos (keywordEach [] X.env)).all (fun x=>x.1.isSome)
   && decide ((e::es).length + ([]:List Keyword).length + (if ([]:List Keyword).isEmpty then 0 else 1) < 30))=true:=by rfl)
  (hline:(apos.endLine == cpos.line)=true:=by rfl) (hs:starEach (e::es) X.env=(false,eval e X.env)::starEach es X.env:=by rfl) (g:(backTo cpos (starEach es X.env)).any (·.1)=false:=by rfl) :
  PE X (.Call (.Attribute o name apos) (e::es) [] cpos) (tBM X.K T r to t):=by
 intro pins s σ H Q I h;refine wpAny_Call_method_late hbase q hline rfl (thn (ho pins s σ H _ I h) fun v G ⟨x,H1,C,E,ty,N⟩=>?_);obtain ⟨h1,h2⟩:=Zev C E ty;refine ⟨T,id,pa,slot,hty,h1,h2,?_⟩;have D:=ha cpos pins G σ H1 _ C N;rw [hs] at D ⊢;refine Qec (by show (false || (backTo cpos (starEach es X.env)).any (·.1))=false;rw [g] <;> rfl) (Qfu ?_);exact thn D fun M L ⟨vs,H2,R,J,O⟩=>hm pins L σ H2 x vs v M Q R E J O
end
end L2
namespace L2
open PySem PySem.Spec PyProof.Rows
def MtM(X:Cx)(id:String)(r:V->List V->Hp->VK->Prop):Prop :=
 ∀(pins:List (Addr × Obj)) (s:Shared) (σ:St) (H:Hp) (x:V) (xs:List V) (v:Value) (g:List Value) (Q:VK),Inv X pins σ H s->RelV x v->Vals xs g->r x xs H Q ->
  wpAny (model X.prog X.w) X.A (call (.builtin id) (v::g)) (EP X pins σ Q) X.xe s
theorem Vals.one:∀{x:V} {g:List Value},Vals [x] g->∃u,g=[u]/\RelV x u
 | _,_,.cons r .nil=>⟨_,rfl,r⟩
theorem Vals.zero:∀{g:List Value},Vals [] g->g=[]
 | _,.nil=>rfl
theorem Vals.dropLast{xs:List V}{g:List Value}(h:Vals xs g):Vals xs.dropLast g.dropLast:=by
 induction h with
 | nil=>exact .nil
 | cons r t C =>
  cases t with
  | nil=>exact .nil
  | cons q t'=>exact .cons r C
theorem wJ(l:List g):l.eraseIdx (l.length - 1)=l.dropLast:=by
 induction l with
 | nil=>rfl
 | cons a r q =>
  cases r with
  | nil=>rfl
  | cons b r =>
   have e:(a::b::r).length - 1=((b::r).length - 1) + 1:=by
    have h1:(a::b::r).length=r.length + 2:=rfl;have h2:(b::r).length=r.length + 1:=rfl;lia
   rw [e,List.eraseIdx_cons_succ,q]
   all_goals rfl
section
variable {X:Cx}{pins:List (Addr × Obj)}{σ:St}{H:Hp}{s:Shared}{l b:Addr}{xs ys zs:List V}
theorem Inv.lset{its':List Value}{f:Array Value->Array Value}{t':Nat}(I:Inv X pins σ H s)(C:H l=some (.lst xs))
  (e:s.heap.get? l=some { cls:=.type "list",data:=.seq U.toArray n }) (hf:f U.toArray=its'.toArray) (hv:Vals ys its') (g:ys.length<=sizeLine) :
  Inv X pins σ (upd H l (.lst ys)) { s with heap:=s.heap.update l (Obj.mapSeq f),toks:=t' }:=by
 have q:=PySem.IsL.update e f;rw [hf] at q;refine I.write (x:=l) (e:=l) (by rw [C];exact trivial) (.inl rfl) (fun D u hb hu=>(Qch s.heap (Obj.mapSeq f) (Qdk hb)).trans hu) ⟨_,q⟩ ?_;exact ⟨g,its',_,hv,q⟩
theorem Inv.lnew{t':Nat}(I:Inv X pins σ H s)(hv:Vals ys U)(g:ys.length<=sizeLine) :
  Inv X pins σ (upd H s.heap.objs.size (.lst ys)) { s with heap:=s.heap.push { cls:=.type "list",data:=.seq U.toArray },toks:=t' } :=
 I.laid (fun _ _ q=>Qae _ q) (Qai _) ⟨g,U,0,hv,Qaz _ rfl⟩
theorem Inv.fresh(I:Inv X pins σ H s):H s.heap.objs.size=none:=I.hok.fresh (Qai _)
theorem Inv.lstM (I:Inv X pins σ H s) (q:H l=some (.lst xs)):xs.length<=sizeLine/\∃(g:List Value) (n:Nat),Vals xs g/\xs.length=g.length/\s.heap.get? l=some { cls:=.type "list",data:=.seq g.toArray n }:=by
 obtain ⟨z,g,n,r,e⟩:=I.hok l _ q;exact ⟨z,g,n,r,r.length,e⟩
end
section
variable {X:Cx}
inductive jW(x:V)(vs:List V)(H:Hp)(Q:VK):Prop
 | mk (l xs y:_):(x=.ref l)->(vs=[y])->(H l=some (.lst xs))->(xs.length < sizeLine)->(Q .non (upd H l (.lst (xs++[y]))))->jW x vs H Q
def yP  : V->List V->Hp->VK->Prop:=fun x vs H Q=>jW x vs H Q
theorem Zy:MtM X "list.append" yP:=by
 intro pins s σ H x vs v L Q I D E h;obtain ⟨l,xs,y,rfl,rfl,C,J,q⟩:=h;cases D;obtain ⟨u,rfl,G⟩:=E.one;obtain ⟨z,g,n,r,hl,e⟩:=I.lstM C;refine call_meets F.slot_list_append ⟨_,e,rfl⟩ F.entry_list_append (F.args_list_append_2 _ _) (PySem.list_append l g.toArray n u (by rw [Qa8];lia)) ⟨e,?_⟩;refine ⟨.non,_,I.lset (its':=g++[u]) C e (by simp) (r.append (.cons G .nil)) ?_,rfl,q⟩;rw [Qaf,List.length_singleton];lia
inductive Zex(x:V)(vs:List V)(H:Hp)(Q:VK):Prop
 | mk (l xs y:_):(x=.ref l)->(vs=[])->(H l=some (.lst xs))->(xs[xs.length - 1]?=some y)->(Q y (upd H l (.lst xs.dropLast)))->Zex x vs H Q
def rPop  : V->List V->Hp->VK->Prop:=fun x vs H Q=>Zex x vs H Q
theorem Zey:MtM X "list.pop" rPop:=by
 intro pins s σ H x vs v N Q I G J h;obtain ⟨l,xs,y,rfl,rfl,E,L,q⟩:=h;cases G;have D:=J.zero;subst D;obtain ⟨z,g,n,r,hl,e⟩:=I.lstM E;obtain ⟨u,hu,M⟩:=r.get L;have C:g.toArray[g.toArray.size - 1]?=some u:=by
  show g.toArray[g.length - 1]?=some u;rw [<-Qfo,<-hl];exact hu
 refine call_meets F.slot_list_pop ⟨_,e,rfl⟩ F.entry_list_pop (F.args_list_pop_1 _) (MeetsSeq.list_pop_last l g.toArray n u C (by rw [Qa8];lia)) ⟨e,?_⟩;refine ⟨y,_,I.lset (its':=g.dropLast) E e ?_ r.dropLast ?_,M,q⟩
 ·show g.toArray.eraseIdxIfInBounds (g.toArray.size - 1)=g.dropLast.toArray
  rw [Qa8,List.eraseIdxIfInBounds_toArray,wJ]
 ·rw [List.length_dropLast]
  lia
inductive Zez(x:V)(y:V)(H:Hp)(Q:VK):Prop
 | mk (l b xs zs:_):(x=.ref l)->(y=.ref b)->(H l=some (.lst xs))->(H b=some (.lst zs))->(xs.length + zs.length<=sizeLine)->(∀p,H p=none->Q (.ref p) (upd H p (.lst (xs++zs))))->Zez x y H Q
def rCat  : R2:=fun x y H Q=>Zez x y H Q
theorem jX:OpR X (binaryOp .Add) rCat:=by
 intro pins s σ H x y v u Q I D M h;obtain ⟨l,b,xs,zs,rfl,rfl,J,E,R,q⟩:=h;cases D;cases M;obtain ⟨z,C,n,r,hl,e⟩:=I.lstM J;obtain ⟨S,g,O,G,N,e2⟩:=I.lstM E;refine PySem.P.add_list e e2 ?_ (by rw [Qa8,Qa8];lia);have L:C.toArray++g.toArray=(C++g).toArray:=by simp
 rw [L];exact ⟨.ref _,_,I.lnew (t':=s.toks) (r.append G) (by rw [Qaf];lia),rfl,q _ I.fresh⟩
end
section
variable {prog:Program}{w:World}{A:Around}{E:Value->Shared->Prop}{s:Shared}
end
section
variable {X:Cx}
end
end L2
namespace Att
open PySem PySem.W PySem.Calls PyProof.Rows
theorem xq{P:Params}:∀(g:List Int) (vs:List Value),WellAll P h vs (g.map WData.int)->IntsAre vs g:=by
 intro g
 induction g with
 | nil =>
  intro vs w;rw [Qe1] at w;cases w;exact .nil
 | cons n g q =>
  intro vs w;rw [Qa7] at w;cases w with
  | cons a b =>
   cases a;exact .cons _ _ (q _ b)
theorem uh{l:OpenLaw}(hn:l.most=some n){P:Params}{args:List WData}
  (C:l.row.toRowW.claim.pre args=true) (J:WellAll P h U args) :
  ∃a vs g,U=[Value.ref a]/\args=[WData.list (g.map WData.int)]/\h.get? a=some { cls:=.type "list",data:=.seq vs.toArray }/\IntsAre vs g/\g.length<=n:=by
 have L:WShape.hasAll [] args [.list .int]=true:=(pre_splitW C).1;have hc:l.pre.holds [] { args:=args }=true:=(pre_splitW C).2;obtain ⟨d,r,rfl,h1,h2⟩:=hasAllW_cons L;obtain rfl:=hasAllW_nil h2;obtain ⟨xs,rfl,M⟩:=hasW_list h1;obtain ⟨g,rfl⟩:=items_int M;have E:g.length<=n:=by
  unfold OpenLaw.pre at hc;have G:(WTm.not (.lt (.lit (.int (n:Int))) (.len (.arg 0)))).holds [] { args:=[.list (g.map .int)] }=true:=by
   have G:=(holds_andW hc).1;rw [hn] at G;exact G
  have I:=condW_of G (w_not (w_lt w_lit (w_len_list (w_arg rfl))));rw [Qad] at I;refine Nat.le_of_not_lt fun q=>?_;have q':(n:Int) < ((g.length:Nat):Int):=by lia
  first
   | (rw [Qaj q'] at I;exact absurd I (by decide))
   | (simp at I;lia)
 cases J with
 | cons w1 w2 =>
  cases w2;cases w1 with
  | list ho D=>exact ⟨_,_,g,rfl,rfl,ho,xq g _ D,E⟩
theorem uk(l:OpenLaw)(args:List WData):l.row.toRowW.claim.post args (.bool true) args=true :=
 postW_of (r:=l.row.toRowW) (X:=(true == true))
  (show WShape.has [] (.bool true) .bool=true by first | rfl | decide | simp [WShape.has,WShape.arms,WShape.armsAll])
  (show (WTm.eq .res (.lit (.bool true))).value [] { args:=args,res:=some (.bool true),after:=args }=some (.bool (true == true)) from w_eq_bool (w_res rfl) w_lit) rfl
theorem attach_call{l:OpenLaw}{XP:(Str->Option Value)->Heap->Prop}{YP:World->Heap->Prop}{d:DefRec}
  (hn:l.most=some n) (R:d.params.defaults=[])
  (call:∀(w:World) (s₀ g:Shared) (mg mb:Str->Option Value) (L:Addr) (o:Obj) (pm M C:Value) (a:Addr) (vs:List Value) (O:List Int),
   Ground q N [] XP w s₀ mg mb g.heap->YP w g.heap ->
   g.heap.get? L=some o->o.data=.func (docDef d.name d.params d.body d.scope pm M C)->g.heap.CodeRec M d.name->mg d.name=some (.ref L) ->
   g.heap.get? a=some { cls:=.type "list",data:=.seq vs.toArray }->IntsAre vs O->O.length<=n->g.gens=#[] ->
   codeAny (model l.prog w) callerA (.call (.ref L) ⟨[.ref a],[]⟩) (fun r s'=>r=.ok (.ret (.bool true))/\OldK g.heap s'.heap/\s'.os=g.os/\AllBare s'.gens) g) :
  WalkO q N XP YP l.row.toRowW d [] (fun f vs=>PySem.call f vs):=by
 intro w s₀ g mg mb G Y L o pm M C dV kV ho hd hcd hD S hg args vals as J hlay hrd Z hlo;obtain rfl:dV=.none:=Dflts.none hD R;obtain rfl:kV=.none:=Dflts.noKw hD;obtain ⟨a,vs,O,rfl,rfl,E,D,I⟩:=uh hn J Z;refine enter_call (Qfn (call w s₀ g mg mb L o pm M C a vs O G Y ho (fd_plain hd) hcd S E D I hg) fun r s' hq=>?_);obtain ⟨rfl,h2,h3,h4⟩:=hq;exact ⟨.inl ⟨.bool true,.bool true,[],rfl,fun _=>rfl,.bool true,uk l _,fun _=>⟨List.Pairwise.nil,fun _ hm=>(nomatch hm)⟩⟩,h2,h3,h4⟩
section
variable {prog:Program}{w:World}{A:Around}{E:Value->Shared->Prop}{s:Shared}{K:Frag}
end
end Att
namespace L2
open PySem PySem.Spec PyProof.Rows
theorem jY:∀{vs:List Value} {g:List Int},IntsAre vs g->Vals (g.map V.int) vs
 | _,_,.nil=>.nil
 | _,_,.cons n t h=>.cons ⟨t,rfl⟩ (jY h)
def WE(s:Stmt):Arguments:=match s with
 | .FunctionDef _ a _ _ _ _ _ _ _ _=>a
 | _=>{ posonlyargs:=[],args:=[],vararg:=none,kwonlyargs:=[],kw_defaults:=[],kwarg:=none,defaults:=[] }
def Xu(s:Stmt):List Stmt:=match s with
 | .FunctionDef _ _ b _ _ _ _ _ _ _=>b
 | _=>[]
def Zk(s:Stmt):Scope:=match s with
 | .FunctionDef _ _ _ _ _ _ g _ _ _=>g
 | _=>{ kind:=.function,names:=[],isGenerator:=false,isCoroutine:=false }
abbrev CX0:CXT:=fun _ _ _ _ _ _=>False
abbrev E0:XK:=fun _ _ _=>False
theorem ZY{X:Cx}:Passes CX0 X E0:=fun _ _ _ _ _ _ _ h=>h.elim
structure Fun(K:PySem.W.Frag)(x qual:Str)(st:Stmt)(f:Addr)(fd:FuncData):Prop where
 ex:∃(oc:Value) (od:Option Addr) (kV doc pm:Value) (an:Option Addr) (cdv ct:Value) (osl:Array (Option Value)),
  fd=PySem.W.fnOf x qual (WE st) (Xu st) (Zk st) .none kV doc pm an cdv ct/\K.lookup f=some ⟨oc,od,.func fd,osl⟩/\PySem.W.codeIn K cdv qual=true
 kp:PySem.W.keepIn K (.ref f)=true
section
variable {P:Program}{w:World}{K:PySem.W.Frag}{mg:Str->Option Value}{base:Heap}
theorem Fun.ok{qual:Str}{st:Stmt}{fd:FuncData}{ps:List Str}{k:Nat}{sp:Sp}(F:Fun K x qual st f fd)(S:ZQ N ps (Zk st))(len:∀vs H Q E,sp vs H Q E->vs.length=ps.length)
  (C:∀(g:Value) (A:Around) (outer:List Env) (s:Shared) (H:Hp) (vs:List V) (Q:VK) (E:XK),JD k (A.deeper (envOfC qual (Zk st) s.heap.objs.size f g))->sp vs H Q E ->
   ∃t,PSs (Zcv CX0 P w K mg base N qual (Zk st) f g A outer s H E).nox (Xu st) t/\t { nx:=fun _ H'=>Q .non H',rt:=Q } (start N vs) H):Ym P w K mg base CX0 (k + 1) f fd ps sp:=by
 obtain ⟨oc,od,kV,G,L,M,g,ct,I,rfl,J,hcd⟩:=F.ex;refine Ziz J hcd S len fun A outer s H vs Q E hr D=>?_;obtain ⟨t,h,q⟩:=C g A outer s H vs Q E hr D;exact ⟨t,h.nox,q⟩
theorem Fun.binds{qual:Str}{st:Stmt}{fd:FuncData}{ps:List Str}(F:Fun K x qual st f fd)
  (h:∀(kV q E:Value) (C:Option Addr) (g ct:Value) (D:List Value),D.length=ps.length->bindArgs (PySem.W.fnOf x qual (WE st) (Xu st) (Zk st) .none kV q E C g ct) ⟨D,[]⟩=pure (ps.zip D)):Binds K fd ps []:=by
 obtain ⟨oc,od,kV,q,E,C,g,ct,G,rfl,I,hcd⟩:=F.ex;exact .all (h kV q E C g ct)
theorem Ze0{qual:Str}{st:Stmt}{od E:Option Addr}{C:Array (Option Value)}{kV q D g ct:Value}(l:K.lookup f=some ⟨u,od,.func (PySem.W.fnOf x qual (WE st) (Xu st) (Zk st) .none kV q D E g ct),C⟩)
  (c:PySem.W.codeIn K g qual=true) (k:PySem.W.keepIn K (.ref f)=true):Fun K x qual st f (PySem.W.fnOf x qual (WE st) (Xu st) (Zk st) .none kV q D E g ct):=⟨⟨u,od,kV,q,D,E,g,ct,C,rfl,l,c⟩,k⟩
end
theorem Y6{A:Around}{k:Nat}(hr:JD k A):A.units + 1 < cLine:=Qds (Nat.add_le_add_left (by decide:1<=64) _) hr.units
theorem Zs(h:n<=1000):n < sizeLine:=Qds h (by decide)
section
variable {X:Cx}
theorem pv (i:Nat)   (hN:X.N[i]?=some x:=by rfl) (hv:Vis X.env.scope x:=by first | exact Or.inl rfl | exact Or.inr (Or.inl rfl) | exact Or.inr (Or.inr rfl)) (hd:(x == ("__debug__" : Str))=false:=by decide)
  (hcd:(x == ("__classdict__" : Str))=false:=by decide):PE X (.Name x p) (JC i):=Zeg hN hv hd hcd
end
theorem X9{A B:Prop}(h:B):if false=true then A else B:=by
 rw [Qax Qa3];exact h
theorem WC{A B:Prop}(h:A):if true=true then A else B:=by
 rw [Qa4 rfl];exact h
theorem vW{c A B:Prop}[Decidable c](h1:c->A)(h2:¬c->B):if c then A else B:=by
 by_cases h:c
 ·rw [Qa4 h]
  exact h1 h
 ·rw [Qax h]
  exact h2 h
def Yb(H H':Hp):Prop:=∀b o,H b=some o->H' b=some o
theorem Yb.refl(H:Hp):Yb H H:=fun _ _ h=>h
theorem Yb.trans{H2:Hp}(a:Yb H B)(b:Yb B H2):Yb H H2:=fun c o h=>b c o (a c o h)
theorem Yb.free{H':Hp}(e:Yb H H'){l:Addr}(h:H' l=Option.none):H l=Option.none:=by
 cases q:H l with
 | none=>rfl
 | some o =>
  rw [e l o q] at h;cases h
section
variable {X:Cx}
def Zgh(i j:Int):Prop:=0 < j/\j.natAbs.log2 < 9000
theorem YZ:OpR X (binaryOp .FloorDiv) (rI Zgh fun i j=>.int (i / j)):=opI fun i j _ _ _ _ _ hc q=>by
 have h1:(0:Int) < j:=hc.1;exact floordiv_int (by lia) (by rw [Int.fdiv_eq_ediv_of_nonneg i (by lia)];exact q) (.inl (PyProof.noPylong_of_log2 hc.2))
theorem Zgh.of{i j:Int}(h1:0 < j)(h2:j < 2 ^ 250):Zgh i j:=by
 refine ⟨h1,?_⟩;have q:j.natAbs < 2 ^ 250:=by lia
 have g:j.natAbs≠0:=by lia
 have:=(Nat.log2_lt g).mpr q;lia
def Zgi(i j:Int):Prop:=(i.natAbs < 2 ^ 250/\j.natAbs < 2 ^ 250)\/CMul i j
theorem Zgi.ok{i j:Int}(h:Zgi i j):IntMulOk i j:=by
 rcases h with ⟨h1,h2⟩ | h
 ·refine IntMulOk.of_bits (Qbg (PyProof.Rows.intBits_le h1) (by decide)) (Qbg (PyProof.Rows.intBits_le h2) (by decide))
 ·exact h.ok
theorem JT:OpR X (binaryOp .Mult) (rI Zgi fun i j=>.int (i * j)):=opI fun _ _ _ _ _ _ _ hc q=>mul_int q hc.ok
inductive Ze1(K:PySem.W.Frag)(xs:List V)(H:Hp)(Q:VK):Prop
 | mk (x T t b:_):(xs=[x,.ty T])->(wH K H x t)->(PySem.W.kitOne K t (.type T)=some b)->(Q (.bl b) H)->Ze1 K xs H Q
def rIsi(K:PySem.W.Frag):List V->Hp->VK->Prop:=fun xs H Q=>Ze1 K xs H Q
theorem vX:Jh X (.builtin "isinstance") (rIsi X.K):=by
 intro pins s σ H xs D Q I r h;obtain ⟨x,T,t,b,rfl,ty,e,q⟩:=h;obtain ⟨u,C,rfl,g,rt⟩:=vals2 r;cases rt;exact gZ I g ty e fun tk=>⟨.bl b,H,I.tok tk,rfl,q⟩
end
def Y2:Expr->Bool
 | .Starred _ _=>false
 | _=>true
theorem Zz{rest:List Expr}{env:Env}(h:Y2 e=true):starEach (e::rest) env=(false,eval e env)::starEach rest env:=by
 cases e <;> first
  | rfl
  | cases h
theorem Xq{pos:Pos}{env:Env}:∀{es:List Expr},es.all Y2=true->(backTo pos (starEach es env)).any (·.1)=false
 | [],_=>rfl
 | e::es,h=>by
  rw [Qcj,Qbv] at h;rw [Zz h.1];show (false || (backTo pos (starEach es env)).any (·.1))=false;rw [Xq h.2]
  rfl
theorem all_plain{pos:Pos}{env:Env}:∀{es:List Expr},es.all Y2=true->(backTo pos (starEach es env)).all (fun x=>!x.1)=true
 | [],_=>rfl
 | e::es,h=>by
  rw [Qcj,Qbv] at h;rw [Zz h.1];show (true && (backTo pos (starEach es env)).all (fun x=>!x.1))=true;rw [all_plain h.2]
  rfl
section
variable {X:Cx}{CX:CXT}{k:Nat}{f C:Addr}{fd:FuncData}{ps:List Str}{sp:Sp}{dvs:List V}{ds:List Value}{E:XK}{x m:Str}{p pos apos:Pos}{e o:Expr}{es:List Expr}{ta te:TE}{t:TA}{id T:String}{r:List V->Hp->VK->Prop}
theorem pa_c(ha:PE X e te)(hr:PA X es t)(hp:Y2 e=true:=by rfl):PA X (e::es) (Y1 te t):=Zgb ha hr (Zz hp)
theorem Zcz(F:Ym X.prog X.w X.K X.mg X.base CX k f fd ps sp)(hr:JD k X.A)(hg:Gl X x)(hm:X.mg x=some (.ref f))(hk:PySem.W.keepIn X.K (.ref f)=true)(hb:Binds X.K fd ps ds)(hd:Vals dvs ds)(hx:Passes CX X E)
  (ha:PA X (e::es) t) (hdb:(x == ("__debug__" : Str))=false:=by decide) (hp:(e::es).all Y2=true:=by rfl):PE X (.Call (.Name x p) (e::es) [] pos) (Zcu sp dvs E t):=by
 rw [Qcj,Qbv] at hp;exact Zgd F hr hg hm hk hb hd hx ha hdb (Zz hp.1) (Xq hp.2)
theorem um (hc:Jh X (.builtin id) r) (hg:Gl X x) (hm:X.mg x=none) (hv:bootBuiltins x=some (.builtin id)) (ha:PA X (e::es) t) (hn:x ≠ "__name__" := by decide) (hdb:(x == ("__debug__" : Str))=false:=by decide)
  (hp:(e::es).all Y2=true:=by rfl):PE X (.Call (.Name x p) (e::es) [] pos) (tCB r t):=by
 rw [Qcj,Qbv] at hp;exact Zcw hc hg hm hv ha hn hdb (Zz hp.1) (Xq hp.2)
theorem uo (hc:Jh X (.type T) r) (hg:Gl X x) (hm:X.mg x=none) (hv:bootBuiltins x=some (.type T)) (ha:PA X (e::es) t) (hn:x ≠ "__name__" := by decide) (hdb:(x == ("__debug__" : Str))=false:=by decide)
  (hp:(e::es).all Y2=true:=by rfl):PE X (.Call (.Name x p) (e::es) [] pos) (tCB r t):=by
 rw [Qcj,Qbv] at hp;exact ub hc hg hm hv ha hn hdb (Zz hp.1) (Xq hp.2)
theorem uq {tg a:Expr} (hg:Gl X "range") (hm:X.mg "range" = none) (ha:PA X [a] t) (hp:Y2 a=true:=by rfl):PI X tg (.Call (.Name "range" p) [a] [] pos) (Zf6 t) :=
 gO hg hm ha (by rw [Zz hp];rfl)
theorem pe_bmF {name:Str} {cpos:Pos}  {q:V->List V->Hp->VK->Prop} (pa:PlainAttrs T) (slot:Slot T name id) (hty:typeOf (.builtin id)=pure (.type "method_descriptor")) (hm:MtR X id q) (ho:PE X o A) (ha:PA X (e::es) t)
  (hbase:attributeBase o name X.env (eval o X.env)=eval o X.env:=by rfl) (hline:(apos.endLine == cpos.line)=true:=by rfl) (hp:(e::es).all Y2=true:=by rfl) (hl:(e::es).length < 30:=by decide) :
  PE X (.Call (.Attribute o name apos) (e::es) [] cpos) (tBM X.K T q A t):=by
 have g:=hp;rw [Qcj,Qbv] at g;refine pe_bm pa slot hty hm ho ha hbase ?_ hline (Zz g.1) (Xq g.2);rw [all_plain hp];show decide ((e::es).length + 0 + 0 < 30)=true;exact Qaj hl
end
theorem YN:bootBuiltins "len" = some (.builtin "len"):=by decide +kernel
theorem Gq:bootBuiltins "isinstance" = some (.builtin "isinstance"):=by decide +kernel
theorem ur:bootBuiltins "sorted" = some (.builtin "sorted"):=by decide +kernel
theorem Ze2:bootBuiltins "int" = some (.type "int"):=by decide +kernel
theorem Zgj:bootBuiltins "list" = some (.type "list"):=by decide +kernel
theorem YT:bootBuiltins "tuple" = some (.type "tuple"):=by decide +kernel
theorem yQ:bootBuiltins "reversed" = some (.type "reversed"):=by decide +kernel
theorem Zc0:bootBuiltins "range" = some (.type "range"):=by decide +kernel
theorem xr :PySem.W.kitOne K (.type "int") (.type "int")=some true:=by rfl
theorem JU :PySem.W.kitOne K (.type "str") (.type "int")=some false:=by with_unfolding_all rfl
structure QE(X:Cx)(e:Expr)(t:TE):Prop where
 out:PE X e t
structure QT(X:Cx)(e:Expr)(t:TT):Prop where
 out:PT X e t
structure QW(X:Cx)(e:Expr)(t:TT):Prop where
 out:PW X e t
structure QA(X:Cx)(e:List Expr)(t:TA):Prop where
 out:PA X e t
structure QSs(X:Cx)(e:List Stmt)(t:TS):Prop where
 out:PSs X e t
structure QS(X:Cx)(e:Stmt)(t:TS):Prop where
 out:PS X e t
structure QG(X:Cx)(e:Expr)(t:TG):Prop where
 out:PG X e t
structure QI(X:Cx)(tg e:Expr)(t:TI):Prop where
 out:PI X tg e t
structure QO(X:Cx)(e:Option Expr)(t:TO):Prop where
 out:PO X e t
theorem qv {X:Cx} (i:Nat)   (hN:X.N[i]?=some x:=by rfl) (hv:Vis X.env.scope x:=by first | exact Or.inl rfl | exact Or.inr (Or.inl rfl) | exact Or.inr (Or.inr rfl)) (hd:(x == ("__debug__" : Str))=false:=by decide) (hcd:(x == ("__classdict__" : Str))=false:=by decide):QE X (.Name x p) (JC i):=⟨pv (i:=i) (hN:=hN) (hv:=hv) (hd:=hd) (hcd:=hcd)⟩
theorem Ze{X:Cx}{i j pos:_}:QE X (.Constant (.int i) j pos) (tC (.int i)):=⟨pe_int ⟩
theorem ji{X:Cx}{b j pos:_}:QE X (.Constant (.bool b) j pos) (tC (.bl b)):=⟨pe_bl ⟩
theorem Zf{X:Cx}{x j pos:_}:QE X (.Constant (.str x) j pos) (tC (.str x)):=⟨pe_str ⟩
theorem jj {X:Cx}     (hg:Gl X x) (hm:X.mg x=some u) (r:RelV v u) (hd:(x == ("__debug__" : Str))=false:=by decide):QE X (.Name x p) (tC v):=⟨Zfz (hg:=hg) (hm:=hm) (r:=r) (hd:=hd)⟩
theorem uv {X:Cx}     (hg:Gl X x) (hm:X.mg x=none) (hv:bootBuiltins x=some u) (r:RelV v u) (hn:x ≠ "__name__" := by decide) (hd:(x == ("__debug__" : Str))=false:=by decide):QE X (.Name x p) (tC v):=⟨Zf0 (hg:=hg) (hm:=hm) (hv:=hv) (r:=r) (hn:=hn) (hd:=hd)⟩
theorem Zi{X:Cx}{a:Expr}{b:Expr}{g:Operator}{r:R2}(ho:OpR X (binaryOp g) r)(ha:QE X a A)(hb:QE X b I):QE X (.BinOp a g b p) (tOp r A I):=⟨pe_op (ho:=ho) (ha:=ha.out) (hb:=hb.out)⟩
theorem Gr{X:Cx}{a:Expr}{g:UnaryOp}{r:V->Hp->VK->Prop}(ho:UnR X (unaryOp g) r)(ha:QE X a A):QE X (.UnaryOp g a p) (tUn r A):=⟨pe_un (ho:=ho) (ha:=ha.out)⟩
theorem uw{X:Cx}{a:Expr}{b:Expr}{g:CmpOp}{r:R2}(ho:OpR X (compareOp g) r)(ha:QE X a A)(hb:QE X b I)(hm:behindInMarks g b=false):QE X (.Compare a [g] [b] p) (tOp r A I):=⟨Zf8 (ho:=ho) (ha:=ha.out) (hb:=hb.out) (hm:=hm)⟩
theorem Zv{X:Cx}{a:Expr}{b:Expr}{g:CmpOp}{r:R2}(ho:OpR X (compareOp g) r)(ha:QE X a A)(hb:QE X b I)(hm:behindInMarks g b=false):QT X (.Compare a [g] [b] p) (Zix (tOp r A I)):=⟨Zf9 (ho:=ho) (ha:=ha.out) (hb:=hb.out) (hm:=hm)⟩
theorem z5{X:Cx}{t:TE}(h:QE X e t)(he:∀g,isTrue e X.env g=(do let v <-g;standAt e.pos;holding [v] (truthy v)):=by intro _;rfl):QT X e (tB t):=⟨pt_val (h:=h.out) (he:=he)⟩
theorem yR{X:Cx}{a:Expr}(ha:QT X a J):QW X (.BoolOp .And [a] p) J:=⟨Zf1 (ha:=ha.out)⟩
theorem ux{X:Cx}{a:Expr}(ha:QT X a J):QW X (.BoolOp .Or [a] p) J:=⟨pw_or1 (ha:=ha.out)⟩
theorem uy{X:Cx}{a:Expr}{b:Expr}{tB':TT}{rest:List Expr}(ha:QT X a J)(hb:QW X (.BoolOp .And (b::rest) p) tB'):QW X (.BoolOp .And (a::b::rest) p) (tAnd J tB'):=⟨pw_and (ha:=ha.out) (hb:=hb.out)⟩
theorem Zgk{X:Cx}{a:Expr}{b:Expr}{tB':TT}{rest:List Expr}(ha:QT X a J)(hb:QW X (.BoolOp .Or (b::rest) p) tB'):QW X (.BoolOp .Or (a::b::rest) p) (tOr J tB'):=⟨pw_or (ha:=ha.out) (hb:=hb.out)⟩
theorem Ze3{X:Cx}{a:Expr}(ha:QT X a J):QT X (.UnaryOp .Not a p) (tNot J):=⟨pt_not (ha:=ha.out)⟩
theorem ZR{X:Cx}:QSs X [] Ziq:=⟨Zf2 ⟩
theorem Zb{X:Cx}{st:Stmt}{rest:List Stmt}{t:TS}{u:TS}(h1:QS X st t)(h2:QSs X rest u):QSs X (st::rest) (Yy t u):=⟨Zcq (h1:=h1.out) (h2:=h2.out)⟩
theorem Zj{X:Cx}{st:Stmt}{t:TS}(h1:QS X st t):QSs X [st] t:=⟨Zf3 (h1:=h1.out)⟩
theorem ZU{X:Cx}(he:QE X e A)(hs:swapsWith e none p.line X.env=pure false:=by rfl):QS X (.Expr e p) (wC A):=⟨Zf4 (he:=he.out) (hs:=hs)⟩
theorem Zu{X:Cx}(he:QE X e A):QS X (.Return (some e) p) (tRet A):=⟨ps_ret (he:=he.out)⟩
theorem Yo{X:Cx}{t:TS}{u:TS}{c:Expr}{a b:List Stmt}(hc:QT X c J)(ha:QSs X a t)(hb:QSs X b u):QS X (.If c a b p) (tIfS J t u):=⟨ps_if (hc:=hc.out) (ha:=ha.out) (hb:=hb.out)⟩
theorem Y3{X:Cx}(hN:X.N.Nodup)(hi:X.N[i]?=some x)(hx:Loc X.env.scope x)(hf:X.fn x=true\/X.env.scope.names.lookup x=some .local:=by first | exact .inl rfl | exact .inr rfl | assumption):QG X (.Name x p) (JS i):=⟨jd (hN:=hN) (hi:=hi) (hx:=hx) (hf:=hf)⟩
theorem vY{X:Cx}{g:TG}(he:QE X e A)(hg:QG X o g)(hs:swapsWithSole [o] e p.line X.env=pure false:=by rfl)(hw:swappedStores [o] e X.env=pure none:=by rfl)(h1:(assignEach [o] X.env).map (·.2)=[assign o X.env]:=by rfl):QS X (.Assign [o] e p) (Zek A g):=⟨ps_asg (he:=he.out) (hg:=hg.out) (hs:=hs) (hw:=hw) (h1:=h1)⟩
theorem Zr{X:Cx}(hN:X.N.Nodup)(hi:X.N[i]?=some x)(hx:Loc X.env.scope x)(he:QE X e A)(hs:swapsWith e (some (.Name x E)) p.line X.env=pure false:=by rfl)(hf:X.fn x=true\/X.env.scope.names.lookup x=some .local:=by first | exact .inl rfl | exact .inr rfl | assumption):QS X (.Assign [.Name x E] e p) (Zek A (JS i)):=⟨ps_set (hN:=hN) (hi:=hi) (hx:=hx) (he:=he.out) (hs:=hs) (hf:=hf)⟩
theorem qU{X:Cx}{c:Expr}{body:List Stmt}(hp:PassesOwn (model X.prog X.w) X.A X.env X.xe)(hc:QT X c J)(hb:QSs X body m):QS X (.While c body [] p) (gJ J m):=⟨Zcr (hp:=hp) (hc:=hc.out) (hb:=hb.out)⟩
theorem XC{X:Cx}{l:Expr}(hl:QE X l A):QI X e l (gM X.K A):=⟨Zf5 (hl:=hl.out)⟩
theorem z6{X:Cx}{l:Expr}(hl:QE X l A):QI X e l (iTup X.K A):=⟨pi_tup (hl:=hl.out)⟩
theorem JE{X:Cx}{iter:Expr}{body:List Stmt}{wi:TI}{g:TG}(hp:PassesOwn (model X.prog X.w) X.A X.env X.xe)(hc:X.calm=true)(hi:QI X e iter wi)(hg:QG X e g)(hb:QSs X body m)(hs:∀x,foldedSetIterable iter X.env x=pure x:=by intro _;rfl):QS X (.For e iter body [] p) (tFor wi g m):=⟨ps_for (hp:=hp) (hc:=hc) (hi:=hi.out) (hg:=hg.out) (hb:=hb.out) (hs:=hs)⟩
theorem Zl{X:Cx}{t:TA}{g:_}(h:QA X C t):QE X (.Tuple C g p) (jf t):=⟨pe_tup (h:=h.out)⟩
theorem YQ{X:Cx}{t:TA}(h:QA X C t):QE X (.List C p) (Ziy t):=⟨pe_lst (h:=h.out)⟩
theorem Za{X:Cx}:QA X [] qS:=⟨pa_nil ⟩
theorem Zg{X:Cx}{t:TA}(ha:QE X e A)(hr:QA X C t)(hp:Y2 e=true:=by rfl):QA X (e::C) (Y1 A t):=⟨pa_c (ha:=ha.out) (hr:=hr.out) (hp:=hp)⟩
theorem Zq {X:Cx} {CX:CXT} {k:Nat}  {fd:FuncData} {ps:List Str} {sp:Sp}   {E:XK}   {pos:Pos}   {t:TA} (F:Ym X.prog X.w X.K X.mg X.base CX k f fd ps sp) (hr:JD k X.A) (hg:Gl X x) (hm:X.mg x=some (.ref f)) (hk:PySem.W.keepIn X.K (.ref f)=true) (hb:Binds X.K fd ps U) (hd:Vals P U) (hx:Passes CX X E) (ha:QA X (e::C) t) (hdb:(x == ("__debug__" : Str))=false:=by decide) (hp:(e::C).all Y2=true:=by rfl):QE X (.Call (.Name x p) (e::C) [] pos) (Zcu sp P E t):=⟨Zcz (F:=F) (hr:=hr) (hg:=hg) (hm:=hm) (hk:=hk) (hb:=hb) (hd:=hd) (hx:=hx) (ha:=ha.out) (hdb:=hdb) (hp:=hp)⟩
theorem ZH {X:Cx}      {t:TA} {id:String} {r:List V->Hp->VK->Prop} (hc:Jh X (.builtin id) r) (hg:Gl X x) (hm:X.mg x=none) (hv:bootBuiltins x=some (.builtin id)) (ha:QA X (e::C) t) (hn:x ≠ "__name__" := by decide) (hdb:(x == ("__debug__" : Str))=false:=by decide) (hp:(e::C).all Y2=true:=by rfl):QE X (.Call (.Name x p) (e::C) [] E) (tCB r t):=⟨um (hc:=hc) (hg:=hg) (hm:=hm) (hv:=hv) (ha:=ha.out) (hn:=hn) (hdb:=hdb) (hp:=hp)⟩
theorem Yr {X:Cx}      {t:TA} {T:String} {r:List V->Hp->VK->Prop} (hc:Jh X (.type T) r) (hg:Gl X x) (hm:X.mg x=none) (hv:bootBuiltins x=some (.type T)) (ha:QA X (e::C) t) (hn:x ≠ "__name__" := by decide) (hdb:(x == ("__debug__" : Str))=false:=by decide) (hp:(e::C).all Y2=true:=by rfl):QE X (.Call (.Name x p) (e::C) [] E) (tCB r t):=⟨uo (hc:=hc) (hg:=hg) (hm:=hm) (hv:=hv) (ha:=ha.out) (hn:=hn) (hdb:=hdb) (hp:=hp)⟩
theorem XD {X:Cx}   {t:TA} {a:Expr} (hg:Gl X "range") (hm:X.mg "range" = none) (ha:QA X [a] t) (hp:Y2 a=true:=by rfl):QI X e (.Call (.Name "range" p) [a] [] E) (Zf6 t):=⟨uq (hg:=hg) (hm:=hm) (ha:=ha.out) (hp:=hp)⟩
theorem Yj {X:Cx}     {t:TA} {id:String} {T:String} {name:Str}   {g:V->List V->Hp->VK->Prop} (pa:PlainAttrs T) (slot:Slot T name id) (hty:typeOf (.builtin id)=pure (.type "method_descriptor")) (hm:MtR X id g) (ho:QE X o A) (ha:QA X (e::C) t) (hbase:attributeBase o name X.env (eval o X.env)=eval o X.env:=by rfl) (hline:(p.endLine == E.line)=true:=by rfl) (hp:(e::C).all Y2=true:=by rfl) (hl:(e::C).length < 30:=by decide):QE X (.Call (.Attribute o name p) (e::C) [] E) (tBM X.K T g A t):=⟨pe_bmF (pa:=pa) (slot:=slot) (hty:=hty) (hm:=hm) (ho:=ho.out) (ha:=ha.out) (hbase:=hbase) (hline:=hline) (hp:=hp) (hl:=hl)⟩
theorem uz {X:Cx}   {name:Str}   {T:String} {id:String} {r:V->List V->Hp->VK->Prop} (pa:PlainAttrs T) (slot:Slot T name id) (hty:typeOf (.builtin id)=pure (.type "method_descriptor")) (hm:MtR X id r) (ho:QE X o A) (hbase:attributeBase o name X.env (eval o X.env)=eval o X.env:=by rfl) (hline:(p.endLine == E.line)=true:=by rfl):QE X (.Call (.Attribute o name p) [] [] E) (Zjv X.K T r A):=⟨pe_bm0 (pa:=pa) (slot:=slot) (hty:=hty) (hm:=hm) (ho:=ho.out) (hbase:=hbase) (hline:=hline)⟩
theorem Jj{X:Cx}:QO X none uc:=⟨Zge ⟩
theorem Y9{X:Cx}(h:QE X e A):QO X (some e) (Zi0 A):=⟨Zgf (h:=h.out)⟩
theorem YL{X:Cx}{lo:Option Expr}{hi:Option Expr}{tl:TO}{th:TO}{r:V->Option Int->Option Int->Hp->VK->Prop}(hr:SlR X r)(he:QE X e A)(hl:QO X lo tl)(hu:QO X hi th):QE X (.Subscript e (.Slice lo hi none E) p) (tSl r A tl th):=⟨Zcx (hr:=hr) (he:=he.out) (hl:=hl.out) (hu:=hu.out)⟩
theorem Zx{X:Cx}{a:Expr}{b:Expr}{r:R2}(hr:IxR X r)(ha:QE X a A)(hb:QE X b I)(hs:ue b):QE X (.Subscript a b p) (tOp r A I):=⟨pe_ix (hr:=hr) (ha:=ha.out) (hb:=hb.out) (hs:=hs)⟩
theorem wK{X:Cx}{t:TT}(h:QW X e t):QT X e t:=⟨h.out.pt⟩
end L2
set_option maxHeartbeats 4000000
namespace L2
open PySem PySem.Spec PyProof.Rows
def qu(cells:List (Str × Addr)):List (Str × NameKind)->List (Str × Addr)->List (Str × Addr)
 | [],acc=>acc
 | (n,k)::r,acc=>qu cells r (if (k == NameKind.free)=true then (n,(cells.lookup n).getD 0)::acc else acc)
theorem z7{env:Env}:∀(names:List (Str × NameKind)) (acc:List (Str × Addr)),(∀y∈names,y.2=.free->∃c,env.cells.lookup y.1=some c) ->
  (forIn names acc fun (x:Str × NameKind) (r:List (Str × Addr))=>match x with
   | (name,kind)=>if (kind == NameKind.free)=true then do let a <-cellOf env name;pure (ForInStep.yield ((name,a)::r)) else pure (ForInStep.yield r):Sem (List (Str × Addr)))=pure (qu env.cells names acc)
 | [],acc,_=>rfl
 | (n,k)::r,acc,h=>by
  rw [Qdz];have C:=fun q=>z7 (env:=env) r q fun y D=>h y (Qam _ D)
  by_cases hk:(k == NameKind.free)=true
  ·obtain ⟨c,hc⟩:=h (n,k) Qal (by simpa using hk)
   have g:env.cells.lookup n=some c:=hc;have e:cellOf env n=pure c:=by unfold cellOf;rw [g]
   simp only [hk,Qf9,e];rw [qu,Qa4 hk,g];exact C ((n,c)::acc)
  ·rw [qu,Qax hk]
   simp only [hk,Qe7];exact C acc
theorem Wt{scope:Scope}{env:Env}(h:∀y∈scope.names,y.2=.free->∃c,env.cells.lookup y.1=some c):closureFor scope env=pure (qu env.cells scope.names []):=by
 have e:=z7 (env:=env) scope.names [] h;unfold closureFor;show (do let r <-_;pure r)=_;rw [show (forIn scope.names ([]:List (Str × Addr)) fun (x:Str × NameKind) (r:List (Str × Addr))=>match x with
   | (name,kind)=>if (kind == NameKind.free)=true then do let a <-cellOf env name;pure (ForInStep.yield ((name,a)::r)) else pure (ForInStep.yield r):Sem (List (Str × Addr)))=pure (qu env.cells scope.names []) from e]
 rfl
theorem Gs{cells:List (Str × Addr)}:∀{names:List (Str × NameKind)} {acc:List (Str × Addr)},(∀y∈names,y.2=.free->∃c,cells.lookup y.1=some c)->(∀x c,acc.lookup x=some c->cells.lookup x=some c) ->
  ∀x c,(qu cells names acc).lookup x=some c->cells.lookup x=some c
 | [],acc,_,ha,x,c,h=>ha x c h
 | (n,k)::r,acc,hf,ha,x,c,h=>by
  rw [qu] at h;refine Gs (names:=r) (fun y g=>hf y (Qam _ g)) (fun y d hd=>?_) x c h
  by_cases hk:(k == NameKind.free)=true
  ·rw [Qa4 hk] at hd
   obtain ⟨e,he⟩:=hf (n,k) Qal (by simpa using hk);have q:cells.lookup n=some e:=he;rw [q,Qbo] at hd;cases g:y == n with
   | true =>
    rw [g] at hd;have C:y=n:=by simpa using g
    rw [C,q];exact hd
   | false =>
    rw [g] at hd;exact ha y d hd
  ·rw [Qax hk] at hd
   exact ha y d hd
theorem jZ{cells:List (Str × Addr)}:∀{names:List (Str × NameKind)} {acc:List (Str × Addr)} {x:Str},(∃c,acc.lookup x=some c)->∃c,(qu cells names acc).lookup x=some c
 | [],acc,x,h=>h
 | (n,k)::r,acc,x,h=>by
  rw [qu];refine jZ (names:=r) ?_
  by_cases hk:(k == NameKind.free)=true
  ·rw [Qa4 hk,Qbo]
   cases hx:x == n with
   | true=>exact ⟨_,rfl⟩
   | false=>exact h
  ·rw [Qax hk];exact h
theorem X3{cells:List (Str × Addr)}:∀{names:List (Str × NameKind)} {acc:List (Str × Addr)} {x:Str},names.lookup x=some .free->∃c,(qu cells names acc).lookup x=some c
 | [],acc,x,h=>by cases h
 | (n,k)::r,acc,x,h=>by
  rw [qu];rw [Qbo] at h;cases hx:x == n with
  | true =>
   rw [hx] at h;have hk:k=.free:=Option.some.inj h;refine jZ (names:=r) ?_;rw [hk,Qa4 (show (NameKind.free == NameKind.free)=true by rfl),Qbo,hx];exact ⟨_,rfl⟩
  | false =>
   rw [hx] at h;exact X3 (names:=r) h
theorem Jk{scope:Scope}{env:Env}(hk:env.scope.kind=.function):∀{names:List (Str × NameKind)} {x:Str},names.lookup x=some .free->env.kindOf x=some .cell ->
  (names.map fun (n,k)=>if (k == NameKind.free && env.scope.kind == .function && env.kindOf n == some .cell)=true then (n,NameKind.cell) else (n,k)).lookup x=some .cell
 | [],_,h,_=>by cases h
 | (n,k)::r,x,h,hc=>by
  rw [Qbo] at h;show List.lookup x ((if (k == NameKind.free && env.scope.kind == .function && env.kindOf n == some .cell)=true then (n,NameKind.cell) else (n,k))::_)=_;cases hx:x == n with
  | true =>
   rw [hx] at h;have g:k=.free:=Option.some.inj h;have q:x=n:=by simpa using hx
   rw [g,hk,<-q,hc];simp [Qbo]
  | false =>
   rw [hx] at h;have D:=Jk (scope:=scope) hk (names:=r) h hc
   by_cases C:(k == NameKind.free && env.scope.kind == .function && env.kindOf n == some .cell)=true
   ·rw [Qa4 C,Qbo,hx];exact D
   ·rw [Qax C,Qbo,hx];exact D
theorem WG{env:Env}:∀{names:List (Str × NameKind)} {x:Str},names.lookup x=some .free->env.kindOf x=some .free ->
  (names.map fun (n,k)=>if (k == NameKind.free && env.scope.kind == .function && env.kindOf n == some .cell)=true then (n,NameKind.cell) else (n,k)).lookup x=some .free
 | [],_,h,_=>by cases h
 | (n,k)::r,x,h,hc=>by
  rw [Qbo] at h;show List.lookup x ((if (k == NameKind.free && env.scope.kind == .function && env.kindOf n == some .cell)=true then (n,NameKind.cell) else (n,k))::_)=_;cases hx:x == n with
  | true =>
   rw [hx] at h;have q:k=.free:=Option.some.inj h;have C:x=n:=by simpa using hx
   have g:¬(k == NameKind.free && env.scope.kind == .function && env.kindOf n == some .cell)=true:=by
    rw [<-C,hc,Qbv];exact fun z=>absurd z.2 (by decide)
   rw [Qax g,Qbo,hx,q]
  | false =>
   rw [hx] at h;have D:=WG (names:=r) h hc
   by_cases g:(k == NameKind.free && env.scope.kind == .function && env.kindOf n == some .cell)=true
   ·rw [Qa4 g,Qbo,hx];exact D
   ·rw [Qax g,Qbo,hx];exact D
theorem Jl{env:Env}:∀{names:List (Str × NameKind)} {x:Str},(∀y∈names,y.2≠.cell) ->
    ((names.map fun (n,k)=>if (k == NameKind.free && env.scope.kind == .function && env.kindOf n == some .cell)=true then (n,NameKind.cell) else (n,k)).lookup x=some .cell \/
     (names.map fun (n,k)=>if (k == NameKind.free && env.scope.kind == .function && env.kindOf n == some .cell)=true then (n,NameKind.cell) else (n,k)).lookup x=some .free)->names.lookup x=some .free
  | [],_,_,h=>by rcases h with h | h <;> cases h
  | (n,k)::r,x,hn,h=>by
    have q:=Jl (env:=env) (names:=r) (x:=x) fun y C=>hn y (Qam _ C);rw [Qa7] at h;rw [Qbo]
    by_cases g:(k == NameKind.free && env.scope.kind == .function && env.kindOf n == some .cell)=true
    · have hk:k=.free:=by
        rw [Qbv,Qbv] at g;simpa using g.1.1
      simp only [g,Qf9,Qbo] at h;cases hx:x == n with
      | true=>rw [hk]
      | false =>
        rw [hx] at h;exact q h
    · simp only [g,Qcs,Qe7,Qbo] at h
      cases hx:x == n with
      | true =>
        rw [hx] at h;rcases h with h | h
        · exact absurd (Option.some.inj h) (hn (n,k) Qal)
        · exact h
      | false =>
        rw [hx] at h;exact q h
def cxC(X:Cx)(N':List Str)(scope:Scope)(C:Addr)(s₂:Shared)(H₂:Hp)(ex:List Addr):Cx :=
 { X with N:=N',s₀:=s₂,H₀:=H₂,env:=compEnvC scope (qu X.env.cells scope.names []) C X.env,outer:=X.stack,stack:=X.stack,ex:=ex,fn:=fun _=>false,pn:=[],xe:=fun _ _=>False }
def qw(is:List Nat)(σ:St)(v:Option V):St:=v::is.map fun i=>(σ[i]?).getD none
structure Ys(S scope:Scope)(N:List Str)(x:Str)(ys:List Str)(is:List Nat):Prop where
 kind:scope.kind=.function
 cell:∀y∈scope.names,y.2≠.cell
 names:∀y∈scope.names,y.2=.local->scope.names.lookup y.1=some .local
 own:scope.names.lookup x=some .local
 free:∀y∈scope.names,y.2=.free->S.names.lookup y.1=some .cell\/S.names.lookup y.1=some .free
 vis:∀p∈ys.zip is,N[p.2]?=some p.1/\scope.names.lookup p.1=some .free
 len:ys.length=is.length
 nd:(x::ys).Nodup
def PF(X:Cx)(ifs:List Expr)(t:TT):Prop :=
 ∀(pins:List (Addr × Obj)) (s:Shared) (σ:St) (H:Hp) (Q:Bool->Hp->Prop),Inv X pins σ H s->t σ H Q ->
  wpAny (model X.prog X.w) X.A (forIn ifs true fun c r=>if r=true then do let ok <-isTrue c X.env (eval c X.env);pure (ForInStep.yield ok) else pure (ForInStep.yield r)) (TP X pins σ Q) X.xe s
structure QF(X:Cx)(ifs:List Expr)(t:TT):Prop where
 out:PF X ifs t
def uA:TT:=fun _ H Q=>Q true H
theorem Wu{X:Cx}:QF X [] uA:=⟨fun _ _ _ H _ I h=>wpAny_tests_nil ⟨H,I,h⟩⟩
theorem uB{X:Cx}{c:Expr}{t:TT}(h:QT X c t):QF X [c] t:=⟨fun pins s σ H Q I hw=>wpAny_tests_one (h.out pins s σ H Q I hw)⟩
section
variable {X:Cx}{S scope:Scope}{N:List Str}{x:Str}{ys:List Str}{is:List Nat}{pins:List (Addr × Obj)}{σ:St}{H₂:Hp}{s₂:Shared}{fp:List Addr}
theorem Ys.cellOf'(K:Ys S scope N x ys is)(g:X.env.scope=S)(ok:X.Ok):∀y∈scope.names,y.2=.free->∃c,X.env.cells.lookup y.1=some c:=fun y q h =>
 ok.has y.1 (by show X.env.scope.names.lookup y.1=_\/X.env.scope.names.lookup y.1=_;rw [g];exact K.free y q h)
theorem Ys.cl(K:Ys S scope N x ys is)(g:X.env.scope=S)(ok:X.Ok):∀y c,(qu X.env.cells scope.names []).lookup y=some c->X.env.cells.lookup y=some c :=
 Gs (K.cellOf' g ok) fun _ _ z=>by cases z
theorem qV{names:List (Str × NameKind)}{y:Str}{k:NameKind}(h:names.lookup y=some k):(y,k)∈names:=by
 induction names with
 | nil=>cases h
 | cons p r q =>
  obtain ⟨n,g⟩:=p;rw [Qbo] at h;cases hx:y == n with
  | true =>
   rw [hx] at h;have e1:y=n:=by simpa using hx
   have e2:g=k:=Option.some.inj h;rw [e1,e2];exact Qal
  | false =>
   rw [hx] at h;exact Qam _ (q h)
theorem uC(K:Ys S scope N x ys is)(q:X.env.scope=S)(I:Inv X pins σ H₂ s₂)(D:s₂.heap.objs.size<=a)(g:∀b∈fp,xY X pins H₂ b)(C:∀b∈fp,b < s₂.heap.objs.size):(cxC X (x::ys) scope a s₂ H₂ fp).Ok where
 mod:=I.ok.mod
 kind:=K.kind
 glob:=I.ok.glob
 blt:=I.ok.blt
 above:=D
 inj:=fun y z c h1 h2=>I.ok.inj y z c (K.cl q I.ok y c h1) (K.cl q I.ok z c h2)
 has:=fun y E=>X3 (Jl (env:=X.env) K.cell E)
 cab:=fun y c h=>by cases h
 hd:=I.ok.hd
 frames:=I.ok.frames
 stk:=.inl rfl
 exf:=fun b hb=>⟨fun e=>absurd (Qbf (C b hb) (Qbg D (Qg4 (Eq.symm e)))) (Qby _),fun y c h=>(g b hb).2.2.2.2.1 y c (K.cl q I.ok y c h)⟩
 bs:=I.bs
 bsz:=Qbg I.ok.bsz I.sz
 noex:=fun b o e hb=>by
  rcases (g b hb).2.2.2.1 with z | z
  ·exact I.ok.noex b o e z
  ·exact absurd (Qbf (Qav e) (Qbg I.ok.bsz z)) (Qby _)
 exfs:=fun b hb z=>by
  rcases Qas.mp (I.stkSub b z) with e | e
  ·exact (g b hb).2.1 e
  ·exact (g b hb).2.2.1 e
 funs:=I.stack
 frf:=I.stkFree
theorem Zgl(K:Ys S scope N x ys is)(J:X.env.scope=S)(hN:X.N=N)(hk:S.kind=.function)(I:Inv X pins σ H₂ s₂){D:Heap}{tk:Nat}{O:Obj}(hC:s₂.heap.objs.size<=a)(hD:s₂.heap.objs.size<=f)(Y:f≠a)
  (Z:∀b∈fp,xY X pins H₂ b) (hlt:∀b∈fp,b < s₂.heap.objs.size) (E:∀b o,s₂.heap.get? b=some o->D.get? b=some o) (hn:D.Ns a fun _=>none) (M:D.get? f=some O) (hod:∀v,O.data≠.cell v) :
  Inv (cxC X (x::ys) scope a s₂ H₂ fp) [(f,O)] (qw is σ none) H₂ { s₂ with heap:=D,toks:=tk }:=by
 have ok:=uC K J I hC Z hlt;refine ⟨ok,rfl,I.bare,Un.kept E,⟨_,hn,fun i y v h1 h2 h3=>?_⟩,fun y c h=>?_,I.hok.fresh hC,fun y c h=>I.freeC y c (K.cl J I.ok y c h),fun p hp=>?_,I.hok.kept E,?_⟩
 ·cases i with
  | zero =>
   have g:some (none:Option V)=some (some v):=h2;cases g
  | succ i =>
   have h1':ys[i]?=some y:=h1;have g:(is.map fun i=>(σ[i]?).getD none)[i]?=some (some v):=h2;rw [Qah] at g;cases hj:is[i]? with
   | none=>rw [hj] at g;cases g
   | some j =>
    rw [hj] at g;have C:(σ[j]?).getD none=some v:=Option.some.inj g;have hσ:σ[j]?=some (some v):=by
     cases q:σ[j]? with
     | none=>rw [q] at C;cases C
     | some z=>rw [q] at C;exact congrArg some C
    have hz:(y,j)∈ys.zip is:=by
     obtain ⟨a1,e1⟩:=Qac.mp h1';obtain ⟨a2,e2⟩:=Qac.mp hj;rw [<-e1,<-e2,<-Qex (h:=by rw [Qd0];lia)];exact Qb1 _
    obtain ⟨v1,R⟩:=K.vis _ hz;have G:X.env.kindOf y=some .cell\/X.env.kindOf y=some .free:=by show X.env.scope.names.lookup y=_\/X.env.scope.names.lookup y=_;rw [J];exact K.free _ (qV R) rfl
    obtain ⟨m,hm,hl⟩:=I.loc;obtain ⟨u,r,l⟩:=hl j y v (by rw [hN];exact v1) hσ (.inr G);refine ⟨u,r,.inr ?_⟩;rcases l with ⟨l1,_⟩ | ⟨_,c,l2,l3⟩
    ·rcases G with G | G <;> rw [G] at l1 <;> cases l1
    ·obtain ⟨c',L⟩:=X3 (cells:=X.env.cells) (acc:=[]) R
     have e:c'=c:=by have:=K.cl J I.ok y c' L;rw [l2] at this;exact (Option.some.inj this).symm
     subst e;refine ⟨G.imp (Jk (scope:=scope) (by rw [J];exact hk) R) (WG R),c',L,?_⟩;obtain ⟨o,ho,hd⟩:=l3;exact ⟨o,E _ _ ho,hd⟩
 ·obtain ⟨v,o,ho,hd⟩:=I.cell y c (K.cl J I.ok y c h)
  exact ⟨v,o,E _ _ ho,hd⟩
 ·have e:p=(f,O):=by simpa [cxC] using hp
  subst e;refine ⟨M,I.hok.fresh hD,Y,fun z=>?_,hod⟩;obtain ⟨_,o,ho,_⟩:=ok.funs.mem z;exact absurd (Qbf (Qav ho) hD) (Qby _)
 ·show (qw is σ none).length=(x::ys).length
  unfold qw;rw [Qbc,Qad,Qbc,K.len]
theorem uD(I:Inv X pins σ H₂ s₂){N':List Str}{G:St}{H':Hp}{pl:List (Addr × Obj)}(D:Inv (cxC X N' scope a s₂ H₂ fp) pl G H' s)(J:s₂.heap.objs.size<=f)(C:H' f=none)
  (g:∀b∈fp,xY X pins H₂ b)    (L:P.length<=sizeLine) (r:Vals P U) (hd:s.heap.get? f=some { cls:=.type "list",data:=.seq U.toArray n }) :
  Inv X pins σ (upd H' f (.lst P)) s:=by
 have b:Un (frs X.stack) fp H₂ H' s₂.heap s.heap:=D.base;have ne:∀c o,s₂.heap.get? c=some o->c≠f:=fun c o e z=>absurd (Qbf (Qav e) (Qbg J (Qg4 (Eq.symm z)))) (Qby _);have E:H₂ f=none:=I.hok.fresh J;refine I.call' D.os ⟨b.keep,b.slot,fun c o e n hx=>?_,b.there,fun c xs e=>?_,fun c o u e=>?_,fun c ps e=>?_⟩ (fun c u e=>?_) D.bare fun c hc=>⟨(g c hc).2.2.2.1,(g c hc).2.1,(g c hc).2.2.2.2.1,(g c hc).2.2.2.2.2⟩
 ·rw [Zp (ne c o e)];exact b.free c o e n hx
 ·rw [Zp (Zn e E)];exact b.tups c xs e
 ·rw [Zp (Zn e E)];exact b.frzs c o u e
 ·rw [Zp (Zn e E)];exact b.tbls c ps e
 ·by_cases hc:c=f
  ·subst hc
   rw [Zc] at e;cases e;exact ⟨L,U,n,r,hd⟩
  ·rw [Zp hc] at e
   exact (D.hok c u e).stay (fun _ _ _ q=>q) (fun d q=>by rw [Zp (Zn q C)];exact q) fun d xs q=>by rw [Zp (Zn q C)];exact q
end
section
variable {prog:Program}{w:World}{A:Around}{R:Result->Shared->Prop}{s:Shared}
theorem ya{g iter:Expr}{scope:Scope}{it acc:Value}{env:Env}(I:Nat->Shared->Prop)
  (turn:∀n s,I n s->wpAny (model prog w) A (pyNext it) (fun r q=>match r with
   | none=>R (.ok .next) q
   | some v=>wpAny (model prog w) A (letOwnedTupleGo g it v) (fun _ D=>wpAny (model prog w) A (assign g env v) (fun _ s₂ =>
     wpAny (model prog w) A (forIn C true fun c r=>if r=true then do let ok <-isTrue c env (eval c env);pure (ForInStep.yield ok) else pure (ForInStep.yield r)) (fun ok G =>
      if ok=true then wpAny (model prog w) A (eval o env) (fun x N =>
       wpAny (model prog w) A (call (.builtin "list.append") [acc,x]) (fun _ M=>∃m,m < n/\I m M) (fun _ _=>False) N) (fun _ _=>False) G
      else ∃m,m < n/\I m G) (fun _ _=>False) s₂) (fun _ _=>False) D) (fun _ _=>False) q) (fun _ _=>False) s)
  (n:Nat) (h:I n s) :
  codeAny (model prog w) A (.compLoop (.ListComp o [⟨g,iter,C,0⟩] scope p) 0 it acc env) R s:=by
 refine codeAny_loop rfl I (fun n s hI=>?_) n h;show wpAny _ A ((compTurn (.ListComp o [⟨g,iter,C,0⟩] scope p) 0 it acc env).onRaise (fun x=>do noteFrame x env;theTreesLotGoes x)) _ _ s;refine wpAny_noted ?_;rw [compTurn_list];have S:∀{E:Value->Shared->Prop} (e:Value) (s':Shared),False->E e s':=fun _ _ z=>z.elim;refine Qaa (wpAny_standAt (Qaa (Qdm (turn n s hI) (fun r q J=>?_) S)));cases r with
 | none=>exact Qan J
 | some v =>
  refine Qaa (Qdm J (fun _ D O=>?_) S);refine Qaa (Qdm O (fun _ s₂ Y=>Qaa (Qdm Y (fun ok G L=>?_) S)) S);cases ok with
  | false=>exact Qan ⟨rfl,L⟩
  | true =>
   exact Qaa (Qaa (Qdm L (fun x N h₄=>Qaa (Qdm h₄ (fun _ M Z=>Qan (Qan ⟨rfl,Z⟩)) S)) S))
end
def za(is:List Nat)(tc:TT)(te:TE)(σ:St)(Q:VK)(J:It)(H1:Hp):Prop:=∃W:Nat->Nat->List V->Hp->Prop,(∃m,W 0 m [] H1)/\∀i m zs H,W i m zs H ->
 (J.stop i H/\zs.length<=sizeLine/\∀p,H p=none->Q (.ref p) (upd H p (.lst zs))) \/
 (J.go i H/\zs.length<=sizeLine/\∀x H',J.yld i H x H'->tc (qw is σ (some x)) H' fun b H2=>if b=true then te (qw is σ (some x)) H2 fun y q=>∃g,g < m/\W (i + 1) g (zs++[y]) q else ∃g,g < m/\W (i + 1) g zs H2)
def Zi3(wi:TI)(is:List Nat)(tc:TT)(te:TE):TE:=fun σ H Q=>wi σ H (za is tc te σ Q)
section
variable {X:Cx}{S scope:Scope}{N:List Str}{x:Str}{ys:List Str}{is:List Nat}{pins:List (Addr × Obj)}{σ:St}{H₂:Hp}{s₂:Shared}{fp:List Addr}{elt iter:Expr}{px pos:Pos}{ifs:List Expr}{tc:TT}{te:TE}
theorem z8{J:It}{it:Addr}{tn:Nat->Heap->Prop}{Q:VK}{RR:Value->Addr->Result->Shared->Prop}{E:Value->Shared->Prop}(K:Ys S scope N x ys is)(hX:X.env.scope=S)(hN:X.N=N)(hk:S.kind=.function)(hc:X.calm=true)
  (hf:∀C s₂ H₂ ex,QF (cxC X (x::ys) scope C s₂ H₂ ex) ifs tc) (he:∀C s₂ H₂ ex,QE (cxC X (x::ys) scope C s₂ H₂ ex) elt te)
  (I:Inv X pins σ H₂ s₂) (T:Turn X.prog X.w X.K (.Name x px) J fp it tn) (st:tn 0 s₂.heap) (hfp:∀b∈fp,xY X pins H₂ b)
  {W:Nat->Nat->List V->Hp->Prop} {m0:Nat} (w0:W 0 m0 [] H₂)
  (turn:∀i m zs H,W i m zs H->(J.stop i H/\zs.length<=sizeLine/\∀p,H p=none->Q (.ref p) (upd H p (.lst zs))) \/
   (J.go i H/\zs.length<=sizeLine/\∀x H',J.yld i H x H'->tc (qw is σ (some x)) H' fun b H2=>if b=true then te (qw is σ (some x)) H2 fun y H3=>∃O,O < m/\W (i + 1) O (zs++[y]) H3 else ∃O,O < m/\W (i + 1) O zs H2))
  (fin:∀D C s' H' O,Inv X pins σ H' s'->xY X pins H' C->s'.heap.Ns C O->Q (.ref D) H'->RR (.ref D) C (.ok .next) s') :
  wpAny (model X.prog X.w) X.A (newList []) (fun acc M=>wpAny (model X.prog X.w) X.A (newFunctionEnv scope X.env.globals (qu X.env.cells scope.names []) [] X.env.qual none .none (some X.env)) (fun cenv s₄ =>
   codeAny (model X.prog X.w) X.A (.compStart (.ListComp elt [⟨.Name x px,iter,ifs,0⟩] scope pos) 0 (.ref it) acc { cenv with scope:=relabel scope X.env }) (RR acc cenv.locals) s₄) E M) E s₂:=by
 refine Qcg (Qfv K.cell (by intro y hy;simp at hy) (fun R L g=>?_) K.kind);dsimp only at L g ⊢;generalize hH2:s₂.heap.push { cls:=.type "list",dict:=none,data:=.seq ([]:List Value).toArray }=H2 at L g ⊢;have hCs:H2.objs.size=s₂.heap.objs.size + 1:=by rw [<-hH2,Qca]
 have Y:s₂.heap.objs.size≠H2.objs.size:=by rw [hCs];exact Qbt (Qfr _)
 have hC:s₂.heap.objs.size<=H2.objs.size:=by rw [hCs];exact Qeg _
 have hlt:∀b∈fp,b < s₂.heap.objs.size:=fun b hb=>by obtain ⟨o,e,_⟩:=T.obj 0 _ st b hb;exact Qav e
 have old:∀b o,s₂.heap.get? b=some o->R.get? b=some o:=fun b o e=>g.extBut b o (by rw [hCs];exact Qbt (Qep (Qav e))) (Qae _ (hH2 ▸ Qae _ e));have hacc:R.get? s₂.heap.objs.size=some { cls:=.type "list",data:=.seq ([]:List Value).toArray 0 }:=g.extBut _ _ Y (Qae _ (hH2 ▸ Qaz _ rfl));have Z:tn 0 R:=T.keep _ _ _ st fun b _ o e=>old b o e;have fpC:∀{H':Hp} {pl:List (Addr × Obj)},(∀p∈pl,∀b∈fp,p.1≠b)->(∀b∈fp,H' b=none)->∀b∈fp,xY (cxC X (x::ys) scope H2.objs.size s₂ H₂ fp) pl H' b:=fun {H' pl} hpl hn b hb=>by
  have ok:=uC K hX I hC hfp hlt;exact ⟨hn b hb,(ok.exf b hb).1,ok.exfs b hb,.inl hb,(ok.exf b hb).2,fun p hp=>hpl p hp b hb⟩
 have Dfp:∀(o:Obj),∀p∈[(s₂.heap.objs.size,o)],∀b∈fp,p.1≠b:=fun o p hp b hb e=>by
  have e1:p=(s₂.heap.objs.size,o):=by simpa using hp
  subst e1;exact absurd (hlt b hb) (by rw [<-e];exact Qby _)
 have loop:∀M:Shared,M={ s₂ with heap:=R,toks:=s₂.toks + ([]:List (Str × Value)).length } ->
   codeAny (model X.prog X.w) X.A (.compLoop (.ListComp elt [⟨.Name x px,iter,ifs,0⟩] scope pos) 0 (.ref it) (.ref s₂.heap.objs.size) (compEnvC scope (qu X.env.cells scope.names []) H2.objs.size X.env))
    (RR (.ref s₂.heap.objs.size) H2.objs.size) M:=by
  rintro M rfl;have I0:=Zgl K hX hN hk I (tk:=s₂.toks + ([]:List (Str × Value)).length) hC (Qai _) Y hfp hlt old L hacc (fun v z=>by cases z);refine ya (fun n s'=>∃(i:Nat) (v0:Option V) (zs:List V) (G:List Value) (k:Nat) (H':Hp),Inv (cxC X (x::ys) scope H2.objs.size s₂ H₂ fp) [(s₂.heap.objs.size,{ cls:=.type "list",data:=.seq G.toArray k })] (qw is σ v0) H' s' /\
   Vals zs G/\tn i s'.heap/\(∀b∈fp,H' b=none)/\W i n zs H') ?_ m0 ⟨0,none,[],[],0,H₂,I0,.nil,Z,fun b hb=>(hfp b hb).1,w0⟩
  rintro n s3 ⟨i,v0,zs,G,k,H3,I3,rv,st3,fr3,w3⟩;have hD3:=I3.pin _ (Qa0 _ (Qay.mpr rfl));rcases turn i n zs H3 w3 with ⟨stop,hz,q⟩ | ⟨go,hz,step⟩
  ·refine thn (T.done (cxC X (x::ys) scope H2.objs.size s₂ H₂ fp) rfl rfl rfl hc i _ s3 _ H3 _ I3 (fpC (Dfp _) fr3) st3 stop) fun r s4 ⟨hr,I4⟩=>?_
   subst hr;have hD4:=I4.pin _ (Qa0 _ (Qay.mpr rfl));have I5:=uD I I4 (Qai _) hD4.2.1 hfp hz rv hD4.1;obtain ⟨O,hm',_⟩:=I4.loc;refine fin _ _ s4 _ O I5 ?_ hm' (q _ hD4.2.1);refine I.fpOk hC ?_;rw [Zp (Qdk Y)];exact I4.free
  ·refine thn (T.item (cxC X (x::ys) scope H2.objs.size s₂ H₂ fp) rfl rfl rfl hc i _ s3 _ H3 _ I3 (fpC (Dfp _) fr3) st3 go) fun r s4 ⟨u,hr,h4⟩=>?_
   subst hr;refine thn h4 fun _ s5 ⟨xv,H5,I5,r5,y5,st5,fr5⟩=>?_;have I5':=I5.pinned (fpC (Dfp _) fr5) (T.obj _ _ st5);have pg:PG (cxC X (x::ys) scope H2.objs.size s₂ H₂ fp) (.Name x px) (JS 0):=jd K.nd rfl (.inl (Qdi K.own)) (.inr (Qdi K.own));refine thn (pg _ s5 _ H5 xv u (fun σ2 H2=>σ2=qw is σ (some xv)/\H2=H5) I5' r5 ⟨rfl,rfl⟩) fun _ s6 ⟨σ6,H6,I6,e6,e6'⟩=>?_;subst e6;subst e6';have back:∀{s7:Shared} {H7:Hp},Inv (cxC X (x::ys) scope H2.objs.size s₂ H₂ fp) ([(s₂.heap.objs.size,{ cls:=.type "list",data:=.seq G.toArray k })]++zw fp s5.heap) (qw is σ (some xv)) H7 s7 ->
     tn (i + 1) s7.heap/\(∀b∈fp,H7 b=none)/\s7.heap.get? s₂.heap.objs.size=some { cls:=.type "list",data:=.seq G.toArray k }/\H7 s₂.heap.objs.size=none:=fun {s7 H7} I7=>by
    refine ⟨T.keep _ _ _ st5 fun b hb o e=>(I7.pin (b,o) (Qa0 _ (Qa0 _ (X8 hb e)))).1,fun b hb=>?_,?_,?_⟩
    ·obtain ⟨o,e,d⟩:=T.obj _ _ st5 b hb
     exact (I7.pin (b,o) (Qa0 _ (Qa0 _ (X8 hb e)))).2.1
    ·exact (I7.pin (s₂.heap.objs.size,{ cls:=.type "list",data:=.seq G.toArray k }) (Qa0 _ (Qc6 _ (Qay.mpr rfl)))).1
    ·exact (I7.pin (s₂.heap.objs.size,{ cls:=.type "list",data:=.seq G.toArray k }) (Qa0 _ (Qc6 _ (Qay.mpr rfl)))).2.1
   refine thn ((hf _ _ _ _).out _ s6 _ H6 _ I6 (step xv H6 y5)) fun b s7 ⟨H7,I7,q7⟩=>?_;cases b with
   | false =>
    have q7':∃O,O < n/\W (i + 1) O zs H7:=by simpa using q7
    obtain ⟨O,hm',w7⟩:=q7';obtain ⟨b1,b2,b3,b4⟩:=back I7;rw [Qax Qa3];exact ⟨O,hm',i + 1,some xv,zs,G,k,H7,I7.unpinned,rv,b1,b2,w7⟩
   | true =>
    rw [Qa4 rfl];have q7':=q7;rw [Qa4 rfl] at q7';refine thn ((he _ _ _ _).out _ s7 _ H7 _ I7 q7') fun yv s8 ⟨y,H8,I8,r8,O,hm',w8⟩=>?_;obtain ⟨b1,b2,b3,b4⟩:=back I8;refine append_at b3 (fun h9 sb9 e9=>?_) (by rw [Qa8,<-rv.length];exact hz);have ok:=uC K hX I hC hfp hlt;have I8':Inv (cxC X (x::ys) scope H2.objs.size s₂ H₂ fp) [] (qw is σ (some xv)) H8 s8:=I8.pins_of fun p hp=>by cases hp
    have I9:Inv (cxC X (x::ys) scope H2.objs.size s₂ H₂ fp) [] (qw is σ (some xv)) H8 { s8 with heap:=h9 }:=I8'.turned (t':=s8.toks) (it:=s₂.heap.objs.size) (fun b o hb e=>(sb9.2 b hb).trans e) b4 Y (.inr (Qai _))
     (fun y c h z=>by
      obtain ⟨v,o,ho,_⟩:=I.cell y c (K.cl hX I.ok y c h);have:=Qav ho;rw [z] at this;exact Qby _ this) (fun p hp=>by cases hp)
    refine ⟨O,hm',i + 1,some xv,zs++[y],G++[yv],k + 1,H8,?_,rv.append (.cons r8 .nil),T.keep _ _ _ b1 fun b hb o e=>(sb9.2 b fun z=>absurd (hlt b hb) (by rw [z];exact Qby _)).trans e,b2,w8⟩;refine I9.pins_of fun p hp=>?_;have e1:p=(s₂.heap.objs.size,{ cls:=.type "list",data:=.seq (G++[yv]).toArray (k + 1) }):=by simpa using hp
    subst e1;refine ⟨by rw [e9,List.push_toArray],b4,Y,fun z=>?_,fun v z=>by cases z⟩;obtain ⟨_,o,ho,_⟩:=ok.funs.mem z;exact absurd (Qav ho) (Qby _)
 exact codeAny_compStart_list (loop _ rfl) (T.self _ 0 _ _ _ Z (loop _ rfl))
end
section
variable {X:Cx}{S scope:Scope}{N:List Str}{x:Str}{ys:List Str}{is:List Nat}{elt iter:Expr}{px pos:Pos}{ifs:List Expr}{wi:TI}{tc:TT}{te:TE}
theorem XE(K:Ys S scope N x ys is)(hi:QI X (.Name x px) iter wi)(hf:∀C s₂ H₂ ex,QF (cxC X (x::ys) scope C s₂ H₂ ex) ifs tc)(he:∀C s₂ H₂ ex,QE (cxC X (x::ys) scope C s₂ H₂ ex) elt te)
  (hc:X.calm=true:=by rfl) (M:X.env.scope=S:=by rfl) (hN:X.N=N:=by rfl) (hk:S.kind=.function:=by rfl) (hs:∀v,foldedSetIterable iter X.env v=pure v:=by intro _;rfl) :
  QE X (.ListComp elt [⟨.Name x px,iter,ifs,0⟩] scope pos) (Zi3 wi is tc te):=by
 refine ⟨fun pins s σ H Q I h=>?_⟩;rw [eval_ListComp];refine Qe2 (use:=none) rfl hs (Wt (K.cellOf' M I.ok)) K.kind K.names (thn (hi.out pins s σ H _ I h) fun v s1 h1=>thn h1 fun itv s2 h2=>?_);obtain ⟨it,fp,tn,J,H2,rfl,I2,T,G,O,W,⟨m0,w0⟩,g⟩:=h2;refine z8 (RR:=fun acc C=>compPost (model X.prog X.w) X.A X.xe none (EP X pins σ Q) acc C) K M hN hk hc hf he I2 T G O w0 g ?_;intro D C s' H' m' Y fC E q;obtain ⟨f0,R,f3,f4,Z,f6⟩:=fC;exact ⟨m',E,fun h' L=>⟨.ref D,H',Y.turned (t':=s'.toks) (fun b o hb e=>(L.2 b hb).trans e) f0 R f4 Z f6,rfl,q⟩⟩
theorem jk{y:Str}{spos:Pos}(Y:X.N.Nodup)(hy:X.N[i]?=some y)(hl:X.env.scope.names.lookup y=some .local)(K:Ys S scope N x ys is)(hi:QI X (.Name x px) iter wi)
  (hf:∀C s₂ H₂ ex,QF (cxC X (x::ys) scope C s₂ H₂ ex) ifs tc) (he:∀C s₂ H₂ ex,QE (cxC X (x::ys) scope C s₂ H₂ ex) elt te)
  (O:swapsWith (.ListComp elt [⟨.Name x px,iter,ifs,0⟩] scope pos) (some (.Name y E)) spos.line X.env=pure true:=by rfl)
  (hc:X.calm=true:=by rfl) (hX:X.env.scope=S:=by rfl) (hN:X.N=N:=by rfl) (hk:S.kind=.function:=by rfl) (hs:∀v,foldedSetIterable iter X.env v=pure v:=by intro _;rfl) :
  QS X (.Assign [.Name y E] (.ListComp elt [⟨.Name x px,iter,ifs,0⟩] scope pos) spos) (Zek (Zi3 wi is tc te) (JS i)):=by
 refine ⟨fun pins s σ H D I h=>?_⟩;rw [exec_Assign_Name_used _ _ _ _ O];refine Qaa (wpAny_standAt (Qaa ?_));show wpAny _ X.A (do let _ <-comprehension (.ListComp elt [⟨.Name x px,iter,ifs,0⟩] scope pos) scope X.env _ (newList []) false (eval iter X.env) (some (assign (.Name y E) X.env))) _ _ s;refine Qaa (thn (Qe2 (use:=some (assign (.Name y E) X.env)) (Q:=fun _ s'=>SP X pins D .next s') rfl hs (Wt (K.cellOf' hX I.ok)) K.kind K.names
  (thn (hi.out pins s σ H _ I h) fun v s1 h1=>thn h1 fun itv s2 h2=>?_)) fun _ s' hq=>Qan (Qan hq))
 obtain ⟨it,fp,tn,J,H2,rfl,I2,T,st2,f2,W,⟨m0,w0⟩,g⟩:=h2;refine z8 (RR:=fun acc C=>compPost (model X.prog X.w) X.A X.xe (some (assign (.Name y E) X.env)) (fun _ s'=>SP X pins D .next s') acc C) (Q:=fun v H=>D.nx (σ.set i (some v)) H) K hX hN hk hc hf he I2 T st2 f2 w0 g ?_;intro Dl C s' H' m' I' fC Z q;obtain ⟨f0,f1,f3,f4,f5,f6⟩:=fC;show wpAny _ X.A (assign (.Name y E) X.env (.ref Dl)) _ _ _;obtain ⟨M,es,ep,hoC,L,hrC⟩:=Z;have Ip:Inv X (pins++[(C,M)]) σ H' s':=I'.pins_of fun p hp=>(Qbk.mp hp).elim (fun z=>I'.pin p (Qa0 _ z)) fun z=>by
  have e:p=(C,M):=by simpa using z
  subst e;exact ⟨hoC,f0,f1,f3,fun v z=>by rw [L] at z;cases z⟩
 refine wpAny_assign_Name (WD Ip Y hy (.inl hl) (v:=.ref Dl) rfl (fun s'' G=>?_) (.inr hl));have R:=(G.pin (C,M) (Qa0 _ (Qa0 _ (Qay.mpr rfl)))).1;refine ⟨m',⟨M,es,ep,R,L,hrC⟩,fun h' hs'=>⟨_,H',G.unpinned.turned (t':=s''.toks) (fun b o hb e=>(hs'.2 b hb).trans e) f0 f1 f4 f5 f6,q⟩⟩
end
theorem z9{lo:Int}{is:List Nat}{Q:VK}(g:Nat->List V->Hp->Prop)(E:g 0 [] H)(hl:∀i zs H,g i zs H->zs.length<=sizeLine)
  (hs:∀i zs H (R:List V->Hp->Prop),(∀zs H,g (i + 1) zs H->R zs H)->i < n->g i zs H->J (qw is c (some (.int (lo + i)))) H fun b H2=>if b=true then A (qw is c (some (.int (lo + i)))) H2 fun y G=>R (zs++[y]) G else R zs H2)
  (hd:∀zs H,g n zs H->∀p,H p=none->Q (.ref p) (upd H p (.lst zs))) :
  za is J A c Q (Itr lo n) H:=by
 refine ⟨fun i m zs H=>m=n - i/\i<=n/\g i zs H,⟨n,by simp,Qbp _,E⟩,?_⟩;rintro i m zs H ⟨rfl,hi,p⟩
 by_cases C:i < n
 ·refine .inr ⟨C,hl i zs H p,fun x H' y=>?_⟩
  obtain ⟨e,y⟩:=y;subst e y;exact hs i zs _ (fun zs H=>∃D,D < n - i/\D=n - (i + 1)/\i + 1<=n/\g (i + 1) zs H) (fun zs H q=>⟨n - (i + 1),by lia,rfl,C,q⟩) C p
 ·have e:i=n:=by lia
  subst e;exact .inl ⟨Qai _,hl _ _ _ p,hd zs H p⟩
theorem J2{xs:List V}{is:List Nat}{Q:VK}(g:Nat->List V->Hp->Prop)(G:g 0 [] H)(hl:∀i zs H,g i zs H->zs.length<=sizeLine)(D:∀i zs H,g i zs H->SqT K H a xs)
  (hs:∀i x zs H (R:List V->Hp->Prop),(∀zs H,g (i + 1) zs H->R zs H)->xs[i]?=some x->g i zs H->J (qw is c (some x)) H fun b H2=>if b=true then A (qw is c (some x)) H2 fun y I=>R (zs++[y]) I else R zs H2)
  (hd:∀zs H,g xs.length zs H->∀p,H p=none->Q (.ref p) (upd H p (.lst zs))) :
  za is J A c Q (Itt K a) H:=by
 refine ⟨fun i m zs H=>m=xs.length - i/\i<=xs.length/\g i zs H,⟨xs.length,by simp,Qbp _,G⟩,?_⟩;rintro i m zs H ⟨rfl,hi,p⟩
 by_cases C:i < xs.length
 ·refine .inr ⟨⟨xs,xs[i],D i zs H p,Qab C⟩,hl i zs H p,fun x H' y=>?_⟩
  obtain ⟨e,y⟩:=y;subst e;exact hs i x zs _ (fun zs H=>∃E,E < xs.length - i/\E=xs.length - (i + 1)/\i + 1<=xs.length/\g (i + 1) zs H) (fun zs H q=>⟨xs.length - (i + 1),by lia,rfl,C,q⟩) (y xs (D i zs _ p)) p
 ·have e:i=xs.length:=by lia
  exact .inl ⟨⟨xs,D i zs H p,by lia⟩,hl _ _ _ p,by rw [e] at p;exact hd zs H p⟩
end L2
namespace HT
open PySem PySem.Spec PyProof.Rows
section
variable {prog:Program}{w:World}{A:Around}{E:Value->Shared->Prop}{s:Shared}
end
end HT
namespace L2
open PySem PySem.Spec PyProof.Rows
section
variable {X:Cx}{e st:Expr}{te ts:TE}{pos p2:Pos}
end
end L2
namespace RvT
open PySem PySem.Spec PyProof.Rows
theorem yb:Manifest.owners.lookup (String.ofList ['d','e','s','r','e','v','e','r'].reverse)=some Manifest.sig_reversed:=by kernel_rfl
theorem slot_next:Slot "reversed" "__next__" "reversed.__next__" :=
 .of (owner := "reversed") (n := "__next__") (by rw [Qga,Qeh];kernel_rfl) (by decide +kernel) (by decide +kernel) (by decide +kernel)
  (by first | exact .inl (by decide +kernel) | exact .inr (by decide +kernel)) (by rw [Qeu];kernel_rfl)
theorem entry_next:entryFor table "reversed.__next__" = some Builtin.«reversed.__next__»:=entryFor_of_tree (by kernel_rfl)
theorem args_next (a:Value):argsOk "reversed.__next__" ⟨[a],[]⟩:=by
 unfold argsOk;rw [signature?_of (id := "reversed.__next__") (n:=['_','_','t','x','e','n','_','_']) (o:=['d','e','s','r','e','v','e','r']) (by kernel_rfl) yb];kernel_rfl
theorem yc:Slot "reversed" "__iter__" "reversed.__iter__" :=
 .of (owner := "reversed") (n := "__iter__") (by rw [Qga,Qeh];kernel_rfl) (by decide +kernel) (by decide +kernel) (by decide +kernel)
  (by first | exact .inl (by decide +kernel) | exact .inr (by decide +kernel)) (by rw [Qeu];kernel_rfl)
theorem uE (a:Value):argsOk "reversed.__iter__" ⟨[a],[]⟩:=by
 unfold argsOk;rw [signature?_of (id := "reversed.__iter__") (n:=['_','_','r','e','t','i','_','_']) (o:=['d','e','s','r','e','v','e','r']) (by kernel_rfl) yb];kernel_rfl
theorem wL:entryFor table "reversed.__iter__" = some Builtin.«dict_keyiterator.__iter__» :=
 entryFor_alias (id' := "dict_keyiterator.__iter__") (by kernel_rfl) (by first | rfl | decide +kernel | (unfold String.splitOn;simp +decide [String.splitOnAux])) (by decide +kernel) (by kernel_rfl)
theorem uF:Slot "reversed" "__init__" "object.__init__" :=
 .of (owner := "object") (n := "__init__") (by rw [Qga,Qeh];kernel_rfl) (by decide +kernel) (by decide +kernel) (by decide +kernel)
  (by first | exact .inl (by decide +kernel) | exact .inr (by decide +kernel)) (by rw [Qeu];kernel_rfl)
theorem called:TypeCalled "reversed" "reversed.__new__" "object.__init__" :=
 ⟨by decide +kernel,F.create_reversed,⟨_,_,F.mro_reversed⟩,F.made_reversed,F.plain_reversed_new,F.sub_reversed_self,uF⟩
theorem yS:typeLookup (.type "tuple") "__reversed__" = pure none:=by rw [Qga,Qeh];kernel_rfl
theorem sub_tuple_dict:isSubtype (.type "tuple") (.type "dict")=pure false:=by rw [Qeu];kernel_rfl
def revObj (t:Addr) (i:Int):Obj:={ cls:=.type "reversed",data:=.fields #[.ref t,rawInt i] }
def IsRev (h:Heap) (a t:Addr) (i:Int):Prop:=∃o,h.get? a=some o/\o.cls=.type "reversed" /\ o.data=.fields #[.ref t,rawInt i]
theorem IsRev.typeIs  {t:Addr} {i:Int} (x:IsRev s.heap a t i):s.TypeIs (.ref a) "reversed" := let ⟨o,ho,hc,_⟩:=x;⟨o,ho,hc⟩
theorem IsRev.at{h':Heap}{t:Addr}{i:Int}(x:IsRev h a t i)(e:∀o,h.get? a=some o->h'.get? a=some o):IsRev h' a t i:=let ⟨o,ho,r⟩:=x;⟨o,e _ ho,r⟩
section
variable {prog:Program}{w:World}{A:Around}{E:Value->Shared->Prop}{s:Shared}
theorem XF(t:Addr)(items:Array Value)(q:items.size < 2 ^ 63) :
  Meets (Builtin.«reversed.__new__» ⟨[.type "reversed",.ref t],[]⟩) (fun _ R s=>IsTup s.heap t items/\∀tk,R (.ok (.ret (.ref s.heap.objs.size))) { s with heap:=s.heap.push (revObj t ((items.size:Int) - 1)),toks:=tk }) :=
 .of_wp fun prog w A R s h=>by
  obtain ⟨g,h⟩:=h;unfold Builtin.«reversed.__new__»;refine Qaa (Qcl (newClass_reversed _) ?_)
  try dsimp only
  refine Qaa (Qcl (a:=()) (by first | rfl | kernel_rfl) ?_);refine Qaa (Qcl (a:=()) (by first | rfl | kernel_rfl) ?_)
  try dsimp only
  refine Qaa (Qei g.typeIs yS ?_)
  try dsimp only
  refine Qaa ?_;show wpAny _ _ (isInstance (Value.ref t) (.type "dict") >>= _) _ _ _;refine Qaa (Qdq (T := "tuple") (b:=false) g.typeIs sub_tuple_dict ?_);simp only [Qcs,Qe7];refine Qaa (Qei g.typeIs Qfi.lookup ?_)
  try dsimp only
  rw [Qa4 (by decide +kernel)];refine Qan ?_;simp only [Bool.not_true,Qcs,Qe7];refine Qaa (len_tuple g (by lia) ?_);refine Qaa (Qcl (a:=some (items.size:Int)) rfl ?_)
  try dsimp only
  refine Qaa (m:=newObj (.type "reversed") (.fields #[.ref t,rawInt ((items.size:Int) - 1)])) (Qcg ?_);exact Qan ⟨_,rfl,h _⟩
theorem call_rev{t:Addr}{items:Array Value}(q:IsTup s.heap t items)(C:items.size < 2 ^ 63)(h:∀tk,Q (.ref s.heap.objs.size) { s with heap:=s.heap.push (revObj t ((items.size:Int) - 1)),toks:=tk }) :
  wpAny (model prog w) A (call (.type "reversed") [.ref t]) Q E s :=
 Qg5 called (by decide) (F.typeCall_reversed_1 _) (F.newCall_reversed_1 _) (fun g=>Qfw g _) F.entry_reversed_new (XF t items C)
  ⟨q,fun tk=>⟨⟨_,Qaz _ rfl,rfl⟩,h tk⟩⟩
theorem next_item{it t:Addr}{items:Array Value}{x:Value}{Q:Option Value->Shared->Prop}(g:IsRev s.heap it t (i:Int))(q:IsTup s.heap t items)(hi:(i:Int) < 2 ^ 63)(hx:items[i]?=some x)(D:t≠it)
  (C:∀h' tk,IsRev h' it t ((i:Int) - 1)->Heap.SameBut it s.heap h'->Q (some x) { s with heap:=h',toks:=tk }):wpAny (model prog w) A (pyNext (.ref it)) Q E s:=by
 obtain ⟨o,ho,hc,hd⟩:=id g;unfold pyNext;refine Qaa (Qdt (wpAny_callSpecial?_slot (name:=Str.ofString "__next__") g.typeIs slot_next
  (Qb4 slot_next g.typeIs entry_next ?_ (args_next _))))
 unfold Builtin.«reversed.__next__»;refine Qaa (Qcl (a:=(Value.ref it,[])) rfl ?_)
 try dsimp only
 refine Qaa (Qbs ho hd (x:=.ref t) rfl ?_);refine Qaa (Qbs ho hd (x:=rawInt (i:Int)) rfl ?_);show wpAny _ _ (if (i:Int) < 0 then _ else _) _ _ s;rw [Qax (by lia)];refine Qaa (Qei q.typeIs Qfi.lookup ?_);simp only [Option.isNone_some,Qcs,Qe7];refine Qaa (Qfj ?_);have hsz:=(Array.getElem?_eq_some_iff.mp hx).1;refine Qaa (Qdt (getItem_tuple (s:={ s with toks:=s.toks + 1 }) (j:=i) q (by lia) hi (by rw [seqIndex_of (by lia) (by lia),Qa9]) hx ?_));show wpAny _ _ (field (.ref it) 1 >>= _) _ _ _;refine Qaa (Qbs (s:={ s with toks:=s.toks + 1 }) ho hd (x:=rawInt (i:Int)) rfl ?_);show wpAny _ _ (setField (.ref it) 1 (rawInt ((i:Int) - 1)) >>= _) _ _ _;refine Qaa (Qeb (s:={ s with toks:=s.toks + 1 }) ho hd (by simp) ?_);refine Qan ⟨x,rfl,Qan (C _ _ ?_ (Qda ..))⟩;exact ⟨_,Qcx _ ho (Qej (Qc4 hd _)),(Qgs ..).trans hc,by
  rw [Qc4 hd];simp⟩
theorem next_end{it t:Addr}{Q:Option Value->Shared->Prop}(hh:A.handled=none)(g:IsRev s.heap it t (-1))
  (C:∀h',(∀b o,b≠it->s.heap.get? b=some o->h'.get? b=some o)->Q none { s with heap:=h' }):wpAny (model prog w) A (pyNext (.ref it)) Q E s:=by
 obtain ⟨o,ho,hc,hd⟩:=id g;unfold pyNext;refine Qaa (Qdt (wpAny_callSpecial?_slot (name:=Str.ofString "__next__") g.typeIs slot_next
  (Qb4 slot_next g.typeIs entry_next ?_ (args_next _))))
 unfold Builtin.«reversed.__next__»;refine Qaa (Qcl (a:=(Value.ref it,[])) rfl ?_)
 try dsimp only
 refine Qaa (Qbs ho hd (x:=.ref t) rfl ?_);refine Qaa (Qbs ho hd (x:=rawInt (-1)) rfl ?_);show wpAny _ _ (if (-1:Int) < 0 then _ else _) _ _ s;rw [Qa4 (by decide)];refine Qaa (Qdx ?_);refine Qaa ?_;show wpAny _ _ (setField (.ref it) 1 (rawInt (-1)) >>= _) _ _ _;refine Qaa (Qeb ho hd (by simp) ?_);have q:=Qcx (Obj.mapFields (·.setIfInBounds 1 (rawInt (-1)))) ho (Qej (Qc4 hd _));refine Qeb q (Qc4 hd _) (by simp) ?_
 first
 | show wpAny _ _ (newExc (.type "StopIteration") [] >>= _) _ _ _
 | (refine Qaa ?_;show wpAny _ _ (newExc (.type "StopIteration") [] >>= _) _ _ _)
 refine Qaa ?_;simp only [newExc,newTuple];refine Qaa (Qcg ?_ (by size_fits));refine Qaa (m:=firstArgMember _ _) (Qcl (a:=Value.none) (by first | rfl | (simp only [firstArgMember];rfl)) ?_);refine Qcg ?_ (by size_fits);simp only [raiseNew];refine Qaa (wpAny_handled ?_)
 first | rw [show A.in1.handled=none from hh] | rw [hh]
 refine Qaa (Qan (wpAny_throw ?_));refine Qaa (Qdq (T := "StopIteration") (b:=true) ⟨_,Qaz _ rfl,rfl⟩ Qgp ?_);refine Qan (C _ fun b ob hb e=>?_);exact Qae _ (Qae _ ((Qch _ _ (Qdk hb)).trans ((Qch _ _ (Qdk hb)).trans e)))
theorem iter_self{it t:Addr}{i:Int}(g:IsRev s.heap it t i)(h:Q (.ref it) s):wpAny (model prog w) A (pyIter (.ref it)) Q E s:=by
 refine wpAny_pyIter_slot g.typeIs yc (Qb4 yc g.typeIs wL ?_ (uE _));show wpAny _ _ (ret (.ref it)) _ _ s;exact Qan ⟨_,rfl,"reversed",_,g.typeIs,slot_next.lookup,h⟩
end
end RvT
namespace L2
open PySem PySem.Spec PyProof.Rows
def Itv(K:PySem.W.Frag)(a:Addr)(n:Nat):It :=
 ⟨fun i H=>∃xs x,SqT K H a xs/\xs.length=n/\xs.reverse[i]?=some x,fun i H x H'=>H'=H/\∀xs,SqT K H a xs->xs.reverse[i]?=some x,fun i _=>i=n⟩
theorem Zc1{P:Program}{tg:Expr}(a it:Addr)(n:Nat)(G:a≠it):Turn P w K tg (Itv K a n) [it] it (fun i h=>RvT.IsRev h it a ((n:Int) - 1 - (i:Int))) where
 mem:=by simp
 obj:=fun i h st b hb=>by
  have e:b=it:=by simpa using hb
  subst e;obtain ⟨o,e,c,d⟩:=st;exact ⟨o,e,fun v z=>by rw [d] at z;cases z⟩
 keep:=fun i h h' st k=>st.at fun o e=>k it (by simp) o e
 item:=by
  intro X R hw N hc i pins s σ H E I hf st hg;subst R hw N;obtain ⟨xs,x,S,hn,hx⟩:=hg;obtain ⟨O,Z,p,hz⟩:=I.tuple S;have hi:i < xs.length:=by
   have:=(Qac.mp hx).1;rw [Qd6] at this;exact this
  have M:xs[xs.length - 1 - i]?=some x:=by rw [<-List.getElem?_reverse hi];exact hx
  obtain ⟨u,hu,ru⟩:=Z.get M;obtain ⟨f0,q,Y,L,J,C⟩:=hf it (by simp);have D:(n:Int) - 1 - (i:Int)=((xs.length - 1 - i:Nat):Int):=by lia
  have hl:=xp;rw [D] at st;refine RvT.next_item (items:=O.toArray) (x:=u) st p (by lia) (by simpa using hu) G fun h' tk g sb=>?_;have I1:Inv X pins σ H { s with heap:=h',toks:=tk }:=I.turned (fun b o hb e=>(sb.2 b hb).trans e) f0 q L J C;have e1:((xs.length - 1 - i:Nat):Int) - 1=(n:Int) - 1 - ((i + 1:Nat):Int):=by lia
  rw [e1] at g;obtain ⟨o,e,c,d⟩:=id g;exact ⟨u,rfl,Zcs (s:={ s with heap:=h',toks:=tk }) e c d (by decide) ⟨x,H,I1,ru,⟨rfl,fun ys hy=>by rw [I.tuple_inj hy S];exact hx⟩,g,fun b hb=>(hf b hb).1⟩⟩
 done:=by
  intro X R hw N hc i pins s σ H E I hf st hg;subst R hw N;obtain ⟨f0,q,Y,L,J,C⟩:=hf it (by simp);have hg':i=n:=hg;have D:(n:Int) - 1 - (i:Int)=-1:=by lia
  rw [D] at st;exact RvT.next_end (I.ok.hd hc) st fun h' eb=>⟨rfl,I.turned (t':=s.toks) (fun b o hb e=>eb b o hb e) f0 q L J C⟩
 self:=fun _ _ _ _ _ st h=>RvT.iter_self st h
inductive Ze4(K:PySem.W.Frag)(R:It->Hp->Prop)(x:V)(H1:Hp):Prop
 | mk (a xs:_):(x=.ref a)->(SqT K H1 a xs)->(R (Itv K a xs.length) H1)->Ze4 K R x H1
def iRev(K:PySem.W.Frag)(te:TE):TI:=fun σ H R=>te σ H fun x H1=>Ze4 K R x H1
theorem uH {X:Cx} {tg:Expr}   (hg:Gl X "reversed") (hm:X.mg "reversed" = none) (he:QE X e A) (hp:Y2 e=true:=by rfl):QI X tg (.Call (.Name "reversed" p) [e] [] E) (iRev X.K A):=by
 refine ⟨fun pins s σ H R I h=>?_⟩;have hs:starEach [e] X.env=[(false,eval e X.env)]:=by rw [Zz hp];rfl
 refine Call_ (Gn I hg hm yQ (Qck ?_ hs rfl));rw [hs];show wpAny _ _ (spliced ((false,eval e X.env)::[])) _ _ s;refine Qci (thn (he.out pins s σ H _ I h) fun u g ⟨x,H1,G,N,L⟩=>?_);refine Qdn ?_;obtain ⟨a,xs,rfl,S,q⟩:=L;cases N;obtain ⟨C,J,pt,Y⟩:=G.tuple S;have hl:=xp;have D:=J.length;refine RvT.call_rev pt (by rw [Qa8];lia) fun tk=>?_;have M:Inv X pins σ H1 { g with heap:=g.heap.push (RvT.revObj a ((C.toArray.size:Int) - 1)),toks:=tk }:=G.kept fun b o e=>Qae _ e;have O:(xs.length:Int) - 1 - ((0:Nat):Int)=(C.toArray.size:Int) - 1:=by rw [Qa8,<-D];lia
 have st:RvT.IsRev (g.heap.push (RvT.revObj a ((C.toArray.size:Int) - 1))) g.heap.objs.size a ((xs.length:Int) - 1 - ((0:Nat):Int)):=by
  rw [O];exact ⟨_,Qaz _ rfl,rfl,rfl⟩
 refine RvT.iter_self st ⟨g.heap.objs.size,[g.heap.objs.size],_,_,H1,rfl,M,Zc1 a _ xs.length (Qbt pt.lt),st,fun b hb=>?_,q⟩;have e:b=g.heap.objs.size:=by simpa using hb
 subst e;exact G.fpOk (Qai _) (G.hok.fresh (Qai _)) |> fun f=>f
theorem uI{xs:List V}{g:TG}(q:Nat->St->Hp->Prop)(L:q 0 c H)(hl:∀i c H,i<=xs.length->q i c H->SqT K H a xs)
  (hs:∀i x c H,xs.reverse[i]?=some x->q i c H->g x c H fun D H2=>Z { M with nx:=q (i + 1),ct:=q (i + 1),bk:=M.nx } D H2) (hd:∀c H,q xs.length c H->M.nx c H) :
  ∃W:Nat->Nat->St->Hp->Prop,(∃m,W 0 m c H)/\∀i m c H,W i m c H ->
   ((Itv K a xs.length).stop i H/\M.nx c H)\/((Itv K a xs.length).go i H/\∃N:St->Hp->Prop,(∀C H',N C H'->∃I,I < m/\W (i + 1) I C H')/\∀x H',(Itv K a xs.length).yld i H x H'->g x c H' fun D H2=>Z { M with nx:=N,ct:=N,bk:=M.nx } D H2):=by
 refine ⟨fun i m c H=>m=xs.length - i/\i<=xs.length/\q i c H,⟨xs.length,by simp,Qbp _,L⟩,?_⟩;rintro i m c H ⟨rfl,hi,p⟩
 by_cases E:i < xs.length
 ·have G:i < xs.reverse.length:=by rw [Qd6];exact E
  refine .inr ⟨⟨xs,xs.reverse[i],hl i c H hi p,rfl,Qab G⟩,q (i + 1),fun C H' J=>⟨xs.length - (i + 1),by lia,rfl,E,J⟩,fun x H' y=>?_⟩;obtain ⟨e,y⟩:=y;subst e;exact hs i x c _ (y xs (hl i c _ hi p)) p
 ·have e:i=xs.length:=by lia
  exact .inl ⟨e,by rw [e] at p;exact hd c H p⟩
end L2
namespace HT
open PySem PySem.Spec PyProof.Rows
section
variable {prog:Program}{w:World}{A:Around}{E:Value->Shared->Prop}{s:Shared}
end
end HT
namespace L2
open PySem PySem.Spec PyProof.Rows
section
variable {X:Cx}
theorem Ze5:SlR X (fun x lo hi H Q=>∃z,x=.str z/\z.length<=sizeLine/\Q (.str (Txt.slice z lo hi)) H):=by
 intro pins s σ H x v L vu lo hi J Q I G hs pl D h;obtain ⟨z,rfl,g,q⟩:=h;obtain ⟨t,rfl⟩:=G;refine ⟨"str",_,F.slot_str_getitem.lookup,typeIs_str _ _ _,?_⟩;have fin:∀t' k,EP X pins σ Q (.str (Txt.slice z lo hi) t') { s with toks:=k }:=fun t' k=>⟨.str _,H,I.tok _,⟨_,rfl⟩,q⟩;cases pl with
 | none =>
  cases D with
  | none=>exact Qd7 (l:=none) (u:=none) (st:=none) hs rfl (Qgb ⟨Qbg (Qfp z _ _) g,fin⟩)
  | int j C=>exact Qd7 (l:=none) (u:=some (j,C)) (st:=none) hs rfl (Qgb ⟨Qbg (Qfp z _ _) g,fin⟩)
 | int i E =>
  cases D with
  | none=>exact Qd7 (l:=some (i,E)) (u:=none) (st:=none) hs rfl (Qgb ⟨Qbg (Qfp z _ _) g,fin⟩)
  | int j C=>exact Qd7 (l:=some (i,E)) (u:=some (j,C)) (st:=none) hs rfl (Qgb ⟨Qbg (Qfp z _ _) g,fin⟩)
theorem zA{ys:List Str}:∀{g:List Value},Vals (ys.map V.str) g->StrsAre g ys:=by
 induction ys with
 | nil=>intro g r;rw [Qe1] at r;cases r;exact .nil
 | cons n E q =>
  intro g r;rw [Qa7] at r;cases r with
  | cons C D =>
   obtain ⟨t,e⟩:=C;subst e;exact .cons n t (q D)
theorem Zgm:MtR X "str.join" (fun x vs H Q=>∃(z:Str) (p:Addr) (ys:List Str),x=.str z/\vs=[.ref p]/\SqL X.K H p (ys.map V.str)/\(ys.map (·.length)).sum + ys.length * z.length<=16777216/\Q (.str (Txt.join z ys)) H):=by
 intro pins s σ H x vs v N Q I C D h;obtain ⟨z,p,ys,rfl,rfl,E,g,q⟩:=h;obtain ⟨t,rfl⟩:=C;obtain ⟨u,rfl,G⟩:=vals1 D;cases G;obtain ⟨L,J,pl,M⟩:=I.list E;exact join_list pl.isList (zA J) g fun t' k=>⟨.str _,H,I.tok _,⟨_,rfl⟩,q⟩
end
theorem XG{xs:List V}{is:List Nat}{Q:VK}(g:Nat->List V->Hp->Prop)(G:g 0 [] H)(hl:∀i zs H,g i zs H->zs.length<=sizeLine)(D:∀i zs H,g i zs H->SqL K H a xs)
  (hs:∀i x zs H (R:List V->Hp->Prop),(∀zs H,g (i + 1) zs H->R zs H)->xs[i]?=some x->g i zs H->J (qw is c (some x)) H fun b H2=>if b=true then A (qw is c (some x)) H2 fun y I=>R (zs++[y]) I else R zs H2)
  (hd:∀zs H,g xs.length zs H->∀p,H p=none->Q (.ref p) (upd H p (.lst zs))) :
  za is J A c Q (Itl K a) H:=by
 refine ⟨fun i m zs H=>m=xs.length - i/\i<=xs.length/\g i zs H,⟨xs.length,by simp,Qbp _,G⟩,?_⟩;rintro i m zs H ⟨rfl,hi,p⟩
 by_cases C:i < xs.length
 ·refine .inr ⟨⟨xs,xs[i],D i zs H p,Qab C⟩,hl i zs H p,fun x H' y=>?_⟩
  obtain ⟨e,y⟩:=y;subst e;exact hs i x zs _ (fun zs H=>∃E,E < xs.length - i/\E=xs.length - (i + 1)/\i + 1<=xs.length/\g (i + 1) zs H) (fun zs H q=>⟨xs.length - (i + 1),by lia,rfl,C,q⟩) (y xs (D i zs _ p)) p
 ·have e:i=xs.length:=by lia
  exact .inl ⟨⟨xs,D i zs H p,by lia⟩,hl _ _ _ p,by rw [e] at p;exact hd zs H p⟩
section
variable {X:Cx}
theorem qx:∀{g:List Value} {ys:List Str},StrsAre g ys->Vals (ys.map V.str) g
 | _,_,.nil=>.nil
 | _,_,.cons y t h=>.cons ⟨t,rfl⟩ (qx h)
theorem yd:Jh X (.builtin "sorted") (fun xs H Q=>∃(p:Addr) (D:List Str),xs=[.ref p]/\SqL X.K H p (D.map V.str)/\D.length < 64 /\
  ∀(l:Addr) (g:List Str),H l=none->g.Perm D->sortedS g=true->Q (.ref l) (upd H l (.lst (g.map V.str)))):=by
 intro pins s σ H xs O Q I r h;obtain ⟨p,D,rfl,M,hn,q⟩:=h;obtain ⟨u,rfl,L⟩:=vals1 r;cases L;obtain ⟨G,J,pl,N⟩:=I.list M;have E:=J.length;rw [Qad] at E;refine sorted_strs pl.isList (zA J) (by lia) fun C g hi hp hs=>?_;obtain ⟨e,he⟩:=sortedAll_at s.heap G C;refine ⟨.ref (s.heap.objs.size + 1),_,I.laid (t':=s.toks) (o:=.lst (g.map V.str)) (fun b o e=>sortedAll_old e) (Qeg _) ?_,rfl,q _ g (I.hok.fresh (Qeg _)) hp hs⟩;have hm:g.length=D.length:=hp.length_eq;exact ⟨by rw [Qad];exact Qa5 (Zs (by lia)),C.toList,e,qx hi,by simpa using he⟩
end
theorem Ze6:bootBuiltins "abs" = some (.builtin "abs"):=by decide +kernel
theorem uK:bootBuiltins "max" = some (.builtin "max"):=by decide +kernel
theorem bt_min:bootBuiltins "min" = some (.builtin "min"):=by decide +kernel
theorem vZ{t u:TS}(J:St->Hp->Prop)(h1:∀N:St->Hp->Prop,(∀c H,J c H->N c H)->t { M with nx:=N } c H)(h2:∀c H,J c H->u M c H):Yy t u M c H:=h1 _ h2
theorem take_snoc{xs:List g}{x:g}(h:xs[i]?=some x):xs.take (i + 1)=xs.take i++[x]:=by
 rw [List.take_succ,h]
 rfl
theorem yT{xs:List V}{is:List Nat}{Q:VK}(p:V->Bool)(f:V->V)(hx:SqL K H a xs)(C:xs.length<=sizeLine)
  (hc:∀x∈xs,∀R:Bool->Hp->Prop,R (p x) H->J (qw is c (some x)) H R)
  (he:∀x∈xs,p x=true->∀R:VK,R (f x) H->A (qw is c (some x)) H R)
  (hd:∀l,H l=none->Q (.ref l) (upd H l (.lst ((xs.filter p).map f)))):za is J A c Q (Itl K a) H:=by
 refine XG (xs:=xs) (fun i zs H'=>zs=((xs.take i).filter p).map f/\H'=H) ⟨rfl,rfl⟩ ?_ ?_ ?_ ?_
 ·rintro i zs H' ⟨rfl,rfl⟩
  rw [Qad];exact Qbg (Qek _ _) (by rw [Qa1];lia)
 ·rintro i zs H' ⟨rfl,rfl⟩
  exact hx
 ·rintro i x zs H' R q g ⟨rfl,rfl⟩
  have hm:=Qao g;have e:=take_snoc g;refine hc x hm _ ?_;cases hp:p x with
  | true =>
   refine (Qa4 rfl:(if true=true then _ else _)=_) ▸ he x hm hp _ (q _ _ ⟨?_,rfl⟩);rw [e,Qef,Qbm,Qdf,Qa4 hp]
   rfl
  | false =>
   refine (Qax Qa3:(if false=true then _ else _)=_) ▸ q _ _ ⟨?_,rfl⟩;rw [e,Qef,Qbm,Qdf,Qax (by rw [hp];exact Qa3)];simp
 ·rintro zs H' ⟨rfl,rfl⟩ l hl
  rw [Qb2];exact hd l hl
theorem comp_map{xs:List V}{is:List Nat}{Q:VK}(f:V->V)(hx:SqL K H a xs)(g:xs.length<=sizeLine)
  (he:∀x∈xs,∀R:VK,R (f x) H->A (qw is c (some x)) H R)
  (hd:∀l,H l=none->Q (.ref l) (upd H l (.lst (xs.map f)))):za is uA A c Q (Itl K a) H:=by
 refine yT (fun _=>true) f hx g (fun x _ R h=>h) (fun x hm _=>he x hm) fun l hl=>?_;rw [List.filter_eq_self.mpr fun _ _=>rfl];exact hd l hl
theorem uL{xs:List V}{is:List Nat}{Q:VK}(f:V->V)(hx:SqT K H a xs)(C:xs.length<=sizeLine)
  (he:∀x∈xs,∀R:VK,R (f x) H->A (qw is c (some x)) H R)
  (hd:∀l,H l=none->Q (.ref l) (upd H l (.lst (xs.map f)))):za is uA A c Q (Itt K a) H:=by
 refine J2 (xs:=xs) (fun i zs H'=>zs=(xs.take i).map f/\H'=H) ⟨rfl,rfl⟩ ?_ ?_ ?_ ?_
 ·rintro i zs H' ⟨rfl,rfl⟩
  rw [Qad,Qa1];lia
 ·rintro i zs H' ⟨rfl,rfl⟩
  exact hx
 ·rintro i x zs H' R q g ⟨rfl,rfl⟩
  unfold uA;dsimp only;rw [Qa4 rfl];refine he x (Qao g) _ (q _ _ ⟨?_,rfl⟩);rw [take_snoc g,Qbm]
  rfl
 ·rintro zs H' ⟨rfl,rfl⟩ l hl
  rw [Qb2];exact hd l hl
section
variable {κ:Type}[DecidableEq κ]
def YX(kvs:List (κ × V))(k:κ):Option V:=(kvs.find? fun g=>decide (g.1=k)).map (·.2)
def putK(kvs:List (κ × V))(k:κ)(v:V):List (κ × V) :=
 if (kvs.any fun g=>decide (g.1=k))=true then kvs.map (fun g=>if g.1=k then (g.1,v) else g) else kvs++[(k,v)]
theorem YF{p:κ × V}{r:List (κ × V)}{k:κ}(e:p.1=k):YX (p::r) k=some p.2:=by simp [YX,Qdb,e]
theorem YG{p:κ × V}{r:List (κ × V)}{k:κ}(e:¬p.1=k):YX (p::r) k=YX r k:=by simp [YX,Qdb,e]
theorem qW(k:κ):∀kvs:List (κ × V),(kvs.any fun g=>decide (g.1=k))=(YX kvs k).isSome
 | []=>rfl
 | p::r=>by
  rw [Qf3]
  by_cases e:p.1=k
  ·simp only [YF e,Qaj e,Bool.true_or,Option.isSome_some]
  ·rw [YG e,Qak e,Bool.false_or];exact qW k r
theorem kb(k j:κ)(y:V):∀kvs:List (κ × V),YX (kvs.map fun g=>if g.1=k then (g.1,y) else g) j=(YX kvs j).map fun x=>if j=k then y else x
 | []=>rfl
 | p::r=>by
  have q:=kb k j y r;rw [Qa7]
  by_cases h:p.1=k
  ·rw [Qa4 h]
   by_cases e:p.1=j
   ·rw [YF (p:=(p.1,y)) e,YF e,Qgc,Qa4 (e.symm.trans h)]
   ·rw [YG (p:=(p.1,y)) e,YG e,q]
  ·rw [Qax h]
   by_cases e:p.1=j
   ·rw [YF (p:=p) e,YF e,Qgc,Qax (fun z=>h (e.trans z))]
   ·rw [YG (p:=p) e,YG e,q]
theorem ye(k j:κ)(y:V):∀kvs:List (κ × V),YX kvs k=none->YX (kvs++[(k,y)]) j=if j=k then some y else YX kvs j
 | [],_=>by
  by_cases e:k=j
  ·rw [Qa4 e.symm];exact YF (p:=(k,y)) e
  ·rw [Qax (fun z=>e z.symm)];exact YG (p:=(k,y)) e
 | p::r,hn=>by
  rw [Qey];have hk:¬p.1=k:=fun z=>by rw [YF z] at hn;cases hn
  rw [YG hk] at hn;have g:=ye k j y r hn
  by_cases e:p.1=j
  ·rw [YF e,YF e,Qax (fun z=>hk (e.trans z))]
  ·rw [YG e,YG e,g]
theorem Gu(kvs:List (κ × V))(k j:κ)(y:V):YX (putK kvs k y) j=if j=k then some y else YX kvs j:=by
 unfold putK
 by_cases a:(kvs.any fun g=>decide (g.1=k))=true
 ·rw [Qa4 a,kb]
  rw [qW] at a
  by_cases e:j=k
  ·obtain ⟨x,hx⟩:=Option.isSome_iff_exists.mp a
   rw [Qa4 e,e,hx,Qgc,Qa4 rfl]
  ·rw [Qax e]
   cases YX kvs j with
   | none=>rfl
   | some x=>rw [Qgc,Qax e]
 ·rw [Qax a]
  refine ye k j y kvs ?_;rw [qW] at a;cases q:YX kvs k with
  | none=>rfl
  | some x=>rw [q] at a;exact (a rfl).elim
theorem XH(kvs:List (κ × V))(k:κ)(v:V):(putK kvs k v).length<=kvs.length + 1:=by
 unfold putK
 split
 ·rw [Qad];lia
 ·rw [Qaf,Qbc,Qdc];lia
theorem wB.isSome_eq{o:Option V}{u:Option Value}(r:wB o u):o.isSome=u.isSome:=by
 cases o with
 | none=>cases u with
  | none=>rfl
  | some _=>exact (show False from r).elim
 | some _=>cases u with
  | none=>exact (show False from r).elim
  | some _=>rfl
theorem wB.getD{o:Option V}{u:Option Value}{d:V}{d':Value}(r:wB o u)(g:RelV d d'):RelV (o.getD d) (u.getD d'):=by
 cases o with
 | none=>cases u with
  | none=>exact g
  | some _=>exact (show False from r).elim
 | some _=>cases u with
  | none=>exact (show False from r).elim
  | some _=>exact r
theorem KV.val{kvs:List (κ × V)}{vs:List (κ × Value)}(r:KV kvs vs)(k:κ):wB (YX kvs k) (valueAt vs k):=by
 unfold KV at r
 induction r with
 | nil=>exact True.intro
 | @cons p q ps C h t D =>
  obtain ⟨h1,h2⟩:=h
  by_cases e:p.1=k
  ·have g:q.1=k:=h1.symm.trans e
   have b:valueAt (q::C) k=some q.2:=by simp [valueAt,Qdb,g]
   rw [YF e,b];exact h2
  ·have g:¬q.1=k:=fun z=>e (h1.trans z)
   have b:valueAt (q::C) k=valueAt C k:=by simp [valueAt,Qdb,g]
   rw [YG e,b];exact D
theorem KV.any{kvs:List (κ × V)}{vs:List (κ × Value)}(r:KV kvs vs)(k:κ):(kvs.any fun g=>decide (g.1=k))=vs.any fun g=>decide (g.1=k):=by
 unfold KV at r
 induction r with
 | nil=>rfl
 | cons h t q=>rw [Qf3,Qf3,q,h.1]
theorem KV.repl{kvs:List (κ × V)}{vs:List (κ × Value)}(r:KV kvs vs)(k:κ){y:V}(D:RelV y u) :
  KV (kvs.map fun g=>if g.1=k then (g.1,y) else g) (vs.map fun g=>if g.1=k then (g.1,u) else g):=by
 unfold KV at r ⊢
 induction r with
 | nil=>exact .nil
 | @cons p q ps E h t C =>
  rw [Qa7,Qa7];refine .cons ?_ C;obtain ⟨h1,h2⟩:=h
  by_cases e:p.1=k
  ·rw [Qa4 e,Qa4 (h1.symm.trans e)];exact ⟨h1,D⟩
  ·rw [Qax e,Qax (fun z=>e (h1.trans z))];exact ⟨h1,h2⟩
theorem KV.put{kvs:List (κ × V)}{vs:List (κ × Value)}(r:KV kvs vs)(k:κ){y:V}(g:RelV y u):KV (putK kvs k y) (stored vs k u):=by
 unfold putK stored;rw [r.any k]
 by_cases e:(vs.any fun q=>decide (q.1=k))=true
 ·rw [Qa4 e,Qa4 e];exact r.repl k g
 ·rw [Qax e,Qax e];exact Paired.snoc r ⟨rfl,g⟩
theorem KV.keys{kvs:List (κ × V)}{vs:List (κ × Value)}(r:KV kvs vs):kvs.map (·.1)=vs.map (·.1):=by
 unfold KV at r
 induction r with
 | nil=>rfl
 | cons h t g=>rw [Qa7,Qa7,g,h.1]
theorem KV.length{kvs:List (κ × V)}{vs:List (κ × Value)}(r:KV kvs vs):kvs.length=vs.length:=Qe3 r
end
theorem yU{P:Program}{k:Key}(r:RelV (kV k) u):(Yz P w).is k u=true:=by
 cases k with
 | inl i=>obtain ⟨t,e⟩:=(show ∃t,u=Value.int i t from r);subst e;exact yL P w i t
 | inr x=>obtain ⟨t,e⟩:=(show ∃t,u=Value.str x t from r);subst e;exact JR P w x t
theorem yf{P:Program}{w:World}:∀{ks:List Key} {g:List Value},Vals (ks.map kV) g->ItemsAre (Yz P w) ks g
 | [],_,r=>by rw [Qe1] at r;cases r;exact .nil
 | k::ks,_,r=>by
  rw [Qa7] at r;cases r with
  | cons h t=>exact .cons (yU h) (yf t)
abbrev KT(H:Hp):List (List Key × V)->List (List Key × Addr × Value)->Prop:=Paired fun p q=>p.1=q.1/\H q.2.1=some (.tup (p.1.map kV))/\RelV p.2 q.2.2
theorem KT.val{kvs:List (List Key × V)}{xs:List (List Key × Addr × Value)}(r:KT H kvs xs)(k:List Key):wB (YX kvs k) ((atKey xs k).map (·.2)):=by
 induction r with
 | nil=>exact True.intro
 | @cons p q ps C h t D =>
  obtain ⟨h1,_,h2⟩:=h
  by_cases e:p.1=k
  ·have g:q.1=k:=h1.symm.trans e
   have b:atKey (q::C) k=some q.2:=by simp [atKey,Qdb,g]
   rw [YF e,b];exact h2
  ·have g:¬q.1=k:=fun z=>e (h1.trans z)
   have b:atKey (q::C) k=atKey C k:=by simp [atKey,Qdb,g]
   rw [YG e,b];exact D
theorem KT.repl{kvs:List (List Key × V)}{xs:List (List Key × Addr × Value)}(r:KT H kvs xs)(k:List Key){y:V}(E:RelV y u) :
  KT H (kvs.map fun g=>if g.1=k then (g.1,y) else g) (xs.map (putAt k u)):=by
 induction r with
 | nil=>exact .nil
 | @cons p q ps G h t D =>
  rw [Qa7,Qa7];refine .cons ?_ D;obtain ⟨h1,h2,C⟩:=h;unfold putAt
  by_cases e:p.1=k
  ·rw [Qa4 e,Qa4 (h1.symm.trans e)];exact ⟨h1,h2,E⟩
  ·rw [Qax e,Qax (fun z=>e (h1.trans z))];exact ⟨h1,h2,C⟩
theorem KT.put{kvs:List (List Key × V)}{xs:List (List Key × Addr × Value)}(r:KT H kvs xs)(k:List Key){b:Addr}{y:V}(hb:H b=some (.tup (k.map kV)))(g:RelV y u) :
  KT H (putK kvs k y) (storedH xs k b u):=by
 have e:(kvs.any fun C=>decide (C.1=k))=(atKey xs k).isSome:=by
  rw [qW,(r.val k).isSome_eq,Qgt]
 unfold putK storedH;rw [e]
 by_cases q:(atKey xs k).isSome=true
 ·rw [Qa4 q,Qa4 q];exact r.repl k g
 ·rw [Qax q,Qax q];exact Paired.snoc r ⟨rfl,hb,g⟩
theorem KT.keeps{H':Hp}{kvs:List (List Key × V)}{xs:List (List Key × Addr × Value)}(r:KT H kvs xs)(g:∀b ys,H b=some (.tup ys)->H' b=some (.tup ys)):KT H' kvs xs :=
 Paired.mapP r fun _ _ z=>⟨z.1,g _ _ z.2.1,z.2.2⟩
section
variable {P:Program}{w:World}{H:Hp}{h:Heap}{a:Addr}
theorem Zi4{u:HO}(ok:HOk P w H h)(e:Rd H a u):YO P w H h a u:=e.ok ok
theorem uM{kvs:List (Key × V)}(ok:HOk P w H h)(e:Rd H a (.dK kvs)):kvs.length<=sizeLine/\(a == sysModules)=false/\∃vs,KV kvs vs/\h.DictOf (Yz P w) a vs :=
 show YO P w H h a (.dK kvs) from Zi4 ok e
theorem Zgn{kvs:List (Key × V)}(ok:HOk P w H h)(e:H a=some (.dK kvs)):kvs.length<=sizeLine/\(a == sysModules)=false/\∃vs,KV kvs vs/\h.DictOf (Yz P w) a vs:=uM ok (.inl e)
theorem zB{ks:List Key}(ok:HOk P w H h)(e:H a=some (.tup (ks.map kV))):(tupleKind (Yz P w)).is h ks a:=by
 obtain ⟨_,g,r,o,h1,h2,n,q⟩:=(show YO P w H h a (.tup (ks.map kV)) from ok a _ e);exact ⟨o,g.toArray,n,h1,h2,q,by simpa using yf r⟩
theorem uN{kvs:List (List Key × V)}(ok:HOk P w H h)(e:Rd H a (.dT kvs)):kvs.length<=sizeLine/\(a == sysModules)=false /\
  ∃xs,KT H kvs xs/\h.DictOfH (tupleKind (Yz P w)) a xs:=by
 obtain ⟨z,y,xs,r,o,es,ep,h1,h2,E,C,D⟩:=(show YO P w H h a (.dT kvs) from Zi4 ok e);refine ⟨z,y,xs,r,o,es,ep,h1,h2,E,C,fun x hx=>?_,D⟩;have all:∀{l:List (List Key × V)} {m:List (List Key × Addr × Value)},KT H l m->∀x∈m,(tupleKind (Yz P w)).is h x.1 x.2.1:=by
  intro l m q
  induction q with
  | nil=>intro x hx;exact nomatch hx
  | @cons p q ps I g t G =>
   intro x hx;rcases Qas.mp hx with e | hx
   ·subst e
    exact zB ok (by rw [<-g.1];exact g.2.1)
   ·exact G x hx
 exact all r x hx
theorem Zi5{kvs:List (List Key × V)}(ok:HOk P w H h)(e:H a=some (.dT kvs)):kvs.length<=sizeLine/\(a == sysModules)=false /\
  ∃xs,KT H kvs xs/\h.DictOfH (tupleKind (Yz P w)) a xs:=uN ok (.inl e)
end
def Zgo(H:Hp)(a:Addr)(y:V)(r:Option V):Prop :=
 (∃kvs k,Rd H a (.dK kvs)/\y=kV k/\r=YX kvs k)\/∃kvs k b,Rd H a (.dT kvs)/\y=.ref b/\H b=some (.tup (k.map kV))/\r=YX kvs k
def Zc2(H:Hp)(a:Addr)(y v:V)(H':Hp):Prop :=
 (∃kvs k,H a=some (.dK kvs)/\y=kV k/\kvs.length < sizeLine/\H'=upd H a (.dK (putK kvs k v))) \/
 ∃kvs k b,H a=some (.dT kvs)/\y=.ref b/\H b=some (.tup (k.map kV))/\kvs.length < sizeLine/\H'=upd H a (.dT (putK kvs k v))
theorem Zc2.k{H:Hp}{a:Addr}{kvs:List (Key × V)}{k:Key}{v:V}(e:H a=some (.dK kvs))(hl:kvs.length < sizeLine):Zc2 H a (kV k) v (upd H a (.dK (putK kvs k v))):=.inl ⟨kvs,k,e,rfl,hl,rfl⟩
theorem Zc2.t{b:Addr}{kvs:List (List Key × V)}{k:List Key}(e:H a=some (.dT kvs))(g:H b=some (.tup (k.map kV)))(hl:kvs.length < sizeLine) :
  Zc2 H a (.ref b) v (upd H a (.dT (putK kvs k v))):=.inr ⟨kvs,k,b,e,rfl,g,hl,rfl⟩
section
variable {X:Cx}{pins:List (Addr × Obj)}{σ:St}{H:Hp}{s:Shared}{a:Addr}{y v:V}{u r:Value}{o:Option V}{A:Around}{E:Value->Shared->Prop}
theorem Inv.big(I:Inv X pins σ H s):sysModules < s.heap.objs.size:=by
 have h:mainGlobals < s.heap.objs.size:=(I.mod.glob.keeps I.bk).lt;exact Nat.lt_trans (by decide) h
theorem uO(hu:A.units + 1 < cLine)(I:Inv X pins σ H s)(g:Zgo H a y (some v))(L:RelV y u)(h:∀D s',Inv X pins σ H s'->RelV v D->Q D s') :
  wpAny (model X.prog X.w) A (getItem (.ref a) u) Q E s:=by
 rcases g with ⟨kvs,k,e,G,l⟩ | ⟨kvs,k,b,e,G,M,l⟩
 ·subst G
  obtain ⟨z,hd,vs,C,dd⟩:=uM I.hok e;obtain ⟨D,hw,q⟩:=wB.some_of (v:=v) (o:=valueAt vs k) (by rw [l];exact C.val k);exact wpAny_getItem_of (yU L) dd.mapOf hw (h D _ (I.tok _) q)
 ·subst G
  cases (show u=Value.ref b from L);obtain ⟨z,hd,xs,C,dd⟩:=uN I.hok e;obtain ⟨D,hw,q⟩:=wB.some_of (v:=v) (o:=(atKey xs k).map (·.2)) (by rw [l];exact C.val k);obtain ⟨p,hp,J⟩:=Qbh.mp hw;refine wpAny_getItem_heap (Qe8 hu) (zB I.hok M) dd hp ?_;rw [J];exact h D _ (I.tok _) q
theorem d_in(hu:A.units + 1 < cLine)(I:Inv X pins σ H s)(g:Zgo H a y o)(G:RelV y u)(h:∀s',Inv X pins σ H s'->Q (.bool o.isSome) s') :
  wpAny (model X.prog X.w) A (compareOp .In u (.ref a)) Q E s:=by
 rcases g with ⟨kvs,k,e,D,l⟩ | ⟨kvs,k,b,e,D,J,l⟩
 ·subst D
  obtain ⟨z,hd,vs,C,dd⟩:=uM I.hok e;refine wpAny_in_of (yU G) hd dd.mapOf ?_;rw [<-(C.val k).isSome_eq,<-l];exact h _ (I.tok _)
 ·subst D
  cases (show u=Value.ref b from G);obtain ⟨z,hd,xs,C,dd⟩:=uN I.hok e;refine wpAny_in_heap (Qe8 hu) (zB I.hok J) hd dd ?_;have q:=(C.val k).isSome_eq;rw [Qgt] at q;rw [<-q,<-l];exact h _ (I.tok _)
theorem Zgp(hu:A.units + 1 < cLine)(I:Inv X pins σ H s)(g:Zgo H a y o)(G:RelV y u)(h:∀s',Inv X pins σ H s'->Q (.bool (!o.isSome)) s') :
  wpAny (model X.prog X.w) A (compareOp .NotIn u (.ref a)) Q E s:=by
 rcases g with ⟨kvs,k,e,D,l⟩ | ⟨kvs,k,b,e,D,J,l⟩
 ·subst D
  obtain ⟨z,hd,vs,C,dd⟩:=uM I.hok e;refine wpAny_notIn_of (yU G) hd dd.mapOf ?_;rw [<-(C.val k).isSome_eq,<-l];exact h _ (I.tok _)
 ·subst D
  cases (show u=Value.ref b from G);obtain ⟨z,hd,xs,C,dd⟩:=uN I.hok e;refine wpAny_notIn_heap (Qe8 hu) (zB I.hok J) hd dd ?_;have q:=(C.val k).isSome_eq;rw [Qgt] at q;rw [<-q,<-l];exact h _ (I.tok _)
theorem xt{h':Heap}{t':Nat}(I:Inv X pins σ H s)(C:Mut (H a))(hs:Heap.SameBut a s.heap h')(he:∃q,h'.get? a=some q)(g:YO X.prog X.w (upd H a Y) h' a Y) :
  Inv X pins σ (upd H a Y) { s with heap:=h',toks:=t' } :=
 I.write (x:=a) (e:=a) C (.inl rfl) (fun b q hb z=>(hs.2 b hb).trans z) he g
theorem Ze7{P:Program}{H':Hp}{h':Heap}{kvs:List (Key × V)}{vs:List (Key × Value)}(z:kvs.length<=sizeLine)(hd:(a == sysModules)=false)(g:KV kvs vs)(dd:h'.DictOf (Yz P w) a vs) :
  YO P w H' h' a (.dK kvs):=⟨z,hd,vs,g,dd⟩
theorem uP{H':Hp}{Q:Unit->Shared->Prop}(hu:A.units + 1 < cLine)(I:Inv X pins σ H s)(g:Zc2 H a y v H')(R:RelV y u)(M:RelV v r)(h:∀s',Inv X pins σ H' s'->Q () s') :
  wpAny (model X.prog X.w) A (setItem (.ref a) u r) Q E s:=by
 rcases g with ⟨kvs,k,e,J,l,G⟩ | ⟨kvs,k,b,e,J,N,l,G⟩
 ·subst J G
  obtain ⟨z,hd,vs,C,dd⟩:=Zgn I.hok e;have L:vs.length<=sizeLine:=by rw [<-C.length];exact z
  have hl:(putK kvs k v).length<=sizeLine:=by have:=XH kvs k v;lia
  refine wpAny_setItem_pairs (hsz:=L) (yU R) dd fun h' dd' hs=>h _ ?_;have he:∃q,h'.get? a=some q:=let ⟨q,_,_,D,_⟩:=dd';⟨q,D⟩;exact xt I (by rw [e];exact True.intro) hs he (Ze7 hl hd (C.put k M) dd')
 ·subst J G
  cases (show u=Value.ref b from R);obtain ⟨z,hd,xs,C,dd⟩:=Zi5 I.hok e;have L:xs.length<=sizeLine:=by rw [<-Qe3 C];exact z
  have hl:(putK kvs k v).length<=sizeLine:=by have:=XH kvs k v;lia
  refine wpAny_setItem_heap (hsz:=L) (Qe8 hu) (zB I.hok N) dd fun h' dd' hs=>h _ ?_;obtain ⟨q,es,ep,D,h2,Z,S,_,Y⟩:=dd';refine xt I (by rw [e];exact True.intro) hs ⟨q,D⟩ ⟨hl,hd,_,(C.put k N M).keeps fun c ys O=>?_,q,es,ep,D,h2,Z,S,Y⟩;rw [Zp (XW O e (fun z=>nomatch z))];exact O
end
section
variable {X:Cx}{pins:List (Addr × Obj)}{σ:St}{H:Hp}{s:Shared}{a:Addr}{kvs:List (Key × V)}{k:Key}{u:Value}{A:Around}{E:Value->Shared->Prop}
end
def Zjw(i:Expr):Prop:=∀q g,subscripted i false q g=operate [q,g] (getItem q g)
theorem uQ{prog:Program}{A:Around}{E:Value->Shared->Prop}{env:Env}{g:Expr}{T id:String}
  (hl:typeLookup (.type T) "__getitem__" = pure (some (.builtin id))) (hs:Zjw g)
  (h:wpAny (model prog w) A (eval e env) (fun o C=>wpAny (model prog w) A (eval g env) (fun i s₂=>s₂.TypeIs o T/\wpAny (model prog w) A (getItem o i) Q E s₂) E C) E s) :
  wpAny (model prog w) A (eval (.Subscript e g p) env) Q E s:=by
 refine Subscript_ (Qdm h (fun o C G=>Qdm G (fun i s₂ q=>?_) fun _ _ x=>x) fun _ _ x=>x);obtain ⟨J,q⟩:=q;unfold subscriptTail;refine Qaa ?_;rw [getitemInPython_of_ne J.not_modules];refine Qaa (Qei J hl ?_);have fin:wpAny (model prog w) A (subscripted g false o i) (fun r D=>wpAny (model prog w) A (letTemporaryGo e o r >>= fun _=>pure r) Q E D) E s₂:=by
  rw [hs o i];exact wpAny_operating (Qdm q (fun r D I=>Qaa (wpAny_letTemporaryGo (Qan I))) fun _ _ x=>x)
 first
  | exact Qan (Qaa fin)
  | exact Qaa (Qan (Qaa fin))
  | exact Qaa fin
theorem yV {X:Cx}      {y:V} {o:Option V} (I:Inv X r c H s) (g:Zgo H a y o):s.TypeIs (.ref a) "dict" := by
 rcases g with ⟨kvs,k,e,_,_⟩ | ⟨kvs,k,b,e,_,_,_⟩
 ·obtain ⟨_,_,vs,_,dd⟩:=uM I.hok e
  exact dd.typeIs
 ·obtain ⟨_,_,xs,_,dd⟩:=uN I.hok e
  exact dd.typeIs
inductive uR(Q:VK)(x:V)(y:V)(H2:Hp):Prop
 | mk (a v:_):(x=.ref a)->(Zgo H2 a y (some v))->(Q v H2)->uR Q x y H2
def Zi6(td ty:TE):TE:=fun σ H Q=>td σ H fun x H1=>ty σ H1 fun y H2=>uR Q x y H2
inductive uS(D:Ends)(σ:St)(v:V)(x:V)(y:V)(H3:Hp):Prop
 | mk (a H4:_):(x=.ref a)->(Zc2 H3 a y v H4)->(D.nx σ H4)->uS D σ v x y H3
def Zi7(td ty tv:TE):TS:=fun D σ H=>tv σ H fun v H1=>td σ H1 fun x H2=>ty σ H2 fun y g=>uS D σ v x y g
section
variable {X:Cx}{o i e value:Expr}{pos pos' tpos:Pos}{td ty tv:TE}
theorem Zgq(hu:X.A.units + 1 < cLine)(ho:PE X o td)(hi:PE X i ty)(hs:Zjw i):PE X (.Subscript o i pos) (Zi6 td ty):=by
 intro pins s σ H Q I h;refine uQ PySem.F.slot_dict_getitem.lookup hs (thn (ho pins s σ H _ I h) fun u E ⟨x,H1,G,D,L⟩=>thn (hi pins E σ H1 _ G L) fun S R ⟨y,H2,C,N,a,v,ex,g,M⟩=>?_);subst ex;obtain rfl:u=Value.ref a:=D;exact ⟨yV C g,uO hu C g N fun Y O J q=>⟨v,H2,J,q,M⟩⟩
theorem Zgr(hu:X.A.units + 1 < cLine)(ho:PE X o td)(hi:PE X i ty)(hv:PE X value tv)(hs:swapsWith value (some (.Subscript o i pos')) pos.line X.env=pure false) :
  PS X (.Assign [.Subscript o i pos'] value pos) (Zi7 td ty tv):=by
 intro pins s σ H D I h;refine wpAny_Assign_Subscript (thn (hv pins s σ H _ I h) fun r R ⟨v,H1,Y,C,G⟩=>thn (ho pins R σ H1 _ Y G) fun u q ⟨x,H2,N,O,J⟩=>thn (hi pins q σ H2 _ N J) fun iv s3 ⟨y,H3,E,Z,a,L,ex,g,S⟩=>?_) hs;subst ex;obtain rfl:u=Value.ref a:=O;exact uP hu E g Z C fun s4 M=>⟨σ,L,M,S⟩
end
theorem jm {P:Program}   (h:Heap) (hb:sysModules < h.objs.size):YO P w H (h.push { cls:=.type "dict",data:=.dict #[] }) h.objs.size (.dK []) :=
 ⟨Qbp _,Qcd.mpr (Qdk (Qbt hb)),[],.nil,Heap.DictOf.new h⟩
theorem Zc3 {P:Program}   (h:Heap) (hb:sysModules < h.objs.size):YO P w H (h.push { cls:=.type "dict",data:=.dict #[] }) h.objs.size (.dT []) :=
 ⟨Qbp _,Qcd.mpr (Qdk (Qbt hb)),[],.nil,_,#[],0,Qaz _ rfl,⟨rfl,rfl,rfl⟩,rfl,rfl,Qc2⟩
def Ze8:TE:=fun _ H Q=>∀p,H p=none->Q (.ref p) (upd H p (.dK []))
section
variable {X:Cx}{pos:Pos}
theorem Zc4:PE X (.Dict [] [] pos) Ze8:=fun pins s σ H Q I h =>
 wpAny_Dict_empty ⟨.ref s.heap.objs.size,_,I.laid (a:=s.heap.objs.size) (o:=.dK []) (t':=s.toks) (fun _ _ q=>Qae _ q) (Qai _) (jm s.heap I.big),rfl,h _ (I.hok.fresh (Qai _))⟩
end
def uT:List (TE × TE)->St->Hp->(List (V × V)->Hp->Prop)->Prop
 | [],_,H,Q=>Q [] H
 | (tk,tv)::r,σ,H,Q=>tk σ H fun x H1=>tv σ H1 fun y H2=>uT r σ H2 fun ps g=>Q ((x,y)::ps) g
abbrev VV:List (V × V)->List (Value × Value)->Prop:=Paired fun p q=>RelV p.1 q.1/\RelV p.2 q.2
def PPs(X:Cx)(pos:Pos)(keys:List (Option Expr))(g:List Expr)(q:List (TE × TE)):Prop :=
 ∀(pins:List (Addr × Obj)) (s:Shared) (σ:St) (H:Hp) (Q:List (V × V)->Hp->Prop),Inv X pins σ H s->uT q σ H Q ->
  wpAny (model X.prog X.w) X.A (evalPairs (pairTrees keys g X.env pos)) (fun vs s'=>∃ps H',Inv X pins σ H' s'/\VV ps vs/\Q ps H') X.xe s
theorem Zgs{X:Cx}:PPs X p [] [] []:=fun pins s σ H Q I h=>pairTrees_nil_walk ⟨[],H,I,.nil,h⟩
theorem Zc5{X:Cx}{k v:Expr}{ks:List (Option Expr)}{vs:List Expr}{tk:TE}{g:List (TE × TE)}(hk:PE X k tk)(hv:PE X v A)(hr:PPs X p ks vs g) :
  PPs X p (some k::ks) (v::vs) ((tk,A)::g):=fun pins s σ H Q I h =>
 pairTrees_cons_walk (thn (hk pins s σ H _ I h) fun u M ⟨x,H1,O,L,E⟩=>thn (hv pins M σ H1 _ O E) fun w2 C ⟨y,H2,J,S,G⟩ =>
  thn (hr pins C σ H2 _ J G) fun Z Y ⟨ps,R,D,q,N⟩=>⟨(x,y)::ps,R,D,.cons ⟨L,S⟩ q,N⟩)
def zC(kvs g:List (Key × V)):List (Key × V):=g.foldl (fun acc q=>putK acc q.1 q.2) kvs
theorem KV.merge:∀{g:List (Key × V)} {rs:List (Key × Value)} {kvs:List (Key × V)} {vs:List (Key × Value)},KV g rs->KV kvs vs->KV (zC kvs g) (merged vs rs):=by
 intro g rs kvs vs r;unfold KV at r
 induction r generalizing kvs vs with
 | nil=>intro q;exact q
 | @cons p q ps E h t C =>
  intro D;have e:KV (putK kvs p.1 p.2) (stored vs q.1 q.2):=by
   have:=D.put p.1 h.2;rw [<-h.1];exact this
  exact C e
theorem Gv:∀(g kvs:List (Key × V)),(zC kvs g).length<=kvs.length + g.length
 | [],kvs=>by show kvs.length<=kvs.length + 0;lia
 | p::r,kvs=>by
  have h1:=Gv r (putK kvs p.1 p.2);have h2:=XH kvs p.1 p.2;show (zC (putK kvs p.1 p.2) r).length<=_;rw [Qbc];lia
theorem zD{P:Program}{w:World}:∀{kvs:List (Key × V)} {g:List (Value × Value)},VV (kvs.map fun C=>(kV C.1,C.2)) g->∃rs,Carries (Yz P w) g rs/\KV kvs rs
 | [],_,r=>by rw [Qe1] at r;cases r;exact ⟨[],True.intro,.nil⟩
 | p::kvs,_,r=>by
  rw [Qa7] at r;cases r with
  | @cons a b as bs h t =>
   obtain ⟨rs,c,q⟩:=zD (P:=P) (w:=w) t;obtain ⟨b1,b2⟩:=b;exact ⟨(p.1,b2)::rs,⟨yU h.1,rfl,c⟩,.cons ⟨rfl,h.2⟩ q⟩
def Zi8(g:List (TE × TE)):TE:=fun σ H Q=>∀p,H p=none->uT g σ (upd H p (.dK [])) fun ps H2=>H2 p=some (.dK [])/\∃kvs:List (Key × V),ps=kvs.map (fun q=>(kV q.1,q.2))/\kvs.length<=15/\Q (.ref p) (upd H2 p (.dK (zC [] kvs)))
theorem Zgt{X:Cx}{keys:List (Option Expr)}{D:List (TE × TE)}(h:PPs X p keys C D)(g:keys.all (·.isSome)=true)(hl:keys.length=C.length)(R:keys≠[])
  (E:keys.length<=15):PE X (.Dict keys C p) (Zi8 D):=by
 intro pins s σ H Q I q;have hn:=I.hok.fresh (Qai s.heap.objs.size);have Y:=I.laid (a:=s.heap.objs.size) (o:=.dK []) (h':=s.heap.push { cls:=.type "dict",data:=.dict #[] }) (t':=s.toks) (fun _ _ q=>Qae _ q) (Qai _) (jm s.heap I.big);refine wpAny_Dict_walk (knd:=Yz X.prog X.w) g hl R E (thn (h pins _ σ _ _ Y (q _ hn)) fun ws Z ⟨ps,H2,J,G,e,kvs,ep,lk,M⟩=>?_);subst ep;obtain ⟨rs,c,L⟩:=zD (P:=X.prog) (w:=X.w) G;obtain ⟨z,hd,N,S,dd⟩:=Zgn J.hok e;cases S;refine ⟨rs,c,dd,fun h' dd' hs=>⟨.ref s.heap.objs.size,_,?_,rfl,M⟩⟩;have O:(zC [] kvs).length<=sizeLine:=by
  have h1:=Gv kvs [];rw [Qdc] at h1;rw [Qhc];lia
 have he:∃q,h'.get? s.heap.objs.size=some q:=let ⟨q,_,_,hq,_⟩:=dd';⟨q,hq⟩;exact xt J (by rw [e];exact True.intro) hs he (Ze7 O hd (L.merge .nil) dd')
structure M2(X:Cx)(o:Expr)(m:Str)(apos:Pos)(e f:Expr)(cpos:Pos):Prop where
 base:attributeBase o m X.env (eval o X.env)=eval o X.env
 few:((backTo cpos (starEach [e,f] X.env)).all (fun x=>!x.1) && (backToKw cpos (keywordEach [] X.env)).all (fun x=>x.1.isSome)
  && decide (([e,f]:List Expr).length + ([]:List Keyword).length + (if ([]:List Keyword).isEmpty then 0 else 1) < 30))=true
 line:(apos.endLine == cpos.line)=true
 trees:backTo cpos (starEach [e,f] X.env)=[(false,eval e X.env),(false,eval f X.env)]
section
variable {X:Cx}{pins:List (Addr × Obj)}{σ:St}{H:Hp}{s:Shared}{a:Addr}{y d:V}{u r:Value}{o:Option V}{A:Around}{E:Value->Shared->Prop}
end
section
variable {X:Cx}{o e f:Expr}{apos cpos:Pos}{td ty tx:TE}
end
section
variable {X:Cx}{pins:List (Addr × Obj)}{σ:St}{H:Hp}{s:Shared}{a:Addr}{kvs:List (Key × V)}{A:Around}{E:Value->Shared->Prop}
end
section
variable {X:Cx}{pins:List (Addr × Obj)}{σ:St}{H:Hp}{s:Shared}{a:Addr}{y:V}{u:Value}{A:Around}{E:Value->Shared->Prop}
end
section
variable {X:Cx}
end
end L2
namespace EnT
open PySem PySem.Spec PyProof.Rows
open AutoSeq1 (wpAny_loadPart')
def tIt (l:Addr):Obj:={ cls:=.type "tuple_iterator",data:=.fields #[.ref l,.int 0 0] }
def enO (it:Addr):Obj:={ cls:=.type "enumerate",data:=.fields #[.none,.bool false,.ref it,rawInt 0,.none,.none] }
theorem XF(l:Addr)(items:Array Value) :
  Meets (Builtin.«enumerate.__new__» ⟨[.type "enumerate",.ref l],[]⟩) (fun _ R s=>s.heap.IsTuple l items /\
   R (.ok (.ret (.ref (s.heap.push (tIt l)).objs.size))) { s with heap:=(s.heap.push (tIt l)).push (enO s.heap.objs.size) }) :=
 .of_wp fun prog w A R s h=>by
  obtain ⟨hp,g,d,tk,os⟩:=s;obtain ⟨q,h⟩:=h;have C:=sub_enumerate;obtain ⟨⟨oc,od,D,E⟩,hl,hc,n,hd⟩:=id q;simp only at hc hd;subst hc hd
  wp_walk using wpAny_loadPart' hl
  refine wpAny_stack_any fun st=>Qan ?_
  split
  ·rename_i c _ _ _ _ _
   cases (c == Value.type "enumerate")
   ·wp_walk using wpAny_loadPart' hl,Qee q
    exact ⟨_,rfl,h⟩
   ·wp_walk using wpAny_loadPart' hl,Qee q
    exact ⟨_,rfl,h⟩
  ·wp_walk using wpAny_loadPart' hl,Qee q
   exact ⟨_,rfl,h⟩
section
variable {prog:Program}{w:World}{A:Around}{E:Value->Shared->Prop}{s:Shared}
theorem next_of{it l:Addr}{items:_}{x:Value}(g:s.heap.IsTupleIter it l i)(hl:s.heap.IsTuple l items)(hx:items[i]?=some x)
  (D:∀h',h'.IsTupleIter it l (i + 1)->Heap.SameBut it s.heap h'->Q x { s with heap:=h' }):wpAny (model prog w) A (Builtin.SmallTypes.nextOf (.ref it)) Q E s:=by
 obtain ⟨o,ho,hc,hd⟩:=id g;obtain ⟨G,q,_,I,C⟩:=hl;unfold Builtin.SmallTypes.nextOf;refine Qaa (wpAny_callSpecial?_slot (name:=Str.ofString "__next__") g.typeIs Qdp (Qb4 Qdp g.typeIs Qgd ?_ (Qf4 _)));show wpAny _ _ (field (.ref it) 0 >>= _) _ _ s;refine Qaa (Qbs ho hd (x:=.ref l) rfl ?_);show wpAny _ _ (if (Value.ref l == Value.none)=true then _ else _) _ _ s;rw [Qax (show ¬((Value.ref l == Value.none)=true) from Qa3)];show wpAny _ _ (field (.ref it) 1 >>= _) _ _ s;refine Qaa (Qbs ho hd (x:=.int i 0) rfl ?_);show wpAny _ _ (seqItems? (.ref l) >>= _) _ _ s;refine Qaa (Qcb q C ?_);simp only [Qa9,hx];refine Qaa (Qeb ho hd (by simp) (Qan ⟨x,rfl,Qan (D _ ⟨_,Qcx _ ho (Qej (Qc4 hd _)),(Qgs ..).trans hc,?_⟩ (Qda ..))⟩));rw [Qc4 hd];simp [rawInt]
theorem next_no{it l:Addr}{items:_}(hh:A.handled=none)(g:s.heap.IsTupleIter it l i)(hl:s.heap.IsTuple l items)(hx:items[i]?=none)
  (D:∀h' e,Heap.ExtBut it s.heap h'->(∃o,h'.get? e=some o/\o.cls=.type "StopIteration")->E (.ref e) { s with heap:=h' }):wpAny (model prog w) A (Builtin.SmallTypes.nextOf (.ref it)) Q E s:=by
 obtain ⟨o,ho,hc,hd⟩:=id g;obtain ⟨G,q,_,I,C⟩:=hl;unfold Builtin.SmallTypes.nextOf;refine Qaa (wpAny_callSpecial?_slot (name:=Str.ofString "__next__") g.typeIs Qdp (Qb4 Qdp g.typeIs Qgd ?_ (Qf4 _)));show wpAny _ _ (field (.ref it) 0 >>= _) _ _ s;refine Qaa (Qbs ho hd (x:=.ref l) rfl ?_);show wpAny _ _ (if (Value.ref l == Value.none)=true then _ else _) _ _ s;rw [Qax (show ¬((Value.ref l == Value.none)=true) from Qa3)];show wpAny _ _ (field (.ref it) 1 >>= _) _ _ s;refine Qaa (Qbs ho hd (x:=.int i 0) rfl ?_);show wpAny _ _ (seqItems? (.ref l) >>= _) _ _ s;refine Qaa (Qcb q C ?_);simp only [Qa9,hx];refine Qaa (Qdx (Qaa (Qeb ho hd (by simp) ?_)));show wpAny _ _ (newExc (.type "StopIteration") [] >>= _) _ _ _;refine Qaa ?_;simp only [newExc,newTuple];refine Qaa (Qcg ?_ (by size_fits));refine Qaa (m:=firstArgMember _ _) (Qcl (a:=Value.none) (by first | rfl | (simp only [firstArgMember];rfl)) ?_);refine Qcg ?_ (by size_fits);simp only [raiseNew];refine Qaa (wpAny_handled ?_)
 first | rw [show A.in1.handled=none from hh] | rw [hh]
 refine Qaa (Qan (wpAny_throw ?_));exact D _ _ (((Qda ..).extBut.push _).push _) ⟨_,Qaz _ rfl,rfl⟩
theorem yW{e it l:Addr}{items:Array Value}{x:Value}
  (he:IsEnum s.heap e it i u) (hit:s.heap.IsTupleIter it l i) (hl:s.heap.IsTuple l items) (hx:items[i]?=some x) (hne:e≠it)
  (hQ:∀h',IsEnumOut h' e it ((i:Int) + 1) x s.heap.objs.size->h'.IsTupleIter it l (i + 1) ->
   h'.get? s.heap.objs.size=some { cls:=.type "tuple",data:=.seq #[.int i s.toks,x] }->h'.objs.size=s.heap.objs.size + 1 ->
   (∀b o,b≠e->b≠it->s.heap.get? b=some o->h'.get? b=some o)->Q (.ref s.heap.objs.size) { s with heap:=h',toks:=s.toks + 1 }) :
  wpAny (model prog w) A (Builtin.«enumerate.__next__» ⟨[.ref e],[]⟩) (fun fin s'=>∃v,fin=.done (.ret v)/\Q v s') E s:=by
 obtain ⟨hp,g,d,tk,os⟩:=s;show wpAny _ _ (field (.ref e) 2 >>= _) _ _ _;refine Qaa (Qbs he rfl (x:=.ref it) rfl ?_);refine Qaa (next_of hit hl hx fun L hit₁ I=>?_)
 replace I:Heap.SameBut it hp L:=I
 have S:IsEnum L e it i u:=(I.2 e hne).trans he;show wpAny _ _ (field (.ref e) 3 >>= _) _ _ ⟨L,g,d,tk,os⟩;refine Qaa (Qbs S rfl (x:=rawInt i) rfl ?_);show wpAny _ _ (field (.ref e) 4 >>= _) _ _ ⟨L,g,d,tk,os⟩;refine Qaa (Qbs S rfl (x:=.none) rfl ?_);show wpAny _ _ (mkInt i >>= _) _ _ ⟨L,g,d,tk,os⟩;refine Qaa (Qfj ?_);show wpAny _ _ (setField (.ref e) 3 (rawInt ((i:Int) + 1)) >>= _) _ _ ⟨L,g,d,tk + 1,os⟩;refine Qaa (Qbq S (by simp) fun Z Y q=>?_)
 replace q:Heap.SameBut e L Z:=q
 replace Y:IsEnum Z e it ((i:Int) + 1) u:=Y
 show wpAny _ _ (setField (.ref e) 4 .none >>= _) _ _ ⟨Z,g,d,tk + 1,os⟩;refine Qaa (Qbq Y (by simp) fun M O J=>?_)
 replace J:Heap.SameBut e Z M:=J
 replace O:IsEnum M e it ((i:Int) + 1) u:=O
 show wpAny _ _ (newTuple [.int i tk,x] >>= _) _ _ ⟨M,g,d,tk + 1,os⟩;refine Qaa (Qgq ?_);have R:IsEnum (M.push { cls:=.type "tuple",data:=.seq #[.int i tk,x] }) e it ((i:Int) + 1) u:=Qae _ O;generalize hh₄:M.push { cls:=.type "tuple",data:=.seq #[.int i tk,x] }=N at R;have hsz:M.objs.size=hp.objs.size:=by rw [J.1,q.1,I.1]
 have hel:e < hp.objs.size:=Qav he;have ht₄:N.get? hp.objs.size=some { cls:=.type "tuple",data:=.seq #[.int i tk,x] }:=by rw [<-hh₄,<-hsz];exact Qaz _ rfl
 have hz₄:N.objs.size=hp.objs.size + 1:=by rw [<-hh₄,Qca,hsz]
 have hk₄:∀b o,b≠e->b≠it->hp.get? b=some o->N.get? b=some o:=fun b o hbe hbi hb=>by
  rw [<-hh₄];exact Qae _ (J.extBut b o hbe (q.extBut b o hbe (I.extBut b o hbi hb)))
 have hit₄:N.IsTupleIter it l (i + 1):=by
  rw [<-hh₄];obtain ⟨o,ho,r⟩:=(hit₁.extBut q.extBut (Qdk hne)).extBut J.extBut (Qdk hne);exact ⟨o,Qae _ ho,r⟩
 show wpAny _ _ (Builtin.SmallTypes.ownedTupleIsFree (.ref e) >>= _) _ _ ⟨N,g,d,tk + 1,os⟩;rw [hsz];clear hh₄ O J Y q S I hit₁ hsz M Z L;refine Qaa ?_
 ·unfold Builtin.SmallTypes.ownedTupleIsFree
  refine Qaa (Qbs R rfl (x:=.none) rfl (Qan ?_));simp only [Qf9];refine Qaa (Qdx ?_);refine Qaa (Qbs R rfl (x:=u) rfl ?_);refine Qaa (Qbq R (by simp) fun h₅ he₅ C=>?_)
  replace C:Heap.SameBut e N h₅:=C
  replace he₅:IsEnum h₅ e it ((i:Int) + 1) x:=he₅
  show wpAny _ _ (Builtin.SmallTypes.ownedTupleHandOut (.ref e) (.ref hp.objs.size) >>= _) _ _ ⟨h₅,g,d,tk + 1,os⟩;refine Qaa ?_
  ·unfold Builtin.SmallTypes.ownedTupleHandOut
   refine Qaa (Qbq he₅ (by simp) fun h₆ he₆ G=>?_)
   replace G:Heap.SameBut e h₅ h₆:=G
   replace he₆:IsEnumOut h₆ e it ((i:Int) + 1) x hp.objs.size:=he₆
   refine Qbq he₆ (by simp) fun h₇ he₇ D=>?_
   replace D:Heap.SameBut e h₆ h₇:=D
   replace he₇:IsEnumOut h₇ e it ((i:Int) + 1) x hp.objs.size:=he₇
   refine Qaa (Qel (Qan ⟨_,rfl,hQ h₇ he₇ ?_ ?_ ?_ ?_⟩))
   ·exact ((hit₄.extBut C.extBut (Qdk hne)).extBut G.extBut (Qdk hne)).extBut D.extBut (Qdk hne)
   ·exact D.extBut _ _ (Qdr hel) (G.extBut _ _ (Qdr hel) (C.extBut _ _ (Qdr hel) ht₄))
   ·rw [D.1,G.1,C.1,hz₄]
   ·exact fun b o hbe hbi hb=>D.extBut b o hbe (G.extBut b o hbe (C.extBut b o hbe (hk₄ b o hbe hbi hb)))
theorem next_item{e it l:Addr}{items:Array Value}{x:Value}{Q:Option Value->Shared->Prop}
  (he:IsEnum s.heap e it i u) (g:s.heap.IsTupleIter it l i) (hl:s.heap.IsTuple l items) (hx:items[i]?=some x) (q:e≠it)
  (D:∀h',IsEnumOut h' e it ((i:Int) + 1) x s.heap.objs.size->h'.IsTupleIter it l (i + 1) ->
   h'.get? s.heap.objs.size=some { cls:=.type "tuple",data:=.seq #[.int i s.toks,x] }->h'.objs.size=s.heap.objs.size + 1 ->
   (∀b o,b≠e->b≠it->s.heap.get? b=some o->h'.get? b=some o)->Q (some (.ref s.heap.objs.size)) { s with heap:=h',toks:=s.toks + 1 }) :
  wpAny (model prog w) A (pyNext (.ref e)) Q E s:=by
 have C:s.TypeIs (.ref e) "enumerate" := ⟨_,he,rfl⟩;unfold pyNext;exact Qaa (Qdt (wpAny_callSpecial?_slot (name:=Str.ofString "__next__") C Qcm (Qb4 Qcm C Qed
   (yW he g hl hx q fun h' a b c d k=>Qan (D h' a b c d k)) (Qd8 _))))
theorem next_end{e it l:Addr}{items:Array Value}{Q:Option Value->Shared->Prop}(hh:A.handled=none)
  (he:IsEnum s.heap e it i u) (g:s.heap.IsTupleIter it l i) (hl:s.heap.IsTuple l items) (hx:items[i]?=none)
  (G:∀h',Heap.ExtBut it s.heap h'->Q none { s with heap:=h' }):wpAny (model prog w) A (pyNext (.ref e)) Q E s:=by
 have D:s.TypeIs (.ref e) "enumerate" := ⟨_,he,rfl⟩;unfold pyNext;refine Qaa (Qdt (wpAny_callSpecial?_slot (name:=Str.ofString "__next__") D Qcm (Qb4 Qcm D Qed ?_ (Qd8 _))));show wpAny _ _ (field (.ref e) 2 >>= _) _ _ _;refine Qaa (Qbs he rfl (x:=.ref it) rfl ?_);refine Qaa (next_no hh g hl hx fun h' x q C=>?_);obtain ⟨o,ho,hc⟩:=C;refine Qaa (Qdq (T := "StopIteration") (b:=true) ⟨o,ho,hc⟩ Qgp ?_);exact Qan (G _ q)
theorem call_new{l:Addr}{items:Array Value}(hl:s.heap.IsTuple l items)
  (h:∀h',IsEnum h' (s.heap.objs.size + 1) s.heap.objs.size 0 .none->h'.IsTupleIter s.heap.objs.size l 0->h'.objs.size=s.heap.objs.size + 2 ->
   (∀b o,s.heap.get? b=some o->h'.get? b=some o)->Q (.ref (s.heap.objs.size + 1)) { s with heap:=h' }):wpAny (model prog w) A (call (.type "enumerate") [.ref l]) Q E s:=by
 refine Qg5 F.called_enumerate (by decide) (F.typeCall_enumerate_1 _) (F.newCall_enumerate_1 _) (fun q=>Qfw q _) F.entry_enumerate_new (XF l items) ⟨hl,?_⟩;have g:(s.heap.push (tIt l)).objs.size=s.heap.objs.size + 1:=Qca ..;show _/\_;rw [g];have he:IsEnum ((s.heap.push (tIt l)).push (enO s.heap.objs.size)) (s.heap.objs.size + 1) s.heap.objs.size 0 .none:=by
  have:=Qaz (s.heap.push (tIt l)) (o:=enO s.heap.objs.size) rfl;rw [g] at this;exact this
 refine ⟨⟨_,he,rfl⟩,h _ he ⟨_,Qae _ (Qaz _ rfl),rfl,rfl⟩ (by rw [Qca,g]) fun b o x=>Qae _ (Qae _ x)⟩
end
end EnT
namespace L2
open PySem PySem.Spec PyProof.Rows
theorem J3{X:Cx}{pins:List (Addr × Obj)}{σ:St}{h':Heap}{t':Nat}(I:Inv X pins σ H s)(hf:∀b∈L,xY X pins H b)(k:∀b o,b∉L->s.heap.get? b=some o->h'.get? b=some o):Inv X pins σ H { s with heap:=h',toks:=t' }:=by
 have g:∀b u,H b=some u->b∉L:=fun b u e z=>by rw [(hf b z).1] at e;cases e
 refine I.step (g':=s.gens) (d':=s.drawn) (ch:=L) (fun b hb=>⟨(hf b hb).2.2.2.1,(hf b hb).2.1,(hf b hb).2.2.2.2.1,(hf b hb).2.2.2.2.2⟩) (fun b o _ _ hc e _=>k b o hc e) (fun b o _ _ hc e _=>⟨o.slots,k b o hc e⟩) (fun _ _ _ _ n=>n)
  (fun b o hc e=>⟨o,k b o hc e⟩) (fun _ _ e=>e) (fun _ _ _ e=>e) (fun b ps e=>⟨#[],by rw [e];simp⟩) (fun m hm=>?_) (fun b u e=>?_) I.bare
 ·obtain ⟨o,es,ep,ho,r⟩:=hm
  exact ⟨o,es,ep,k _ o (fun z=>(hf _ z).2.1 rfl) ho,r⟩
 ·refine (I.hok b u e).stay (fun c v hc q=>k c v ?_ q) (fun _ q=>q) fun _ _ q=>q
  rcases hc with z | z
  ·rw [z]
   exact g b u e
  ·exact g c _ z
def Ite(K:PySem.W.Frag)(a:Addr)(n:Nat):It :=
 ⟨fun i H=>∃xs x,SqT K H a xs/\xs.length=n/\xs[i]?=some x,fun i H v H'=>∃p,H p=none/\v=.ref p/\∀xs x,SqT K H a xs->xs[i]?=some x->H'=upd H p (.tup [.int i,x]),fun i H=>∃xs,SqT K H a xs/\xs.length=n/\n<=i⟩
theorem uU{P:Program}{q:Nat}{ps:Pos}(a e it:Addr)(n:Nat)(R:e≠it):Turn P w K (.Tuple C q ps) (Ite K a n) [e,it] e (fun i h=>(∃D,IsEnum h e it i D)/\h.IsTupleIter it a i) where
 mem:=by simp
 obj:=fun i h st b hb=>by
  obtain ⟨⟨D,he⟩,o,ho,hc,hd⟩:=st;rcases Qas.mp hb with rfl | hb
  ·exact ⟨_,he,fun v z=>by
    have z':Data.fields _=Data.cell v:=z;cases z'⟩
  ·have:b=it:=by simpa using hb
   subst this;exact ⟨o,ho,fun v z=>by rw [hd] at z;cases z⟩
 keep:=fun i h h' st k=>by
  obtain ⟨⟨D,he⟩,g⟩:=st;exact ⟨⟨D,k e (by simp) _ he⟩,g.at fun o x=>k it (by simp) o x⟩
 item:=by
  intro X hP hw hK hc i pins s σ H E I hf st hg;subst hP hw hK;obtain ⟨xs,x,Y,hn,hx⟩:=hg;obtain ⟨L,rv,p,hz⟩:=I.tuple Y;obtain ⟨u,hu,ru⟩:=rv.get hx;obtain ⟨⟨D,he⟩,g⟩:=st;obtain ⟨f0,f1,f2,f3,f4,f5⟩:=hf e (by simp);obtain ⟨g0,g1,g2,g3,g4,g5⟩:=hf it (by simp);have hlt:e < s.heap.objs.size:=Qav he;have M:it < s.heap.objs.size:=by obtain ⟨_,z,_⟩:=g;exact Qav z
  refine EnT.next_item he g (show s.heap.IsTuple a L.toArray from p) (x:=u) (by simpa using hu) R fun h' ho S hT hsz hk=>?_;refine ⟨_,rfl,wpAny_letOwnedTupleGo_enum (s:={ s with heap:=h',toks:=s.toks + 1 }) ho fun h2 he2 Z=>?_⟩;have G:Heap.SameBut e h' h2:=Z;have I1:Inv X pins σ (upd H s.heap.objs.size (.tup [.int i,x])) { s with heap:=s.heap.push { cls:=.type "tuple",data:=.seq #[.int i s.toks,u] },toks:=s.toks + 1 } :=
   I.laid (fun b o y=>Qae _ y) (Qai _) ⟨by show 2<=sizeLine;decide,[.int i s.toks,u],.cons ⟨_,rfl⟩ (.cons ru .nil),Qg2 _ _⟩
  have O:∀b∈[e,it],xY X pins (upd H s.heap.objs.size (.tup [.int i,x])) b:=fun b hb=>by
   have hlb:b≠s.heap.objs.size:=by
    rcases Qas.mp hb with rfl | hb
    ·exact Qbt hlt
    ·have:b=it:=by simpa using hb
     rw [this];exact Qbt M
   obtain ⟨a0,ar⟩:=hf b hb;exact ⟨by rw [Zp hlb];exact a0,ar⟩
  have I2:Inv X pins σ (upd H s.heap.objs.size (.tup [.int i,x])) { s with heap:=h2,toks:=s.toks + 1 }:=by
   refine J3 (s:={ s with heap:=s.heap.push { cls:=.type "tuple",data:=.seq #[.int i s.toks,u] },toks:=s.toks + 1 }) I1 O fun b o hb y=>?_;have J:b≠e:=fun z=>hb (by simp [z]);have hbi:b≠it:=fun z=>hb (by simp [z]);rcases Qfx y with ⟨rfl,rfl⟩ | y
   ·exact (G.2 _ J).trans hT
   ·exact (G.2 b J).trans (hk b o J hbi y)
  refine ⟨.ref s.heap.objs.size,_,I2,rfl,⟨_,I.hok.fresh (Qai _),rfl,fun ys y hy N=>?_⟩,⟨⟨u,?_⟩,S.at fun o y=>(G.2 it R.symm).trans y⟩,fun b hb=>(O b hb).1⟩
  ·rw [I.tuple_inj hy Y,hx] at N
   cases N
   rfl
  ·have e1:((i + 1:Nat):Int)=(i:Int) + 1:=by lia
   show IsEnum h2 e it ((i + 1:Nat):Int) u;rw [e1];exact he2
 done:=by
  intro X hP hw hK hc i pins s σ H E I hf st hg;subst hP hw hK;obtain ⟨xs,Y,hn,hx⟩:=hg;obtain ⟨L,rv,p,hz⟩:=I.tuple Y;obtain ⟨⟨D,he⟩,g⟩:=st;obtain ⟨g0,g1,g2,g3,g4,g5⟩:=hf it (by simp);have hl:=rv.length;exact EnT.next_end (I.ok.hd hc) he g (show s.heap.IsTuple a L.toArray from p) (by simp;lia) fun h' eb=>⟨rfl,I.turned (t':=s.toks) (fun b o hb e=>eb b o hb e) g0 g1 g3 g4 g5⟩
 self:=fun _ _ _ _ _ st h=>let ⟨⟨_,he⟩,_⟩:=st;Qfk he h
def iEnum(K:PySem.W.Frag)(te:TE):TI:=fun σ H R=>te σ H fun x H1=>∃a xs,x=.ref a/\SqT K H1 a xs/\R (Ite K a xs.length) H1
theorem qy:bootBuiltins "enumerate" = some (.type "enumerate"):=by decide +kernel
theorem Zc6 {X:Cx}    {ps:Pos}   (hg:Gl X "enumerate") (hm:X.mg "enumerate" = none) (he:QE X e A) (hp:Y2 e=true:=by rfl):QI X (.Tuple C i ps) (.Call (.Name "enumerate" p) [e] [] E) (iEnum X.K A):=by
 refine ⟨fun pins s σ H R I h=>?_⟩;have hs:starEach [e] X.env=[(false,eval e X.env)]:=by rw [Zz hp];rfl
 refine Call_ (Gn I hg hm qy (Qck ?_ hs rfl));rw [hs];show wpAny _ _ (spliced ((false,eval e X.env)::[])) _ _ s;refine Qci (thn (he.out pins s σ H _ I h) fun u g ⟨x,H1,q,O,L⟩=>?_);refine Qdn ?_;obtain ⟨a,xs,rfl,N,r⟩:=L;cases O;obtain ⟨J,S,pt,Y⟩:=q.tuple N;refine EnT.call_new (show g.heap.IsTuple a J.toArray from pt) fun h' D G hsz hk=>?_;have M:Inv X pins σ H1 { g with heap:=h' }:=q.kept (t':=g.toks) hk;refine Qfk D ⟨g.heap.objs.size + 1,[g.heap.objs.size + 1,g.heap.objs.size],_,_,H1,rfl,M,uU a (g.heap.objs.size + 1) g.heap.objs.size xs.length (Nat.succ_ne_self _),⟨⟨_,D⟩,G⟩,fun b hb=>?_,r⟩;rcases Qas.mp hb with rfl | hb
 ·exact q.fpOk (Qeg _) (q.hok.fresh (Qeg _))
 ·have:b=g.heap.objs.size:=by simpa using hb
  subst this;exact q.fpOk (Qai _) (q.hok.fresh (Qai _))
theorem GP{X:Cx}{y:Str}{pos:Pos}{k:Nat}{g t2:TG}(hc:X.calm=true)(h1:QG X (.Name x p) g)(h2:QG X (.Name y E) t2):QG X (.Tuple [.Name x p,.Name y E] k pos) (Zis X.K 2 (je g (je t2 Zir))) :=
 ⟨Zej hc (qR h1.out (qR h2.out gI))⟩
theorem Zc7{xs:List V}{j k:Nat}(g:Nat->St->Hp->Prop)(J:g 0 c H)(hl:∀i c H,i<=xs.length->g i c H->SqT K H a xs)
  (hs:∀i x c H p,xs[i]?=some x->H p=none->g i c H->Z { M with nx:=g (i + 1),ct:=g (i + 1),bk:=M.nx } ((c.set j (some (.int i))).set k (some x)) (upd H p (.tup [.int i,x]))) (hd:∀c H,g xs.length c H->M.nx c H) :
  ∃W:Nat->Nat->St->Hp->Prop,(∃m,W 0 m c H)/\∀i m c H,W i m c H ->
   ((Ite K a xs.length).stop i H/\M.nx c H)\/((Ite K a xs.length).go i H/\∃N:St->Hp->Prop,(∀q H',N q H'->∃G,G < m/\W (i + 1) G q H')/\∀x H',(Ite K a xs.length).yld i H x H'->(Zis K 2 (je (JS j) (je (JS k) Zir))) x c H' fun D H2=>Z { M with nx:=N,ct:=N,bk:=M.nx } D H2):=by
 refine ⟨fun i m c H=>m=xs.length - i/\i<=xs.length/\g i c H,⟨xs.length,by simp,Qbp _,J⟩,?_⟩;rintro i m c H ⟨rfl,hi,p⟩;have E:=hl i c H hi p
 by_cases C:i < xs.length
 ·have hx:=Qab C
  refine .inr ⟨⟨xs,xs[i],E,rfl,hx⟩,g (i + 1),fun q H' I=>⟨xs.length - (i + 1),by lia,rfl,C,I⟩,fun v H' y=>?_⟩;obtain ⟨t,L,rfl,y⟩:=y;have e:=y xs _ E hx;subst e;exact ⟨t,_,rfl,SqT.of Zc,rfl,_,_,rfl,_,_,rfl,rfl,hs i _ c H t hx L p⟩
 ·have e:i=xs.length:=by lia
  exact .inl ⟨⟨xs,E,rfl,by lia⟩,by rw [e] at p;exact hd c H p⟩
section
variable {X:Cx}
theorem uV{i:Expr}{ty:TE}(hu:X.A.units + 1 < cLine)(ho:QE X o I)(hi:QE X i ty)(hs:Zjw i):QE X (.Subscript o i p) (Zi6 I ty):=⟨Zgq hu ho.out hi.out hs⟩
theorem uW:QE X (.Dict [] [] p) Ze8:=⟨Zc4⟩
theorem yX{i:Expr}{ty tv:TE}(hu:X.A.units + 1 < cLine)(ho:QE X o I)(hi:QE X i ty)(hv:QE X e tv)(hs:swapsWith e (some (.Subscript o i E)) p.line X.env=pure false) :
  QS X (.Assign [.Subscript o i E] e p) (Zi7 I ty tv):=⟨Zgr hu ho.out hi.out hv.out hs⟩
inductive Ze9(neg:Bool)(y:V)(x:V)(H:Hp)(Q:VK):Prop
 | mk (a o:_):(x=.ref a)->(Zgo H a y o)->(Q (.bl (if neg then !o.isSome else o.isSome)) H)->Ze9 neg y x H Q
def rDIn(neg:Bool):R2:=fun y x H Q=>Ze9 neg y x H Q
theorem wM(hu:X.A.units + 1 < cLine):OpR X (compareOp .In) (rDIn false):=by
 intro pins s σ H x y v u Q I C E h;obtain ⟨a,o,rfl,g,q⟩:=h;cases E;exact d_in hu I g C fun s' D=>⟨.bl o.isSome,H,D,rfl,q⟩
theorem Gw(hu:X.A.units + 1 < cLine):OpR X (compareOp .NotIn) (rDIn true):=by
 intro pins s σ H x y v u Q I C E h;obtain ⟨a,o,rfl,g,q⟩:=h;cases E;exact Zgp hu I g C fun s' D=>⟨.bl (!o.isSome),H,D,rfl,q⟩
theorem jo{κ:Type}[DecidableEq κ]:∀{kvs:List (κ × V)},(kvs.map (·.1)).Nodup->∀p∈kvs,YX kvs p.1=some p.2
 | [],_,_,h=>nomatch h
 | q::r,g,p,h=>by
  rw [Qa7,Qb3] at g;rcases Qas.mp h with rfl | h
  ·exact YF rfl
  ·have C:¬q.1=p.1:=fun z=>g.1 (by rw [z];exact Qbw h)
   rw [YG C];exact jo g.2 p h
theorem Gx{x:V}(h:XX x=true):eqV x x=true:=by
 cases x <;> first
  | exact Qb0 _
  | rfl
  | cases h
end
inductive KTab(P:Params):List DictEntry->List (Str × Int)->Prop
 | nil:KTab P [] []
 | cons {k:Str} {v:Int} {t u:Tok} {es:List DictEntry} {l:List (Str × Int)}:KTab P es l->KTab P ({ hash:=PyData.keyHash P k,key:=.str k t,val:=.int v u }::es) ((k,v)::l)
structure KD(K:PySem.W.Frag)(w:World)(a:Addr)(l:List (Str × Int)):Prop where
 ex:∃es ep,K.lookup a=some { cls:=.type "dict",dict:=none,data:=.dict es ep,slots:=#[] }/\KTab w.params es.toList l
 nd:(l.map (·.1)).Nodup
 ns:(a == sysModules)=false
def kvsOf(l:List (Str × Int)):List (Key × V):=l.map fun p=>((Sum.inr p.1:Key),V.int p.2)
theorem KTab.pairs{P:Program}{es:List DictEntry}{l:List (Str × Int)}(h:KTab w.params es l):(∃vs,KV (kvsOf l) vs/\Pairs (Yz P w) es vs)/\∀e∈es,∃k,(Yz P w).is k e.key=true/\e.hash=(Yz P w).hash k:=by
 induction h with
 | nil=>exact ⟨⟨[],.nil,.nil⟩,fun _ h=>nomatch h⟩
 | @cons k v t u es l _ g =>
  obtain ⟨⟨vs,r,p⟩,q⟩:=g;refine ⟨⟨(.inr k,.int v u)::vs,.cons ⟨rfl,⟨u,rfl⟩⟩ r,.cons (JR P w k t) rfl p⟩,fun e he=>?_⟩;rcases Qas.mp he with rfl | he
  ·exact ⟨.inr k,JR P w k t,rfl⟩
  ·exact q e he
section
variable {X:Cx}{pins:List (Addr × Obj)}{σ:St}{H:Hp}{s:Shared}{a:Addr}{l:List (Str × Int)}{k:Key}{u:Value}{A:Around}{E:Value->Shared->Prop}
theorem KD.of(I:Inv X pins σ H s)(d:KD X.K X.w a l):∃vs,KV (kvsOf l) vs/\s.heap.DictOf (Yz X.prog X.w) a vs:=by
 obtain ⟨es,ep,hk,t⟩:=d.ex;obtain ⟨⟨vs,r,p⟩,q⟩:=t.pairs (P:=X.prog);refine ⟨vs,r,_,es,ep,I.kIn a _ hk,⟨rfl,rfl,rfl⟩,rfl,fun e he=>q e (by simpa using he),p,?_⟩;rw [<-r.keys];unfold kvsOf;rw [Qbj];have:=d.nd;rw [List.nodup_iff_pairwise_ne] at *;rw [Qfl] at *;exact this.imp fun h z=>h (Sum.inr.inj z)
theorem Zgu{z:V}{r:Value}(I:Inv X pins σ H s)(d:KD X.K X.w a l)(C:RelV (kV k) u)(D:RelV z r)(h:∀q s',Inv X pins σ H s'->RelV ((YX (kvsOf l) k).getD z) q->Q q s') :
  wpAny (model X.prog X.w) A (call (.builtin "dict.get") [.ref a,u,r]) Q E s:=by
 obtain ⟨vs,g,dd⟩:=d.of I;exact call_meetsIn PySem.F.slot_dict_get dd.typeIs PySem.F.entry_dict_get (PySem.F.args_dict_get_3 _ _ _) (meets_dict_get_default (Yz X.prog X.w) a (yU C) d.ns r) ⟨_,dd.mapOf,h _ _ (I.tok _) ((g.val k).getD D)⟩
end
section
variable {X:Cx}
def tKGet(K:PySem.W.Frag)(w:World)(td ty tx:TE):TE:=fun σ H Q=>td σ H fun x H1=>∃a l,x=.ref a/\KD K w a l/\ty σ H1 fun y H2=>tx σ H2 fun z g=>∃k,y=kV k/\Q ((YX (kvsOf l) k).getD z) g
theorem m2_of{f:Expr}{m:Str}(he:Y2 e=true)(hf:Y2 f=true)(hb:attributeBase o m X.env (eval o X.env)=eval o X.env)(hl:(p.endLine == E.line)=true):M2 X o m p e f E where
 base:=hb
 few:=by
  rw [all_plain (by rw [Qcj,he,Qcj,hf];rfl)]
  rfl
 line:=hl
 trees:=by
  rw [Zz he,Zz hf]
  rfl
theorem yY {f:Expr}  {tx:TE} (ho:QE X o A) (he:QE X e I) (hf:QE X f tx) (h1:Y2 e=true:=by rfl) (h2:Y2 f=true:=by rfl) (hb:attributeBase o "get" X.env (eval o X.env)=eval o X.env:=by rfl) (hl:(p.endLine == E.line)=true:=by rfl) :
  QE X (.Call (.Attribute o "get" p) [e,f] [] E) (tKGet X.K X.w A I tx):=by
 have m:=m2_of (X:=X) (m := "get") (o:=o) h1 h2 hb hl;refine ⟨fun pins s σ H Q g h=>?_⟩;refine wpAny_Call_method m.base m.few m.line PySem.F.plainAttrs_dict PySem.F.slot_dict_get PySem.F.type_dict_get (thn (ho.out pins s σ H _ g h) fun u s1 ⟨x,H1,D,Z,a,l,ex,d,O⟩=>?_);subst ex;obtain rfl:u=Value.ref a:=Z;obtain ⟨vs,rel,dd⟩:=d.of D;refine ⟨dd.typeIs,fun b q=>?_,?_⟩
 ·cases q
  obtain ⟨ob,_,_,M,N,_⟩:=dd;exact ⟨ob,M,N.2.1⟩
 rw [m.trees];refine Qec rfl (Qfu (Qci (thn (he.out pins s1 σ H1 _ D O) fun iv G ⟨y,H2,Y,ry,R⟩=>Qci (thn (hf.out pins G σ H2 _ Y R) fun fv s3 ⟨z,H3,L,J,k,ey,q3⟩=>Qdn ?_))));subst ey;exact Zgu L d ry J fun w' s4 S C=>⟨_,H3,S,C,q3⟩
end
def Zck:List V->List V->Bool
 | [],[]=>true
 | x::xs,y::ys=>eqV x y && Zck xs ys
 | _,_=>false
def eqJ(xs ys:List V)(j:Nat):Bool:=match xs[j]?,ys[j]? with
 | some a,some b=>eqV a b
 | _,_=>true
theorem zE:∀xs ys:List V,((List.range (min xs.length ys.length)).all (eqJ xs ys) && xs.length == ys.length)=Zck xs ys
 | [],[]=>rfl
 | [],y::ys=>by simp [Zck]
 | x::xs,[]=>by simp [Zck]
 | x::xs,y::ys=>by
  have g:=zE xs ys;have e1:min (x::xs).length (y::ys).length=min xs.length ys.length + 1:=by
   simp only [Qbc];lia
  have e2:((x::xs).length == (y::ys).length)=(xs.length == ys.length):=by simp
  rw [e1,e2,List.range_succ_eq_map,Qcj,List.all_map,Bool.and_assoc];show (eqV x y && ((List.range (min xs.length ys.length)).all (eqJ xs ys) && xs.length == ys.length))=(eqV x y && Zck xs ys);rw [g]
theorem uX{xs:List V}(f:xs.all XX=true):Zck xs xs=true:=by
 induction xs with
 | nil=>rfl
 | cons x xs g =>
  rw [Qcj,Qbv] at f;show (eqV x x && Zck xs xs)=true;rw [Gx f.1,g f.2]
  rfl
section
variable {X:Cx}
end
section
variable {prog:Program}{w:World}{A:Around}{E:Value->Shared->Prop}{s:Shared}
end
section
variable {prog:Program}{w:World}{A:Around}{R:Result->Shared->Prop}{I:Addr}{fp wr:List Addr}{G:Array GenState->Array GenState->Prop}{n:Nat}{P:Nat->Value->Prop}{St:Nat->Shared->Prop}
end
section
variable {prog:Program}{w:World}{A:Around}{E:Value->Shared->Prop}{s:Shared}
end
section
variable {X:Cx}
end
section
variable {prog:Program}{w:World}{A:Around}{E:Value->Shared->Prop}{s:Shared}
end
section
variable {X:Cx}
end
abbrev XI(o:Obj):HO:=.frz o (.ext fun _=>True)
theorem JV{P:Program}{o:Obj}(e:h.get? a=some o):YO P w H h a (XI o):=⟨e,trivial,⟨o,e⟩,fun _ _ _ _=>trivial⟩
def hide(cs:List Addr)(H:Hp):Hp:=fun b=>if b∈cs then none else H b
def Wv(cs:List Addr)(H H':Hp):Hp:=fun b=>if b∈cs then H b else H' b
theorem YA{b:Addr}(h:b∈L):hide L H b=none:=Qa4 h
theorem ZP{b:Addr}(h:b∉L):hide L H b=H b:=Qax h
theorem XJ{H':Hp}{b:Addr}(h:b∈L):Wv L H H' b=H b:=Qa4 h
theorem Yc{H':Hp}{b:Addr}(h:b∉L):Wv L H H' b=H' b:=Qax h
theorem of_hide{b:Addr}{o:HO}(h:hide L H b=some o):b∉L/\H b=some o:=by
 by_cases m:b∈L
 ·rw [YA m] at h;cases h
 ·rw [ZP m] at h;exact ⟨m,h⟩
def GQ(H H1:Hp):Prop:=∀b o u,H b=some (.frz o u)->H1 b=some (.frz o u)
theorem GQ.refl(H:Hp):GQ H H:=fun _ _ _ h=>h
theorem GQ.trans{H2:Hp}(a:GQ H B)(b:GQ B H2):GQ H H2:=fun c o u h=>b c o u (a c o u h)
theorem Yb.frz{H H1:Hp}(a:Yb H H1):GQ H H1:=fun b o u h=>a b _ h
def Xa(P:Program)(w:World)(K:PySem.W.Frag)(mg:Str->Option Value)(base:Heap)(k:Nat)(f:Addr)(H:Hp)(τ:Sp):Prop :=
 (∃o fd,H f=some (XI o)/\o.data=.func fd) /\
 ∀(A:Around) (outer:List Env) (s:Shared) (H1:Hp) (g:List Value) (vs:List V) (Q:VK) (E:XK),GQ H H1->JD k A->Zgc P w K mg base A outer s H1->Vals vs g->τ vs H1 Q E ->
  codeAny (model P w) A (.call (.ref f) ⟨g,[]⟩) (CR CX0 outer P w H1 s Q E) s
theorem Xa.frz{P:Program}{w:World}{K:PySem.W.Frag}{mg:Str->Option Value}{base:Heap}{k:Nat}{f:Addr}{H H1:Hp}{τ:Sp}(c:Xa P w K mg base k f H τ)(h:GQ H H1):Xa P w K mg base k f H1 τ :=
 ⟨let ⟨o,fd,e,d⟩:=c.1;⟨o,fd,h _ _ _ e,d⟩,fun A outer s H2 q vs Q E g=>c.2 A outer s H2 q vs Q E (h.trans g)⟩
section
variable {P:Program}{w:World}{H H':Hp}{h h':Heap}{cs:List Addr}
theorem jq(x:HOk P w H h)(g:∀c∈cs,∃o,H c=some (XI o)):HOk P w (hide cs H) h:=fun a o e=>by
 obtain ⟨_,C⟩:=of_hide e;refine (x a o C).stay (fun _ _ _ q=>q) (fun d q=>?_) fun d xs q=>?_
 ·by_cases m:d∈cs
  ·obtain ⟨ob,z⟩:=g d m
   rw [q] at z;cases z
  ·rw [ZP m];exact q
 ·by_cases m:d∈cs
  ·obtain ⟨ob,z⟩:=g d m
   rw [q] at z;cases z
  ·rw [ZP m];exact q
theorem yg(x:HOk P w H' h')(hn:∀c∈cs,H' c=none)(C:∀c∈cs,∃o,H c=some (XI o)/\h'.get? c=some o):HOk P w (Wv cs H H') h':=fun a o e=>by
 by_cases m:a∈cs
 ·rw [XJ m] at e
  obtain ⟨ob,z,g⟩:=C a m;rw [z] at e;cases e;exact JV g
 ·rw [Yc m] at e
  refine (x a o e).stay (fun _ _ _ q=>q) (fun d q=>?_) fun d xs q=>?_
  ·by_cases m:d∈cs
   ·rw [hn d m] at q;cases q
   ·rw [Yc m];exact q
  ·by_cases m:d∈cs
   ·rw [hn d m] at q;cases q
   ·rw [Yc m];exact q
end
structure Zi9(scope:Scope)(ps ys:List Str):Prop where
 kind:scope.kind=.function
 co:scope.isCoroutine=false
 gen:scope.isGenerator=false
 cell:∀y∈scope.names,y.2≠.cell
 par:∀p∈ps,scope.names.lookup p=some .local
 free:∀y∈ys,scope.names.lookup y=some .free
 nd:(ps++ys).Nodup
def cxL(P:Program)(w:World)(K:PySem.W.Frag)(mg:Str->Option Value)(base:Heap)(N:List Str)(qual:Str)(scope:Scope)(f:Addr)(g:Value)(cl:List (Str × Addr))(A:Around)(outer:List Env)(s:Shared)(H:Hp):Cx where
 prog:=P
 w:=w
 K:=K
 mg:=mg
 base:=base
 A:=A.deeper (PySem.W.envX qual scope s.heap.objs.size f g cl)
 N:=N
 s₀:=s
 H₀:=H
 env:=PySem.W.envX qual scope s.heap.objs.size f g cl
 outer:=outer
 stack:=PySem.W.envX qual scope s.heap.objs.size f g cl::outer
 ex:=[]
 calm:=true
 fn:=fun _=>false
 pn:=[]
 xe:=fun _ _=>False
def Zgv(n:Nat)(te:TE)(cs:List Addr)(g:List (Option V)):Sp:=fun vs H Q _=>vs.length=n/\te (vs.map some++g) (hide cs H) fun v H'=>(∀c∈cs,H' c=none)->Q v (Wv cs H H')
theorem zF{ps:List Str}(E:ps.Nodup)(h1:ps[i]?=some x)(h2:U[i]?=some u)(hl:ps.length=U.length):(ps.zip U).reverse.lookup x=some u:=by
 have hm:(x,u)∈ps.zip U:=by
  obtain ⟨a1,e1⟩:=Qac.mp h1;obtain ⟨a2,e2⟩:=Qac.mp h2;rw [<-e1,<-e2,<-Qex (h:=by rw [Qd0];lia)];exact Qb1 _
 have q:((ps.zip U).map (·.1)).Nodup:=by
  rw [List.map_fst_zip (by lia)];exact E
 have g:((ps.zip U).reverse.map (·.1)).Nodup:=by
  rw [List.map_reverse];unfold List.Nodup at q ⊢;rw [List.pairwise_reverse];exact q.imp fun h=>h.symm
 have hr:(x,u)∈(ps.zip U).reverse:=List.mem_reverse.mpr hm;generalize (ps.zip U).reverse=l at g hr
 induction l with
 | nil=>cases hr
 | cons p r G =>
  obtain ⟨n,v⟩:=p;rw [Qbo];rcases Qas.mp hr with e | C
  ·injection e with e1 e2
   subst e1;subst e2;simp
  ·have D:x≠n:=fun e=>by
    rw [Qa7,Qb3] at g;exact g.1 (by rw [<-e];exact Qbw (f:=(·.1)) C)
   have:(x == n)=false:=by simpa using D
   rw [this];rw [Qa7,Qb3] at g;exact G g.2 C
section
variable {P:Program}{w:World}{K:PySem.W.Frag}{mg:Str->Option Value}{base:Heap}
theorem yh{k:Nat}{name qual:Str}{params:Arguments}{body:Expr}{scope:Scope}{cl:List (Str × Addr)}{pm ctv:Value}{oc:Obj}{ps ys:List Str}{cv:List (Option V)}
  (S:Zi9 scope ps ys) (hf:H f=some (XI (PySem.W.kla_obj name qual params body scope cl pm T ctv))) (hc:H T=some (XI oc)) (hoc:∃vs t,oc.data=.fields vs/\vs[1]?=some (.str qual t))
  (hcl:∀x c,cl.lookup x=some c->c∈L) (hcs:∀c∈L,∃o v,H c=some (XI o)/\o.data=.cell v)
  (inj:∀x y c,cl.lookup x=some c->cl.lookup y=some c->x=y) (has:∀x,scope.names.lookup x=some .free->∃c,cl.lookup x=some c)
  (hcv:cv.length=ys.length) (hval:∀(i:Nat) (y:Str) (v:V),ys[i]?=some y->cv[i]?=some (some v)->∃c o u,cl.lookup y=some c/\H c=some (XI o)/\o.data=.cell (some u)/\RelV v u)
  (hb:∀Z:List Value,Z.length=ps.length->bindArgs (PySem.W.kla_fn name qual params body scope cl pm (.ref T) ctv) ⟨Z,[]⟩=pure (ps.zip Z))
  (hbody:∀(A:Around) (outer:List Env) (s:Shared) (H1:Hp),JD k (A.deeper (PySem.W.envX qual scope s.heap.objs.size f (.ref T) cl))->PE (cxL P w K mg base (ps++ys) qual scope f (.ref T) cl A outer s H1) body I) :
  Xa P w K mg base (k + 1) f H (Zgv ps.length I L cv):=by
 refine ⟨⟨_,_,hf,rfl⟩,?_⟩;intro A outer s H1 Z vs Q E fz hr C r ht;obtain ⟨hl,ht⟩:=ht;have gf:s.heap.get? f=some (PySem.W.kla_obj name qual params body scope cl pm T ctv):=(C.hok f _ (fz _ _ _ hf)).1;have G:∀c∈L,∃o v,H1 c=some (XI o)/\o.data=.cell v/\s.heap.get? c=some o:=fun c m=>by
  obtain ⟨o,v,e,d⟩:=hcs c m;exact ⟨o,v,fz _ _ _ e,d,(C.hok c _ (fz _ _ _ e)).1⟩
 have M:∀c∈L,∃o,H1 c=some (XI o):=fun c m=>let ⟨o,_,e,_⟩:=G c m;⟨o,e⟩;obtain ⟨vs0,t0,hd0,hv0⟩:=hoc;have lim:s.heap.NoLimit:=C.mod.nolimit.keeps fun b o e=>(C.bs b o e).1;have lus:Z.length=ps.length:=by rw [<-r.length];exact hl
 refine PySem.W.kla_callFunE hr.depth gf rfl S.co S.gen rfl ⟨T,oc,vs0,t0,rfl,(C.hok T _ (fz _ _ _ hc)).1,hd0,hv0⟩ ?_;rw [hb Z lus];refine Qan (Qfv S.cell (fun x hx=>S.par _ (Qe5 hx).1) (fun O hns hsb=>⟨lim.fresh _ hsb,?_⟩) S.kind);have N:∀b o,s.heap.get? b=some o->O.get? b=some o:=fun b o e=>hsb.extBut b o (Qbt (Qav e)) (Qae _ e);show codeAny _ _ (.expr body (PySem.W.envX qual scope s.heap.objs.size f (.ref T) cl)) _ _;have ndp:ps.Nodup:=(Qd1.mp S.nd).1;have zq12:Inv (cxL P w K mg base (ps++ys) qual scope f (.ref T) cl A outer s (hide L H1)) [] (vs.map some++cv) (hide L H1) { s with heap:=O,toks:=s.toks + (ps.zip Z).length }:=by
  have Y:∀b:Addr,b∉([]:List Addr):=fun b z=>nomatch z;refine ⟨⟨C.mod,S.kind,rfl,rfl,Qai _,inj,fun y R=>?_,(fun y c h=>by cases h),fun _=>hr.hd,Qft C.frames,.inr ⟨rfl,rfl⟩,fun b z=>absurd z (Y b),fun b o e=>⟨(C.bs b o e).1,?_⟩,C.bsz,fun b _ _=>Y b,fun b z=>absurd z (Y b),C.funs,fun b hb=>?_⟩,
   rfl,C.bare,Un.kept N,⟨_,hns,fun i y v h1 h2 h3=>?_⟩,fun y c h=>?_,?_,fun y c h=>YA (hcl y c h),fun p hp=>absurd (show p∈([]:List (Addr × Obj)) from hp) (by simp),(jq C.hok M).kept N,?_⟩
  ·have R:scope.names.lookup y=some .cell\/scope.names.lookup y=some .free:=R
   rcases R with R | R
   ·exact absurd rfl (S.cell _ (Qb6 R))
   ·exact has y R
  ·by_cases m:b∈L
   ·exact YA m
   ·exact (ZP m).trans (C.bs b o e).2
  ·by_cases m:b∈L
   ·exact YA m
   ·exact (ZP m).trans (C.frf b hb)
  ·by_cases hi:i < vs.length
   ·rw [Qaw (by simpa using hi),Qah] at h2
    have ha:vs[i]?=some v:=by
     cases e:vs[i]? with
     | none=>rw [e] at h2;cases h2
     | some a=>rw [e] at h2;cases h2;rfl
    obtain ⟨u,hu,rv⟩:=r.get ha;have D:(ps++ys)[i]?=some y:=h1;rw [Qaw (by lia)] at D;exact ⟨u,rv,.inl ⟨S.par y (Qao D),zF ndp D hu lus.symm⟩⟩
   ·rw [Qau (by simpa using hi),Qad] at h2
    have D:(ps++ys)[i]?=some y:=h1;rw [Qau (by lia),<-hl] at D;obtain ⟨c,o,u,e1,e2,e3,rv⟩:=hval _ y v D h2;refine ⟨u,rv,.inr ⟨.inr (S.free y (Qao D)),c,e1,o,N _ _ (C.hok c _ (fz _ _ _ e2)).1,e3⟩⟩
  ·obtain ⟨o,v,_,d,g⟩:=G c (hcl y c h)
   exact ⟨v,o,N _ _ g,d⟩
  ·show hide L H1 s.heap.objs.size=none
   by_cases m:s.heap.objs.size∈L
   ·exact YA m
   ·rw [ZP m];exact C.hok.fresh (Qai _)
  ·show (vs.map some++cv).length=(ps++ys).length
   rw [Qaf,Qaf,Qad,hl,hcv]
 refine PySem.W.kla_codeExpr (Qdm (hbody A outer s (hide L H1) (hr.deeper _) [] _ _ _ _ zq12 ht) (fun u s' hs=>?_) fun _ _ z=>z.elim);obtain ⟨v,H',J,rv,q⟩:=hs;have b:Un (frs outer) [] (hide L H1) H' s.heap s'.heap:=J.base;have nfr:∀c∈L,c∉frs outer:=fun c m z=>by
  obtain ⟨o,e⟩:=M c m;rw [C.frf c z] at e;cases e
 have Hn:∀c∈L,H' c=none:=fun c m=>by
  obtain ⟨o,v,e,d,g⟩:=G c m;exact b.free c o g (YA m) (fun z=>nomatch z)
 have hh:∀d,H1 d=none->hide L H1 d=none:=fun d n=>by
  by_cases m:d∈L
  ·exact YA m
  ·rw [ZP m];exact n
 have nm:∀d o,H1 d=some o->(∀ob,o≠XI ob)->d∉L:=fun d o e ne m=>by
  obtain ⟨ob,z⟩:=M d m;rw [e] at z;exact ne ob (Option.some.inj z)
 refine ⟨v,Wv L H1 H',J.os,J.bare,⟨fun d o e n hb hx=>b.keep d o e (hh d n) hb hx,fun d o e n hb hx=>b.slot d o e (hh d n) hb hx,fun d o e n hx=>?_,b.there,fun d xs e=>?_,fun d o u e=>?_,fun d pz e=>?_⟩,yg J.hok Hn fun c m=>?_,rv,q Hn⟩
 ·by_cases m:d∈L
  ·rw [XJ m];exact n
  ·rw [Yc m];exact b.free d o e (hh d n) hx
 ·have m:=nm d _ e (fun ob z=>nomatch z)
  rw [Yc m];exact b.tups d xs (by rw [ZP m];exact e)
 ·by_cases m:d∈L
  ·rw [XJ m];exact e
  ·rw [Yc m];exact b.frzs d o u (by rw [ZP m];exact e)
 ·have m:=nm d _ e (fun ob z=>nomatch z)
  rw [Yc m];exact b.tbls d pz (by rw [ZP m];exact e)
 ·obtain ⟨o,v,e,d,g⟩:=G c m
  exact ⟨o,e,b.keep c o g (YA m) (nfr c m) (fun z=>nomatch z)⟩
end
def zG(oc:Obj)(qual:Str):Prop:=∃vs t,oc.data=.fields vs/\vs[1]?=some (.str qual t)
def Xb(H:Hp)(P:Addr)(pos:Pos)(qual:Str):Prop :=
 H P=some (.tbl #[])\/∃g oc,H P=some (.tbl #[rawInt pos.line,rawInt pos.col,.ref g])/\H g=some (XI oc)/\zG oc qual
theorem Xb.ex{P:Addr}{qual:Str}(h:Xb H P p qual):∃ps,H P=some (.tbl ps):=by
 rcases h with h | ⟨_,_,h,_⟩ <;> exact ⟨_,h⟩
structure xu(mg:Str->Option Value)(base:Heap):Prop where
 ex:∃bm ob,mg "__builtins__" = some (.ref bm)/\bm≠builtinsNs/\base.get? bm=some ob/\ob.cls=.type "module" /\ ob.dict=some builtinsNs/\ob.data=.plain
def tLam(P:Addr)(lpos:Pos)(qual:Str)(q:Addr->Value->Obj):TE:=fun _ H Q=>Xb H P lpos qual /\
 ∀(f C:Addr) (oc:Obj) (g:Value) (H2:Hp),H f=none->H2 f=some (XI (q C g))->H2 C=some (XI oc)->zG oc qual->Xb H2 P lpos qual->(∀b o,H b=some o->b≠P->H2 b=some o)->Q (.ref f) H2
theorem ke{X:Cx}{P:Addr}{lpos:Pos}{oc fo:Obj}{h':Heap}{tk:Nat}(I:Inv X r c H s)(C:H P=some (.tbl #[]))(hx:Heap.ExtBut P s.heap h')(E:s.heap.objs.size<=f)(N:f < h'.objs.size)(M:h'.get? f=some oc)
  (G:h'.get? P=some (PySem.W.tabObj #[rawInt lpos.line,rawInt lpos.col,.ref f])) (L:fo.isFreed=false:=by rfl):Inv X r c (upd (upd (upd H P (.tbl #[rawInt lpos.line,rawInt lpos.col,.ref f])) f (XI oc)) h'.objs.size (XI fo)) { s with heap:=h'.push fo,toks:=tk }:=by
 have D:H f=none:=I.hok.fresh E;have R:f≠P:=fun e=>by rw [e,C] at D;cases D
 have hsz:s.heap.objs.size<=h'.objs.size:=Qbg E (Qa5 N);have lo:∀{b:Addr} {o:Obj},s.heap.get? b=some o->b≠f:=fun e z=>absurd (Qav e) (by rw [z];exact Qf5.mpr E);have O:Inv X r c (upd (upd H P (.tbl #[rawInt lpos.line,rawInt lpos.col,.ref f])) f (XI oc)) { s with heap:=h',toks:=tk }:=by
  refine I.un ⟨fun b o e n _ _=>hx b o (fun z=>by rw [z,C] at n;cases n) e,fun b o e n _ _=>⟨o.slots,hx b o (fun z=>by rw [z,C] at n;cases n) e⟩,fun b o e n _=>?_,fun b o e _=>?_,fun b xs e=>?_,fun b o u e=>?_,fun b S e=>?_⟩ fun b u e=>?_
  ·rw [Zp (lo e),Zp (fun z=>by rw [z,C] at n;cases n)];exact n
  ·by_cases g:b=P
   ·rw [g];exact ⟨_,G⟩
   ·exact ⟨o,hx b o g e⟩
  ·rw [Zp (Zn e D),Zp (XW e C (fun z=>nomatch z))];exact e
  ·rw [Zp (Zn e D),Zp (XW e C (fun z=>nomatch z))];exact e
  ·by_cases g:b=P
   ·subst g
    rw [C] at e;cases e;exact ⟨#[rawInt lpos.line,rawInt lpos.col,.ref f],by rw [Zp R.symm,Zc];rfl⟩
   ·exact ⟨#[],by rw [Zp (Zn e D),Zp g,e];simp⟩
  ·by_cases J:b=f
   ·subst J
    rw [Zc] at e;cases e;exact JV M
   ·rw [Zp J] at e
    by_cases g:b=P
    ·subst g
     rw [Zc] at e;cases e;exact G
    ·rw [Zp g] at e
     refine (I.hok b u e).stay (fun d v hd q=>hx d v ?_ q) (fun d q=>?_) fun d xs q=>?_
     ·rcases hd with z | z
      ·rw [z];exact g
      ·exact XW z C (fun z=>nomatch z)
     ·rw [Zp (Zn q D),Zp (XW q C (fun z=>nomatch z))];exact q
     ·rw [Zp (Zn q D),Zp (XW q C (fun z=>nomatch z))];exact q
 exact O.laid (h':=h'.push fo) (t':=tk) (a:=h'.objs.size) (o:=XI fo) (fun b u e=>Qae _ e) (Qai _) (JV (Qaz _ L))
section
variable {X:Cx}{params:Arguments}{body:Expr}{scope:Scope}{lpos:Pos}{c P:Addr}{qual:Str}
abbrev zH (X:Cx) (qual:Str) (params:Arguments) (body:Expr) (scope:Scope):Addr->Value->Obj:=fun q g=>PySem.W.kla_obj "<lambda>" qual params body scope (qu X.env.cells scope.names []) ((X.mg "__name__").getD .none) q g
theorem uY (G:X.env.code=.ref c) (C:PySem.W.CodeHd X.base c P) (B:xu X.mg X.base) (Z:defaultsOf params X.env=([],[])) (hq:X.env.qual ++ "<lambda>" = qual)
  (N:∀y∈scope.names,y.2=.free->X.env.scope.names.lookup y.1=some .cell) :
  PE X (.Lambda params body scope lpos) (tLam P lpos qual (zH X qual params body scope)):=by
 intro pins s σ H Q I hw;obtain ⟨J,R⟩:=hw;refine PySem.W.kla_eval Z ?_;rw [hq];have hcl:closureFor scope X.env=pure (qu X.env.cells scope.names []):=Wt fun y hy h=>I.ok.has y.1 (.inl (N y hy h));have hg:s.heap.Ns mainGlobals X.mg:=I.mod.glob.keeps I.bk;obtain ⟨pz,S⟩:=J.ex;have E:X.base.get? P=none:=by
  cases e:X.base.get? P with
  | none=>rfl
  | some o=>rw [(I.bs P o e).2] at S;cases S
 have hgP:mainGlobals≠P:=fun e=>by
  obtain ⟨o,es,ep,g,_⟩:=I.mod.glob;rw [e,E] at g;cases g
 have hb:s.heap.BuiltinsAt X.mg P:=by
  obtain ⟨bm,ob,b1,b2,b3,b4,b5,b6⟩:=B.ex;refine ⟨bm,ob,b1,b2,fun e=>?_,(fun e=>by rw [e,E] at b3;cases b3),I.bk _ _ b3,b4,b5,b6⟩;obtain ⟨o,es,ep,g,hd,_⟩:=I.mod.glob;rw [<-e,b3] at g;cases g;rw [b6] at hd;cases hd
 rcases J with J | ⟨q,oc,J,Y,L⟩
 ·have hP:s.heap.get? P=some (PySem.W.tabObj #[]):=I.hok P _ J
  refine PySem.W.kla_makeFunction (mg:=X.mg) (ps:=#[]) hcl I.ok.glob hg G (C.keeps I.bk) hP trivial rfl hgP hb fun q D h' tk hx M O hrec htb=>?_;obtain ⟨c₂,oc,vs,t,e2,L,hd,hv⟩:=hrec;cases e2;have cn:H q=none:=I.hok.fresh M;have cP:q≠P:=fun e=>by rw [e,J] at cn;cases cn
  have hsz:s.heap.objs.size<=h'.objs.size:=Qbg M (Qa5 O);have I2:=ke (lpos:=lpos) (fo:=zH X qual params body scope q D) (tk:=tk) I J hx M O L htb;have fn:H h'.objs.size=none:=I.hok.fresh hsz;have fc:q≠h'.objs.size:=Qbt O;have fP:P≠h'.objs.size:=Zn J fn;refine ⟨.ref h'.objs.size,_,I2,rfl,R _ q oc D _ fn Zc ?_ ⟨vs,t,hd,hv⟩ (.inr ⟨q,oc,?_,?_,⟨vs,t,hd,hv⟩⟩) fun b o e hbP=>?_⟩
  ·rw [Zp fc];exact Zc
  ·rw [Zp fP,Zp cP.symm];exact Zc
  ·rw [Zp fc];exact Zc
  ·rw [Zp (Zn e fn),Zp (Zn e cn),Zp hbP];exact e
 ·have hP:s.heap.get? P=some (PySem.W.tabObj #[rawInt lpos.line,rawInt lpos.col,.ref q]):=I.hok P _ J
  have hf:codeAmong lpos (#[rawInt lpos.line,rawInt lpos.col,.ref q]:Array Value).toList=some (.ref q):=by
   show (if ((lpos.line:Int) == lpos.line && (lpos.col:Int) == lpos.col)=true then some (Value.ref q) else _)=_;rw [Qb0,Qb0]
   rfl
  refine PySem.W.kla_makeFunctionHit (mg:=X.mg) hcl I.ok.glob hg G (C.keeps I.bk) hP trivial hf hb fun D h' tk hk hsz=>?_;have I2:=I.laid (h':=h'.push (zH X qual params body scope q D)) (t':=tk) (a:=h'.objs.size) (o:=XI (zH X qual params body scope q D)) (fun b u e=>Qae _ (hk b u e)) hsz (JV (Qaz _ rfl));have fn:H h'.objs.size=none:=I.hok.fresh hsz;have sm:∀b o,H b=some o->upd H h'.objs.size (XI (zH X qual params body scope q D)) b=some o:=fun b o e=>by rw [Zp (Zn e fn)];exact e
  exact ⟨.ref h'.objs.size,_,I2,rfl,R _ q oc D _ fn Zc (sm _ _ Y) L (.inr ⟨q,oc,sm _ _ J,sm _ _ Y,L⟩) fun b o e _=>sm b o e⟩
end
def cellsOf(cells:List (Str × Addr)):List Addr:=(cells.map (·.1)).filterMap fun x=>cells.lookup x
theorem Yn{cells:List (Str × Addr)}{c:Addr}:c∈cellsOf cells↔∃x,cells.lookup x=some c:=by
 unfold cellsOf;rw [Qgi]
 constructor
 ·rintro ⟨x,_,h⟩
  exact ⟨x,h⟩
 ·rintro ⟨x,h⟩
  exact ⟨x,Qa2.mpr ⟨(x,c),Qb6 h,rfl⟩,h⟩
structure Zja(S0 scope:Scope)(N0 ps ys:List Str)(is:List Nat):Prop where
 sc:Zi9 scope ps ys
 free:∀y∈scope.names,y.2=.free->S0.names.lookup y.1=some .cell
 vis:∀q∈ys.zip is,N0[q.2]?=some q.1
 len:ys.length=is.length
section
variable {X:Cx}{params:Arguments}{body a:Expr}{scope:Scope}{lpos p pos:Pos}{c P g:Addr}{qual x:Str}{k kl:Nat}{gd:FuncData}{pg ps ys:List Str}{is:List Nat}{sp:Sp}{ta te:TE}
theorem Gy{b:Addr}{u:HO}(g:∀c∈L,∃o,H c=some (XI o))(s:Yb H B)(h:B b=some u)(hu:∀o,u≠XI o):hide L B b=some u:=by
 rw [ZP fun m=>?_]
 ·exact h
 ·obtain ⟨o,e⟩:=g b m
  rw [s _ _ e] at h;exact hu o (Option.some.inj h).symm
theorem Xb.other{H':Hp}{P:Addr}{qual:Str}(h:Xb H P E qual)(g:P≠f)(q:∃ps,H f=some (.tbl ps))(s:∀b o,H b=some o->b≠f->H' b=some o):Xb H' P E qual:=by
 rcases h with h | ⟨c,oc,h1,h2,C⟩
 ·exact .inl (s _ _ h g)
 ·obtain ⟨ps,e⟩:=q
  exact .inr ⟨c,oc,s _ _ h1 g,s _ _ h2 (XW h2 e (fun z=>nomatch z)),C⟩
theorem Xb.same{H H':Hp}{P:Addr}{pos:Pos}{qual:Str}(h:Xb H P pos qual)(s:Yb H H'):Xb H' P pos qual:=by
 rcases h with h | ⟨c,oc,h1,h2,g⟩
 ·exact .inl (s _ _ h)
 ·exact .inr ⟨c,oc,s _ _ h1,s _ _ h2,g⟩
def tCallV(g:Program)(w:World)(K:PySem.W.Frag)(mg:Str->Option Value)(base:Heap)(k:Nat)(i:Nat)(t:TA):TE:=fun σ H Q=>∃(f:Addr) (τ:Sp),σ[i]?=some (some (.ref f))/\Xa g w K mg base k f H τ /\
 t σ H fun vs H1=>GQ H H1/\τ vs H1 Q E0
theorem uZ{P:Program}{mg:Str->Option Value}{base:Heap}{k:Nat}{τ:Sp}(c:Xa P w K mg base k f H τ)(D:GQ H B)(q:HOk P w B h):PySem.W.FnAt f h:=by
 obtain ⟨o,fd,e,d⟩:=c.1;have g:=(q f _ (D _ _ _ e)).1;obtain ⟨oc,od,E,C⟩:=o;cases d;exact ⟨oc,od,fd,C,g⟩
theorem Zc8(i:Nat){t:TA}(hr:JD k X.A)(ha:QA X (e::C) t)(hN:X.N[i]?=some x:=by rfl)(hv:Vis X.env.scope x:=by first | exact Or.inl rfl | exact Or.inr (Or.inl rfl) | exact Or.inr (Or.inr rfl))
  (hdb:(x == ("__debug__" : Str))=false:=by decide) (hcd:(x == ("__classdict__" : Str))=false:=by decide) (he:starEach (e::C) X.env=(false,eval e X.env)::starEach C X.env:=by rfl) (J:(backTo pos (starEach C X.env)).any (·.1)=false:=by rfl) :
  QE X (.Call (.Name x p) (e::C) [] pos) (tCallV X.prog X.w X.K X.mg X.base k i t):=by
 refine ⟨?_⟩;intro pins s σ H Q I hw;obtain ⟨f,τ,G,hc,Z⟩:=hw;refine Qc3 (thn (Zeg hN hv hdb hcd pins s σ H (fun v H'=>v=.ref f/\H'=H) I ⟨.ref f,G,rfl,rfl⟩) fun u s1 ⟨v,H',M,r,q,S⟩=>?_);subst q;subst S;cases r;refine PySem.W.callWith_F (uZ hc (GQ.refl _) M.hok) (thn (ha.out pos pins s1 σ H' _ M Z) fun us O ⟨vs,H1,D,R,L,E⟩=>⟨uZ hc L D.hok,?_⟩) he J;refine wpAny_call (Qfn (hc.2 X.A X.stack O H1 us vs Q E0 L hr D.env0 R E) fun r s' g=>?_);cases r with
 | error e=>exact g.elim
 | ok Y =>
  cases Y with
  | ret u=>exact D.after g
  | next=>exact False.elim g
  | brk=>exact False.elim g
  | cont=>exact False.elim g
end
theorem Zaa{P:Program}{mg mb:Str->Option Value}{CX:CXT}{k:Nat}{fd:FuncData}{sp:Sp}{C:Shared}{vs:List Value}{D:List (Addr × Addr)}
  (KX:K.In C.heap) (hns:C.heap.Ns mainGlobals mg) (hb:C.heap.Ns builtinsNs mb) (hbb:∀x:Str,x ≠ "__name__" -> mb x=bootBuiltins x) (Z:C.heap.NoLimit) (hg:C.gens=#[])
  (ha:C.heap.get? a=some { cls:=.type "list",data:=.seq vs.toArray }) (hi:IntsAre vs y) (hl:y.length<=sizeLine) (hr:JD k callerA)
  (hT:PySem.W.TabsAt D C.heap) (hKt:PySem.W.noTabs K=true) (hbm:xu mg C.heap)
  (F:∀base:Heap,K.In base->base.Ns mainGlobals mg->(∀q∈D,PySem.W.CodeHd base q.1 q.2)->xu mg base->Ym P w K mg base CX k f fd [x] sp) (S:∀(s:Shared) (u:Value),BindsTo s fd ⟨[u],[]⟩ [(x,u)])
  (hsp:∀H:Hp,(∀q∈D,H q.2=some (.tbl #[]))->SqL K H a (y.map V.int)->sp [.ref a] H (fun v _=>v=.bl true) fun _ _ _=>False)
  (hCX:∀H e s',CX [] H C (fun _ _ _=>False) e s'->False) :
  codeAny (model P w) callerA (.call (.ref f) ⟨[.ref a],[]⟩) (fun r s'=>r=.ok (.ret (.bool true))/\OldK C.heap s'.heap/\s'.os=C.os/\AllBare s'.gens) C:=by
 have rv:=jY hi;have lenV:=hi.length;have E:∀b,b∈D.map (·.2)->C.heap.get? b=some (PySem.W.tabObj #[]):=fun b m=>by
  obtain ⟨q,J,rfl⟩:=Qa2.mp m;exact (hT q J).2
 have aT:a∉D.map (·.2):=fun m=>by
  have e:=E a m;rw [ha] at e;cases e
 have N:∀H:Hp,(∀q∈D,H q.2=some (.tbl #[]))->(∀b,H b=none\/(b=a/\∃o xs,H b=some (.frz o (.lst xs)))\/(b∈D.map (·.2)/\H b=some (.tbl #[])))->SqL K H a (y.map V.int)->HOk P w H C.heap->(H a≠none->K.lookup a=none) ->
   codeAny (model P w) callerA (.call (.ref f) ⟨[.ref a],[]⟩) (fun r s'=>r=.ok (.ret (.bool true))/\OldK C.heap s'.heap/\s'.os=C.os/\AllBare s'.gens) C:=by
  intro H hTb hO hS hok hK;have G:∀{b:Addr} {o:Obj},C.heap.get? b=some o->H b=none->(gE C.heap H).get? b=some o:=fun e n=>Zcp e n;have noA:∀{b:Addr} {o:Obj},C.heap.get? b=some o->(∀Y n,o.data≠.seq Y n)->o.cls≠.none->H b=none:=fun {b o} e d1 d2=>by
   rcases hO b with z | ⟨rfl,_⟩ | ⟨m,_⟩
   ·exact z
   ·rw [ha] at e;cases e
    exact absurd rfl (d1 _ _)
   ·rw [E b m] at e;cases e
    exact absurd rfl d2
  have L:∀{b:Addr} {m:Str->Option Value},C.heap.Ns b m->(gE C.heap H).Ns b m:=fun {b m} ⟨o,es,ep,e,d,r⟩=>⟨o,es,ep,G e (by
   rcases hO b with z | ⟨rfl,_⟩ | ⟨m,_⟩
   ·exact z
   ·rw [ha] at e;cases e
    have d':Data.seq vs.toArray _=Data.dict es ep:=d;cases d'
   ·rw [E b m] at e;cases e
    have d':Data.fields #[]=Data.dict es ep:=d;cases d'),d,r⟩
  have hKb:K.In (gE C.heap H):=fun b o e=>G (KX b o e) (by
   rcases hO b with z | ⟨rfl,ob,xs,z⟩ | ⟨m,_⟩
   ·exact z
   ·rw [hK (by rw [z];simp)] at e;cases e
   ·have g:=KX b o e
    rw [E b m] at g;cases g;have h2:=Qdg.mp hKt (b,_) (PySem.W.mem_of_lookupK e);exact absurd (show false=true from h2) Qa3)
  have hM:Mod K mg (gE C.heap H):=⟨hKb,L hns,⟨mb,L hb,hbb⟩,let ⟨mc,h1,h2⟩:=Z;⟨mc,L h1,h2⟩⟩;have hB:xu mg (gE C.heap H):=by
   obtain ⟨bm,ob,b1,b2,b3,b4,b5,b6⟩:=hbm.ex;exact ⟨bm,ob,b1,b2,G b3 (noA b3 (fun Y n z=>by rw [b6] at z;cases z) (fun z=>by rw [b4] at z;cases z)),b4,b5,b6⟩
  have hC:∀q∈D,PySem.W.CodeHd (gE C.heap H) q.1 q.2:=fun q J=>by
   obtain ⟨o,vs',file,tf,R,tg,inF,text,tt,e1,r1,r2,r3⟩:=(hT q J).1;exact ⟨o,vs',file,tf,R,tg,inF,text,tt,G e1 (noA e1 (fun Y n z=>by rw [r2] at z;cases z) (fun z=>by rw [r1] at z;cases z)),r1,r2,r3⟩
  have e0:Zgc P w K mg (gE C.heap H) callerA [] C H:=⟨rfl,hM,fun b o e=>Zfy e,Qg4 (gF _ _),trivial,fun b hb=>absurd (show b∈([]:List Addr) from hb) (by simp),hok,.of_eq hg⟩;refine Qfn ((F _ hKb (L hns) hC hB).run callerA [] C H ⟨[.ref a],[]⟩ [.ref a] [.ref a] _ _ hr e0 (S C (.ref a)) (.cons rfl .nil) (hsp H hTb hS)) fun r s' h=>?_;cases r with
  | error e=>exact (hCX H e s' h).elim
  | ok fl =>
   cases fl with
   | next=>exact False.elim h
   | brk=>exact False.elim h
   | cont=>exact False.elim h
   | ret u =>
    obtain ⟨v,H',os,bare,un,O,r',q⟩:=h;have q':v=.bl true:=q;subst q';obtain rfl:u=Value.bool true:=r';have all:∀b o,C.heap.get? b=some o->s'.heap.get? b=some o\/∃I,b∈D.map (·.2)/\o=PySem.W.tabObj #[]/\s'.heap.get? b=some (PySem.W.tabObj (#[]++I)):=fun b o e=>by
     rcases hO b with z | ⟨_,ob,xs,z⟩ | ⟨m,z⟩
     ·exact .inl (un.keep b o e z (by intro z;exact absurd (show b∈([]:List Addr) from z) (by simp)) (by simp))
     ·have z2:=un.frzs b ob _ z
      obtain ⟨e1,_⟩:=hok b _ z;obtain ⟨e2,_⟩:=O b _ z2;rw [e] at e1;cases e1;exact .inl e2
     ·obtain ⟨I,z2⟩:=un.tbls b _ z
      rw [E b m] at e;cases e;exact .inr ⟨I,m,rfl,O b _ z2⟩
    refine ⟨rfl,⟨fun b o e=>?_,fun b o e=>?_⟩,os,bare⟩
    ·rcases all b o e with z | ⟨I,m,rfl,z⟩
     ·exact .inl z
     ·obtain ⟨q,J,rfl⟩:=Qa2.mp m
      exact .inr (.inl ⟨((hT q J).1.tab (hT q J).2).isCodeTable,rfl,#[],I,rfl,z⟩)
    ·rcases all b o e with z | ⟨I,_,_,z⟩
     ·exact ⟨_,z⟩
     ·exact ⟨_,z⟩
 have tm:∀q∈D,q.2∈D.map (·.2):=fun q J=>Qbw J;cases hk:K.lookup a with
 | some o =>
  have e:=KX a o hk;rw [ha] at e;cases e;refine N (fun b=>if b∈D.map (·.2) then some (.tbl #[]) else none) (fun q J=>Qa4 (tm q J)) (fun b=>?_) (.inr ⟨_,vs.toArray,_,hk,rfl,rfl,rfl,by rw [Qa8,lenV];exact hl,by simpa using rv⟩) (fun b u z=>?_) (fun z=>absurd (Qax aT) z)
  ·by_cases m:b∈D.map (·.2)
   ·exact .inr (.inr ⟨m,Qa4 m⟩)
   ·exact .inl (Qax m)
  ·by_cases m:b∈D.map (·.2)
   ·have M:=(Qa4 m).symm.trans z
    cases M;exact E b m
   ·have M:=(Qax m).symm.trans z
    cases M
 | none =>
  refine N (fun b=>if b∈D.map (·.2) then some (.tbl #[]) else if b=a then some (.frz { cls:=.type "list",data:=.seq vs.toArray } (.lst (y.map V.int))) else none) (fun q J=>Qa4 (tm q J)) (fun b=>?_) (.inl (.inr ⟨{ cls:=.type "list",data:=.seq vs.toArray },(Qax aT).trans (Qa4 rfl)⟩)) (fun b u z=>?_) fun _=>hk
  ·by_cases m:b∈D.map (·.2)
   ·exact .inr (.inr ⟨m,Qa4 m⟩)
   ·by_cases hb:b=a
    ·exact .inr (.inl ⟨hb,_,_,(Qax m).trans (Qa4 hb)⟩)
    ·exact .inl ((Qax m).trans (Qax hb))
  ·by_cases m:b∈D.map (·.2)
   ·have M:=(Qa4 m).symm.trans z
    cases M;exact E b m
   ·by_cases hb:b=a
    ·have M:=((Qax m).trans (Qa4 hb)).symm.trans z
     cases M;subst hb;exact ⟨ha,by rw [Qad];exact hl,vs,_,rv,ha⟩
    ·have M:=((Qax m).trans (Qax hb)).symm.trans z
     cases M
theorem walk_ofT{l:PySem.W.OpenLaw}{k:Nat}{XP:(Str->Option Value)->Heap->Prop}{YP:World->Heap->Prop}{d:DefRec}{K:Params->PySem.W.Frag}{CX:World->CXT}{sp:World->Sp}{C:List (Addr × Addr)}
  (hn:l.most=some n) (hn2:n<=sizeLine) (hdf:d.params.defaults=[]) (hr:JD k callerA)
  (hY:∀(w:World) (h:Heap),YP w h->(K w.params).In h)
  (I:∀(w:World) (M:ExcName->Option Value) (mg mb:Str->Option Value) (h:Heap),Top q (PySem.W.looseW q N) M mg mb h->(K w.params).In h->PySem.W.TabsAt C h) (hKt:∀w:World,PySem.W.noTabs (K w.params)=true)
  (F:∀(w:World) (mg:Str->Option Value) (R:Addr) (h:Heap),(K w.params).In h->h.Ns mainGlobals mg->mg d.name=some (.ref R) ->
   ∃fd:FuncData,(∀(s:Shared) (u:Value),BindsTo s fd ⟨[u],[]⟩ [(x,u)]) /\
    ∀base:Heap,(K w.params).In base->base.Ns mainGlobals mg->(∀q∈C,PySem.W.CodeHd base q.1 q.2)->xu mg base->Ym l.prog w (K w.params) mg base (CX w) k R fd [x] (sp w))
  (S:∀(w:World) (H:Hp) (a:Addr) (O:List Int),O.length<=n->(∀q∈C,H q.2=some (.tbl #[]))->SqL (K w.params) H a (O.map V.int)->sp w [.ref a] H (fun v _=>v=.bl true) fun _ _ _=>False)
  (hCX:∀(w:World) (H:Hp) (s:Shared) (e:Value) (s':Shared),CX w [] H s (fun _ _ _=>False) e s'->False) :
  PySem.W.WalkO q N XP YP l.row.toRowW d [] (fun f vs=>PySem.call f vs):=by
 refine Att.attach_call hn hdf fun w s₀ L mg mb R o pm cd doc a vs O G Y ho hd hcd Z J E D hg=>?_;have KX:=hY w _ Y;obtain ⟨fd,hb,hF⟩:=F w mg R _ KX G.T.g Z;exact Zaa KX G.T.g G.T.b G.T.builtins G.T.nolimit hg J E (Qbg D hn2) hr (I w _ mg mb _ G.T KX) (hKt w) ⟨G.T.bmain⟩ hF hb (fun H hTb hS=>S w H a O D hTb hS) fun H e s'=>hCX w H L e s'
theorem Fun.okC{P:Program}{mg:Str->Option Value}{base:Heap}{qual:Str}{st:Stmt}{fd:FuncData}{ps:List Str}{k:Nat}{sp:Sp}(F:Fun K x qual st f fd)(S:ZQ N ps (Zk st))(len:∀vs H Q E,sp vs H Q E->vs.length=ps.length)
  (g:∀(A:Around) (outer:List Env) (s:Shared) (H:Hp) (vs:List V) (Q:VK) (E:XK),JD k (A.deeper (envOfC qual (Zk st) s.heap.objs.size f fd.code))->sp vs H Q E ->
   ∃t,PSs (Zcv CX0 P w K mg base N qual (Zk st) f fd.code A outer s H E).nox (Xu st) t/\t { nx:=fun _ H'=>Q .non H',rt:=Q } (start N vs) H):Ym P w K mg base CX0 (k + 1) f fd ps sp:=by
 obtain ⟨oc,od,kV,D,M,L,I,ct,J,rfl,G,hcd⟩:=F.ex;refine Ziz G hcd S len fun A outer s H vs Q E hr C=>?_;obtain ⟨t,h,q⟩:=g A outer s H vs Q E hr C;exact ⟨t,h.nox,q⟩
section
variable {X:Cx}
end
section
variable {prog:Program}{w:World}{A:Around}{E:Value->Shared->Prop}{s:Shared}
end
section
variable {X:Cx}
end
section
variable {prog:Program}{w:World}{K:Type}[DecidableEq K]{knd:KeyKind prog w K}{A:Around}{R:Result->Shared->Prop}{d l it:Addr}{items:List Value}
end
theorem Zc9{x y:V}(r:Vals [x,y] U):∃a b,U=[a,b]/\RelV x a/\RelV y b:=by
 cases r with
 | cons h1 t =>
  cases t with
  | cons h2 t =>
   cases t;exact ⟨_,_,rfl,h1,h2⟩
section
variable {X:Cx}
end
structure QPs(X:Cx)(pos:Pos)(keys:List (Option Expr))(values:List Expr)(trs:List (TE × TE)):Prop where
 out:PPs X pos keys values trs
section
variable {X:Cx}
theorem Zgw:QPs X p [] [] []:=⟨Zgs⟩
theorem Zda{k v:Expr}{ks:List (Option Expr)}{vs:List Expr}{tk:TE}{g:List (TE × TE)}(hk:QE X k tk)(hv:QE X v A)(hr:QPs X p ks vs g):QPs X p (some k::ks) (v::vs) ((tk,A)::g):=⟨Zc5 hk.out hv.out hr.out⟩
theorem Zgx{keys:List (Option Expr)}{q:List (TE × TE)}(h:QPs X p keys C q)(g:keys.all (·.isSome)=true)(hl:keys.length=C.length)(E:keys≠[])(D:keys.length<=15):QE X (.Dict keys C p) (Zi8 q):=⟨Zgt h.out g hl E D⟩
end
end L2
namespace ZpT
open PySem PySem.Spec PyProof.Rows
def YH:Bool->Heap->Addr->Addr->Nat->Prop
 | true,h,it,l,k=>h.IsTupleIter it l k
 | false,h,it,l,k=>h.IsListIter it l k
def SeqAt:Bool->Heap->Addr->Array Value->Prop
 | true,h,l,xs=>h.IsTuple l xs
 | false,h,l,xs=>h.IsList l xs
theorem YH.mv{b:Bool}{h':Heap}{it l:Addr}{k:Nat}(x:YH b h it l k)(f:∀o,h.get? it=some o->h'.get? it=some o):YH b h' it l k:=by
 cases b
 ·exact Heap.IsListIter.at x f
 ·exact Heap.IsTupleIter.at x f
theorem SeqAt.mv{b:Bool}{h':Heap}{l:Addr}{xs:Array Value}(x:SeqAt b h l xs)(f:∀o,h.get? l=some o->h'.get? l=some o):SeqAt b h' l xs:=by
 cases b
 ·obtain ⟨o,ho,r⟩:=(show h.IsList l xs from x)
  exact (show h'.IsList l xs from ⟨o,f o ho,r⟩)
 ·obtain ⟨o,ho,r⟩:=(show h.IsTuple l xs from x)
  exact (show h'.IsTuple l xs from ⟨o,f o ho,r⟩)
theorem YH.ob{b:Bool}{it l:Addr}{k:Nat}(x:YH b h it l k):∃o,h.get? it=some o/\∀v,o.data≠.cell v:=by
 cases b
 ·obtain ⟨o,ho,hc,hd⟩:=(show h.IsListIter it l k from x)
  exact ⟨o,ho,fun v z=>by rw [hd] at z;cases z⟩
 ·obtain ⟨o,ho,hc,hd⟩:=(show h.IsTupleIter it l k from x)
  exact ⟨o,ho,fun v z=>by rw [hd] at z;cases z⟩
def zO (f0:Value) (b:Bool) (TI TO:Addr):Obj:={ cls:=.type "zip",dict:=none,data:=.fields #[f0,.bool b,.bool false,.ref TI,.ref TO],slots:=#[] }
def F0(f0:Value):Prop:=f0=.none\/∃T:Addr,f0=rawInt T
structure Ap(z TI TO i1 i2:Addr):Prop where
 TIz:TI≠z
 TOz:TO≠z
 i1z:i1≠z
 i2z:i2≠z
 TITO:TI≠TO
 TIi1:TI≠i1
 TIi2:TI≠i2
 TOi1:TO≠i1
 TOi2:TO≠i2
 i12:i1≠i2
section
variable {prog:Program}{w:World}{A:Around}{E:Value->Shared->Prop}{s:Shared}
theorem GR{b:Bool}{it l:Addr}{k:Nat}{xs:Array Value}{x:Value}(g:YH b s.heap it l k)(hl:SeqAt b s.heap l xs)(hx:xs[k]?=some x)
  (q:∀h',YH b h' it l (k + 1)->Heap.SameBut it s.heap h'->Q x { s with heap:=h' }):wpAny (model prog w) A (Builtin.SmallTypes.nextOf (.ref it)) Q E s:=by
 cases b
 ·exact wpAny_nextOf_list_item g hl hx q
 ·exact EnT.next_of g hl hx q
theorem kf{b:Bool}{it l:Addr}{k:Nat}{xs:Array Value}(hh:A.handled=none)(g:YH b s.heap it l k)(hl:SeqAt b s.heap l xs)(hx:xs[k]?=none)
  (q:∀h' e,Heap.ExtBut it s.heap h'->(∃o,h'.get? e=some o/\o.cls=.type "StopIteration")->E (.ref e) { s with heap:=h' }):wpAny (model prog w) A (Builtin.SmallTypes.nextOf (.ref it)) Q E s:=by
 cases b
 ·exact wpAny_nextOf_list_end hh g hl hx q
 ·exact EnT.next_no hh g hl hx q
theorem alive{Q:Option Obj->Shared->Prop}(h:Q (s.heap.get? a) s):wpAny (model prog w) A (loadIfAlive a) Q E s:=fun Γ p _=>h
theorem Zab{z:Addr}{f0:Value}{Q:Bool->Shared->Prop}(C:s.heap.get? z=some (zO f0 j a f))(hf:F0 f0)
  (h:∀r h' G,h'.get? z=some (zO f0 G a f)->Heap.SameBut z s.heap h'->Q r { s with heap:=h' }):wpAny (model prog w) A (Builtin.SmallTypes.ownedTupleIsFree (.ref z)) Q E s:=by
 unfold Builtin.SmallTypes.ownedTupleIsFree;refine Qaa (Qbs C rfl (x:=f0) rfl ?_);rcases hf with rfl | ⟨T,rfl⟩
 ·exact Qan (h true s.heap j C ⟨rfl,fun _ _=>rfl⟩)
 ·show wpAny _ _ (loadIfAlive (Int.toNat (T:Int)) >>= _) _ _ s
  refine Qaa (alive ?_);cases hT:s.heap.get? (Int.toNat (T:Int)) with
  | none=>exact Qan (h true s.heap j C ⟨rfl,fun _ _=>rfl⟩)
  | some o =>
   show wpAny _ _ (field (.ref z) 1 >>= _) _ _ s;refine Qaa (Qbs C rfl (x:=.bool j) rfl ?_);cases j
   ·show wpAny _ _ (setField (.ref z) 1 (.bool true) >>= _) _ _ s
    refine Qaa (Qbq C (by simp) fun D g q=>Qan ?_);exact h false D true g q
   ·exact Qan (h false s.heap true C ⟨rfl,fun _ _=>rfl⟩)
end
end ZpT
namespace ZpT
open PySem PySem.Spec PyProof.Rows
structure Of(z TO i1 i2 l:Addr):Prop where
 z:l≠z
 o:l≠TO
 i:l≠i1
 j:l≠i2
structure St(b1 b2:Bool)(z TI TO i1 i2 l1 l2:Addr)(k1 k2:Nat)(h:Heap):Prop where
 z:∃f0 fb,h.get? z=some (zO f0 fb TI TO)/\F0 f0
 I:IsPair h TI (.ref i1) (.ref i2)
 O:∃a b,IsPair h TO a b
 n1:YH b1 h i1 l1 k1
 n2:YH b2 h i2 l2 k2
section
variable {prog:Program}{w:World}{A:Around}{E:Value->Shared->Prop}{s:Shared}
theorem item{b1 b2:Bool}{z i1 i2 l1 l2:Addr}{k2:Nat}{xs ys:Array Value}{x y:Value}(D:Ap z f T i1 i2)(D1:Of z T i1 i2 l1)(D2:Of z T i1 i2 l2)
  (S:St b1 b2 z f T i1 i2 l1 l2 n k2 s.heap) (q1:SeqAt b1 s.heap l1 xs) (q2:SeqAt b2 s.heap l2 ys) (hx:xs[n]?=some x) (hy:ys[k2]?=some y)
  (hQ:∀h',St b1 b2 z f T i1 i2 l1 l2 (n + 1) (k2 + 1) h'->IsPair h' s.heap.objs.size x y ->
   (∀c o,c≠z->c≠T->c≠i1->c≠i2->s.heap.get? c=some o->h'.get? c=some o)->Q (.ref s.heap.objs.size) { s with heap:=h' }) :
  wpAny (model prog w) A (Builtin.«zip.__next__» ⟨[.ref z],[]⟩) (fun fin s'=>∃v,fin=.done (.ret v)/\Q v s') E s:=by
 obtain ⟨⟨f0,fb,hz,hf⟩,hTI,⟨a,b,hTO⟩,n1,n2⟩:=S;show wpAny _ _ (field (.ref z) 2 >>= _) _ _ _;refine Qaa (Qbs hz rfl (x:=.bool false) rfl ?_);show wpAny _ _ (field (.ref z) 3 >>= _) _ _ _;refine Qaa (Qbs hz rfl (x:=.ref f) rfl ?_);refine Qaa (Qcb hTI rfl ?_);show wpAny _ _ (Builtin.SmallTypes.ownedTupleIsFree (.ref z) >>= _) _ _ _;refine Qaa (Zab hz hf fun r h0 fb' hz0 N=>?_);have hz0':h0.get? z=some (zO f0 fb' f T):=hz0;have hTO0:IsPair h0 T a b:=N.extBut _ _ D.TOz hTO;have hTI0:IsPair h0 f (.ref i1) (.ref i2):=N.extBut _ _ D.TIz hTI;have n10:YH b1 h0 i1 l1 n:=n1.mv fun o e=>N.extBut _ _ D.i1z e;have n20:YH b2 h0 i2 l2 k2:=n2.mv fun o e=>N.extBut _ _ D.i2z e;have q10:SeqAt b1 h0 l1 xs:=q1.mv fun o e=>N.extBut _ _ D1.z e;have q20:SeqAt b2 h0 l2 ys:=q2.mv fun o e=>N.extBut _ _ D2.z e;cases r with
 | true =>
  simp only [Qf9];refine Qaa (Qdx ?_);refine Qaa (Qbs hz0 rfl (x:=.ref T) rfl ?_);refine Qaa (Qbq hz0 (by simp) fun h₁ Y I=>?_)
  replace Y:h₁.get? z=some (zO .ellipsis fb' f T):=Y
  refine Qaa ?_;simp only [List.zipIdx_cons,List.zipIdx_nil,Qdz,Qev];refine Qaa (Qaa (Qgv ?_));show wpAny _ _ (Builtin.SmallTypes.nextOf (.ref i1) >>= _) _ _ _;refine Qaa (GR (n10.mv fun o e=>I.extBut _ _ D.i1z e) (q10.mv fun o e=>I.extBut _ _ D1.z e) hx fun h₂ h1₂ g=>Qan ?_);have hTO₂:IsPair h₂ T a b:=g.extBut _ _ D.TOi1 (I.extBut _ _ D.TOz hTO0);refine Qaa (Qcb hTO₂ rfl ?_);refine Qaa (Qfy hTO₂ fun G O q=>?_)
  replace O:IsPair G T x b:=O
  refine Qaa (Qel (Qan ?_));refine Qaa (Qaa (Qgv ?_));show wpAny _ _ (Builtin.SmallTypes.nextOf (.ref i2) >>= _) _ _ _;refine Qaa (GR (n20.mv fun o e=>q.extBut _ _ D.TOi2.symm (g.extBut _ _ D.i12.symm (I.extBut _ _ D.i2z e)))
   (q20.mv fun o e=>q.extBut _ _ D2.o (g.extBut _ _ D2.i (I.extBut _ _ D2.z e))) hy fun h₄ h2₄ L=>Qan ?_)
  have hTO₄:IsPair h₄ T x b:=L.extBut _ _ D.TOi2 O;refine Qaa (Qcb hTO₄ rfl ?_);refine Qaa (Qfy hTO₄ fun C J M=>?_)
  replace J:IsPair C T x y:=J
  refine Qaa (Qel (Qan (Qan ?_)));refine Qaa (Qcb J rfl ?_);refine Qaa (Qgq ?_);have hsz:C.objs.size=s.heap.objs.size:=by rw [M.1,L.1,q.1,g.1,I.1];exact N.1
  have hz₅:C.get? z=some (zO .ellipsis fb' f T):=M.extBut _ _ D.TOz.symm (L.extBut _ _ D.i2z.symm (q.extBut _ _ D.TOz.symm (g.extBut _ _ D.i1z.symm Y)));have hk₅:∀c o,c≠z->c≠T->c≠i1->c≠i2->s.heap.get? c=some o->C.get? c=some o:=fun c o c1 c2 c3 c4 e =>
   M.extBut _ _ c2 (L.extBut _ _ c4 (q.extBut _ _ c2 (g.extBut _ _ c3 (I.extBut _ _ c1 (N.extBut _ _ c1 e)))))
  have h1₅:YH b1 C i1 l1 (n + 1):=h1₂.mv fun o e=>M.extBut _ _ D.TOi1.symm (L.extBut _ _ D.i12 (q.extBut _ _ D.TOi1.symm e));have h2₅:YH b2 C i2 l2 (k2 + 1):=h2₄.mv fun o e=>M.extBut _ _ D.TOi2.symm e;have hzlt:z < C.objs.size:=Qav hz₅;show wpAny _ _ (Builtin.SmallTypes.ownedTupleHandOut (.ref z) (.ref C.objs.size) >>= _) _ _ _;refine Qaa ?_;unfold Builtin.SmallTypes.ownedTupleHandOut;have hz₆:(C.push { cls:=.type "tuple",data:=.seq #[x,y] }).get? z=some (zO .ellipsis fb' f T):=Qae _ hz₅;refine Qaa (Qbq hz₆ (by simp) fun h₇ Z hs₇=>?_)
  replace Z:h₇.get? z=some (zO (rawInt C.objs.size) fb' f T):=Z
  refine Qbq Z (by simp) fun h₈ R hs₈=>?_
  replace R:h₈.get? z=some (zO (rawInt C.objs.size) false f T):=R
  have up:∀c o,c≠z->C.get? c=some o->h₈.get? c=some o:=fun c o c1 e=>hs₈.extBut _ _ c1 (hs₇.extBut _ _ c1 (Qae _ e));have hT₈:IsPair h₈ C.objs.size x y:=hs₈.extBut _ _ (Qdr hzlt) (hs₇.extBut _ _ (Qdr hzlt) (Qaz _ rfl));rw [hsz] at R hT₈;refine Qan ⟨_,rfl,?_⟩;show Q (.ref C.objs.size) _;rw [hsz];exact hQ h₈ ⟨⟨_,_,R,.inr ⟨_,rfl⟩⟩,up _ _ D.TIz (hk₅ _ _ D.TIz D.TITO D.TIi1 D.TIi2 hTI),⟨_,_,up _ _ D.TOz J⟩,h1₅.mv fun o e=>up _ o D.i1z e,h2₅.mv fun o e=>up _ o D.i2z e⟩ hT₈ fun c o c1 c2 c3 c4 e=>up c o c1 (hk₅ c o c1 c2 c3 c4 e)
 | false =>
  simp only [Qcs,Qe7];refine Qaa ?_;simp only [<-Array.forIn_toList,Qdz,Qev];refine Qaa (Qaa (Qeq ?_));show wpAny _ _ (Builtin.SmallTypes.nextOf (.ref i1) >>= _) _ _ _;refine Qaa (GR n10 q10 hx fun h₂ h1₂ g=>Qan (Qan ?_));refine Qaa (Qaa (Qeq ?_));show wpAny _ _ (Builtin.SmallTypes.nextOf (.ref i2) >>= _) _ _ _;refine Qaa (GR (n20.mv fun o e=>g.extBut _ _ D.i12.symm e) (q20.mv fun o e=>g.extBut _ _ D2.i e) hy fun G h2₃ q=>Qan (Qan (Qan ?_)));refine Qaa (Qgq (hsz:=(show 2<=sizeLine by decide)) (Qan ⟨_,rfl,?_⟩));have hsz:G.objs.size=s.heap.objs.size:=by rw [q.1,g.1];exact N.1
  have hk₃:∀c o,c≠z->c≠i1->c≠i2->s.heap.get? c=some o->G.get? c=some o:=fun c o c1 c3 c4 e=>q.extBut _ _ c4 (g.extBut _ _ c3 (N.extBut _ _ c1 e));have zz:G.get? z=some (zO f0 fb' f T):=q.extBut _ _ D.i2z.symm (g.extBut _ _ D.i1z.symm hz0');have hT:IsPair (G.push { cls:=.type "tuple",data:=.seq #[x,y] }) G.objs.size x y:=Qaz _ rfl;show Q (.ref G.objs.size) { s with heap:=G.push { cls:=.type "tuple",data:=.seq #[x,y] } };rw [hsz] at hT ⊢;have up:∀c o,G.get? c=some o->(G.push { cls:=.type "tuple",data:=.seq #[x,y] }).get? c=some o:=fun c o e=>Qae _ e;exact hQ _ ⟨⟨_,_,up _ _ zz,hf⟩,up _ _ (hk₃ _ _ D.TIz D.TIi1 D.TIi2 hTI),⟨_,_,up _ _ (hk₃ _ _ D.TOz D.TOi1 D.TOi2 hTO)⟩,h1₂.mv fun o e=>up _ _ (q.extBut _ _ D.i12 e),h2₃.mv fun o e=>up _ _ e⟩ hT fun c o c1 c2 c3 c4 e=>up c o (hk₃ c o c1 c3 c4 e)
end
end ZpT
namespace ZpT
open PySem PySem.Spec PyProof.Rows
section
variable {prog:Program}{w:World}{A:Around}{E:Value->Shared->Prop}{s:Shared}
theorem fin{b1 b2:Bool}{z i1 i2 l1 l2:Addr}{k2:Nat}{xs ys:Array Value}{Q:Fin->Shared->Prop}(hh:A.handled=none)(D:Ap z f T i1 i2)(D1:Of z T i1 i2 l1)(D2:Of z T i1 i2 l2)
  (S:St b1 b2 z f T i1 i2 l1 l2 n k2 s.heap) (q1:SeqAt b1 s.heap l1 xs) (q2:SeqAt b2 s.heap l2 ys) (hend:xs[n]?=none\/ys[k2]?=none)
  (hE:∀h' e,(∀c o,c≠z->c≠T->c≠i1->c≠i2->s.heap.get? c=some o->h'.get? c=some o)->(∃o,h'.get? e=some o/\o.cls=.type "StopIteration")->E (.ref e) { s with heap:=h' }) :
  wpAny (model prog w) A (Builtin.«zip.__next__» ⟨[.ref z],[]⟩) Q E s:=by
 obtain ⟨⟨f0,fb,hz,hf⟩,hTI,⟨a,b,hTO⟩,n1,n2⟩:=S;show wpAny _ _ (field (.ref z) 2 >>= _) _ _ _;refine Qaa (Qbs hz rfl (x:=.bool false) rfl ?_);show wpAny _ _ (field (.ref z) 3 >>= _) _ _ _;refine Qaa (Qbs hz rfl (x:=.ref f) rfl ?_);refine Qaa (Qcb hTI rfl ?_);show wpAny _ _ (Builtin.SmallTypes.ownedTupleIsFree (.ref z) >>= _) _ _ _;refine Qaa (Zab hz hf fun r h0 fb' hz0 G=>?_);have hz0':h0.get? z=some (zO f0 fb' f T):=hz0;have hTO0:IsPair h0 T a b:=G.extBut _ _ D.TOz hTO;have hTI0:IsPair h0 f (.ref i1) (.ref i2):=G.extBut _ _ D.TIz hTI;have n10:YH b1 h0 i1 l1 n:=n1.mv fun o e=>G.extBut _ _ D.i1z e;have n20:YH b2 h0 i2 l2 k2:=n2.mv fun o e=>G.extBut _ _ D.i2z e;have q10:SeqAt b1 h0 l1 xs:=q1.mv fun o e=>G.extBut _ _ D1.z e;have q20:SeqAt b2 h0 l2 ys:=q2.mv fun o e=>G.extBut _ _ D2.z e;cases r with
 | true =>
  simp only [Qf9];refine Qaa (Qdx ?_);refine Qaa (Qbs hz0 rfl (x:=.ref T) rfl ?_);refine Qaa (Qbq hz0 (by simp) fun h₁ J q=>?_)
  replace J:h₁.get? z=some (zO .ellipsis fb' f T):=J
  refine Qaa ?_;simp only [List.zipIdx_cons,List.zipIdx_nil,Qdz,Qev];refine Qaa (Qaa (Qgv ?_));show wpAny _ _ (Builtin.SmallTypes.nextOf (.ref i1) >>= _) _ _ _;cases hx:xs[n]? with
  | none =>
   refine Qaa (kf hh (n10.mv fun o e=>q.extBut _ _ D.i1z e) (q10.mv fun o e=>q.extBut _ _ D1.z e) hx fun I e g he=>?_);obtain ⟨oe,L,R⟩:=he;have O:I.get? z=some (zO .ellipsis fb' f T):=g _ _ D.i1z.symm J;have hez:e≠z:=fun x=>by subst x;rw [O] at L;cases L;simp [zO] at R
   refine Qbq O (by simp) fun N _ C=>hE N e (fun c o Y _ c3 _ x=>C.extBut _ _ Y (g _ _ c3 (q.extBut _ _ Y (G.extBut _ _ Y x)))) ⟨oe,C.extBut _ _ hez L,R⟩
  | some x =>
   have hy:ys[k2]?=none:=by rcases hend with h | h;rw [hx] at h;cases h;exact h
   refine Qaa (GR (n10.mv fun o e=>q.extBut _ _ D.i1z e) (q10.mv fun o e=>q.extBut _ _ D1.z e) hx fun I h1₂ g=>Qan ?_);have M:IsPair I T a b:=g.extBut _ _ D.TOi1 (q.extBut _ _ D.TOz hTO0);refine Qaa (Qcb M rfl ?_);refine Qaa (Qfy M fun N hTO₃ C=>?_);refine Qaa (Qel (Qan ?_));refine Qaa (Qaa (Qgv ?_));show wpAny _ _ (Builtin.SmallTypes.nextOf (.ref i2) >>= _) _ _ _;refine Qaa (kf hh (n20.mv fun o e=>C.extBut _ _ D.TOi2.symm (g.extBut _ _ D.i12.symm (q.extBut _ _ D.i2z e)))
    (q20.mv fun o e=>C.extBut _ _ D2.o (g.extBut _ _ D2.i (q.extBut _ _ D2.z e))) hy fun h₄ e Z he=>?_)
   obtain ⟨oe,L,R⟩:=he;have hz₄:h₄.get? z=some (zO .ellipsis fb' f T):=Z _ _ D.i2z.symm (C.extBut _ _ D.TOz.symm (g.extBut _ _ D.i1z.symm J));have hez:e≠z:=fun x=>by subst x;rw [hz₄] at L;cases L;simp [zO] at R
   refine Qbq hz₄ (by simp) fun h₅ _ hs₅=>hE h₅ e (fun c o Y c2 c3 c4 x=>hs₅.extBut _ _ Y (Z _ _ c4 (C.extBut _ _ c2 (g.extBut _ _ c3 (q.extBut _ _ Y (G.extBut _ _ Y x)))))) ⟨oe,hs₅.extBut _ _ hez L,R⟩
 | false =>
  simp only [Qcs,Qe7];refine Qaa ?_;simp only [<-Array.forIn_toList,Qdz,Qev];refine Qaa (Qaa (Qeq ?_));show wpAny _ _ (Builtin.SmallTypes.nextOf (.ref i1) >>= _) _ _ _;cases hx:xs[n]? with
  | none=>exact Qaa (kf hh n10 q10 hx fun I e g he=>hE I e (fun c o Y _ c3 _ x=>g _ _ c3 (G.extBut _ _ Y x)) he)
  | some x =>
   have hy:ys[k2]?=none:=by rcases hend with h | h;rw [hx] at h;cases h;exact h
   refine Qaa (GR n10 q10 hx fun I h1₂ g=>Qan (Qan ?_));refine Qaa (Qaa (Qeq ?_));show wpAny _ _ (Builtin.SmallTypes.nextOf (.ref i2) >>= _) _ _ _;exact Qaa (kf hh (n20.mv fun o e=>g.extBut _ _ D.i12.symm e) (q20.mv fun o e=>g.extBut _ _ D2.i e) hy fun N e C he=>hE N e (fun c o Y _ c3 c4 x=>C _ _ c4 (g.extBut _ _ c3 (G.extBut _ _ Y x))) he)
theorem next_item{b1 b2:Bool}{z i2 l1 l2:Addr}{xs ys:Array Value}{x y:Value}{Q:Option Value->Shared->Prop}(D:Ap z a f T i2)(N:Of z f T i2 l1)(I:Of z f T i2 l2)
  (S:St b1 b2 z a f T i2 l1 l2 i n s.heap) (M:SeqAt b1 s.heap l1 xs) (L:SeqAt b2 s.heap l2 ys) (hx:xs[i]?=some x) (J:ys[n]?=some y)
  (G:∀h',St b1 b2 z a f T i2 l1 l2 (i + 1) (n + 1) h'->IsPair h' s.heap.objs.size x y ->
   (∀c o,c≠z->c≠f->c≠T->c≠i2->s.heap.get? c=some o->h'.get? c=some o)->Q (some (.ref s.heap.objs.size)) { s with heap:=h' }) :
  wpAny (model prog w) A (pyNext (.ref z)) Q E s:=by
 obtain ⟨f0,O,C,hf⟩:=S.z;have g:s.TypeIs (.ref z) "zip" := ⟨_,C,rfl⟩;unfold pyNext;exact Qaa (Qdt (wpAny_callSpecial?_slot (name:=Str.ofString "__next__") g Qe9
  (Qb4 Qe9 g F.entry_zip_next (item D N I S M L hx J fun h' a1 a2 q=>Qan (G h' a1 a2 q)) (F.args_zip_next_1 _))))
theorem next_end{b1 b2:Bool}{z i1 i2 l1 l2:Addr}{xs ys:Array Value}{Q:Option Value->Shared->Prop}(hh:A.handled=none)(D:Ap z a f i1 i2)(M:Of z f i1 i2 l1)(I:Of z f i1 i2 l2)
  (S:St b1 b2 z a f i1 i2 l1 l2 i n s.heap) (L:SeqAt b1 s.heap l1 xs) (J:SeqAt b2 s.heap l2 ys) (g:xs[i]?=none\/ys[n]?=none)
  (G:∀h',(∀c o,c≠z->c≠f->c≠i1->c≠i2->s.heap.get? c=some o->h'.get? c=some o)->Q none { s with heap:=h' }) :
  wpAny (model prog w) A (pyNext (.ref z)) Q E s:=by
 obtain ⟨f0,N,C,hf⟩:=id S.z;have q:s.TypeIs (.ref z) "zip" := ⟨_,C,rfl⟩;unfold pyNext;refine Qaa (Qdt (wpAny_callSpecial?_slot (name:=Str.ofString "__next__") q Qe9 (Qb4 Qe9 q F.entry_zip_next ?_ (F.args_zip_next_1 _))));refine fin hh D M I S L J g fun h' e hk he=>?_;obtain ⟨o,ho,hc⟩:=he;exact Qaa (Qdq (T := "StopIteration") (b:=true) ⟨o,ho,hc⟩ Qgp (Qan (G _ hk)))
theorem iter_self{z:Addr}{f0:Value}(q:s.heap.get? z=some (zO f0 j a f))(h:Q (.ref z) s):wpAny (model prog w) A (pyIter (.ref z)) Q E s:=by
 have g:s.TypeIs (.ref z) "zip" := ⟨_,q,rfl⟩;refine wpAny_pyIter_slot g F.slot_zip_iter (Qb4 F.slot_zip_iter g F.entry_zip_iter ?_ (F.args_zip_iter_1 _));show wpAny _ _ (ret (.ref z)) _ _ s;exact Qan ⟨_,rfl,"zip",_,g,Qe9.lookup,h⟩
end
end ZpT
namespace ZpT
open PySem PySem.Spec PyProof.Rows
def itO (b:Bool) (l:Addr):Obj:={ cls:=.type (if b then "tuple_iterator" else "list_iterator"),data:=.fields #[.ref l,.int 0 0] }
def hz1(b1:Bool)(h:Heap)(l1:Addr):Heap:=h.push (itO b1 l1)
def hz2(b1 b2:Bool)(h:Heap)(l1 l2:Addr):Heap:=(hz1 b1 h l1).push (itO b2 l2)
def hz3 (b1 b2:Bool) (h:Heap) (l1 l2:Addr):Heap:=(hz2 b1 b2 h l1 l2).push { cls:=.type "tuple",data:=.seq #[.ref h.objs.size,.ref (hz1 b1 h l1).objs.size] }
def hz4 (b1 b2:Bool) (h:Heap) (l1 l2:Addr):Heap:=(hz3 b1 b2 h l1 l2).push { cls:=.type "tuple",data:=.seq #[.none,.none] }
def hz5(b1 b2:Bool)(h:Heap)(l1 l2:Addr):Heap:=(hz4 b1 b2 h l1 l2).push (zO .none false (hz2 b1 b2 h l1 l2).objs.size (hz3 b1 b2 h l1 l2).objs.size)
section
variable {prog:Program}{w:World}{A:Around}{E:Value->Shared->Prop}{s:Shared}
theorem yi{b:Bool}{l:Addr}{xs:Array Value}(hl:SeqAt b s.heap l xs)(h:Q (.ref s.heap.objs.size) { s with heap:=s.heap.push (itO b l) }):wpAny (model prog w) A (pyIter (.ref l)) Q E s:=by
 cases b
 ·exact Qeo hl h
 ·exact Qee hl h
end
theorem XF(b1 b2:Bool)(l1 l2:Addr)(xs ys:Array Value) :
  Meets (Builtin.«zip.__new__» ⟨[.type "zip",.ref l1,.ref l2],[]⟩) (fun _ R s=>SeqAt b1 s.heap l1 xs/\SeqAt b2 s.heap l2 ys /\
   R (.ok (.ret (.ref (hz4 b1 b2 s.heap l1 l2).objs.size))) { s with heap:=hz5 b1 b2 s.heap l1 l2 }) :=
 .of_wp fun prog w A R s h=>by
  obtain ⟨hp,g,d,tk,os⟩:=s;obtain ⟨q,E,h⟩:=h;have G:=sub_zip;have C:SeqAt b1 (Shared.heap ⟨hp,g,d,tk,os⟩) l1 xs:=q;have D:SeqAt b2 (Shared.heap ⟨hp.push (itO b1 l1),g,d,tk,os⟩) l2 ys:=E.mv fun o e=>Qae _ e
  wp_walk using yi C,yi D
  exact ⟨_,rfl,h⟩
section
variable {prog:Program}{w:World}{A:Around}{E:Value->Shared->Prop}{s:Shared}
theorem kg{b:Bool}{it l:Addr}(e:h.get? it=some (itO b l)):YH b h it l 0:=by
 cases b
 ·exact (show h.IsListIter it l 0 from ⟨_,e,rfl,rfl⟩)
 ·exact (show h.IsTupleIter it l 0 from ⟨_,e,rfl,rfl⟩)
theorem call_new{b1 b2:Bool}{l1 l2:Addr}{xs ys:Array Value}(G:SeqAt b1 s.heap l1 xs)(D:SeqAt b2 s.heap l2 ys)
  (h:∀h',St b1 b2 (s.heap.objs.size + 4) (s.heap.objs.size + 2) (s.heap.objs.size + 3) s.heap.objs.size (s.heap.objs.size + 1) l1 l2 0 0 h'->(∀c o,s.heap.get? c=some o->h'.get? c=some o)->Q (.ref (s.heap.objs.size + 4)) { s with heap:=h' }) :
  wpAny (model prog w) A (call (.type "zip") [.ref l1,.ref l2]) Q E s:=by
 refine Qg5 F.called_zip (by decide) (F.typeCall_zip_2 _ _) (F.newCall_zip_2 _ _) (fun J=>F.args_object_init_3 J _ _) F.entry_zip_new (XF b1 b2 l1 l2 xs ys) ⟨G,D,?_⟩;have q:(hz1 b1 s.heap l1).objs.size=s.heap.objs.size + 1:=Qca ..;have g:(hz2 b1 b2 s.heap l1 l2).objs.size=s.heap.objs.size + 2:=by unfold hz2;rw [Qca,q]
 have I:(hz3 b1 b2 s.heap l1 l2).objs.size=s.heap.objs.size + 3:=by unfold hz3;rw [Qca,g]
 have N:(hz4 b1 b2 s.heap l1 l2).objs.size=s.heap.objs.size + 4:=by unfold hz4;rw [Qca,I]
 have C:(hz5 b1 b2 s.heap l1 l2).get? (hz4 b1 b2 s.heap l1 l2).objs.size=some (zO .none false (hz2 b1 b2 s.heap l1 l2).objs.size (hz3 b1 b2 s.heap l1 l2).objs.size):=Qaz _ rfl;have O:(hz5 b1 b2 s.heap l1 l2).get? (hz3 b1 b2 s.heap l1 l2).objs.size=some { cls:=.type "tuple",data:=.seq #[.none,.none] }:=Qae _ (Qaz _ rfl);have L:(hz5 b1 b2 s.heap l1 l2).get? (hz2 b1 b2 s.heap l1 l2).objs.size=some { cls:=.type "tuple",data:=.seq #[.ref s.heap.objs.size,.ref (hz1 b1 s.heap l1).objs.size] }:=Qae _ (Qae _ (Qaz _ rfl));have M:(hz5 b1 b2 s.heap l1 l2).get? (hz1 b1 s.heap l1).objs.size=some (itO b2 l2):=Qae _ (Qae _ (Qae _ (Qaz _ rfl)));have R:(hz5 b1 b2 s.heap l1 l2).get? s.heap.objs.size=some (itO b1 l1):=Qae _ (Qae _ (Qae _ (Qae _ (Qaz _ rfl))));show _/\_;rw [g,I,N] at C;rw [q,g] at L;rw [I] at O;rw [q] at M;rw [N];exact ⟨⟨_,C,rfl⟩,h _ ⟨⟨_,_,C,.inl rfl⟩,L,⟨_,_,O⟩,kg R,kg M⟩ fun c o x =>
  Qae _ (Qae _ (Qae _ (Qae _ (Qae _ x))))⟩
theorem St.other{b1 b2:Bool}{z i1 i2 l1 l2:Addr}{h':Heap}(D:Ap z f T i1 i2)(S:St b1 b2 z f T i1 i2 l1 l2 i n h){f0:Value}(g:h'.get? z=some (zO f0 j f T))(hf:F0 f0)(hs:Heap.SameBut z h h'):St b1 b2 z f T i1 i2 l1 l2 i n h' :=
 ⟨⟨f0,j,g,hf⟩,hs.extBut _ _ D.TIz S.I,(let ⟨a,b,e⟩:=S.O;⟨a,b,hs.extBut _ _ D.TOz e⟩),S.n1.mv fun o e=>hs.extBut _ _ D.i1z e,S.n2.mv fun o e=>hs.extBut _ _ D.i2z e⟩
theorem go_any{b1 b2:Bool}{z i1 i2 l1 l2:Addr}{k2:Nat}{Q:Unit->Shared->Prop}(D:Ap z a f i1 i2)(S:St b1 b2 z a f i1 i2 l1 l2 i k2 s.heap)
  (h:∀h',St b1 b2 z a f i1 i2 l1 l2 i k2 h'->Heap.SameBut z s.heap h'->Q () { s with heap:=h' }):wpAny (model prog w) A (letOwnedTupleGo e (.ref z) (.ref T)) Q E s:=by
 have C:Q () s:=h s.heap S ⟨rfl,fun _ _=>rfl⟩;obtain ⟨f0,I,G,hf⟩:=id S.z;have tup:wpAny (model prog w) A (do
   let o <-load z
   match o.cls,o.data with
   | .type n,.fields vs =>
    if ["enumerate","zip","dict_itemiterator","dict_reverseitemiterator","odict_iterator","itertools.zip_longest","itertools.pairwise"].contains n && vs[0]? == some (rawInt T) then
     rule "for.unpacks-the-owned-tuple"
     updateField z 0 .none
   | _,_=>pure ()) Q E s:=by
  refine Qaa (wpAny_load G ?_);show wpAny _ _ (if (["enumerate","zip","dict_itemiterator","dict_reverseitemiterator","odict_iterator","itertools.zip_longest","itertools.pairwise"].contains "zip" && (#[f0,.bool I,.bool false,.ref a,.ref f]:Array Value)[0]? == some (rawInt T))=true then _ else _) Q E s
  split
  ·refine Qaa (Qdx ?_)
   show wpAny _ _ (setField (.ref z) 0 .none) Q E s;exact Qbq G (by simp) fun h' q g=>h h' (S.other D (f0:=.none) q (.inl rfl) g) g
  ·exact Qan C
 unfold letOwnedTupleGo;cases e <;> first
  | exact tup
  | exact Qan C
end
end ZpT
namespace L2
open PySem PySem.Spec PyProof.Rows
open ZpT (St Ap Of SeqAt YH)
def SqB(K:PySem.W.Frag):Bool->Hp->Addr->List V->Prop
 | true,H,a,xs=>SqT K H a xs
 | false,H,a,xs=>SqL K H a xs
theorem SqB.t{xs:List V}(h:H a=some (.tup xs)):SqB K true H a xs:=(SqT.of h:SqT K H a xs)
theorem SqB.l{xs:List V}(h:H a=some (.lst xs)):SqB K false H a xs:=(SqL.of h:SqL K H a xs)
theorem Inv.sqB{X:Cx}{σ:L2.St}{xs:List V}{b:Bool}(I:Inv X r σ H s)(h:SqB X.K b H a xs):∃g:List Value,Vals xs g/\SeqAt b s.heap a g.toArray/\xs.length<=sizeLine:=by
 cases b
 ·obtain ⟨g,C,p,q⟩:=I.list (show SqL X.K H a xs from h)
  obtain ⟨o,n,e,hc,_,hd⟩:=p;exact ⟨g,C,(show s.heap.IsList a g.toArray from ⟨o,e,hc,n,hd⟩),q⟩
 ·obtain ⟨g,C,p,q⟩:=I.tuple (show SqT X.K H a xs from h)
  exact ⟨g,C,(show s.heap.IsTuple a g.toArray from p),q⟩
theorem Inv.sqB_inj{X:Cx}{σ:L2.St}{xs ys:List V}{b:Bool}(I:Inv X r σ H s)(h:SqB X.K b H a xs)(h':SqB X.K b H a ys):xs=ys:=by
 cases b
 ·exact I.list_inj h h'
 ·exact I.tuple_inj h h'
def Itz(K:PySem.W.Frag)(b1 b2:Bool)(a1 a2:Addr):It :=
  ⟨fun i H=>∃xs ys x y,SqB K b1 H a1 xs/\SqB K b2 H a2 ys/\xs[i]?=some x/\ys[i]?=some y,
   fun i H v H'=>∃p,H p=none/\v=.ref p/\∀xs ys x y,SqB K b1 H a1 xs->SqB K b2 H a2 ys->xs[i]?=some x->ys[i]?=some y->H'=upd H p (.tup [x,y]),
   fun i H=>∃xs ys,SqB K b1 H a1 xs/\SqB K b2 H a2 ys/\(xs.length<=i\/ys.length<=i)⟩
theorem Zdb{P:Program}{tg:Expr}{b1 b2:Bool}{z i2 a1 a2:Addr}(D:Ap z a f T i2)(D1:Of z f T i2 a1)(D2:Of z f T i2 a2) :
  Turn P w K tg (Itz K b1 b2 a1 a2) [z,a,f,T,i2] z (fun i h=>ZpT.St b1 b2 z a f T i2 a1 a2 i i h) where
 mem:=by simp
 obj:=fun i h st b hb=>by
  obtain ⟨⟨f0,fb,L,hf⟩,g,⟨x,y,C⟩,R,Z⟩:=st;simp only [Qas,Qa6,Qc1] at hb;rcases hb with rfl | rfl | rfl | rfl | rfl
  ·exact ⟨_,L,fun v q=>by
    have q':Data.fields _=Data.cell v:=q;cases q'⟩
  ·exact ⟨_,g,fun v q=>by
    have q':Data.seq _ _=Data.cell v:=q;cases q'⟩
  ·exact ⟨_,C,fun v q=>by
    have q':Data.seq _ _=Data.cell v:=q;cases q'⟩
  ·exact R.ob
  ·exact Z.ob
 keep:=fun i h h' st k=>by
  obtain ⟨⟨f0,fb,L,hf⟩,g,⟨x,y,C⟩,R,Z⟩:=st;exact ⟨⟨f0,fb,k z (by simp) _ L,hf⟩,k a (by simp) _ g,⟨x,y,k f (by simp) _ C⟩,R.mv fun o e=>k T (by simp) o e,Z.mv fun o e=>k i2 (by simp) o e⟩
 item:=by
  intro X hP hw hK hc i pins s σ H E I hf st hg;subst hP hw hK;obtain ⟨xs,ys,x,y,q1,q2,hx,hy⟩:=hg;obtain ⟨S,r1,p1,z1⟩:=I.sqB q1;obtain ⟨M,r2,p2,z2⟩:=I.sqB q2;obtain ⟨u1,hu1,ru1⟩:=r1.get hx;obtain ⟨u2,hu2,ru2⟩:=r2.get hy;have olt:∀b∈[z,a,f,T,i2],b < s.heap.objs.size:=fun b hb=>by
   obtain ⟨⟨f0,fb,L,hf⟩,g,⟨x,y,C⟩,R,Z⟩:=st;simp only [Qas,Qa6,Qc1] at hb;rcases hb with rfl | rfl | rfl | rfl | rfl
   ·exact Qav L
   ·exact Qav g
   ·exact Qav C
   ·obtain ⟨o,ho,_⟩:=R.ob
    exact Qav ho
   ·obtain ⟨o,ho,_⟩:=Z.ob
    exact Qav ho
  refine ZpT.next_item D D1 D2 st p1 p2 (x:=u1) (y:=u2) (by simpa using hu1) (by simpa using hu2) fun h' st' hT hk=>?_;refine ⟨_,rfl,ZpT.go_any (s:={ s with heap:=h' }) D st' fun h2 st2 hs2=>?_⟩;have G:Heap.SameBut z h' h2:=hs2;have I1:Inv X pins σ (upd H s.heap.objs.size (.tup [x,y])) { s with heap:=s.heap.push { cls:=.type "tuple",data:=.seq #[u1,u2] },toks:=s.toks } :=
   I.laid (fun b o y=>Qae _ y) (Qai _) ⟨by show 2<=sizeLine;decide,[u1,u2],.cons ru1 (.cons ru2 .nil),Qg2 _ _⟩
  have O:∀b∈[z,a,f,T,i2],xY X pins (upd H s.heap.objs.size (.tup [x,y])) b:=fun b hb=>by
   obtain ⟨a0,ar⟩:=hf b hb;exact ⟨by rw [Zp (Qbt (olt b hb))];exact a0,ar⟩
  have I2:Inv X pins σ (upd H s.heap.objs.size (.tup [x,y])) { s with heap:=h2,toks:=s.toks }:=by
   refine J3 (s:={ s with heap:=s.heap.push { cls:=.type "tuple",data:=.seq #[u1,u2] },toks:=s.toks }) I1 O fun b o hb q=>?_;have J:b≠z:=fun e=>hb (by simp [e]);rcases Qfx q with ⟨rfl,rfl⟩ | q
   ·exact (G.2 _ J).trans hT
   ·exact (G.2 b J).trans (hk b o J (fun e=>hb (by simp [e])) (fun e=>hb (by simp [e])) (fun e=>hb (by simp [e])) q)
  refine ⟨.ref s.heap.objs.size,_,I2,rfl,⟨_,I.hok.fresh (Qai _),rfl,fun xs' ys' x' y' q1' q2' N Y=>?_⟩,st2,fun b hb=>(O b hb).1⟩;rw [I.sqB_inj q1' q1,hx] at N;rw [I.sqB_inj q2' q2,hy] at Y;cases N;cases Y
  rfl
 done:=by
  intro X hP hw hK hc i pins s σ H E I hf st hg;subst hP hw hK;obtain ⟨xs,ys,q1,q2,hx⟩:=hg;obtain ⟨S,r1,p1,z1⟩:=I.sqB q1;obtain ⟨M,r2,p2,z2⟩:=I.sqB q2;have e1:=r1.length;have e2:=r2.length;refine ZpT.next_end (I.ok.hd hc) D D1 D2 st p1 p2 (by simp;lia) fun h' hk=>⟨rfl,?_⟩;exact J3 (t':=s.toks) I hf fun b o hb q=>hk b o (fun e=>hb (by simp [e])) (fun e=>hb (by simp [e])) (fun e=>hb (by simp [e])) (fun e=>hb (by simp [e])) q
 self:=fun _ _ _ _ _ st h=>let ⟨_,_,L,_⟩:=st.z;ZpT.iter_self L h
theorem bt_zip:bootBuiltins "zip" = some (.type "zip"):=by decide +kernel
end L2
namespace L2
open PySem PySem.Spec PyProof.Rows
open ZpT (Ap Of SeqAt YH)
section
variable {X:Cx}{A:Around}{b1 b2:Bool}{z TI TO i1 i2 a1 a2 S:Addr}{xs ys:List V}{pins:List (Addr × Obj)}{σ:St}{R:Result->Shared->Prop}
end
end L2
namespace L2
open PySem PySem.Spec PyProof.Rows
open ZpT (Ap Of SeqAt YH)
def zfp(n:Nat):List Addr:=[n + 4,n + 2,n + 3,n,n + 1]
theorem zap(n:Nat):Ap (n + 4) (n + 2) (n + 3) n (n + 1):=by constructor <;> (show @Ne Nat _ _;lia)
theorem zof{l:Nat}(h:l < n):Of (n + 4) (n + 3) n (n + 1) l:=by constructor <;> (show @Ne Nat _ _;lia)
section
variable {X:Cx}{e1 e2:Expr}{t:TA}{p pos:Pos}{b1 b2:Bool}
theorem Zfa{b:Bool}{l:Addr}{xs:Array Value}(q:SeqAt b h l xs):l < h.objs.size:=by
 cases b
 ·obtain ⟨o,ho,_⟩:=(show h.IsList l xs from q)
  exact Qav ho
 ·obtain ⟨o,ho,_⟩:=(show h.IsTuple l xs from q)
  exact Qav ho
theorem Zdc {pins:List (Addr × Obj)}    {RR:Addr->Addr->List V->List V->Hp->Prop}  (hg:Gl X "zip") (hm:X.mg "zip" = none) (ha:QA X [e1,e2] t) (hp:[e1,e2].all Y2=true) (I:Inv X pins c H s)
  (h:t c H fun vs H1=>∃a1 a2 xs ys,vs=[.ref a1,.ref a2]/\SqB X.K b1 H1 a1 xs/\SqB X.K b2 H1 a2 ys/\RR a1 a2 xs ys H1)
  (fin:∀a1 a2 xs ys n H1 g,Inv X pins c H1 g->SqB X.K b1 H1 a1 xs->SqB X.K b2 H1 a2 ys->RR a1 a2 xs ys H1->a1 < n->a2 < n->ZpT.St b1 b2 (n + 4) (n + 2) (n + 3) n (n + 1) a1 a2 0 0 g.heap->(∀b∈zfp n,xY X pins H1 b)->Q (.ref (n + 4)) g) :
  wpAny (model X.prog X.w) X.A (eval (.Call (.Name "zip" p) [e1,e2] [] pos) X.env) Q X.xe s:=by
 rw [Qcj,Qbv] at hp;refine Qc3 (Gn I hg hm bt_zip ?_);refine Qck (thn (ha.out pos pins s c H _ I h) fun R g ⟨vs,H1,C,N,D⟩=>?_) (Zz hp.1) (Xq hp.2);obtain ⟨a1,a2,xs,ys,rfl,D,L,r⟩:=D;obtain ⟨u1,u2,rfl,E,G⟩:=Zc9 N;cases E;cases G;obtain ⟨J,Y,p1,S⟩:=C.sqB D;obtain ⟨M,Z,p2,O⟩:=C.sqB L;refine ZpT.call_new p1 p2 fun h' st hk=>?_;refine fin a1 a2 xs ys g.heap.objs.size H1 _ (C.kept (t':=g.toks) hk) D L r (Zfa p1) (Zfa p2) st fun b hb=>?_;have q:g.heap.objs.size<=b:=by
  simp only [zfp,Qas,Qa6,Qc1] at hb;rcases hb with rfl | rfl | rfl | rfl | rfl
  ·exact Qez _ _
  ·exact Qez _ _
  ·exact Qez _ _
  ·exact Qai _
  ·exact Qez _ _
 exact C.fpOk q (C.hok.fresh q)
def iZip2(K:PySem.W.Frag)(b1 b2:Bool)(t:TA):TI:=fun σ H R=>t σ H fun vs H1=>∃a1 a2 xs ys,vs=[.ref a1,.ref a2]/\SqB K b1 H1 a1 xs/\SqB K b2 H1 a2 ys/\R (Itz K b1 b2 a1 a2) H1
theorem qi_zip  (hg:Gl X "zip") (hm:X.mg "zip" = none) (ha:QA X [e1,e2] t) (hp:[e1,e2].all Y2=true:=by rfl):QI X e (.Call (.Name "zip" p) [e1,e2] [] pos) (iZip2 X.K b1 b2 t):=by
 refine ⟨fun pins s σ H R I h=>?_⟩;refine Zdc (b1:=b1) (b2:=b2) (RR:=fun a1 a2 _ _ H1=>R (Itz X.K b1 b2 a1 a2) H1) hg hm ha hp I h fun a1 a2 xs ys n H1 C q E G r l1 l2 st hf=>?_;obtain ⟨f0,D,g,_⟩:=id st.z;exact ZpT.iter_self g ⟨n + 4,zfp n,_,_,H1,rfl,q,Zdb (zap n) (zof l1) (zof l2),st,hf,r⟩
end
end L2
namespace L2
open PySem PySem.Spec PyProof.Rows
structure Two(scope:Scope)(x x2:Str)(ys:List Str):Prop where
 own:scope.names.lookup x2=some .local
 nd:(x::x2::ys).Nodup
def kh(is:List Nat)(σ:St)(v w:Option V):St:=v::w::is.map fun i=>(σ[i]?).getD none
def Zfb(K:PySem.W.Frag)(is:List Nat)(tc:TT)(te:TE)(σ:St)(Q:VK)(J:It)(H1:Hp):Prop:=∃W:Nat->Nat->List V->Hp->Prop,(∃m,W 0 m [] H1)/\∀i m zs H,W i m zs H ->
 (J.stop i H/\zs.length<=sizeLine/\∀p,H p=none->Q (.ref p) (upd H p (.lst zs))) \/
 (J.go i H/\zs.length<=sizeLine/\∀x H',J.yld i H x H'->∃a C q,x=.ref a/\SqT K H' a [C,q]/\tc (kh is σ (some C) (some q)) H' fun b H2=>if b=true then te (kh is σ (some C) (some q)) H2 fun y D=>∃g,g < m/\W (i + 1) g (zs++[y]) D else ∃g,g < m/\W (i + 1) g zs H2)
def tComp2(K:PySem.W.Frag)(wi:TI)(is:List Nat)(tc:TT)(te:TE):TE:=fun σ H Q=>wi σ H (Zfb K is tc te σ Q)
section
variable {X:Cx}{S scope:Scope}{N:List Str}{x x2:Str}{ys:List Str}{is:List Nat}{pins:List (Addr × Obj)}{σ:St}{H₂:Hp}{s₂:Shared}{fp:List Addr}{elt iter:Expr}{px px2 pp pos:Pos}{pq:Nat}{ifs:List Expr}{tc:TT}{te:TE}{wi:TI}
theorem yZ(K:Ys S scope N x ys is)(G:Two scope x x2 ys)(q:X.env.scope=S)(I:Inv X pins σ H₂ s₂)(D:s₂.heap.objs.size<=a)(g:∀b∈fp,xY X pins H₂ b)(C:∀b∈fp,b < s₂.heap.objs.size):(cxC X (x::x2::ys) scope a s₂ H₂ fp).Ok where
 mod:=I.ok.mod
 kind:=K.kind
 glob:=I.ok.glob
 blt:=I.ok.blt
 above:=D
 inj:=fun y z c h1 h2=>I.ok.inj y z c (K.cl q I.ok y c h1) (K.cl q I.ok z c h2)
 has:=fun y E=>X3 (Jl (env:=X.env) K.cell E)
 cab:=fun y c h=>by cases h
 hd:=I.ok.hd
 frames:=I.ok.frames
 stk:=.inl rfl
 exf:=fun b hb=>⟨fun e=>absurd (Qbf (C b hb) (Qbg D (Qg4 (Eq.symm e)))) (Qby _),fun y c h=>(g b hb).2.2.2.2.1 y c (K.cl q I.ok y c h)⟩
 bs:=I.bs
 bsz:=Qbg I.ok.bsz I.sz
 noex:=fun b o e hb=>by
  rcases (g b hb).2.2.2.1 with z | z
  ·exact I.ok.noex b o e z
  ·exact absurd (Qbf (Qav e) (Qbg I.ok.bsz z)) (Qby _)
 exfs:=fun b hb z=>by
  rcases Qas.mp (I.stkSub b z) with e | e
  ·exact (g b hb).2.1 e
  ·exact (g b hb).2.2.1 e
 funs:=I.stack
 frf:=I.stkFree
theorem Zdd(K:Ys S scope N x ys is)(K2:Two scope x x2 ys)(J:X.env.scope=S)(hN:X.N=N)(hk:S.kind=.function)(I:Inv X pins σ H₂ s₂){D:Heap}{tk:Nat}{O:Obj}(hC:s₂.heap.objs.size<=a)(hD:s₂.heap.objs.size<=f)(Y:f≠a)
    (Z:∀b∈fp,xY X pins H₂ b) (hlt:∀b∈fp,b < s₂.heap.objs.size) (E:∀b o,s₂.heap.get? b=some o->D.get? b=some o) (hn:D.Ns a fun _=>none) (M:D.get? f=some O) (hod:∀v,O.data≠.cell v) :
    Inv (cxC X (x::x2::ys) scope a s₂ H₂ fp) [(f,O)] (kh is σ none none) H₂ { s₂ with heap:=D,toks:=tk }:=by
  have ok:=yZ K K2 J I hC Z hlt;refine ⟨ok,rfl,I.bare,Un.kept E,⟨_,hn,fun i y v h1 h2 h3=>?_⟩,fun y c h=>?_,I.hok.fresh hC,fun y c h=>I.freeC y c (K.cl J I.ok y c h),fun p hp=>?_,I.hok.kept E,?_⟩
  · cases i with
    | zero =>
      have g:some (none:Option V)=some (some v):=h2;cases g
    | succ i =>
     cases i with
     | zero =>
      have g:some (none:Option V)=some (some v):=h2;cases g
     | succ i =>
      have h1':ys[i]?=some y:=h1;have g:(is.map fun i=>(σ[i]?).getD none)[i]?=some (some v):=h2;rw [Qah] at g;cases hj:is[i]? with
      | none=>rw [hj] at g;cases g
      | some j =>
        rw [hj] at g;have C:(σ[j]?).getD none=some v:=Option.some.inj g;have hσ:σ[j]?=some (some v):=by
          cases q:σ[j]? with
          | none=>rw [q] at C;cases C
          | some z=>rw [q] at C;exact congrArg some C
        have hz:(y,j)∈ys.zip is:=by
          obtain ⟨a1,e1⟩:=Qac.mp h1';obtain ⟨a2,e2⟩:=Qac.mp hj;rw [<-e1,<-e2,<-Qex (h:=by rw [Qd0];lia)];exact Qb1 _
        obtain ⟨v1,R⟩:=K.vis _ hz;have G:X.env.kindOf y=some .cell\/X.env.kindOf y=some .free:=by show X.env.scope.names.lookup y=_\/X.env.scope.names.lookup y=_;rw [J];exact K.free _ (qV R) rfl
        obtain ⟨m,hm,hl⟩:=I.loc;obtain ⟨u,r,l⟩:=hl j y v (by rw [hN];exact v1) hσ (.inr G);refine ⟨u,r,.inr ?_⟩;rcases l with ⟨l1,_⟩ | ⟨_,c,l2,l3⟩
        · rcases G with G | G <;> rw [G] at l1 <;> cases l1
        · obtain ⟨c',L⟩:=X3 (cells:=X.env.cells) (acc:=[]) R
          have e:c'=c:=by have:=K.cl J I.ok y c' L;rw [l2] at this;exact (Option.some.inj this).symm
          subst e;refine ⟨G.imp (Jk (scope:=scope) (by rw [J];exact hk) R) (WG R),c',L,?_⟩;obtain ⟨o,ho,hd⟩:=l3;exact ⟨o,E _ _ ho,hd⟩
  · obtain ⟨v,o,ho,hd⟩:=I.cell y c (K.cl J I.ok y c h)
    exact ⟨v,o,E _ _ ho,hd⟩
  · have e:p=(f,O):=by simpa [cxC] using hp
    subst e;refine ⟨M,I.hok.fresh hD,Y,fun z=>?_,hod⟩;obtain ⟨_,o,ho,_⟩:=ok.funs.mem z;exact absurd (Qbf (Qav ho) hD) (Qby _)
  · show (kh is σ none none).length=(x::x2::ys).length
    unfold kh;rw [Qbc,Qbc,Qad,Qbc,Qbc,K.len]
theorem va{J:It}{it:Addr}{tn:Nat->Heap->Prop}{Q:VK}{RR:Value->Addr->Result->Shared->Prop}{E:Value->Shared->Prop}(K:Ys S scope N x ys is)(K2:Two scope x x2 ys)(hX:X.env.scope=S)(hN:X.N=N)(hk:S.kind=.function)(hc:X.calm=true)
  (hf:∀C s₂ H₂ ex,QF (cxC X (x::x2::ys) scope C s₂ H₂ ex) ifs tc) (he:∀C s₂ H₂ ex,QE (cxC X (x::x2::ys) scope C s₂ H₂ ex) elt te)
  (I:Inv X pins σ H₂ s₂) (T:Turn X.prog X.w X.K (.Tuple [.Name x px,.Name x2 px2] pq pp) J fp it tn) (st:tn 0 s₂.heap) (hfp:∀b∈fp,xY X pins H₂ b)
  {W:Nat->Nat->List V->Hp->Prop} {m0:Nat} (w0:W 0 m0 [] H₂)
  (turn:∀i m zs H,W i m zs H->(J.stop i H/\zs.length<=sizeLine/\∀p,H p=none->Q (.ref p) (upd H p (.lst zs))) \/
   (J.go i H/\zs.length<=sizeLine/\∀x H',J.yld i H x H'->∃a v1 Z,x=.ref a/\SqT X.K H' a [v1,Z]/\tc (kh is σ (some v1) (some Z)) H' fun b H2=>if b=true then te (kh is σ (some v1) (some Z)) H2 fun y H3=>∃O,O < m/\W (i + 1) O (zs++[y]) H3 else ∃O,O < m/\W (i + 1) O zs H2))
  (fin:∀D C s' H' O,Inv X pins σ H' s'->xY X pins H' C->s'.heap.Ns C O->Q (.ref D) H'->RR (.ref D) C (.ok .next) s') :
  wpAny (model X.prog X.w) X.A (newList []) (fun acc M=>wpAny (model X.prog X.w) X.A (newFunctionEnv scope X.env.globals (qu X.env.cells scope.names []) [] X.env.qual none .none (some X.env)) (fun cenv s₄ =>
   codeAny (model X.prog X.w) X.A (.compStart (.ListComp elt [⟨(.Tuple [.Name x px,.Name x2 px2] pq pp),iter,ifs,0⟩] scope pos) 0 (.ref it) acc { cenv with scope:=relabel scope X.env }) (RR acc cenv.locals) s₄) E M) E s₂:=by
 refine Qcg (Qfv K.cell (by intro y hy;simp at hy) (fun R L g=>?_) K.kind);dsimp only at L g ⊢;generalize hH2:s₂.heap.push { cls:=.type "list",dict:=none,data:=.seq ([]:List Value).toArray }=H2 at L g ⊢;have hCs:H2.objs.size=s₂.heap.objs.size + 1:=by rw [<-hH2,Qca]
 have Y:s₂.heap.objs.size≠H2.objs.size:=by rw [hCs];exact Qbt (Qfr _)
 have hC:s₂.heap.objs.size<=H2.objs.size:=by rw [hCs];exact Qeg _
 have hlt:∀b∈fp,b < s₂.heap.objs.size:=fun b hb=>by obtain ⟨o,e,_⟩:=T.obj 0 _ st b hb;exact Qav e
 have old:∀b o,s₂.heap.get? b=some o->R.get? b=some o:=fun b o e=>g.extBut b o (by rw [hCs];exact Qbt (Qep (Qav e))) (Qae _ (hH2 ▸ Qae _ e));have hacc:R.get? s₂.heap.objs.size=some { cls:=.type "list",data:=.seq ([]:List Value).toArray 0 }:=g.extBut _ _ Y (Qae _ (hH2 ▸ Qaz _ rfl));have st₁:tn 0 R:=T.keep _ _ _ st fun b _ o e=>old b o e;have fpC:∀{H':Hp} {pl:List (Addr × Obj)},(∀p∈pl,∀b∈fp,p.1≠b)->(∀b∈fp,H' b=none)->∀b∈fp,xY (cxC X (x::x2::ys) scope H2.objs.size s₂ H₂ fp) pl H' b:=fun {H' pl} hpl hn b hb=>by
  have ok:=yZ K K2 hX I hC hfp hlt;exact ⟨hn b hb,(ok.exf b hb).1,ok.exfs b hb,.inl hb,(ok.exf b hb).2,fun p hp=>hpl p hp b hb⟩
 have Dfp:∀(o:Obj),∀p∈[(s₂.heap.objs.size,o)],∀b∈fp,p.1≠b:=fun o p hp b hb e=>by
  have e1:p=(s₂.heap.objs.size,o):=by simpa using hp
  subst e1;exact absurd (hlt b hb) (by rw [<-e];exact Qby _)
 have loop:∀M:Shared,M={ s₂ with heap:=R,toks:=s₂.toks + ([]:List (Str × Value)).length } ->
   codeAny (model X.prog X.w) X.A (.compLoop (.ListComp elt [⟨(.Tuple [.Name x px,.Name x2 px2] pq pp),iter,ifs,0⟩] scope pos) 0 (.ref it) (.ref s₂.heap.objs.size) (compEnvC scope (qu X.env.cells scope.names []) H2.objs.size X.env))
    (RR (.ref s₂.heap.objs.size) H2.objs.size) M:=by
  rintro M rfl;have I0:=Zdd K K2 hX hN hk I (tk:=s₂.toks + ([]:List (Str × Value)).length) hC (Qai _) Y hfp hlt old L hacc (fun v z=>by cases z);refine ya (fun n s'=>∃(i:Nat) (w1 w2:Option V) (zs:List V) (G:List Value) (k:Nat) (H':Hp),Inv (cxC X (x::x2::ys) scope H2.objs.size s₂ H₂ fp) [(s₂.heap.objs.size,{ cls:=.type "list",data:=.seq G.toArray k })] (kh is σ w1 w2) H' s' /\
   Vals zs G/\tn i s'.heap/\(∀b∈fp,H' b=none)/\W i n zs H') ?_ m0 ⟨0,none,none,[],[],0,H₂,I0,.nil,st₁,fun b hb=>(hfp b hb).1,w0⟩
  rintro n s3 ⟨i,w1,w2,zs,G,k,H3,I3,rv,st3,fr3,w3⟩;have hD3:=I3.pin _ (Qa0 _ (Qay.mpr rfl));rcases turn i n zs H3 w3 with ⟨stop,hz,q⟩ | ⟨go,hz,step⟩
  ·refine thn (T.done (cxC X (x::x2::ys) scope H2.objs.size s₂ H₂ fp) rfl rfl rfl hc i _ s3 _ H3 _ I3 (fpC (Dfp _) fr3) st3 stop) fun r s4 ⟨hr,I4⟩=>?_
   subst hr;have hD4:=I4.pin _ (Qa0 _ (Qay.mpr rfl));have I5:=uD I I4 (Qai _) hD4.2.1 hfp hz rv hD4.1;obtain ⟨O,hm',_⟩:=I4.loc;refine fin _ _ s4 _ O I5 ?_ hm' (q _ hD4.2.1);refine I.fpOk hC ?_;rw [Zp (Qdk Y)];exact I4.free
  ·refine thn (T.item (cxC X (x::x2::ys) scope H2.objs.size s₂ H₂ fp) rfl rfl rfl hc i _ s3 _ H3 _ I3 (fpC (Dfp _) fr3) st3 go) fun r s4 ⟨u,hr,h4⟩=>?_
   subst hr;refine thn h4 fun _ s5 ⟨xv,H5,I5,r5,y5,st5,fr5⟩=>?_;have I5':=I5.pinned (fpC (Dfp _) fr5) (T.obj _ _ st5);have pg:PG (cxC X (x::x2::ys) scope H2.objs.size s₂ H₂ fp) (.Tuple [.Name x px,.Name x2 px2] pq pp) (Zis X.K 2 (je (JS 0) (je (JS 1) Zir))):=Zej hc (qR (jd K2.nd rfl (.inl (Qdi K.own)) (.inr (Qdi K.own))) (qR (jd K2.nd rfl (.inl (Qdi K2.own)) (.inr (Qdi K2.own))) gI));obtain ⟨av,v1,Z,exv,sq5,stp⟩:=step xv H5 y5;subst exv;refine thn (pg _ s5 _ H5 (.ref av) u (fun σ2 H2=>σ2=kh is σ (some v1) (some Z)/\H2=H5) I5' r5 ⟨av,[v1,Z],rfl,sq5,rfl,_,_,rfl,_,_,rfl,rfl,rfl,rfl⟩) fun _ s6 ⟨σ6,H6,I6,e6,e6'⟩=>?_;subst e6;subst e6';have back:∀{s7:Shared} {H7:Hp},Inv (cxC X (x::x2::ys) scope H2.objs.size s₂ H₂ fp) ([(s₂.heap.objs.size,{ cls:=.type "list",data:=.seq G.toArray k })]++zw fp s5.heap) (kh is σ (some v1) (some Z)) H7 s7 ->
     tn (i + 1) s7.heap/\(∀b∈fp,H7 b=none)/\s7.heap.get? s₂.heap.objs.size=some { cls:=.type "list",data:=.seq G.toArray k }/\H7 s₂.heap.objs.size=none:=fun {s7 H7} I7=>by
    refine ⟨T.keep _ _ _ st5 fun b hb o e=>(I7.pin (b,o) (Qa0 _ (Qa0 _ (X8 hb e)))).1,fun b hb=>?_,?_,?_⟩
    ·obtain ⟨o,e,d⟩:=T.obj _ _ st5 b hb
     exact (I7.pin (b,o) (Qa0 _ (Qa0 _ (X8 hb e)))).2.1
    ·exact (I7.pin (s₂.heap.objs.size,{ cls:=.type "list",data:=.seq G.toArray k }) (Qa0 _ (Qc6 _ (Qay.mpr rfl)))).1
    ·exact (I7.pin (s₂.heap.objs.size,{ cls:=.type "list",data:=.seq G.toArray k }) (Qa0 _ (Qc6 _ (Qay.mpr rfl)))).2.1
   refine thn ((hf _ _ _ _).out _ s6 _ H6 _ I6 stp) fun b s7 ⟨H7,I7,q7⟩=>?_;cases b with
   | false =>
    have q7':∃O,O < n/\W (i + 1) O zs H7:=by simpa using q7
    obtain ⟨O,hm',w7⟩:=q7';obtain ⟨b1,b2,b3,b4⟩:=back I7;rw [Qax Qa3];exact ⟨O,hm',i + 1,some v1,some Z,zs,G,k,H7,I7.unpinned,rv,b1,b2,w7⟩
   | true =>
    rw [Qa4 rfl];have q7':=q7;rw [Qa4 rfl] at q7';refine thn ((he _ _ _ _).out _ s7 _ H7 _ I7 q7') fun yv s8 ⟨y,H8,I8,r8,O,hm',w8⟩=>?_;obtain ⟨b1,b2,b3,b4⟩:=back I8;refine append_at b3 (fun h9 sb9 e9=>?_) (by rw [Qa8,<-rv.length];exact hz);have ok:=yZ K K2 hX I hC hfp hlt;have I8':Inv (cxC X (x::x2::ys) scope H2.objs.size s₂ H₂ fp) [] (kh is σ (some v1) (some Z)) H8 s8:=I8.pins_of fun p hp=>by cases hp
    have I9:Inv (cxC X (x::x2::ys) scope H2.objs.size s₂ H₂ fp) [] (kh is σ (some v1) (some Z)) H8 { s8 with heap:=h9 }:=I8'.turned (t':=s8.toks) (it:=s₂.heap.objs.size) (fun b o hb e=>(sb9.2 b hb).trans e) b4 Y (.inr (Qai _))
     (fun y c h z=>by
      obtain ⟨v,o,ho,_⟩:=I.cell y c (K.cl hX I.ok y c h);have:=Qav ho;rw [z] at this;exact Qby _ this) (fun p hp=>by cases hp)
    refine ⟨O,hm',i + 1,some v1,some Z,zs++[y],G++[yv],k + 1,H8,?_,rv.append (.cons r8 .nil),T.keep _ _ _ b1 fun b hb o e=>(sb9.2 b fun z=>absurd (hlt b hb) (by rw [z];exact Qby _)).trans e,b2,w8⟩;refine I9.pins_of fun p hp=>?_;have e1:p=(s₂.heap.objs.size,{ cls:=.type "list",data:=.seq (G++[yv]).toArray (k + 1) }):=by simpa using hp
    subst e1;refine ⟨by rw [e9,List.push_toArray],b4,Y,fun z=>?_,fun v z=>by cases z⟩;obtain ⟨_,o,ho,_⟩:=ok.funs.mem z;exact absurd (Qav ho) (Qby _)
 exact codeAny_compStart_list (loop _ rfl) (T.self _ 0 _ _ _ st₁ (loop _ rfl))
theorem Zde(K:Ys S scope N x ys is)(K2:Two scope x x2 ys)(hi:QI X (.Tuple [.Name x px,.Name x2 px2] pq pp) iter wi)(hf:∀C s₂ H₂ ex,QF (cxC X (x::x2::ys) scope C s₂ H₂ ex) ifs tc)(he:∀C s₂ H₂ ex,QE (cxC X (x::x2::ys) scope C s₂ H₂ ex) elt te)
  (hc:X.calm=true:=by rfl) (M:X.env.scope=S:=by rfl) (hN:X.N=N:=by rfl) (hk:S.kind=.function:=by rfl) (hs:∀v,foldedSetIterable iter X.env v=pure v:=by intro _;rfl) :
  QE X (.ListComp elt [⟨(.Tuple [.Name x px,.Name x2 px2] pq pp),iter,ifs,0⟩] scope pos) (tComp2 X.K wi is tc te):=by
 refine ⟨fun pins s σ H Q I h=>?_⟩;rw [eval_ListComp];refine Qe2 (use:=none) rfl hs (Wt (K.cellOf' M I.ok)) K.kind K.names (thn (hi.out pins s σ H _ I h) fun v s1 h1=>thn h1 fun itv s2 h2=>?_);obtain ⟨it,fp,tn,J,H2,rfl,I2,T,G,O,W,⟨m0,w0⟩,g⟩:=h2;refine va (RR:=fun acc C=>compPost (model X.prog X.w) X.A X.xe none (EP X pins σ Q) acc C) K K2 M hN hk hc hf he I2 T G O w0 g ?_;intro D C s' H' m' Y fC E q;obtain ⟨f0,R,f3,f4,Z,f6⟩:=fC;exact ⟨m',E,fun h' L=>⟨.ref D,H',Y.turned (t':=s'.toks) (fun b o hb e=>(L.2 b hb).trans e) f0 R f4 Z f6,rfl,q⟩⟩
end
end L2
namespace L2
open PySem PySem.Spec PyProof.Rows PySem.W
section
variable {prog:Program}{w:World}{A:Around}{E:Value->Shared->Prop}{s:Shared}
end
section
variable {prog:Program}{w:World}{h:Heap}
end
section
variable {X:Cx}
end
end L2
namespace L2
open PySem PySem.Spec PyProof.Rows
section
variable {prog:Program}{w:World}{A:Around}{E:Value->Shared->Prop}{s:Shared}{c it:Addr}{oc:Obj}{es:Array DictEntry}{ep i:Nat}
end
section
variable {X:Cx}
def Zgy(tk tv:TE):TE:=fun σ H Q=>∀p,H p=none->tk σ (upd H p (.dT [])) fun x H1=>tv σ H1 fun y H2=>H2 p=some (.dT [])/\∃b ks,x=.ref b/\H2 b=some (.tup (ks.map kV))/\Q (.ref p) (upd H2 p (.dT [(ks,y)]))
def PP1(X:Cx)(pos:Pos)(k v:Expr)(tk tv:TE):Prop:=∀pins s σ H (R:V->V->Hp->Prop),Inv X pins σ H s->(tk σ H fun x H1=>tv σ H1 fun y H2=>R x y H2) ->
 wpAny (model X.prog X.w) X.A (evalPairs (pairTrees [some k] [v] X.env pos)) (fun g q=>∃x y u r H2,g=[(u,r)]/\Inv X pins σ H2 q/\RelV x u/\RelV y r/\R x y H2) X.xe s
theorem store1{A:Around}{E:Value->Shared->Prop}{pins:List (Addr × Obj)}{p b:Addr}{ks:List Key}{y:V}{r:Value}{Q:PUnit->Shared->Prop}(hu:A.units < cLine)(I:Inv X pins c H s)(e:H p=some (.dT []))(C:H b=some (.tup (ks.map kV)))(M:RelV y r)
  (q:∀s',Inv X pins c (upd H p (.dT [(ks,y)])) s'->Q PUnit.unit s'):wpAny (model X.prog X.w) A (storeAll p [(.ref b,r)]) Q E s:=by
 unfold storeAll;rw [Qdz];obtain ⟨z,hd,xs,g,dd⟩:=Zi5 I.hok e;cases g;refine Qaa (Qaa (wpAny_dictSet_heap (hsz:=Qbp _) (knd:=tupleKind (Yz X.prog X.w)) hu (zB I.hok C) dd fun h' dd' hs=>Qan ?_));show wpAny _ A (forIn ([]:List (Value × Value)) PUnit.unit _) Q E _;rw [Qev];refine Qan (q _ ?_);obtain ⟨o,es,ep,D,h2,L,G,_,J⟩:=dd';have hb:(upd H p (.dT [(ks,y)])) b=some (.tup (ks.map kV)):=by
  rw [Zp (XW C e (fun z=>nomatch z))];exact C
 exact xt I (by rw [e];exact True.intro) hs ⟨o,D⟩ ⟨(by show 1<=sizeLine;decide),hd,_,.cons ⟨rfl,hb,M⟩ .nil,o,es,ep,D,h2,L,G,J⟩
theorem pp1{k v:Expr}{tk:TE}(hk:QE X k tk)(hv:QE X v A):PP1 X p k v tk A:=by
 intro pins s σ H R I q;refine pairTrees_cons_walk (thn (hk.out pins s σ H _ I q) fun u C ⟨x,H1,D,g,E⟩=>thn (hv.out pins C σ H1 _ D E) fun r M ⟨y,H2,L,J,G⟩=>pairTrees_nil_walk ⟨x,y,u,r,H2,rfl,L,g,J,G⟩)
theorem Zac{k v:Expr}{tk:TE}(hu:X.A.units + 1 < cLine)(hk:QE X k tk)(hv:QE X v I):QE X (.Dict [some k] [v] p) (Zgy tk I):=by
 refine ⟨fun pins s σ H Q g q=>?_⟩;have hn:=g.hok.fresh (Qai s.heap.objs.size);have E:=g.laid (a:=s.heap.objs.size) (o:=.dT []) (h':=s.heap.push { cls:=.type "dict",data:=.dict #[] }) (t':=s.toks) (fun _ _ q=>Qae _ q) (Qai _) (Zc3 s.heap g.big);refine wpAny_Dict_any rfl rfl (fun z=>nomatch z) (by show 1<=15;decide) (thn (pp1 hk hv pins _ σ _ _ E (q _ hn)) fun O R ⟨x,y,u,r,H2,M,N,C,J,e,b,ks,ex,L,G⟩=>?_);subst M ex;cases (show u=Value.ref b from C);exact store1 (Qds (Qeg _) hu) N e L J fun s' D=>⟨.ref s.heap.objs.size,_,D,rfl,G⟩
theorem HT.cat_tup0{prog:Program}{A:Around}{E:Value->Shared->Prop}{t b:Addr}(M:IsTup s.heap t #[])(hb:IsTup s.heap b U.toArray)(q:Q (.ref b) s) :
  wpAny (model prog w) A (binaryOp .Add (.ref t) (.ref b)) Q E s:=by
 obtain ⟨⟨cls,dd,data,L⟩,ho,hc,n,hd⟩:=id M;obtain ⟨⟨J,I,data2,G⟩,C,g,N,D⟩:=id hb;simp only at hc hd g D;subst hc hd g D;exact concat_meets ⟨_,ho,rfl⟩ ⟨_,C,rfl⟩ Qg1 seq_tuple_add Qff Qe6 (Qe0 _ _)
  (tuple_addW0 t b #[] U.toArray n N dd I L G rfl) ⟨ho,C,q⟩
inductive Zad(x:V)(y:V)(H:Hp)(Q:VK):Prop
 | mk (a b xs ys:_):(x=.ref a)->(y=.ref b)->(H a=some (.tup xs))->(H b=some (.tup ys))->(xs.length + ys.length<=sizeLine)->(∀p H',H' p=some (.tup (xs++ys))->Yb H H'->Q (.ref p) H')->Zad x y H Q
def Zjb  : R2:=fun x y H Q=>Zad x y H Q
theorem Zh:OpR X (binaryOp .Add) Zjb:=by
 intro pins s σ H x y v u Q I G J h;obtain ⟨a,b,xs,ys,rfl,rfl,ha,hb,D,q⟩:=h;cases G;cases J;obtain ⟨L,g,p1,_⟩:=I.tuple (SqT.of ha:SqT X.K H a xs);obtain ⟨E,C,p2,_⟩:=I.tuple (SqT.of hb:SqT X.K H b ys)
 by_cases hx:xs=[]
 ·have e:=g.nil_iff.mpr hx
  subst e hx;exact HT.cat_tup0 p1 p2 ⟨.ref b,H,I,rfl,q b H hb fun _ _ z=>z⟩
 ·refine HT.cat_tup p1 p2 (fun z=>hx (g.nil_iff.mp z)) (fun z=>⟨.ref a,H,I,rfl,q a H ?_ fun _ _ z=>z⟩) (fun z=>?_) (by rw [<-g.length,<-C.length];exact D)
  ·rw [C.nil_iff.mp z,Qbl]
   exact ha
  ·have hn:=I.hok.fresh (Qai s.heap.objs.size)
   refine ⟨.ref s.heap.objs.size,_,I.laid (t':=s.toks) (o:=.tup (xs++ys)) (fun b ob q=>Qae _ q) (Qai _) ?_,rfl,q _ _ Zc fun c o z=>by rw [Zp (fun e=>by rw [e,hn] at z;cases z)];exact z⟩;exact ⟨by rw [Qaf];exact D,_,g.append C,Qg2 _ _⟩
end
open PySem.W (hideAll of_hideAll hideAll_get hideAll_none funFrames_hide)
section
variable {P:Program}{w:World}{X:Cx}{pins:List (Addr × Obj)}{σ:St}{H:Hp}{s:Shared}
end
end L2
namespace L2
open PySem PySem.Spec PyProof.Rows
open PySem.W (hideAll of_hideAll hideAll_get hideAll_none funFrames_hide)
section
variable {X:Cx}{E:XK}
end
end L2
namespace L2
open PySem PySem.Spec PyProof.Rows
section
variable {X:Cx}{E:XK}{x:Str}{C:Addr}{np cpos pos:Pos}{e₀:Expr}{rest:List Expr}{t:TA}
end
section
variable {M:Model}{A:Around}{E:Value->Shared->Prop}
variable {nm q nm' q':Str}{C N D N':Addr}{bs bm bs' bm':List Value}{hdct hdct':Bool}{sn sn':List Str}{sub sub':List Value}{ab ab':Bool}{col col':Option Bool}{dd dd':Option Addr}{k0 k1 k2 k3 k5 k0' k1' k2' k3' k5':Option Value}{newId newId':String}
end
section
variable {X:Cx}{pins:List (Addr × Obj)}{σ:St}{H H':Hp}{s s':Shared}
end
section
variable {prog:Program}{w:World}{A:Around}{E:Value->Shared->Prop}{s:Shared}{env:Env}
end
section
variable {X:Cx}{pins:List (Addr × Obj)}{σ:St}{H:Hp}{s:Shared}
variable {k:Nat}{f:Addr}{fd:FuncData}{ps:List Str}{sp:Sp}{g x y n:Str}{p np p0 cpos spos hpos pos:Pos}{e₀:Expr}{es:List Expr}{t:TA}{b₀:Stmt}{suite:List Stmt}{i j:Nat}{Dc:Addr}{ts:TS}
end
end L2
namespace L2
open PySem PySem.Spec PyProof.Rows PySem.Calls
open PySem.W (Frag InstAt findObj plainGet plainGet_of kin_open kin_hooked class_get handed_on mroIn clsIn Looks subIn typeIn looks_typeIn looks_subIn isIn isi_call)
section
variable {prog:Program}{w:World}{A:Around}{E:Value->Shared->Prop}{s:Shared}{K:Frag}{e C D:Addr}{oe:Obj}{od:Option Obj}
end
end L2
namespace L2
open PySem PySem.Spec PyProof.Rows PySem.Calls
open PySem.W Builtin Builtin.ObjectAttr Builtin.Getset_descriptor
section
variable {prog:Program}{w:World}{A:Around}{E:Value->Shared->Prop}{s:Shared}{K:Frag}{e C D:Addr}
end
end L2
namespace L2
open PySem PySem.Spec PyProof.Rows PySem.Calls
open PySem.W Builtin Builtin.ObjectAttr
section
variable {prog:Program}{w:World}{A:Around}{E:Value->Shared->Prop}{s:Shared}{K:Frag}{x C:Addr}{name:Str}{v:Value}
end
section
variable {X:Cx}{pins:List (Addr × Obj)}{σ:St}{H:Hp}{s:Shared}{e C d:Addr}{f:Str}{v:V}{u:Value}{A:Around}{E:Value->Shared->Prop}
end
section
variable {X:Cx}{o value:Expr}{ta tv:TE}{f:Str}{pos pos':Pos}
end
end L2
namespace L2
open PySem PySem.Spec PyProof.Rows PySem.Calls
open PySem.W
section
variable {prog:Program}{w:World}{A:Around}{E:Value->Shared->Prop}{hh:Heap}{g:Array GenState}{dr:Drawn}{t:Nat}{os:OsState}{K:Frag}
variable {nm q:Str}{C N fI:Addr}{bs tl:List Value}{hdct:Bool}{sn:List Str}{sub:List Value}{ab:Bool}{col:Option Bool}{dd:Option Addr}{k0 k1 k2 k3 k5:Option Value}
end
end L2
namespace L2
open PySem PySem.Spec PyProof.Rows PySem.Calls
open PySem.W
section
variable {X:Cx}{x:Str}{C f:Addr}{k:Nat}{fd:FuncData}{ps:List Str}{sp:Sp}{p pos:Pos}{e₀:Expr}{es:List Expr}{t:TA}
end
end L2
namespace L2
open PySem PySem.Spec PyProof.Rows PySem.Calls
open Builtin Builtin.Str
section
variable {X:Cx}{e b:Expr}{es:List Expr}{te tb:TE}{t:TA}
end
section
variable {X:Cx}{o:Expr}{to:TE}{y z:Str}{j1 j2 j3:Nat}{p1 p2 p3 apos cpos:Pos}
end
end L2
namespace L2
open PySem PySem.Spec PyProof.Rows PySem.Calls
open Builtin Builtin.Str
section
variable {X:Cx}{e:Expr}{ta:TE}{c:Str}{j:Nat}{p1 p2 pos:Pos}
end
section
variable {X:Cx}
end
end L2
namespace L2
open PySem PySem.Spec PyProof.Rows PySem.Calls
open PySem.W
end L2
namespace L2
open PySem PySem.Spec PyProof.Rows PySem.Calls
open Builtin Builtin.Str
end L2
namespace L2
open PySem PySem.Spec PyProof.Rows PySem.Calls
section
variable {M:Model}{A:Around}{E:Value->Shared->Prop}{s:Shared}{B:Heap}{env:Env}{outer:List Env}{L e:Addr}{φ:Obj->Prop}{Q:Unit->Shared->Prop}
end
section
variable {prog:Program}{w:World}{A:Around}{E:Value->Shared->Prop}{s:Shared}{env:Env}{x:Sem Value}{Q:Flow->Shared->Prop}{C e1:Addr}{j:Nat}{p pos:Pos}
end
open PySem.W (hideAll of_hideAll hideAll_get hideAll_none funFrames_hide)
section
variable {X:Cx}{E:XK}
end
end L2
namespace L2
open PySem PySem.Spec PyProof.Rows PySem.Calls
section
variable {prog:Program}{w:World}{A:Around}{E:Value->Shared->Prop}{s:Shared}{env:Env}
end
section
variable {X:Cx}{E:XK}
end
section
variable {X:Cx}{E:XK}{k:Nat}{f:Addr}{fd:FuncData}{ps:List Str}{sp:Sp}{g y x2:Str}{p np np2 cpos cpos2 spos hpos pos p9 rpos:Pos}{j:Nat}{e₀ a₀:Expr}{es as:List Expr}{t t2:TA}{Dc C2:Addr}
end
section
variable {prog:Program}{w:World}{A:Around}{E:Value->Shared->Prop}{s:Shared}{a:Addr}{oa:Obj}{x:Value}{l:List Value}{na:Nat}{ts:List Str}
end
section
variable {X:Cx}{e:Expr}{ta:TE}{c:Str}{j:Nat}{p1 p2 pos:Pos}
end
open PySem.W
section
variable {X:Cx}{pins:List (Addr × Obj)}{σ:St}{H:Hp}{s:Shared}{e C d:Addr}{f:Str}{v:V}{u:Value}{A:Around}{E:Value->Shared->Prop}{arr:Array Value}
end
section
variable {X:Cx}{E:XK}
end
end L2
namespace L2
open PySem PySem.Spec PyProof.Rows PySem.Calls
open PySem.W (hideAll of_hideAll hideAll_get hideAll_none funFrames_hide)
section
variable {X:Cx}{E:XK}
end
section
variable {prog:Program}{w:World}{A:Around}{E:Value->Shared->Prop}{s:Shared}{env:Env}{x:Sem Value}{Q:Flow->Shared->Prop}{C:Addr}
end
section
variable {X:Cx}{E:XK}{x:Str}{C f:Addr}{k:Nat}{fd:FuncData}{ps:List Str}{sp:Sp}{np cpos pos:Pos}{e₀:Expr}{es:List Expr}{t:TA}
end
end L2
namespace L2
open PySem PySem.Spec PyProof.Rows PySem.Calls
section
variable {X:Cx}{k:Nat}{f:Addr}{fd:FuncData}{ps:List Str}{sp:Sp}{g y n:Str}{p np cpos spos hpos pos:Pos}{e₀:Expr}{es:List Expr}{t:TA}{b₀:Stmt}{suite:List Stmt}{j:Nat}{Dc:Addr}{ts:TS}
end
section
variable {X:Cx}
end
end L2
namespace L2
open PySem
theorem ZT{g:Prop}(h:∀G:Prop,(g->G)->G):g:=h g fun z=>z
theorem wN{P:List g->Prop}(h:∀a,P [a]):∀q:List g,q.length=1->P q
 | [a],_=>h a
theorem vc{P:List g->Prop}(h:∀a b,P [a,b]):∀q:List g,q.length=2->P q
 | [a,b],_=>h a b
theorem Zfc{P:List g->Prop}(h:∀a b c,P [a,b,c]):∀q:List g,q.length=3->P q
 | [a,b,c],_=>h a b c
theorem len4{P:List g->Prop}(h:∀a b c d,P [a,b,c,d]):∀q:List g,q.length=4->P q
 | [a,b,c,d],_=>h a b c d
theorem walk_X{I:(Str->Option Value)->Heap->Prop}{K:Params->PySem.W.Frag}{as:List Addr}{t:Nat}{r:PySem.W.RowW}{d:DefRec}{D:List (Str × Expr)}{run:Value->List Value->Sem Value}
  (e:∀P,as=(K P).map (·.1)) (W:PySem.W.WalkO q N I (PySem.W.InK K) r d D run):PySem.W.WalkX q N I (PySem.W.X.obsZ as) (PySem.W.X.valZ K n t) r d D run :=
 fun w s₀ C mg Y G y a o pm M E S kV e1 e2 e3 Z J O args g as L p l R W' nn =>
  W w s₀ C mg Y G (PySem.W.InK.keeps w _ _ (PySem.W.X.z_facts e y).2.1 L.keeps) a o pm M E S kV e1 e2 e3 Z J O args g as p l R W' nn
def noT(K:PySem.W.Frag):PySem.W.Frag:=K.filter fun p=>match p.2.cls,p.2.data with
 | .none,.fields _=>false
 | _,_=>true
theorem noT_ok(K:PySem.W.Frag):PySem.W.noTabs (noT K)=true:=by
 unfold PySem.W.noTabs noT;rw [Qdg];intro p hp;exact (Qf6.mp hp).2
def nodB:List Nat->Bool
 | []=>true
 | a::r=>r.all (fun b=>!(Nat.beq a b)) && nodB r
theorem lookup_mem{a:Addr}{o:Obj}:∀{K:PySem.W.Frag},K.lookup a=some o->(a,o)∈K
 | (b,u)::r,h=>by
  rw [Qbo] at h
  by_cases e:(a == b)=true
  ·rw [e] at h
   cases h;rw [eq_of_beq e];exact Qal
  ·rw [Qgu.mpr e] at h
   exact Qam _ (lookup_mem h)
theorem mem_lookup{a:Addr}{o:Obj}:∀{K:PySem.W.Frag},nodB (K.map (·.1))=true->(a,o)∈K->K.lookup a=some o
 | (b,u)::r,hn,h=>by
  rw [Qbo];rw [Qa7] at hn;have g:=Qat.mp hn;rcases Qas.mp h with e | e
  ·cases e
   rw [Qb0]
  ·have hb:(a == b)=false:=by
    rw [Qcd];intro z;have:=Qdg.mp g.1 a (Qbw e);rw [z,show Nat.beq b b=true from Nat.beq_refl b] at this;cases this
   rw [hb];exact mem_lookup g.2 e
theorem in_noT(hn:nodB (K.map (·.1))=true)(X:K.In h):(noT K).In h:=fun a o e =>
 X a o (mem_lookup hn (Qf6.mp (lookup_mem e)).1)
theorem ns_tr{m:Addr}{r:Option (Option Value)}(e:PySem.W.nsIn (noT K) m x=PySem.W.nsIn K m x)(h:PySem.W.nsIn K m x=r):PySem.W.nsIn (noT K) m x=r:=e.trans h
theorem lk_tr{r:Option Obj}(e:(noT K).lookup a=K.lookup a)(h:K.lookup a=r):(noT K).lookup a=r:=e.trans h
theorem cd_tr{c:Value}(e:PySem.W.codeIn (noT K) c x=PySem.W.codeIn K c x)(h:PySem.W.codeIn K c x=true):PySem.W.codeIn (noT K) c x=true:=e.trans h
theorem kp_tr{c:Value}(e:PySem.W.keepIn (noT K) c=PySem.W.keepIn K c)(h:PySem.W.keepIn K c=true):PySem.W.keepIn (noT K) c=true:=e.trans h
theorem cxK{CX:CXT}{P:Program}{mg:Str->Option Value}{qual:Str}{scope:Scope}{A:Around}{outer:List Env}{E:XK}:(Zcv CX P w K mg h N qual scope f u A outer s H E).nox.K=K:=rfl
theorem cxK2{CX:CXT}{P:Program}{mg:Str->Option Value}{qual:Str}{scope:Scope}{A:Around}{outer:List Env}{E:XK}:(Zcv CX P w K mg h N qual scope f u A outer s H E).K=K:=rfl
theorem let2(h:let g:=Z;Yy m g M c H):Yy m Z M c H:=h
theorem let3{g:TS}(h:let C:=g;let q:=Yy Z C;Yy m q M c H):Yy m (Yy Z g) M c H:=h
theorem let4{g q:TS}(h:let C:=q;let E:=Yy g C;let D:=Yy Z E;Yy m D M c H):Yy m (Yy Z (Yy g q)) M c H:=h
theorem let5{g q C:TS}(h:let E:=C;let D:=Yy q E;let I:=Yy g D;let G:=Yy Z I;Yy m G M c H):Yy m (Yy Z (Yy g (Yy q C))) M c H:=h
theorem let6{g q D C:TS}(h:let L:=C;let G:=Yy D L;let E:=Yy q G;let J:=Yy g E;let I:=Yy Z J;Yy m I M c H):Yy m (Yy Z (Yy g (Yy q (Yy D C)))) M c H:=h
theorem let7{g q D C E:TS}(h:let L:=E;let O:=Yy C L;let I:=Yy D O;let G:=Yy q I;let N:=Yy g G;let J:=Yy Z N;Yy m J M c H):Yy m (Yy Z (Yy g (Yy q (Yy D (Yy C E))))) M c H:=h
theorem let8{g q E D G C:TS}(h:let N:=C;let O:=Yy G N;let S:=Yy D O;let J:=Yy E S;let I:=Yy q J;let R:=Yy g I;let L:=Yy Z R;Yy m L M c H):Yy m (Yy Z (Yy g (Yy q (Yy E (Yy D (Yy G C)))))) M c H:=h
theorem let12{N G R J L O I q g C:TS}(h:let D:=C;let E:=Yy g D;let Y:=Yy q E;let S:=Yy I Y;let U7:=Yy O S;let U6:=Yy L U7;let U5:=Yy J U6;let U4:=Yy R U5;let U3:=Yy G U4;let U2:=Yy N U3;let U1:=Yy Z U2;Yy m U1 M c H):Yy m (Yy Z (Yy N (Yy G (Yy R (Yy J (Yy L (Yy O (Yy I (Yy q (Yy g C)))))))))) M c H:=h
end L2
namespace ZpT
open PySem PySem.Spec PyProof.Rows
abbrev Zfd (h:Heap) (T:Addr) (a b c:Value):Prop:=h.get? T=some { cls:=.type "tuple",data:=.seq #[a,b,c] }
structure Ap3(z TI TO i1 i2 i3:Addr):Prop where
 TIz:TI≠z
 TOz:TO≠z
 i1z:i1≠z
 i2z:i2≠z
 i3z:i3≠z
 TITO:TI≠TO
 TIi1:TI≠i1
 TIi2:TI≠i2
 TIi3:TI≠i3
 TOi1:TO≠i1
 TOi2:TO≠i2
 TOi3:TO≠i3
 i12:i1≠i2
 i13:i1≠i3
 i23:i2≠i3
structure Of3(z TO i1 i2 i3 l:Addr):Prop where
 z:l≠z
 o:l≠TO
 i:l≠i1
 j:l≠i2
 m:l≠i3
structure St3(z TI TO i1 i2 i3 l1 l2 l3:Addr)(k:Nat)(h:Heap):Prop where
 z:∃f0 fb,h.get? z=some (zO f0 fb TI TO)/\F0 f0
 I:Zfd h TI (.ref i1) (.ref i2) (.ref i3)
 O:∃a b c,Zfd h TO a b c
 n1:YH false h i1 l1 k
 n2:YH false h i2 l2 k
 n3:YH false h i3 l3 k
section
variable {prog:Program}{w:World}{A:Around}{E:Value->Shared->Prop}{s:Shared}
end
end ZpT
namespace L2
open PySem PySem.Spec PyProof.Rows
section
variable {X:Cx}{S scope:Scope}{N:List Str}{x x2 x3:Str}{ys:List Str}{is:List Nat}{pins:List (Addr × Obj)}{σ:St}{H₂:Hp}{s₂:Shared}{fp:List Addr}{elt iter:Expr}{px px2 px3 pp pos:Pos}{pq:Nat}{ifs:List Expr}{tc:TT}{te:TE}{wi:TI}
end
end L2
namespace ZpT
open PySem PySem.Spec PyProof.Rows
section
variable {prog:Program}{w:World}{A:Around}{E:Value->Shared->Prop}{s:Shared}
end
end ZpT
namespace L2
open PySem PySem.Spec PyProof.Rows
open ZpT (St3 Ap3 Of3 SeqAt YH)
section
variable {X:Cx}{e1 e2 e3:Expr}{t:TA}{p pos:Pos}
end
end L2
namespace L2
open PySem PySem.Spec PyProof.Rows
section
variable {prog:Program}{w:World}{A:Around}{s:Shared}
end
section
variable {X:Cx}
end
def b2i(b:Bool):Int:=if b=true then 1 else 0
def Zjc(k:Int):Value->Bool
 | .int i _=>i == k
 | .bool b=>b2i b == k
 | _=>false
theorem Xm{k:Int}{v:Value}(h:Zjc k v=true):(∃t,v=.int k t)\/∃b,v=.bool b/\k=b2i b:=by
 cases v with
 | int i t=>exact .inl ⟨t,by rw [show i=k from eq_of_beq h]⟩
 | bool b=>exact .inr ⟨b,rfl,(eq_of_beq h).symm⟩
 | _=>cases h
section
variable {prog:Program}{w:World}
theorem vd{A:Around}{E:Value->Shared->Prop}{b:Bool}{Q:Int->Shared->Prop}(h:Q (hashInt (b2i b)) { s with toks:=s.toks + 1 }):wpAny (model prog w) A (pyHash (.bool b)) Q E s:=by
 show wpAny _ _ (pyHashByItsType (.bool b)) _ _ s;refine PySem.W.pyHash_slot (T := "bool") (id := "int.__hash__") (B:=Builtin.«int.__hash__») rfl F.slot_bool_hash F.entry_int_hash (F.args_int_hash_1 _) (by decide +kernel) (.inl rfl) ?_;cases b
 ·exact Qaa (Qcl (a:=(Value.bool false,(0:Int))) rfl (Qaa (Qfj (Qan ⟨0,_,rfl,h⟩))))
 ·exact Qaa (Qcl (a:=(Value.bool true,(1:Int))) rfl (Qaa (Qfj (Qan ⟨1,_,rfl,h⟩))))
end
theorem Zfe(a b:Int):decide (a=b)=(a == b):=by
 by_cases e:a=b
 ·rw [Qaj e,e,Qb0]
 ·rw [Qak e,Qcd.mpr e]
def YK(prog:Program)(w:World):KeyKind prog w Int where
 is:=Zjc
 hash:=hashInt
 inj:=fun v a b ha hb=>by
  rcases Xm ha with ⟨t,rfl⟩ | ⟨x,rfl,rfl⟩
  ·exact (eq_of_beq (show (a == b)=true from hb))
  ·exact (eq_of_beq (show (b2i x == b)=true from hb))
 byValue:=fun k v h=>by
  rcases Xm h with ⟨t,rfl⟩ | ⟨x,rfl,rfl⟩ <;> rfl
 pyHash:=fun hv h=>by
  rcases Xm hv with ⟨t,rfl⟩ | ⟨x,rfl,rfl⟩
  ·exact Qg0 h
  ·exact vd h
 eqBool:=fun hu hv h=>by
  rw [Zfe] at h;rcases Xm hu with ⟨t,rfl⟩ | ⟨x,rfl,rfl⟩
  ·rcases Xm hv with ⟨u,rfl⟩ | ⟨y,rfl,rfl⟩
   ·exact wpAny_eqBool_int h
   ·exact SeqAt.EqAt.int_bool _ t y _ _ _ _ h
  ·rcases Xm hv with ⟨u,rfl⟩ | ⟨y,rfl,rfl⟩
   ·exact SeqAt.EqAt.bool_int x _ u _ _ _ _ h
   ·refine SeqAt.EqAt.bool_bool x y _ _ _ _ ?_
    have e:(b2i x == b2i y)=(x == y):=by cases x <;> cases y <;> rfl
    rw [e] at h;exact h
 «strs»:=fun k x t v h=>by cases h
section
variable {prog:Program}{w:World}
def IsPair(prog:Program)(w:World)(h:Heap)(k:Int × List Int)(a:Addr):Prop :=
 ∃o n t tk,h.get? a=some o/\o.cls=.type "tuple" /\ o.data=.seq #[.int k.1 tk,.ref t] n/\IsTupleKey (YK prog w) h k.2 t
def jr(prog:Program)(w:World)(k:Int × List Int):Int:=reduceHash (Builtin.Tuple.tupleHashOf [hashInt k.1,tupleKeyHash (YK prog w) k.2])
theorem IsPair.inj{h:Heap}{a:Addr}{x y:Int × List Int}(p:IsPair prog w h x a)(q:IsPair prog w h y a):x=y:=by
 obtain ⟨o,n,t,tk,e,c,d,k⟩:=p;obtain ⟨o',G,t',D,g,E,d',C⟩:=q;rw [e] at g;cases g;rw [d] at d';injection d' with d1 d2;have d3:=congrArg Array.toList d1;injection d3 with d4 d5;injection d4 with d6 _;injection d5 with d7 _;injection d7 with d8;subst d8;have:=(tupleKind (YK prog w)).inj k C;exact Qhb d6 this
theorem IsPair.keeps{h h':Heap}{k:Int × List Int}{a d:Addr}{o:Obj}{es:Array DictEntry}{ep:Nat}(p:IsPair prog w h k a)(e:h.get? d=some o)(hd:o.data=.dict es ep)(s:Heap.SameBut d h h'):IsPair prog w h' k a:=by
 obtain ⟨q,n,t,tk,e1,C,d1,k1⟩:=p;have g:a≠d:=fun z=>by
  rw [z,e] at e1;cases e1;rw [hd] at d1;cases d1
 exact ⟨q,n,t,tk,(s.2 a g).trans e1,C,d1,(tupleKind (YK prog w)).keeps k1 e hd s⟩
theorem IsPair.pyHash{A:Around}{E:Value->Shared->Prop}{s:Shared}{k:Int × List Int}{a:Addr}{Q:Int->Shared->Prop}(hu:A.units + 1 < cLine)(p:IsPair prog w s.heap k a)
  (h:Q (jr prog w k) { s with toks:=s.toks + (k.2.length + 3) }):wpAny (model prog w) A (PySem.pyHash (.ref a)) Q E s:=by
 obtain ⟨o,n,t,tk,e,c,d,q⟩:=p;show wpAny _ _ (pyHashByItsType (.ref a)) _ _ s;refine PySem.W.pyHash_slot (T := "tuple") (id := "tuple.__hash__") (B:=Builtin.«tuple.__hash__») ⟨o,e,c⟩ F.slot_tuple_hash F.entry_tuple_hash (F.args_tuple_hash_1 _) (by decide +kernel) (.inr (by lia)) ?_;unfold Builtin.«tuple.__hash__»;refine Qaa (Qcl (a:=(Value.ref a,[])) rfl ?_)
 try dsimp only
 refine Qaa (wpAny_tupleItemsOf e d ?_);refine Qaa (Qgk _ (fun rest hs s'=>(rest=[.int k.1 tk,.ref t]/\hs=#[]/\s'=s)\/(rest=[.ref t]/\hs=#[hashInt k.1]/\s'={ s with toks:=s.toks + 1 })\/(rest=[]/\hs=#[hashInt k.1,tupleKeyHash (YK prog w) k.2]/\s'={ s with toks:=s.toks + 1 + (k.2.length + 1) })) _ ?_ ?_ _ _ (.inl ⟨rfl,rfl,rfl⟩))
 ·rintro x rest b s' (⟨e1,rfl,rfl⟩ | ⟨e1,rfl,rfl⟩ | ⟨e1,_,_⟩)
  ·cases e1
   exact Qaa (Qg0 (Qan (.inr (.inl ⟨rfl,rfl,rfl⟩))))
  ·cases e1
   refine Qaa (wpAny_pyHash_tuple (knd:=YK prog w) (ks:=k.2) (s:={ s with toks:=s.toks + 1 }) (by show A.units + 1 < cLine;exact hu) q (Qan (.inr (.inr ⟨rfl,rfl,rfl⟩))))
  ·cases e1
 ·rintro b s' (⟨e1,_,_⟩ | ⟨e1,_,_⟩ | ⟨_,rfl,rfl⟩)
  ·cases e1
  ·cases e1
  ·refine Qaa (Qfj (Qan ⟨_,_,rfl,?_⟩))
   have g:s.toks + 1 + (k.2.length + 1) + 1=s.toks + (k.2.length + 3):=by lia
   show Q (jr prog w k) { s with toks:=s.toks + 1 + (k.2.length + 1) + 1 };rw [g];exact h
theorem _root_.PySem.IsTupleKey.any{ks:List Int}(k:IsTupleKey (YK prog w) h ks a)(g:Program)(q:World):IsTupleKey (YK g q) h ks a:=by
 obtain ⟨o,items,n,e,c,d,it⟩:=k;have D:∀{ks:List Int} {vs:List Value},ItemsAre (YK prog w) ks vs->ItemsAre (YK g q) ks vs:=by
  intro ks vs hh
  induction hh with
  | nil=>exact .nil
  | cons h1 _ C=>exact .cons h1 C
 exact ⟨o,items,n,e,c,d,D it⟩
theorem IsPair.eqBool{A:Around}{E:Value->Shared->Prop}{s:Shared}{x y:Int × List Int}{a b:Addr}{Q:Bool->Shared->Prop}(hu:A.units + 1 < cLine)(p:IsPair prog w s.heap x a)(q:IsPair prog w s.heap y b)
  (h:Q (decide (x=y)) s):wpAny (model prog w) A (PySem.eqBool (.ref a) (.ref b)) Q E s:=by
 by_cases D:a=b
 ·subst D
  have:=p.inj q;rw [Qaj this] at h;exact Qg3 (.ref a) prog w E Q h
 ·obtain ⟨o,n,t,tk,e,c,d,M⟩:=p
  obtain ⟨o',N,t',C,J,L,d',G⟩:=q;have it:∀j (h1:j < (#[Value.int x.1 tk,.ref t]).size) (h2:j < (#[Value.int y.1 C,.ref t']).size),SeqAt.EqAt A.in1 s (#[Value.int x.1 tk,.ref t])[j] (#[Value.int y.1 C,.ref t'])[j] (if j=0 then x.1 == y.1 else decide (x.2=y.2)):=by
   intro j h1 h2
   match j,h1,h2 with
   | 0,_,_=>exact SeqAt.EqAt.int_int x.1 tk y.1 C
   | 1,_,_=>exact fun g I S R h'=>wpAny_eqBool_tuple (knd:=YK g I) (by show A.units + 1 < cLine;exact hu) (M.any g I) (G.any g I) h'
  have r:=SeqAt.RcAt.tuples (A:=A) (s:=s) (e:=fun j=>if j=0 then x.1 == y.1 else decide (x.2=y.2)) ⟨o,e,c,n,d⟩ ⟨o',J,L,N,d'⟩ (by lia) it;have O:((List.range (min (#[Value.int x.1 tk,.ref t]).size (#[Value.int y.1 C,.ref t']).size)).all (fun j=>if j=0 then x.1 == y.1 else decide (x.2=y.2)) && (#[Value.int x.1 tk,.ref t]).size == (#[Value.int y.1 C,.ref t']).size)=decide (x=y):=by
   show ((x.1 == y.1) && (decide (x.2=y.2) && true) && true)=decide (x=y);rw [Qgw,Qgw,<-Zfe]
   by_cases h1:x.1=y.1
   ·by_cases h2:x.2=y.2
    ·rw [Qaj h1,Qaj h2,Qaj (Qhb h1 h2)]
     rfl
    ·rw [Qak h2,Bool.and_false,Qak fun z=>h2 (by rw [z])]
   ·rw [Qak h1,Bool.false_and,Qak fun z=>h1 (by rw [z])]
  rw [O] at r;exact SeqAt.EqAt.of_refs D r prog w E Q h
theorem wO{A:Around}{E:Value->Shared->Prop}{ks:List Int}{Q:Bool->Shared->Prop}(m:Nat)(k:IsTupleKey (YK prog w) s.heap ks a)(h:Q true s):wpAny (model prog w) A (eqIsQuiet (m + 1) (.ref a)) Q E s:=by
 obtain ⟨o,items,n,e,c,d,it⟩:=k;rw [eqIsQuiet.eq_2];have g:s.TypeIs (.ref a) "tuple" := ⟨o,e,c⟩;refine Qaa (Qei g F.slot_tuple_eq.lookup ?_);refine Qaa (Qdq (T := "tuple") (b:=true) g (by rw [Qeu];kernel_rfl) ?_);rw [Qax (by decide)];refine Qaa (Qcb e d ?_);refine Qaa (Qgk _ (fun rest b s'=>(∀v∈rest,carriedByValue v=true)/\b=(none,())/\s'=s) _ ?_ ?_ _ _ ⟨fun v hv=>?_,rfl,rfl⟩)
 ·rintro x rest b s' ⟨hv,rfl,rfl⟩
  refine Qaa ?_;rw [eqIsQuiet_byValue m (hv x Qal)];exact Qan (Qan ⟨fun v hm=>hv v (Qam _ hm),rfl,rfl⟩)
 ·rintro b s' ⟨_,rfl,rfl⟩
  exact Qan h
 ·have q:∀{ks:List Int} {vs:List Value},ItemsAre (YK prog w) ks vs->∀v∈vs,carriedByValue v=true:=by
   intro ks vs hh
   induction hh with
   | nil=>exact fun v hv=>nomatch hv
   | cons h1 _ C =>
    intro v hv;rcases Qas.mp hv with rfl | hv
    ·exact (YK prog w).byValue _ _ h1
    ·exact C v hv
  exact q it v hv
theorem IsPair.quiet{A:Around}{E:Value->Shared->Prop}{k:Int × List Int}{Q:Bool->Shared->Prop}(p:IsPair prog w s.heap k a)(h:Q true s):wpAny (model prog w) A (eqIsQuiet 8 (.ref a)) Q E s:=by
 obtain ⟨o,n,t,tk,e,c,d,q⟩:=p;rw [eqIsQuiet.eq_2];have g:s.TypeIs (.ref a) "tuple" := ⟨o,e,c⟩;refine Qaa (Qei g F.slot_tuple_eq.lookup ?_);refine Qaa (Qdq (T := "tuple") (b:=true) g (by rw [Qeu];kernel_rfl) ?_);rw [Qax (by decide)];refine Qaa (Qcb e d ?_);refine Qaa (Qgk _ (fun rest b s'=>(rest=[.int k.1 tk,.ref t]\/rest=[.ref t]\/rest=[])/\b=(none,())/\s'=s) _ ?_ ?_ _ _ ⟨.inl rfl,rfl,rfl⟩)
 ·rintro x rest b s' ⟨hr,rfl,rfl⟩
  rcases hr with e1 | e1 | e1
  ·cases e1
   refine Qaa ?_;rw [eqIsQuiet_byValue 7 rfl];exact Qan (Qan ⟨.inr (.inl rfl),rfl,rfl⟩)
  ·cases e1
   exact Qaa (wO 6 q (Qan ⟨.inr (.inr rfl),rfl,rfl⟩))
  ·cases e1
 ·rintro b s' ⟨_,rfl,rfl⟩
  exact Qan h
end
def Zdf(prog:Program)(w:World):HeapKind prog w (Int × List Int) where
 is:=IsPair prog w
 hash:=jr prog w
 draws:=fun k=>k.2.length + 3
 room:=fun A=>A.units + 1 < cLine
 inj:=fun p q=>p.inj q
 keeps:=fun p e hd s=>p.keeps e hd s
 pyHash:=fun hu p h=>p.pyHash hu h
 eqBool:=fun hu p q h=>p.eqBool hu q h
 quiet:=fun p h=>p.quiet h
section
variable {prog:Program}{w:World}{K:Type}[DecidableEq K]
theorem Zdg{xs:List (K × Addr × Value)}{k:K}{j:Nat}{p:Addr × Value}(hn:(xs.map (·.1)).Nodup)(h:xs[j]?=some (k,p)):atKey xs k=some p:=by
 unfold atKey
 induction xs generalizing j with
 | nil=>cases h
 | cons x r g =>
  rw [Qa7,Qb3] at hn;rw [Qdb];cases j with
  | zero =>
   rw [List.getElem?_cons_zero] at h;cases h;rw [Qaj rfl]
   rfl
  | succ j =>
   rw [List.getElem?_cons_succ] at h;have hm:k∈r.map (·.1):=Qa2.mpr ⟨_,Qao h,rfl⟩;rw [Qak fun z=>hn.1 (by rw [z];exact hm)];exact g hn.2 h
theorem wQ{xs:List (K × Addr × Value)}{k:K}(h:∀(j:Nat) (p:Addr × Value),xs[j]?≠some (k,p)):atKey xs k=none:=by
 unfold atKey;rw [Option.map_eq_none_iff,List.find?_eq_none];intro x hx z;obtain ⟨j,g⟩:=Qet hx;refine h j x.2 ?_;rw [g,<-Qba z]
theorem GS(knd:HeapKind prog w K)(d a:Addr)(hd:(d == sysModules)=false)(dflt:Value) :
  MeetsIn prog w (Builtin.«dict.setdefault» ⟨[.ref d,.ref a,dflt],[]⟩) fun A R s=>knd.room A.in1/\∃k xs,knd.is s.heap k a/\Heap.DictOfH knd s.heap d xs/\xs.length<=sizeLine /\
   (∀p,atKey xs k=some p->R (.ok (.ret p.2)) { s with toks:=s.toks + knd.draws k }) /\
   (atKey xs k=none->∀h',Heap.DictOfH knd h' d (xs++[(k,a,dflt)])->Heap.SameBut d s.heap h'->R (.ok (.ret dflt)) { s with heap:=h',toks:=s.toks + knd.draws k }):=by
 intro A R s ⟨hr,k,xs,hk,dd,I,h1,h2⟩;obtain ⟨o,es,ep,e,ex,C,g,D,E⟩:=id dd;unfold Builtin.«dict.setdefault»;refine Qaa ?_;unfold Builtin.Dict.keyAndDefault;refine Qaa (wpAny_notOrdered_dict dd.typeIs ?_);refine Qaa (Qcl (a:=()) rfl ?_);refine Qaa (Qcl (a:=(Value.ref d,[Value.ref a,dflt])) rfl ?_)
 try dsimp only
 refine Qaa (Qcl (a:=d) rfl (Qan ?_))
 try dsimp only
 rw [hd,Qax (by decide)];refine Qaa ?_;unfold dictSetDefault;refine Qeq (Qaa (knd.pyHash hr hk ?_));refine Qaa (wpAny_dictFind_heap (s:={ s with toks:=s.toks + knd.draws k }) hr hk e C g D E (fun G=>?_) (fun j p J=>?_))
 ·refine Qaa (Qdx (Qaa (wpAny_updateDictKeys (s:={ s with toks:=s.toks + knd.draws k }) e C (Qan (Qan ?_)) ?_ ?_)))
  ·refine h2 (wQ G) _ ?_ (Qda ..)
   obtain ⟨oc,od,S,Y⟩:=o;obtain ⟨Z,x2,x3⟩:=ex;subst C;have O:Heap.SameBut d s.heap (s.heap.update d (Obj.mapDictKeys fun x=>x.push { hash:=knd.hash k,key:=.ref a,val:=dflt })):=Qda ..;refine ⟨_,_,_,Qcx _ e rfl,⟨Z,x2,x3⟩,rfl,?_,fun x hx=>?_,?_⟩
   ·rw [Array.toList_push,g,Qbm]
    rfl
   ·rcases Qbk.mp hx with z | z
    ·exact knd.keeps (D x z) e rfl O
    ·rw [Qay.mp z]
     exact knd.keeps hk e rfl O
   ·rw [Qbm,Qd1]
    refine ⟨E,Qb3.mpr ⟨Qa6,Qc2⟩,fun y N z I q=>?_⟩;rw [Qa7,Qe1,Qay] at I;rw [q,I] at N;obtain ⟨x,hx,ex⟩:=Qa2.mp N;obtain ⟨j,J⟩:=Qet hx;have M:x.1=k:=ex;exact G j x.2 (by rw [J,<-M])
  ·rw [<-Qce,g,Qad]
   exact I
  ·rw [Array.size_push]
   exact Qai _
 ·refine Qaa (wpAny_dictEntries (s:={ s with toks:=s.toks + knd.draws k }) e C ?_)
  have L:es[j]?=some (entryOfKey knd (k,p)):=by
   rw [<-Qfo,g,Qah,J]
   rfl
  rw [L];exact Qaa (Qdx (Qan (Qan (h1 p (Zdg E J)))))
end
theorem Zgz{prog:Program}{A:Around}{E:Value->Shared->Prop}{d:Addr}{o:Obj}{es:Array DictEntry}(hd:(d == sysModules)=false)(e:s.heap.get? d=some o)(ex:o.ExactDict)(g:o.data=.dict es i)(D:es.size<=sizeLine)
  (h:Q (.int (es.size:Int) (s.toks + 1)) { s with toks:=s.toks + 1 + 1 }):wpAny (model prog w) A (call (.builtin "len") [.ref d]) Q E s:=by
 have q:s.TypeIs (.ref d) "dict" := ⟨o,e,ex.1⟩;have hz2:=D;rw [Qhc] at hz2;refine call_len_slot q F.slot_dict_len (n:=(es.size:Int)) (fun C h'=>?_) (by lia) (by lia) h;refine Qb4 F.slot_dict_len q F.entry_dict_len ?_ (F.args_dict_len_1 _);unfold Builtin.«dict.__len__»;refine Qaa ?_;unfold Builtin.Dict.dictSlotNone;refine Qaa (wpAny_notOrdered_dict q (Qaa (Qcl (a:=(Value.ref d,[])) rfl (Qan ?_))));refine Qaa (Qcl (a:=d) rfl ?_);refine Qaa ?_;unfold dictSize;refine Qaa (wpAny_dictEntries e g (Qan ?_));refine Qaa ?_;unfold Builtin.Dict.pendingCount;rw [hd,Qax (by decide)];refine Qan (Qaa (Qfj (Qan ⟨_,rfl,?_⟩)));show C (.int ((es.size:Int) + ((0:Nat):Int)) s.toks) _;rw [show ((es.size:Int) + ((0:Nat):Int))=(es.size:Int) by lia];exact h'
structure KN(Kk:Type)[DecidableEq Kk] where
 knd:∀(P:Program) (w:World),HeapKind P w Kk
 hsh:Kk->Int
 at_:Hp->Kk->Addr->Prop
 hash_eq:∀P w k,(knd P w).hash k=hsh k
 ok:∀(P:Program) (w:World) (H:Hp) (h:Heap) (k:Kk) (a:Addr),HOk P w H h->at_ H k a->(knd P w).is h k a
 room:∀(P:Program) (w:World) (A:Around),A.units + 2 < cLine->(knd P w).room A.in1
 room0:∀(P:Program) (w:World) (A:Around),A.units + 2 < cLine->(knd P w).room A
 keep:∀(H H':Hp) (k:Kk) (a:Addr),(∀b xs,H b=some (.tup xs)->H' b=some (.tup xs))->at_ H k a->at_ H' k a
section
variable {Kk:Type}[DecidableEq Kk](kn:KN Kk)
def entN(x:Kk × Addr × Value):DictEntry:={ hash:=kn.hsh x.1,key:=.ref x.2.1,val:=x.2.2 }
def Zg0(d:Addr)(xs:List (Kk × Addr × Value))(h:Heap):Prop:=(d == sysModules)=false/\∃o es ep,h.get? d=some o/\o.ExactDict/\o.data=.dict es ep/\es.toList=xs.map (entN kn)
def GK(H:Hp)(d:Addr)(kvs:List (Kk × V)):Prop:=(kvs.map (·.1)).Nodup/\kvs.length < sizeLine /\
 ((kvs=[]/\H d=some (.dK []))\/∃xs,H d=some (.ext (Zg0 kn d xs))/\Paired (fun (p:Kk × V) (q:Kk × Addr × Value)=>p.1=q.1/\kn.at_ H q.1 q.2.1/\RelV p.2 q.2.2) kvs xs)
variable {kn}
theorem Zff{P:Program}(xs:List (Kk × Addr × Value)):xs.map (entryOfKey (kn.knd P w))=xs.map (entN kn):=by
 refine Qcn fun x _=>?_;show DictEntry.mk _ _ _=DictEntry.mk _ _ _;rw [kn.hash_eq]
theorem Zg1{P:Program}{d:Addr}{xs:List (Kk × Addr × Value)}(x:Zg0 kn d xs h):YO P w H h d (.ext (Zg0 kn d xs)):=by
 obtain ⟨hm,o,es,ep,e,r⟩:=id x;refine ⟨x,⟨o,e⟩,fun h1 h2 y k=>?_⟩;obtain ⟨q,o',g,C,D,E⟩:=y;exact ⟨q,o',g,C,k _ D,E⟩
theorem GK.dict{X:Cx}{d:Addr}{kvs:List (Kk × V)}(n:GK kn H d kvs)(I:Inv X r c H s) :
  ∃xs,Heap.DictOfH (kn.knd X.prog X.w) s.heap d xs/\Paired (fun (p:Kk × V) (q:Kk × Addr × Value)=>p.1=q.1/\kn.at_ H q.1 q.2.1/\RelV p.2 q.2.2) kvs xs/\Mut (H d)/\(d == sysModules)=false:=by
 obtain ⟨hn,hl,h | h⟩:=n
 ·obtain ⟨rfl,e⟩:=h
  obtain ⟨z,hd,vs,G,dd⟩:=Zgn I.hok e;cases G;obtain ⟨o,es,ep,e1,ex,e2,_,g,_⟩:=dd;have C:es.toList=[]:=by
   generalize es.toList=l at g;cases g
   rfl
  exact ⟨[],⟨o,es,ep,e1,ex,e2,C,(fun x hx=>nomatch hx),Qc2⟩,.nil,by rw [e];exact True.intro,hd⟩
 ·obtain ⟨xs,e,g⟩:=h
  obtain ⟨⟨hm,o,es,ep,e1,ex,e2,C⟩,_,_⟩:=(show YO X.prog X.w H s.heap d (.ext (Zg0 kn d xs)) from I.hok d _ e);refine ⟨xs,⟨o,es,ep,e1,ex,e2,by rw [C,Zff],fun x hx=>?_,?_⟩,g,by rw [e];exact True.intro,hm⟩
  ·have D:∀{l:List (Kk × V)} {m:List (Kk × Addr × Value)},Paired (fun (p:Kk × V) (q:Kk × Addr × Value)=>p.1=q.1/\kn.at_ H q.1 q.2.1/\RelV p.2 q.2.2) l m->∀x∈m,kn.at_ H x.1 x.2.1:=by
    intro l m g
    induction g with
    | nil=>exact fun x hx=>nomatch hx
    | cons h _ E =>
     intro x hx;rcases Qas.mp hx with rfl | hx
     ·exact h.2.1
     ·exact E x hx
   exact kn.ok _ _ _ _ _ _ I.hok (D g x hx)
  ·have D:∀{l:List (Kk × V)} {m:List (Kk × Addr × Value)},Paired (fun (p:Kk × V) (q:Kk × Addr × Value)=>p.1=q.1/\kn.at_ H q.1 q.2.1/\RelV p.2 q.2.2) l m->m.map (·.1)=l.map (·.1):=by
    intro l m g
    induction g with
    | nil=>rfl
    | cons h _ E=>rw [Qa7,Qa7,E,h.1]
   rw [D g];exact hn
theorem Jm{P:Kk × V->Kk × Addr × Value->Prop}(D:∀p q,P p q->p.1=q.1):∀{l:List (Kk × V)} {m:List (Kk × Addr × Value)},Paired P l m->∀k,(∀v,YX l k=some v->∃q,atKey m k=some q/\∃p,P p (k,q)/\p.2=v)/\(YX l k=none->atKey m k=none)
 | [],[],_,k=>⟨fun v h=>(by cases h),fun _=>rfl⟩
 | p::l,q::m,.cons h t,k=>by
  have E:=Jm D t k;have e:=D p q h
  by_cases hk:p.1=k
  ·have g:q.1=k:=e.symm.trans hk
   have a1:atKey (q::m) k=some q.2:=by
    unfold atKey;rw [Qdb,Qaj g]
    rfl
   have C:YX (p::l) k=some p.2:=YF hk;refine ⟨fun v hv=>?_,fun hv=>?_⟩
   ·rw [C] at hv
    cases hv;exact ⟨q.2,a1,p,by rw [<-g];exact h,rfl⟩
   ·rw [C] at hv
    cases hv
  ·have g:¬q.1=k:=fun z=>hk (e.trans z)
   have a1:atKey (q::m) k=atKey m k:=by
    unfold atKey;rw [Qdb,Qak g]
   have C:YX (p::l) k=YX l k:=YG hk;rw [a1,C];exact E
theorem Zg2{X:Cx}{d:Addr}{kvs:List (Kk × V)}{A:Around}{E:Value->Shared->Prop}(I:Inv X r c H s)(n:GK kn H d kvs)(h:∀t s',Inv X r c H s'->Q (.int (kvs.length:Int) t) s') :
  wpAny (model X.prog X.w) A (call (.builtin "len") [.ref d]) Q E s:=by
 obtain ⟨xs,⟨o,es,ep,e1,ex,e2,g,_,_⟩,q,_,hm⟩:=n.dict I;have hl:es.size=kvs.length:=by rw [<-Qce,g,Qad];exact (Qe3 q).symm
 refine Zgz hm e1 ex e2 (by rw [hl];exact Qa5 n.2.1) ?_;rw [hl];exact h _ _ (I.tok _)
theorem jt{X:Cx}{d:Addr}{k:Kk}{kvs:List (Kk × V)}{xs:List (Kk × Addr × Value)}{h':Heap}{tk:Nat}(I:Inv X r c H s)(n:GK kn H d kvs)(hk:kn.at_ H k a)(M:RelV v u)(g:kvs.length + 1 < sizeLine)
  (E:Paired (fun (p:Kk × V) (q:Kk × Addr × Value)=>p.1=q.1/\kn.at_ H q.1 q.2.1/\RelV p.2 q.2.2) kvs xs) (C:Mut (H d)) (hm:(d == sysModules)=false) (hv:YX kvs k=none) (dd':Heap.DictOfH (kn.knd X.prog X.w) h' d (xs++[(k,a,u)])) (S:Heap.SameBut d s.heap h') :
  ∃H',GK kn H' d (kvs++[(k,v)])/\(∀b o,H b=some o->b≠d->H' b=some o)/\(∃o,H'=upd H d o)/\Inv X r c H' { s with heap:=h',toks:=tk }:=by
 obtain ⟨o,es,ep,e1,ex,e2,D,_,_⟩:=dd';have N:Zg0 kn d (xs++[(k,a,u)]) h':=⟨hm,o,es,ep,e1,ex,e2,by rw [D,Zff]⟩;have J:∀b ys,H b=some (.tup ys)->upd H d (.ext (Zg0 kn d (xs++[(k,a,u)]))) b=some (.tup ys):=fun b ys e=>by
  rw [Zp fun z=>by rw [<-z,e] at C;exact C];exact e
 refine ⟨_,⟨?_,?_,.inr ⟨_,Zc,?_⟩⟩,fun b o e hb=>by rw [Zp hb];exact e,⟨_,rfl⟩,xt I C S ⟨o,e1⟩ (Zg1 N)⟩
 ·rw [Qbm,Qd1]
  refine ⟨n.1,Qb3.mpr ⟨Qa6,Qc2⟩,fun y L z g q=>?_⟩;rw [Qa7,Qe1,Qay] at g;rw [q,g] at L;obtain ⟨x,hx,ex⟩:=Qa2.mp L;have G:x.1=k:=ex;have:=jo n.1 x hx;rw [G,hv] at this;cases this
 ·rw [Qaf]
  exact g
 ·have O:∀{l:List (Kk × V)} {m:List (Kk × Addr × Value)},Paired (fun (p:Kk × V) (q:Kk × Addr × Value)=>p.1=q.1/\kn.at_ H q.1 q.2.1/\RelV p.2 q.2.2) l m->Paired (fun (p:Kk × V) (q:Kk × Addr × Value)=>p.1=q.1/\kn.at_ (upd H d (.ext (Zg0 kn d (xs++[(k,a,u)])))) q.1 q.2.1/\RelV p.2 q.2.2) (l++[(k,v)]) (m++[(k,a,u)]):=by
   intro l m E
   induction E with
   | nil=>exact .cons ⟨rfl,kn.keep _ _ _ _ J hk,M⟩ .nil
   | cons h _ R=>exact .cons ⟨h.1,kn.keep _ _ _ _ J h.2.1,h.2.2⟩ R
  exact O E
theorem zb{X:Cx}{d:Addr}{k:Kk}{kvs:List (Kk × V)}{A:Around}{E:Value->Shared->Prop}(I:Inv X r c H s)(n:GK kn H d kvs)(hk:kn.at_ H k a)(hu:A.units + 2 < cLine)(M:RelV v u)(R:kvs.length + 1 < sizeLine)
  (h1:∀x,YX kvs k=some x->∀J s',RelV x J->Inv X r c H s'->Q J s')
  (h2:YX kvs k=none->∀H' s',GK kn H' d (kvs++[(k,v)])->(∀b o,H b=some o->b≠d->H' b=some o)->(∃o,H'=upd H d o)->Inv X r c H' s'->Q u s') :
  wpAny (model X.prog X.w) A (call (.builtin "dict.setdefault") [.ref d,.ref a,u]) Q E s:=by
 obtain ⟨xs,dd,D,N,hm⟩:=n.dict I;have pa:=Jm (fun p q h=>h.1) D k;refine call_meetsIn F.slot_dict_setdefault dd.typeIs F.entry_dict_setdefault (F.args_dict_setdefault_3 _ _ _) (GS (kn.knd X.prog X.w) d a hm u) ⟨kn.room _ _ _ hu,k,xs,kn.ok _ _ _ _ _ _ I.hok hk,dd,?_,?_,?_⟩
 ·rw [<-Qe3 D]
  exact Qa5 n.2.1
 ·intro p hp
  cases hv:YX kvs k with
  | none=>rw [pa.2 hv] at hp;cases hp
  | some x =>
   obtain ⟨q,g,Z,C,e⟩:=pa.1 x hv;rw [hp] at g;cases g;exact h1 x hv p.2 _ (e ▸ C.2.2) (I.tok _)
 ·intro G h' dd' Y
  have hv:YX kvs k=none:=by
   cases hv:YX kvs k with
   | none=>rfl
   | some x =>
    obtain ⟨q,g,_⟩:=pa.1 x hv;rw [G] at g;cases g
  obtain ⟨H',S,O,o',L⟩:=jt I n hk M R D N hm hv dd' Y;exact h2 hv H' _ S O o' L
end
def vB:V->Option Int
 | .int i=>some i
 | .bl b=>some (b2i b)
 | _=>none
theorem ki{P:Program}{w:World}:∀{vs:List V} {g:List Value} {ks:List Int},Vals vs g->vs.map vB=ks.map some->ItemsAre (YK P w) ks g
 | [],_,[],r,_=>by cases r;exact .nil
 | v::vs,_,k::ks,.cons h t,e=>by
  rw [Qa7,Qa7] at e;injection e with e1 e2;refine .cons ?_ (ki t e2);cases v with
  | int i =>
   obtain ⟨t,rfl⟩:=h;cases e1;exact Qb0 _
  | bl b =>
   cases (show _=Value.bool b from h);cases e1;exact Qb0 _
  | _=>cases e1
def km(H:Hp)(ks:List Int)(a:Addr):Prop:=∃vs,H a=some (.tup vs)/\vs.map vB=ks.map some
theorem km.is{P:Program}{ks:List Int}(ok:HOk P w H h)(b:km H ks a):IsTupleKey (YK P w) h ks a:=by
 obtain ⟨vs,e,hv⟩:=b;obtain ⟨_,g,r,o,h1,h2,n,q⟩:=(show YO P w H h a (.tup vs) from ok a _ e);exact ⟨o,g.toArray,n,h1,h2,q,by simpa using ki r hv⟩
def knT:KN (List Int) where
 knd:=fun P w=>tupleKind (YK P w)
 hsh:=fun ks=>reduceHash (Builtin.Tuple.tupleHashOf (ks.map hashInt))
 at_:=km
 hash_eq:=fun P w k=>rfl
 ok:=fun P w H h k a ok b=>b.is ok
 room:=fun P w A hu=>by show A.units + 1 < cLine;lia
 room0:=fun P w A hu=>by show A.units < cLine;lia
 keep:=fun H H' k a hk ⟨vs,e,hv⟩=>⟨vs,hk _ _ e,hv⟩
def Zae(H:Hp)(k:Int × List Int)(a:Addr):Prop:=∃t,H a=some (.tup [.int k.1,.ref t])/\km H k.2 t
def knP:KN (Int × List Int) where
 knd:=Zdf
 hsh:=fun k=>reduceHash (Builtin.Tuple.tupleHashOf [hashInt k.1,reduceHash (Builtin.Tuple.tupleHashOf (k.2.map hashInt))])
 at_:=Zae
 hash_eq:=fun P w k=>rfl
 ok:=fun P w H h k a ok ⟨t,e,b⟩=>by
  obtain ⟨_,E,r,o,h1,h2,n,q⟩:=(show YO P w H h a (.tup [.int k.1,.ref t]) from ok a _ e);cases r with
  | cons C g =>
  cases g with
  | cons g D =>
  cases D;obtain ⟨tk,rfl⟩:=C;cases (show _=Value.ref t from g);exact ⟨o,n,t,tk,h1,h2,q,b.is ok⟩
 room:=fun P w A hu=>by show A.units + 1 + 1 < cLine;lia
 room0:=fun P w A hu=>by show A.units + 1 < cLine;lia
 keep:=fun H H' k a hk ⟨t,e,vs,e2,hv⟩=>⟨t,hk _ _ e,vs,hk _ _ e2,hv⟩
section
variable {X:Cx}
def Zjd:List V->Hp->VK->Prop:=fun xs H Q=>∃(Kk:Type) (_:DecidableEq Kk) (kn:KN Kk) (d:Addr) (kvs:List (Kk × V)),xs=[V.ref d]/\GK kn H d kvs/\Q (.int kvs.length) H
theorem Zaf:Jh X (.builtin "len") Zjd:=by
 intro pins s σ H xs D Q I r h;obtain ⟨Kk,_,kn,d,kvs,rfl,n,q⟩:=h;obtain ⟨u,rfl,C⟩:=vals1 r;cases C;exact Zg2 I n fun t s' g=>⟨.int kvs.length,H,g,⟨t,rfl⟩,q⟩
def Zje:V->List V->Hp->VK->Prop:=fun x vs H Q=>∃(Kk:Type) (_:DecidableEq Kk) (kn:KN Kk) (d a:Addr) (k:Kk) (v:V) (kvs:List (Kk × V)),x=.ref d/\vs=[.ref a,v]/\GK kn H d kvs/\kn.at_ H k a/\kvs.length + 1 < sizeLine /\
 (∀y,YX kvs k=some y->Q y H)/\(YX kvs k=none->∀H',GK kn H' d (kvs++[(k,v)])->(∀b o,H b=some o->b≠d->H' b=some o)->(∃o,H'=upd H d o)->Q v H')
theorem Zg3 (hu:X.A.units + 2 < cLine):MtM X "dict.setdefault" Zje:=by
 intro pins s σ H x vs v R Q I G E h;obtain ⟨Kk,_,kn,d,a,k,y,kvs,rfl,rfl,n,hk,C,h1,h2⟩:=h;cases G;cases E with
 | cons J g =>
 cases g with
 | cons g N =>
 cases N;cases (show _=Value.ref a from J);exact zb I n hk hu g C (fun z C O s' L q=>⟨z,H,q,L,h1 z C⟩) fun hn H' s' M o' D q=>⟨y,H',q,g,h2 hn H' M o' D⟩
def tyN(x:V)(H:Hp):Prop:=∃(Kk:Type) (_:DecidableEq Kk) (kn:KN Kk) (d:Addr) (kvs:List (Kk × V)),x=.ref d/\GK kn H d kvs
theorem tyN_is {pins:List (Addr × Obj)}    {x:V} {v:Value} (I:Inv X pins c H s) (r:RelV x v) (ty:tyN x H):s.TypeIs v "dict" /\ ∀a,v=.ref a->∃ob,s.heap.get? a=some ob/\ob.dict=none:=by
 obtain ⟨Kk,_,kn,d,kvs,rfl,n⟩:=ty;cases r;obtain ⟨xs,⟨o,es,ep,e,ex,_⟩,_,_,_⟩:=n.dict I;refine ⟨⟨o,e,ex.1⟩,fun a g=>?_⟩;cases g;exact ⟨o,e,ex.2.1⟩
def tBMN(to:TE)(t:TA):TE:=fun σ H Q=>to σ H fun x H1=>tyN x H1/\t σ H1 fun xs H2=>Zje x xs H2 Q
variable {o e:Expr}{es:List Expr}{to:TE}{t:TA}{name:Str}{apos cpos:Pos}
theorem Zg4 (hu:X.A.units + 2 < cLine) (ho:QE X o to) (ha:QA X (e::es) t) (hbase:attributeBase o "setdefault" X.env (eval o X.env)=eval o X.env:=by rfl) (hline:(apos.endLine == cpos.line)=true:=by rfl) (hp:(e::es).all Y2=true:=by rfl) (hl:(e::es).length < 30:=by decide) :
  QE X (.Call (.Attribute o "setdefault" apos) (e::es) [] cpos) (tBMN to t):=by
 refine ⟨fun pins s σ H Q I h=>?_⟩;have g:=hp;rw [Qcj,Qbv] at g;have q:((backTo cpos (starEach (e::es) X.env)).all (fun x=>!x.1) && (backToKw cpos (keywordEach [] X.env)).all (fun x=>x.1.isSome) && decide ((e::es).length + ([]:List Keyword).length + (if ([]:List Keyword).isEmpty then 0 else 1) < 30))=true:=by
  rw [all_plain hp];show decide ((e::es).length + 0 + 0 < 30)=true;exact Qaj hl
 refine wpAny_Call_method_late hbase q hline rfl (thn (ho.out pins s σ H _ I h) fun v G ⟨x,H1,C,E,ty,N⟩=>?_);obtain ⟨h1,h2⟩:=tyN_is C E ty;refine ⟨"dict","dict.setdefault",F.plainAttrs_dict,F.slot_dict_setdefault,F.type_dict_setdefault,h1,h2,?_⟩;have D:=ha.out cpos pins G σ H1 _ C N;have hs:starEach (e::es) X.env=(false,eval e X.env)::starEach es X.env:=Zz g.1;rw [hs] at D ⊢;refine Qec (by show (false || (backTo cpos (starEach es X.env)).any (·.1))=false;rw [Xq g.2] <;> rfl) (Qfu ?_);exact thn D fun M L ⟨vs,H2,R,J,O⟩=>Zg3 hu pins L σ H2 x vs v M Q R E J O
end
section
variable {X:Cx}
def rMaxL(K:PySem.W.Frag):List V->Hp->VK->Prop:=fun xs H Q=>∃(p:Addr) (g:List Int),xs=[.ref p]/\SqL K H p (g.map V.int)/\g≠[]/\∀m∈g,(∀n∈g,n<=m)->Q (.int m) H
theorem yj (hc:X.calm=true):Jh X (.builtin "max") (rMaxL X.K):=by
 intro pins s σ H xs us Q I r h;obtain ⟨p,G,rfl,S,D,q⟩:=h;obtain ⟨u,rfl,R⟩:=vals1 r;cases R;obtain ⟨C,N,pl,hz⟩:=I.list S;have hi:IntsAre C G:=intsAre_of N;obtain ⟨xs,hx⟩:=hi.allInts.items;have J:s.heap.IsList p (intItems xs):=hx ▸ pl.isList;have e1:G=xs.toList.map (·.1):=by
  rw [<-nums_intItems,<-hx];exact (show numsOf C.toArray.toList=G from hi.numsOf).symm
 have hsz:0 < xs.size:=by
  cases hs:xs.size with
  | zero=>exact absurd (by rw [e1,show xs.toList=[] from Qcf (by rw [Qce];exact hs)];rfl) D
  | succ n=>exact Nat.succ_pos n
 refine max_intList (I.ok.hd hc) J hsz fun v h' tk hv hk=>?_;have hb:=argBest_gt (numAt xs) (xs.size - 1);generalize argBest (fun i j=>decide (numAt xs i > numAt xs j)) (xs.size - 1)=b at hv hb;have E:b < xs.size:=by lia
 have at_:∀j (g:j < xs.size),numAt xs j=xs[j].1/\(intItems xs)[j]?=some (.int xs[j].1 xs[j].2):=by
  intro j g;exact ⟨by simp [numAt,g],by simp [intItems,g]⟩
 obtain ⟨Y,O⟩:=at_ b E;rw [O] at hv;cases hv;refine ⟨.int xs[b].1,H,I.kept hk,⟨_,rfl⟩,q _ ?_ fun n hn=>?_⟩
 ·rw [e1]
  exact Qa2.mpr ⟨xs[b],by simp,rfl⟩
 ·rw [e1] at hn
  obtain ⟨y,M,rfl⟩:=Qa2.mp hn;obtain ⟨j,g⟩:=Qet M;have L:j < xs.size:=by
   have:=(Qac.mp g).1
   rwa [Qce] at this
  have:=hb.2 j (by lia);rw [(at_ j L).1,Y] at this;have Z:xs[j]=y:=by
   have:=(Qac.mp g).2;simpa using this
  rw [Z] at this;exact this
def rRngV:List V->Hp->VK->Prop:=fun xs H Q=>∃j:Int,xs=[.int j]/\∀p,H p=none->Q (.ref p) (upd H p (.rng 0 j))
theorem ve:Jh X (.type "range") rRngV:=by
 intro pins s σ H xs C Q I r h;obtain ⟨j,rfl,q⟩:=h;obtain ⟨u,rfl,g⟩:=vals1 r;obtain ⟨t,rfl⟩:=g;refine call_range_1 ⟨.ref s.heap.objs.size,_,I.laid (fun b u e=>Qae _ e) (Qai _) ?_,rfl,q _ I.fresh⟩;exact ⟨_,_,_,Qaz _ rfl⟩
def Zg5:List V->Hp->VK->Prop:=fun xs H Q=>∃(p:Addr) (n:Nat),xs=[.ref p]/\H p=some (.rng 0 (n:Int))/\n<=1000000/\∀l,H l=none->Q (.ref l) (upd H l (.lst ((List.range n).map fun i:Nat=>V.int (i:Int))))
theorem vf (hc:X.calm=true):Jh X (.type "list") Zg5:=by
 intro pins s σ H xs C Q I r h;obtain ⟨p,n,rfl,e,hn,q⟩:=h;obtain ⟨u,rfl,N⟩:=vals1 r;cases N;obtain ⟨t,u,v,hp⟩:=(show YO X.prog X.w H s.heap p (.rng 0 (n:Int)) from I.hok p _ e);have hsz:Builtin.Range.rangeSize 0 (n:Int) 1=(n:Int):=by
  unfold Builtin.Range.rangeSize;rw [Qa4 (by decide)]
  split
  ·rw [Qct]
   lia
  ·lia
 have g:∀z:Int,0<=z->z<=1000000->Builtin.Range.rangeFitsLong z=true:=fun z h1 h2=>by
  unfold Builtin.Range.rangeFitsLong;simp only [Qbv,decide_eq_true_eq];lia
 have E:Builtin.Range.small 0 (n:Int) 1=true:=by
  unfold Builtin.Range.small;rw [hsz,g 0 (by decide) (by decide),g n (by lia) (by lia),g 1 (by decide) (by decide),Qa4 (by decide),show (n:Int) + (1 - 1)=n by lia,g n (by lia) (by lia)];simp
 refine call_list_range (I.ok.hd hc) hp E hsz (by lia) fun h' tk acc J hk hl it=>?_;refine ⟨.ref s.heap.objs.size,_,I.laid hk (Qai _) ?_,rfl,q _ I.fresh⟩;have D:acc.toList.length=n:=by rw [Qce];exact it.1
 refine ⟨by rw [Qad,Qbr,Qhc];lia,acc.toList,J,?_,by simpa using hl⟩;have L:∀(m:Nat) (C:List Value) (k:Nat),C.length=m->(∀j v,C[j]?=some v->∃t,v=Value.int ((k + j:Nat):Int) t)->Vals ((List.range' k m).map fun i:Nat=>V.int (i:Int)) C:=by
  intro m
  induction m with
  | zero =>
   intro C k hl _;rw [Qcf hl];exact .nil
  | succ m M =>
   intro C k hl hh;cases C with
   | nil=>cases hl
   | cons u C =>
    rw [List.range'_succ,Qa7];refine .cons ?_ (M C (k + 1) (by simpa using hl) fun j v G=>?_)
    ·obtain ⟨t,e⟩:=hh 0 u rfl
     exact ⟨t,e⟩
    ·obtain ⟨t,e⟩:=hh (j + 1) v (by simpa using G)
     exact ⟨t,by rw [e,show k + (j + 1)=k + 1 + j by lia]⟩
 rw [List.range_eq_range'];refine L n acc.toList 0 D fun j v G=>?_;obtain ⟨t,e⟩:=it.2 j v (by rw [<-Qfo];exact G);exact ⟨t,by rw [e,show (0:Int) + (j:Int) * 1=((0 + j:Nat):Int) by lia]⟩
end
end L2
namespace L2
open PySem PySem.Spec PyProof.Rows
theorem yk{A:PySem.Around}{k:Nat}(hr:JD k A):A.units + 2 < PySem.cLine:=Qds (Nat.add_le_add_left (by decide:2<=64) _) hr.units
open PySem PySem.Spec PyProof.Rows
def Zg6(C:Program)(w:World)(K:PySem.W.Frag)(mg:Str->Option Value)(base:Heap)(k:Nat)(sp:Sp)(P:Addr)(lpos:Pos)(qual:Str)(ta tb:TE)(n:Nat)(is:List Nat)(te:TE):TE:=fun σ H Q=>ta σ H fun z q=>tb σ q fun x H1=>Xb H1 P lpos qual /\
 ∀(cs:List Addr) (f:Addr) (H2:Hp),(∀c∈cs,H1 c=none)->(∀c∈cs,∃o,H2 c=some (XI o))->H1 f=none->(∀g,Yb H2 g->Xb (hide cs g) P lpos qual)->(∀b o,H1 b=some o->b≠P->H2 b=some o) ->
  Xa C w K mg base k f H2 (Zgv n te cs (is.map fun i=>(σ[i]?).getD none))->sp [z,x,.ref f] H2 (fun v g=>Q v (hide cs g)) E0
section
variable {X:Cx}{params:Arguments}{body a:Expr}{scope:Scope}{lpos p pos:Pos}{c P g:Addr}{qual x:Str}{k kl:Nat}{gd:FuncData}{pg ps ys:List Str}{is:List Nat}{sp:Sp}{ta te:TE}{b:Expr}{tb:TE}
theorem Zag(F:Ym X.prog X.w X.K X.mg X.base CX0 k g gd pg sp)(hr:JD k X.A)(hg:Gl X x)(hm:X.mg x=some (.ref g))(hk:PySem.W.keepIn X.K (.ref g)=true)(hb:Binds X.K gd pg [])(hfn:X.fn=fun _=>true)
  (ha:QE X a ta) (hb2:QE X b tb) (hcode:X.env.code=.ref c) (C:PySem.W.CodeHd X.base c P) (B:xu X.mg X.base) (hdef:defaultsOf params X.env=([],[])) (hq:X.env.qual ++ "<lambda>" = qual)
  {S0:Scope} {N0:List Str} (hX:X.env.scope=S0) (hXN:X.N=N0) (LL:Zja S0 scope N0 ps ys is)
  (hbind:∀(cl:List (Str × Addr)) (pm cv Y:Value) (us:List Value),us.length=ps.length->bindArgs (PySem.W.kla_fn "<lambda>" qual params body scope cl pm cv Y) ⟨us,[]⟩=pure (ps.zip us))
  (hbody:∀(f c':Addr) (cl:List (Str × Addr)) (A:Around) (outer:List Env) (s:Shared) (H1:Hp),JD kl (A.deeper (PySem.W.envX qual scope s.heap.objs.size f (.ref c') cl))->QE (cxL X.prog X.w X.K X.mg X.base (ps++ys) qual scope f (.ref c') cl A outer s H1) body te)
  (hdb:(x == ("__debug__" : Str))=false:=by decide) (he:starEach [a,b,.Lambda params body scope lpos] X.env=(false,eval a X.env)::starEach [b,.Lambda params body scope lpos] X.env:=by rfl) (he2:starEach [b,.Lambda params body scope lpos] X.env=(false,eval b X.env)::starEach [.Lambda params body scope lpos] X.env:=by rfl)
  (hs2:starEach [.Lambda params body scope lpos] X.env=(false,eval (.Lambda params body scope lpos) X.env)::starEach [] X.env:=by rfl) (hpl:(backTo pos (starEach [b,.Lambda params body scope lpos] X.env)).any (·.1)=false:=by rfl) :
  QE X (.Call (.Name x p) [a,b,.Lambda params body scope lpos] [] pos) (Zg6 X.prog X.w X.K X.mg X.base (kl + 1) sp P lpos qual ta tb ps.length is te):=by
 have S:=LL.sc;have O:∀y∈scope.names,y.2=.free->X.env.scope.names.lookup y.1=some .cell:=fun y Z h=>by rw [hX];exact LL.free y Z h
 have hN:∀q∈ys.zip is,X.N[q.2]?=some q.1:=fun q hq=>by rw [hXN];exact LL.vis q hq
 have hlen:=LL.len;refine ⟨?_⟩;intro pins s σ H Q I hw;refine Qc3 (jc I hg hm ?_ hdb);have hlam:=uY (X:=X) (lpos:=lpos) (params:=params) (body:=body) (scope:=scope) hcode C B hdef hq O;refine Qgj (h₀:=X.base) I.ok.mod.kin hk ?_ he hpl;rw [he];show wpAny _ _ (spliced ((false,eval a X.env)::backTo pos (starEach [b,.Lambda params body scope lpos] X.env))) _ _ s;refine Qci (thn (ha.out pins s σ H _ I hw) fun u s0 ⟨x00,H0,I0,r0,hw0⟩=>?_);rw [he2];show wpAny _ _ (spliced ((false,eval b X.env)::backTo pos (starEach [.Lambda params body scope lpos] X.env))) _ _ s0;refine Qci (thn (hb2.out pins s0 σ H0 _ I0 hw0) fun u1 s1 ⟨x0,H1,I1,r1,hT,q1⟩=>?_);rw [hs2];show wpAny _ _ (spliced ((false,eval (.Lambda params body scope lpos) X.env)::backTo pos (starEach [] X.env))) _ _ s1;refine Qci (thn (hlam pins s1 σ H1 (fun v H2=>∃(f c':Addr) (oc:Obj) (Y:Value),v=.ref f/\H1 f=none/\H2 f=some (XI (zH X qual params body scope c' Y))/\H2 c'=some (XI oc)/\zG oc qual/\Xb H2 P lpos qual/\∀b o,H1 b=some o->b≠P->H2 b=some o) I1 ⟨hT,fun f c' oc Y H2 a1 a2 a3 a4 a5 a6=>⟨f,c',oc,Y,rfl,a1,a2,a3,a4,a5,a6⟩⟩) fun u2 s2 ⟨y,H2,M,r2,f,c',oc,Y,Z,f1,f2,f3,f4,f5,f6⟩=>?_);subst Z;cases r2;refine Qdn ⟨M.kIn,?_⟩;have hcell:∀d∈cellsOf X.env.cells,∃o v,s2.heap.get? d=some o/\o.data=.cell v:=fun d m=>by
  obtain ⟨y,Z⟩:=Yn.mp m;obtain ⟨v,o,ho,hd⟩:=M.cell y d Z;exact ⟨o,v,ho,hd⟩
 have L:∀d∈cellsOf X.env.cells,H2 d=none:=fun d m=>by
  obtain ⟨y,Z⟩:=Yn.mp m;exact M.freeC y d Z
 have hn1:∀d∈cellsOf X.env.cells,H1 d=none:=fun d m=>by
  obtain ⟨y,Z⟩:=Yn.mp m;exact I1.freeC y d Z
 let H3:Hp:=fun b=>if b∈cellsOf X.env.cells then (s2.heap.get? b).map XI else H2 b;have J:∀d∈cellsOf X.env.cells,∃o v,H3 d=some (XI o)/\o.data=.cell v/\s2.heap.get? d=some o:=fun d m=>by
  obtain ⟨o,v,e,hd⟩:=hcell d m;exact ⟨o,v,by show (if d∈cellsOf X.env.cells then _ else _)=_;rw [Qa4 m,e];rfl,hd,e⟩
 have E:∀d,d∉cellsOf X.env.cells->H3 d=H2 d:=fun d m=>Qax m;have D:∀b o,H2 b=some o->H3 b=some o:=fun b o e=>by
  rw [E b (fun m=>by rw [L b m] at e;cases e)];exact e
 have nloc:∀d∈cellsOf X.env.cells,d≠X.env.locals:=fun d m e=>by
  obtain ⟨o,v,g,hd⟩:=hcell d m;obtain ⟨m',⟨o',es,ep,g',hd',_⟩,_⟩:=M.loc;rw [e,g'] at g;cases g;rw [hd'] at hd;cases hd
 have above:∀d∈cellsOf X.env.cells,X.s₀.heap.objs.size<=d:=fun d m=>by
  obtain ⟨y,Z⟩:=Yn.mp m;exact M.ok.cab y d (by rw [hfn]) Z
 have nfr:∀d∈cellsOf X.env.cells,d∉frs X.stack:=fun d m z=>by
  rcases Qas.mp (M.stkSub d z) with e | e
  ·exact nloc d m e
  ·obtain ⟨_,o,g,_⟩:=M.ok.funs.mem e
   exact absurd (Qav g) (Qf5.mpr (above d m))
 have hok3:HOk X.prog X.w H3 s2.heap:=fun b o e=>by
  by_cases m:b∈cellsOf X.env.cells
  ·obtain ⟨ob,v,e',hd,g⟩:=J b m
   rw [e'] at e;cases e;exact JV g
  ·rw [E b m] at e
   exact (M.hok b o e).stay (fun _ _ _ q=>q) (fun d q=>D _ _ q) fun d xs q=>D _ _ q
 have e0:Zgc X.prog X.w X.K X.mg X.base X.A X.stack s2 H3:=by
  have z:=M.env0;refine ⟨z.frames,z.mod,fun b o e=>⟨(z.bs b o e).1,?_⟩,z.bsz,z.funs,fun b hb=>?_,hok3,z.bare⟩
  ·rw [E b fun m=>?_]
   ·exact (z.bs b o e).2
   ·exact absurd (Qav e) (Qf5.mpr (Qbg M.ok.bsz (above b m)))
  ·rw [E b fun m=>nfr b m hb]
   exact z.frf b hb
 have hcl:∀y d,(qu X.env.cells scope.names []).lookup y=some d->X.env.cells.lookup y=some d :=
  Gs (fun y Z h=>M.ok.has y.1 (.inl (O y Z h))) fun _ _ z=>by cases z
 have hcall:Xa X.prog X.w X.K X.mg X.base (kl + 1) f H3 (Zgv ps.length te (cellsOf X.env.cells) (is.map fun i=>(σ[i]?).getD none)):=by
  refine yh (ys:=ys) S (D _ _ f2) (D _ _ f3) f4 (fun y d h=>Yn.mpr ⟨y,hcl y d h⟩) (fun d m=>let ⟨o,v,e,hd,_⟩:=J d m;⟨o,v,e,hd⟩) (fun y z d h1 h2=>M.ok.inj y z d (hcl y d h1) (hcl z d h2)) (fun y h=>X3 h) (by rw [Qad,hlen]) (fun i y v h1 h2=>?_) (fun us hl=>hbind _ _ _ _ us hl) fun A outer s H1 hr=>(hbody f c' _ A outer s H1 hr).out;rw [Qah] at h2;cases hj:is[i]? with
  | none=>rw [hj] at h2;cases h2
  | some j =>
   rw [hj] at h2;have R:(σ[j]?).getD none=some v:=Option.some.inj h2;have hσ:σ[j]?=some (some v):=by
    cases q:σ[j]? with
    | none=>rw [q] at R;cases R
    | some z=>rw [q] at R;exact congrArg some R
   have hz:(y,j)∈ys.zip is:=by
    obtain ⟨a1,e1⟩:=Qac.mp h1;obtain ⟨a2,e2⟩:=Qac.mp hj;rw [<-e1,<-e2,<-Qex (h:=by rw [Qd0];lia)];exact Qb1 _
   have hfr:=S.free y (Qao h1);have kc:X.env.kindOf y=some .cell:=O _ (qV hfr) rfl;obtain ⟨m,hm',hl⟩:=M.loc;obtain ⟨u,r,l⟩:=hl j y v (hN _ hz) hσ (.inr (.inl kc));rcases l with ⟨l1,_⟩ | ⟨_,d,l2,l3⟩
   ·rw [kc] at l1;cases l1
   ·obtain ⟨d',hd'⟩:=X3 (cells:=X.env.cells) (acc:=[]) hfr
    have e:d'=d:=by have:=hcl y d' hd';rw [l2] at this;exact (Option.some.inj this).symm
    subst e;obtain ⟨o,ho,hd⟩:=l3;obtain ⟨o',v',e',_,g'⟩:=J d' (Yn.mpr ⟨y,l2⟩);rw [ho] at g';cases g';exact ⟨d',o,u,hd',e',hd,r⟩
 have hsp:=q1 (cellsOf X.env.cells) f H3 hn1 (fun d m=>let ⟨o,_,e,_⟩:=J d m;⟨o,e⟩) f1 ?_ (fun b o e hbP=>D _ _ (f6 b o e hbP)) hcall
 ·have hl:=F.len _ _ _ _ hsp
  have rv:Vals [x00,x0,V.ref f] [u,u1,Value.ref f]:=.cons r0 (.cons r1 (.cons rfl .nil));have hlu:([u,u1,Value.ref f]++[]).length=pg.length:=hl;refine wpAny_call (Qfn (F.run X.A X.stack s2 H3 ⟨[u,u1,.ref f],[]⟩ [u,u1,.ref f] [x00,x0,.ref f] _ _ hr e0 (by simpa using hb s2 [u,u1,.ref f] M.kIn hlu) rv hsp) fun r s' hq=>?_);cases r with
  | error e=>exact hq.elim
  | ok fl =>
   cases fl with
   | next=>exact False.elim hq
   | brk=>exact False.elim hq
   | cont=>exact False.elim hq
   | ret uu =>
    obtain ⟨v,H4,os,bare,un,hok4,rv4,q4⟩:=hq;have h4in:∀d∈cellsOf X.env.cells,∃o,H4 d=some (XI o)/\s2.heap.get? d=some o/\s'.heap.get? d=some o:=fun d m=>by
     obtain ⟨o,v,e,hd,g⟩:=J d m;have e4:=un.frzs d o _ e;exact ⟨o,e4,g,(hok4 d _ e4).1⟩
    have G:∀d,H2 d=none->d∉cellsOf X.env.cells->H3 d=none:=fun d n m=>by rw [E d m];exact n
    have nm:∀d o,H2 d=some o->d∉cellsOf X.env.cells:=fun d o e m=>by rw [L d m] at e;cases e
    refine ⟨v,hide (cellsOf X.env.cells) H4,M.call' os ⟨fun d o e n hb hx=>?_,fun d o e n hb hx=>?_,fun d o e n hx=>?_,fun d o e hx=>un.there d o e hx,fun d xs e=>?_,fun d o u e=>?_,fun d pz e=>?_⟩ (jq hok4 fun d m=>let ⟨o,e,_⟩:=h4in d m;⟨o,e⟩) bare (fun _ z=>nomatch z),rv4,q4⟩
    ·by_cases m:d∈cellsOf X.env.cells
     ·obtain ⟨o',_,g,g'⟩:=h4in d m
      rw [e] at g;cases g;exact g'
     ·exact un.keep d o e (G d n m) hb hx
    ·by_cases m:d∈cellsOf X.env.cells
     ·obtain ⟨o',_,g,g'⟩:=h4in d m
      rw [e] at g;cases g;exact ⟨o.slots,g'⟩
     ·exact un.slot d o e (G d n m) hb hx
    ·by_cases m:d∈cellsOf X.env.cells
     ·exact YA m
     ·rw [ZP m];exact un.free d o e (G d n m) hx
    ·rw [ZP (nm d _ e)];exact un.tups d xs (D _ _ e)
    ·rw [ZP (nm d _ e)];exact un.frzs d o u (D _ _ e)
    ·rw [ZP (nm d _ e)];exact un.tbls d pz (D _ _ e)
 ·intro H4 s4
  have out:∀b o,H2 b=some o->hide (cellsOf X.env.cells) H4 b=some o:=fun b o e=>by
   rw [ZP (fun m=>by rw [L b m] at e;cases e)];exact s4 _ _ (D _ _ e)
  rcases f5 with z | ⟨c2,oc2,z1,z2,z3⟩
  ·exact .inl (out _ _ z)
  ·exact .inr ⟨c2,oc2,out _ _ z1,out _ _ z2,z3⟩
end
def Zjf(K:PySem.W.Frag)(i:Nat):TI:=fun σ H R=>∃a,σ[i]?=some (some (.ref a))/\(((∃xs,SqL K H a xs)/\R (Itl K a) H)\/((∃xs,SqT K H a xs)/\R (Itt K a) H))
theorem Zg7{X:Cx}{l:Expr}(hl:QE X l (JC i)):QI X o l (Zjf X.K i):=⟨fun pins s σ H R I h=>by
 obtain ⟨a,e,h | h⟩:=h
 ·exact (XC hl).out pins s σ H R I ⟨_,e,a,rfl,h.1,h.2⟩
 ·exact (z6 hl).out pins s σ H R I ⟨_,e,a,rfl,h.1,h.2⟩⟩
section
variable {κ:Type}[DecidableEq κ]
def Y8(l:List κ)(k:κ):List κ:=if k∈l then l else l++[k]
def ZN(ks:List κ):List κ:=ks.foldl Y8 []
theorem zI(ks:List κ)(k:κ):ZN (ks++[k])=Y8 (ZN ks) k:=by
 unfold ZN;rw [Qcy]
 rfl
theorem Ww{l:List κ}(h:l.Nodup)(k:κ):(Y8 l k).Nodup:=by
 unfold Y8
 split
 ·exact h
 ·rename_i hk
  rw [Qd1];exact ⟨h,Qb3.mpr ⟨Qa6,Qc2⟩,fun a ha b hb e=>hk (by rw [Qay] at hb;rw [<-hb,<-e];exact ha)⟩
theorem XM(ks:List κ):(ZN ks).Nodup:=by
 have:∀(ks l:List κ),l.Nodup->(ks.foldl Y8 l).Nodup:=by
  intro ks
  induction ks with
  | nil=>exact fun l h=>h
  | cons k r g=>exact fun l h=>g _ (Ww h k)
 exact this ks [] Qc2
theorem XY{l:List κ}{k x:κ}:x∈Y8 l k↔x∈l\/x=k:=by
 unfold Y8
 split
 ·rename_i h
  exact ⟨.inl,fun z=>z.elim id fun e=>e ▸ h⟩
 ·rw [Qbk,Qay]
theorem Yt(ks:List κ)(x:κ):x∈ZN ks↔x∈ks:=by
 have:∀(ks l:List κ),x∈ks.foldl Y8 l↔x∈l\/x∈ks:=by
  intro ks
  induction ks with
  | nil=>intro l;simp
  | cons k r g =>
   intro l;rw [Qc5,g,XY,Qas,or_assoc]
 rw [show ZN ks=ks.foldl Y8 [] from rfl,this];simp
theorem qX(l:List κ)(k:κ):(Y8 l k).length<=l.length + 1:=by
 unfold Y8
 split
 ·lia
 ·rw [Qaf];exact Qai _
theorem ju(ks:List κ):(ZN ks).length<=ks.length:=by
 have:∀(ks l:List κ),(ks.foldl Y8 l).length<=l.length + ks.length:=by
  intro ks
  induction ks with
  | nil=>exact fun l=>Qai _
  | cons k r g =>
   intro l;have h1:=g (Y8 l k);have h2:=qX l k;rw [Qc5,Qbc];lia
 have h:=this ks [];rw [Qdc,Nat.zero_add] at h;exact h
theorem jv(l:List κ)(k:κ):∃r,Y8 l k=l++r:=by
 unfold Y8
 split
 ·exact ⟨[],(Qbl _).symm⟩
 ·exact ⟨[k],rfl⟩
theorem J4(ks:List κ):∀l:List κ,∃r,ks.foldl Y8 l=l++r:=by
 induction ks with
 | nil=>exact fun l=>⟨[],(Qbl _).symm⟩
 | cons k r g =>
  intro l;obtain ⟨a,ha⟩:=jv l k;obtain ⟨b,hb⟩:=g (Y8 l k);exact ⟨a++b,by rw [Qc5,hb,ha,Qbu]⟩
theorem zJ(ks:List κ)(i:Nat):∃r,ZN ks=ZN (ks.take i)++r:=by
 have e:ZN ks=(ks.drop i).foldl Y8 (ZN (ks.take i)):=by
  unfold ZN;rw [<-Qcy,Qcc]
 rw [e];exact J4 _ _
theorem GU{l r:List κ}{k:κ}(h:k∈l):(l++r).idxOf k=l.idxOf k:=by rw [List.idxOf_append,Qa4 h]
theorem idx_map{α β:Type}[DecidableEq α][DecidableEq β](f:α->β)(hf:∀a b,f a=f b->a=b)(s:α):∀l:List α,(l.map f).idxOf (f s)=l.idxOf s
 | []=>rfl
 | x::r=>by
  rw [Qa7,Qge,Qge,idx_map f hf s r]
  by_cases h:x=s
  ·subst h
   rw [Qb0,Qb0]
  ·rw [Qcd.mpr h,Qcd.mpr fun z=>h (hf _ _ z)]
def X4(l:List κ):List (κ × V):=l.zipIdx.map fun p=>(p.1,V.int (p.2:Int))
theorem GV(l:List κ):(X4 l).map (·.1)=l:=by
 unfold X4;rw [Qbj];exact List.zipIdx_map_fst 0 l
theorem Jn(l:List κ):(X4 l).length=l.length:=by
 unfold X4;rw [Qad,List.length_zipIdx]
theorem GW(l:List κ)(k:κ):X4 (l++[k])=X4 l++[(k,V.int (l.length:Int))]:=by
 unfold X4;rw [List.zipIdx_append,Qbm];simp
theorem Jo:∀(l:List κ) (k:κ),k∈l->l.Nodup->YX (X4 l) k=some (V.int (l.idxOf k:Int)):=by
 intro l k hk hn;have hi:=Qbd hk;have hm:(k,V.int (l.idxOf k:Int))∈X4 l:=by
  unfold X4;refine Qa2.mpr ⟨(k,l.idxOf k),?_,rfl⟩;rw [List.mem_zipIdx_iff_getElem?];simp [hi,Qab]
 have:=jo (kvs:=X4 l) (by rw [GV];exact hn) _ hm;exact this
theorem GX(l:List κ)(k:κ)(hk:k∉l):YX (X4 l) k=none:=by
 unfold YX;rw [Option.map_eq_none_iff,List.find?_eq_none];intro x hx z;have:x.1∈(X4 l).map (·.1):=Qbw hx;rw [GV,Qba z] at this;exact hk this
end
end L2
namespace EnL
open PySem PySem.Spec PyProof.Rows
open AutoSeq1 (wpAny_loadPart')
def tIt (l:Addr):Obj:={ cls:=.type "list_iterator",data:=.fields #[.ref l,.int 0 0] }
def enO (it:Addr):Obj:={ cls:=.type "enumerate",data:=.fields #[.none,.bool false,.ref it,rawInt 0,.none,.none] }
theorem XF(l:Addr)(items:Array Value) :
  Meets (Builtin.«enumerate.__new__» ⟨[.type "enumerate",.ref l],[]⟩) (fun _ R s=>s.heap.IsList l items /\
   R (.ok (.ret (.ref (s.heap.push (tIt l)).objs.size))) { s with heap:=(s.heap.push (tIt l)).push (enO s.heap.objs.size) }) :=
 .of_wp fun prog w A R s h=>by
  obtain ⟨hp,g,d,tk,os⟩:=s;obtain ⟨q,h⟩:=h;have C:=sub_enumerate;obtain ⟨⟨oc,od,D,E⟩,hl,hc,n,hd⟩:=id q;simp only at hc hd;subst hc hd
  wp_walk using wpAny_loadPart' hl
  refine wpAny_stack_any fun st=>Qan ?_
  split
  ·rename_i c _ _ _ _ _
   cases (c == Value.type "enumerate")
   ·wp_walk using wpAny_loadPart' hl,Qeo q
    exact ⟨_,rfl,h⟩
   ·wp_walk using wpAny_loadPart' hl,Qeo q
    exact ⟨_,rfl,h⟩
  ·wp_walk using wpAny_loadPart' hl,Qeo q
   exact ⟨_,rfl,h⟩
section
variable {prog:Program}{w:World}{A:Around}{E:Value->Shared->Prop}{s:Shared}
theorem next_of{it l:Addr}{items:_}{x:Value}(g:s.heap.IsListIter it l i)(hl:s.heap.IsList l items)(hx:items[i]?=some x)
  (D:∀h',h'.IsListIter it l (i + 1)->Heap.SameBut it s.heap h'->Q x { s with heap:=h' }):wpAny (model prog w) A (Builtin.SmallTypes.nextOf (.ref it)) Q E s:=by
 obtain ⟨o,ho,hc,hd⟩:=id g;obtain ⟨G,q,_,I,C⟩:=hl;unfold Builtin.SmallTypes.nextOf;refine Qaa (wpAny_callSpecial?_slot (name:=Str.ofString "__next__") g.typeIs Qfa (Qb4 Qfa g.typeIs entry_listiter_next ?_ (args_listiter_next _)));show wpAny _ _ (field (.ref it) 0 >>= _) _ _ s;refine Qaa (Qbs ho hd (x:=.ref l) rfl ?_);show wpAny _ _ (if (Value.ref l == Value.none)=true then _ else _) _ _ s;rw [Qax (show ¬((Value.ref l == Value.none)=true) from Qa3)];show wpAny _ _ (field (.ref it) 1 >>= _) _ _ s;refine Qaa (Qbs ho hd (x:=.int i 0) rfl ?_);show wpAny _ _ (seqItems? (.ref l) >>= _) _ _ s;refine Qaa (Qcb q C ?_);simp only [Qa9,hx];refine Qaa (Qeb ho hd (by simp) (Qan ⟨x,rfl,Qan (D _ ⟨_,Qcx _ ho (Qej (Qc4 hd _)),(Qgs ..).trans hc,?_⟩ (Qda ..))⟩));rw [Qc4 hd];simp [rawInt]
theorem next_no{it l:Addr}{items:_}(hh:A.handled=none)(g:s.heap.IsListIter it l i)(hl:s.heap.IsList l items)(hx:items[i]?=none)
  (D:∀h' e,Heap.ExtBut it s.heap h'->(∃o,h'.get? e=some o/\o.cls=.type "StopIteration")->E (.ref e) { s with heap:=h' }):wpAny (model prog w) A (Builtin.SmallTypes.nextOf (.ref it)) Q E s:=by
 obtain ⟨o,ho,hc,hd⟩:=id g;obtain ⟨G,q,_,I,C⟩:=hl;unfold Builtin.SmallTypes.nextOf;refine Qaa (wpAny_callSpecial?_slot (name:=Str.ofString "__next__") g.typeIs Qfa (Qb4 Qfa g.typeIs entry_listiter_next ?_ (args_listiter_next _)));show wpAny _ _ (field (.ref it) 0 >>= _) _ _ s;refine Qaa (Qbs ho hd (x:=.ref l) rfl ?_);show wpAny _ _ (if (Value.ref l == Value.none)=true then _ else _) _ _ s;rw [Qax (show ¬((Value.ref l == Value.none)=true) from Qa3)];show wpAny _ _ (field (.ref it) 1 >>= _) _ _ s;refine Qaa (Qbs ho hd (x:=.int i 0) rfl ?_);show wpAny _ _ (seqItems? (.ref l) >>= _) _ _ s;refine Qaa (Qcb q C ?_);simp only [Qa9,hx];refine Qaa (Qdx (Qaa (Qeb ho hd (by simp) ?_)));show wpAny _ _ (newExc (.type "StopIteration") [] >>= _) _ _ _;refine Qaa ?_;simp only [newExc,newTuple];refine Qaa (Qcg ?_ (by size_fits));refine Qaa (m:=firstArgMember _ _) (Qcl (a:=Value.none) (by first | rfl | (simp only [firstArgMember];rfl)) ?_);refine Qcg ?_ (by size_fits);simp only [raiseNew];refine Qaa (wpAny_handled ?_)
 first | rw [show A.in1.handled=none from hh] | rw [hh]
 refine Qaa (Qan (wpAny_throw ?_));exact D _ _ (((Qda ..).extBut.push _).push _) ⟨_,Qaz _ rfl,rfl⟩
theorem yW{e it l:Addr}{items:Array Value}{x:Value}
  (he:IsEnum s.heap e it i u) (hit:s.heap.IsListIter it l i) (hl:s.heap.IsList l items) (hx:items[i]?=some x) (hne:e≠it)
  (hQ:∀h',IsEnumOut h' e it ((i:Int) + 1) x s.heap.objs.size->h'.IsListIter it l (i + 1) ->
   h'.get? s.heap.objs.size=some { cls:=.type "tuple",data:=.seq #[.int i s.toks,x] }->h'.objs.size=s.heap.objs.size + 1 ->
   (∀b o,b≠e->b≠it->s.heap.get? b=some o->h'.get? b=some o)->Q (.ref s.heap.objs.size) { s with heap:=h',toks:=s.toks + 1 }) :
  wpAny (model prog w) A (Builtin.«enumerate.__next__» ⟨[.ref e],[]⟩) (fun fin s'=>∃v,fin=.done (.ret v)/\Q v s') E s:=by
 obtain ⟨hp,g,d,tk,os⟩:=s;show wpAny _ _ (field (.ref e) 2 >>= _) _ _ _;refine Qaa (Qbs he rfl (x:=.ref it) rfl ?_);refine Qaa (next_of hit hl hx fun L hit₁ I=>?_)
 replace I:Heap.SameBut it hp L:=I
 have S:IsEnum L e it i u:=(I.2 e hne).trans he;show wpAny _ _ (field (.ref e) 3 >>= _) _ _ ⟨L,g,d,tk,os⟩;refine Qaa (Qbs S rfl (x:=rawInt i) rfl ?_);show wpAny _ _ (field (.ref e) 4 >>= _) _ _ ⟨L,g,d,tk,os⟩;refine Qaa (Qbs S rfl (x:=.none) rfl ?_);show wpAny _ _ (mkInt i >>= _) _ _ ⟨L,g,d,tk,os⟩;refine Qaa (Qfj ?_);show wpAny _ _ (setField (.ref e) 3 (rawInt ((i:Int) + 1)) >>= _) _ _ ⟨L,g,d,tk + 1,os⟩;refine Qaa (Qbq S (by simp) fun Z Y q=>?_)
 replace q:Heap.SameBut e L Z:=q
 replace Y:IsEnum Z e it ((i:Int) + 1) u:=Y
 show wpAny _ _ (setField (.ref e) 4 .none >>= _) _ _ ⟨Z,g,d,tk + 1,os⟩;refine Qaa (Qbq Y (by simp) fun M O J=>?_)
 replace J:Heap.SameBut e Z M:=J
 replace O:IsEnum M e it ((i:Int) + 1) u:=O
 show wpAny _ _ (newTuple [.int i tk,x] >>= _) _ _ ⟨M,g,d,tk + 1,os⟩;refine Qaa (Qgq ?_);have R:IsEnum (M.push { cls:=.type "tuple",data:=.seq #[.int i tk,x] }) e it ((i:Int) + 1) u:=Qae _ O;generalize hh₄:M.push { cls:=.type "tuple",data:=.seq #[.int i tk,x] }=N at R;have hsz:M.objs.size=hp.objs.size:=by rw [J.1,q.1,I.1]
 have hel:e < hp.objs.size:=Qav he;have ht₄:N.get? hp.objs.size=some { cls:=.type "tuple",data:=.seq #[.int i tk,x] }:=by rw [<-hh₄,<-hsz];exact Qaz _ rfl
 have hz₄:N.objs.size=hp.objs.size + 1:=by rw [<-hh₄,Qca,hsz]
 have hk₄:∀b o,b≠e->b≠it->hp.get? b=some o->N.get? b=some o:=fun b o hbe hbi hb=>by
  rw [<-hh₄];exact Qae _ (J.extBut b o hbe (q.extBut b o hbe (I.extBut b o hbi hb)))
 have hit₄:N.IsListIter it l (i + 1):=by
  rw [<-hh₄];obtain ⟨o,ho,r⟩:=(hit₁.extBut q.extBut (Qdk hne)).extBut J.extBut (Qdk hne);exact ⟨o,Qae _ ho,r⟩
 show wpAny _ _ (Builtin.SmallTypes.ownedTupleIsFree (.ref e) >>= _) _ _ ⟨N,g,d,tk + 1,os⟩;rw [hsz];clear hh₄ O J Y q S I hit₁ hsz M Z L;refine Qaa ?_
 ·unfold Builtin.SmallTypes.ownedTupleIsFree
  refine Qaa (Qbs R rfl (x:=.none) rfl (Qan ?_));simp only [Qf9];refine Qaa (Qdx ?_);refine Qaa (Qbs R rfl (x:=u) rfl ?_);refine Qaa (Qbq R (by simp) fun h₅ he₅ C=>?_)
  replace C:Heap.SameBut e N h₅:=C
  replace he₅:IsEnum h₅ e it ((i:Int) + 1) x:=he₅
  show wpAny _ _ (Builtin.SmallTypes.ownedTupleHandOut (.ref e) (.ref hp.objs.size) >>= _) _ _ ⟨h₅,g,d,tk + 1,os⟩;refine Qaa ?_
  ·unfold Builtin.SmallTypes.ownedTupleHandOut
   refine Qaa (Qbq he₅ (by simp) fun h₆ he₆ G=>?_)
   replace G:Heap.SameBut e h₅ h₆:=G
   replace he₆:IsEnumOut h₆ e it ((i:Int) + 1) x hp.objs.size:=he₆
   refine Qbq he₆ (by simp) fun h₇ he₇ D=>?_
   replace D:Heap.SameBut e h₆ h₇:=D
   replace he₇:IsEnumOut h₇ e it ((i:Int) + 1) x hp.objs.size:=he₇
   refine Qaa (Qel (Qan ⟨_,rfl,hQ h₇ he₇ ?_ ?_ ?_ ?_⟩))
   ·exact ((hit₄.extBut C.extBut (Qdk hne)).extBut G.extBut (Qdk hne)).extBut D.extBut (Qdk hne)
   ·exact D.extBut _ _ (Qdr hel) (G.extBut _ _ (Qdr hel) (C.extBut _ _ (Qdr hel) ht₄))
   ·rw [D.1,G.1,C.1,hz₄]
   ·exact fun b o hbe hbi hb=>D.extBut b o hbe (G.extBut b o hbe (C.extBut b o hbe (hk₄ b o hbe hbi hb)))
theorem next_item{e it l:Addr}{items:Array Value}{x:Value}{Q:Option Value->Shared->Prop}
  (he:IsEnum s.heap e it i u) (g:s.heap.IsListIter it l i) (hl:s.heap.IsList l items) (hx:items[i]?=some x) (q:e≠it)
  (D:∀h',IsEnumOut h' e it ((i:Int) + 1) x s.heap.objs.size->h'.IsListIter it l (i + 1) ->
   h'.get? s.heap.objs.size=some { cls:=.type "tuple",data:=.seq #[.int i s.toks,x] }->h'.objs.size=s.heap.objs.size + 1 ->
   (∀b o,b≠e->b≠it->s.heap.get? b=some o->h'.get? b=some o)->Q (some (.ref s.heap.objs.size)) { s with heap:=h',toks:=s.toks + 1 }) :
  wpAny (model prog w) A (pyNext (.ref e)) Q E s:=by
 have C:s.TypeIs (.ref e) "enumerate" := ⟨_,he,rfl⟩;unfold pyNext;exact Qaa (Qdt (wpAny_callSpecial?_slot (name:=Str.ofString "__next__") C Qcm (Qb4 Qcm C Qed
   (yW he g hl hx q fun h' a b c d k=>Qan (D h' a b c d k)) (Qd8 _))))
theorem next_end{e it l:Addr}{items:Array Value}{Q:Option Value->Shared->Prop}(hh:A.handled=none)
  (he:IsEnum s.heap e it i u) (g:s.heap.IsListIter it l i) (hl:s.heap.IsList l items) (hx:items[i]?=none)
  (G:∀h',Heap.ExtBut it s.heap h'->Q none { s with heap:=h' }):wpAny (model prog w) A (pyNext (.ref e)) Q E s:=by
 have D:s.TypeIs (.ref e) "enumerate" := ⟨_,he,rfl⟩;unfold pyNext;refine Qaa (Qdt (wpAny_callSpecial?_slot (name:=Str.ofString "__next__") D Qcm (Qb4 Qcm D Qed ?_ (Qd8 _))));show wpAny _ _ (field (.ref e) 2 >>= _) _ _ _;refine Qaa (Qbs he rfl (x:=.ref it) rfl ?_);refine Qaa (next_no hh g hl hx fun h' x q C=>?_);obtain ⟨o,ho,hc⟩:=C;refine Qaa (Qdq (T := "StopIteration") (b:=true) ⟨o,ho,hc⟩ Qgp ?_);exact Qan (G _ q)
theorem call_new{l:Addr}{items:Array Value}(hl:s.heap.IsList l items)
  (h:∀h',IsEnum h' (s.heap.objs.size + 1) s.heap.objs.size 0 .none->h'.IsListIter s.heap.objs.size l 0->h'.objs.size=s.heap.objs.size + 2 ->
   (∀b o,s.heap.get? b=some o->h'.get? b=some o)->Q (.ref (s.heap.objs.size + 1)) { s with heap:=h' }):wpAny (model prog w) A (call (.type "enumerate") [.ref l]) Q E s:=by
 refine Qg5 F.called_enumerate (by decide) (F.typeCall_enumerate_1 _) (F.newCall_enumerate_1 _) (fun q=>Qfw q _) F.entry_enumerate_new (XF l items) ⟨hl,?_⟩;have g:(s.heap.push (tIt l)).objs.size=s.heap.objs.size + 1:=Qca ..;show _/\_;rw [g];have he:IsEnum ((s.heap.push (tIt l)).push (enO s.heap.objs.size)) (s.heap.objs.size + 1) s.heap.objs.size 0 .none:=by
  have:=Qaz (s.heap.push (tIt l)) (o:=enO s.heap.objs.size) rfl;rw [g] at this;exact this
 refine ⟨⟨_,he,rfl⟩,h _ he ⟨_,Qae _ (Qaz _ rfl),rfl,rfl⟩ (by rw [Qca,g]) fun b o x=>Qae _ (Qae _ x)⟩
end
end EnL
namespace L2
open PySem PySem.Spec PyProof.Rows
def Zjg(K:PySem.W.Frag)(a:Addr)(n:Nat):It :=
 ⟨fun i H=>∃xs x,SqL K H a xs/\xs.length=n/\xs[i]?=some x,fun i H v H'=>∃p,H p=none/\v=.ref p/\∀xs x,SqL K H a xs->xs[i]?=some x->H'=upd H p (.tup [.int i,x]),fun i H=>∃xs,SqL K H a xs/\xs.length=n/\n<=i⟩
theorem wR{P:Program}{q:Nat}{ps:Pos}(a e it:Addr)(n:Nat)(O:e≠it):Turn P w K (.Tuple C q ps) (Zjg K a n) [e,it] e (fun i h=>(∃D,IsEnum h e it i D)/\h.IsListIter it a i) where
 mem:=by simp
 obj:=fun i h st b hb=>by
  obtain ⟨⟨D,he⟩,o,ho,hc,hd⟩:=st;rcases Qas.mp hb with rfl | hb
  ·exact ⟨_,he,fun v z=>by
    have z':Data.fields _=Data.cell v:=z;cases z'⟩
  ·have:b=it:=by simpa using hb
   subst this;exact ⟨o,ho,fun v z=>by rw [hd] at z;cases z⟩
 keep:=fun i h h' st k=>by
  obtain ⟨⟨D,he⟩,g⟩:=st;exact ⟨⟨D,k e (by simp) _ he⟩,g.at fun o x=>k it (by simp) o x⟩
 item:=by
  intro X hP hw hK hc i pins s σ H E I hf st hg;subst hP hw hK;obtain ⟨xs,x,S,hn,hx⟩:=hg;obtain ⟨its,Z,p,hz⟩:=I.list S;obtain ⟨u,hu,ru⟩:=Z.get hx;obtain ⟨⟨D,he⟩,g⟩:=st;obtain ⟨f0,f1,f2,f3,f4,f5⟩:=hf e (by simp);obtain ⟨g0,g1,g2,g3,g4,g5⟩:=hf it (by simp);have hlt:e < s.heap.objs.size:=Qav he;have L:it < s.heap.objs.size:=by obtain ⟨_,z,_⟩:=g;exact Qav z
  refine EnL.next_item he g p.isList (x:=u) (by simpa using hu) O fun h' ho R hT hsz hk=>?_;refine ⟨_,rfl,wpAny_letOwnedTupleGo_enum (s:={ s with heap:=h',toks:=s.toks + 1 }) ho fun h2 he2 Y=>?_⟩;have G:Heap.SameBut e h' h2:=Y;have I1:Inv X pins σ (upd H s.heap.objs.size (.tup [.int i,x])) { s with heap:=s.heap.push { cls:=.type "tuple",data:=.seq #[.int i s.toks,u] },toks:=s.toks + 1 } :=
   I.laid (fun b o y=>Qae _ y) (Qai _) ⟨by show 2<=sizeLine;decide,[.int i s.toks,u],.cons ⟨_,rfl⟩ (.cons ru .nil),Qg2 _ _⟩
  have N:∀b∈[e,it],xY X pins (upd H s.heap.objs.size (.tup [.int i,x])) b:=fun b hb=>by
   have hlb:b≠s.heap.objs.size:=by
    rcases Qas.mp hb with rfl | hb
    ·exact Qbt hlt
    ·have:b=it:=by simpa using hb
     rw [this];exact Qbt L
   obtain ⟨a0,ar⟩:=hf b hb;exact ⟨by rw [Zp hlb];exact a0,ar⟩
  have I2:Inv X pins σ (upd H s.heap.objs.size (.tup [.int i,x])) { s with heap:=h2,toks:=s.toks + 1 }:=by
   refine J3 (s:={ s with heap:=s.heap.push { cls:=.type "tuple",data:=.seq #[.int i s.toks,u] },toks:=s.toks + 1 }) I1 N fun b o hb y=>?_;have J:b≠e:=fun z=>hb (by simp [z]);have hbi:b≠it:=fun z=>hb (by simp [z]);rcases Qfx y with ⟨rfl,rfl⟩ | y
   ·exact (G.2 _ J).trans hT
   ·exact (G.2 b J).trans (hk b o J hbi y)
  refine ⟨.ref s.heap.objs.size,_,I2,rfl,⟨_,I.hok.fresh (Qai _),rfl,fun ys y hy M=>?_⟩,⟨⟨u,?_⟩,R.at fun o y=>(G.2 it O.symm).trans y⟩,fun b hb=>(N b hb).1⟩
  ·rw [I.list_inj hy S,hx] at M
   cases M
   rfl
  ·have e1:((i + 1:Nat):Int)=(i:Int) + 1:=by lia
   show IsEnum h2 e it ((i + 1:Nat):Int) u;rw [e1];exact he2
 done:=by
  intro X hP hw hK hc i pins s σ H E I hf st hg;subst hP hw hK;obtain ⟨xs,S,hn,hx⟩:=hg;obtain ⟨its,Z,p,hz⟩:=I.list S;obtain ⟨⟨D,he⟩,g⟩:=st;obtain ⟨g0,g1,g2,g3,g4,g5⟩:=hf it (by simp);have hl:=Z.length;exact EnL.next_end (I.ok.hd hc) he g p.isList (by simp;lia) fun h' eb=>⟨rfl,I.turned (t':=s.toks) (fun b o hb e=>eb b o hb e) g0 g1 g3 g4 g5⟩
 self:=fun _ _ _ _ _ st h=>let ⟨⟨_,he⟩,_⟩:=st;Qfk he h
def iEnumL(K:PySem.W.Frag)(te:TE):TI:=fun σ H R=>te σ H fun x H1=>∃a xs,x=.ref a/\SqL K H1 a xs/\R (Zjg K a xs.length) H1
theorem Zdh {X:Cx}    {ps:Pos}   (hg:Gl X "enumerate") (hm:X.mg "enumerate" = none) (he:QE X e A) (hp:Y2 e=true:=by rfl):QI X (.Tuple C i ps) (.Call (.Name "enumerate" p) [e] [] E) (iEnumL X.K A):=by
 refine ⟨fun pins s σ H R I h=>?_⟩;have hs:starEach [e] X.env=[(false,eval e X.env)]:=by rw [Zz hp];rfl
 refine Call_ (Gn I hg hm qy (Qck ?_ hs rfl));rw [hs];show wpAny _ _ (spliced ((false,eval e X.env)::[])) _ _ s;refine Qci (thn (he.out pins s σ H _ I h) fun u g ⟨x,H1,q,N,J⟩=>?_);refine Qdn ?_;obtain ⟨a,xs,rfl,M,r⟩:=J;cases N;obtain ⟨O,S,pt,Y⟩:=q.list M;refine EnL.call_new pt.isList fun h' D G hsz hk=>?_;have L:Inv X pins σ H1 { g with heap:=h' }:=q.kept (t':=g.toks) hk;refine Qfk D ⟨g.heap.objs.size + 1,[g.heap.objs.size + 1,g.heap.objs.size],_,_,H1,rfl,L,wR a (g.heap.objs.size + 1) g.heap.objs.size xs.length (Nat.succ_ne_self _),⟨⟨_,D⟩,G⟩,fun b hb=>?_,r⟩;rcases Qas.mp hb with rfl | hb
 ·exact q.fpOk (Qeg _) (q.hok.fresh (Qeg _))
 ·have:b=g.heap.objs.size:=by simpa using hb
  subst this;exact q.fpOk (Qai _) (q.hok.fresh (Qai _))
theorem Zah{xs:List V}{j k:Nat}(g:Nat->St->Hp->Prop)(J:g 0 c H)(hl:∀i c H,i<=xs.length->g i c H->SqL K H a xs)
  (hs:∀i x c H p,xs[i]?=some x->H p=none->g i c H->Z { M with nx:=g (i + 1),ct:=g (i + 1),bk:=M.nx } ((c.set j (some (.int i))).set k (some x)) (upd H p (.tup [.int i,x]))) (hd:∀c H,g xs.length c H->M.nx c H) :
  ∃W:Nat->Nat->St->Hp->Prop,(∃m,W 0 m c H)/\∀i m c H,W i m c H ->
   ((Zjg K a xs.length).stop i H/\M.nx c H)\/((Zjg K a xs.length).go i H/\∃N:St->Hp->Prop,(∀q H',N q H'->∃G,G < m/\W (i + 1) G q H')/\∀x H',(Zjg K a xs.length).yld i H x H'->(Zis K 2 (je (JS j) (je (JS k) Zir))) x c H' fun D H2=>Z { M with nx:=N,ct:=N,bk:=M.nx } D H2):=by
 refine ⟨fun i m c H=>m=xs.length - i/\i<=xs.length/\g i c H,⟨xs.length,by simp,Qbp _,J⟩,?_⟩;rintro i m c H ⟨rfl,hi,p⟩;have E:=hl i c H hi p
 by_cases C:i < xs.length
 ·have hx:=Qab C
  refine .inr ⟨⟨xs,xs[i],E,rfl,hx⟩,g (i + 1),fun q H' I=>⟨xs.length - (i + 1),by lia,rfl,C,I⟩,fun v H' y=>?_⟩;obtain ⟨t,L,rfl,y⟩:=y;have e:=y xs _ E hx;subst e;exact ⟨t,_,rfl,SqT.of Zc,rfl,_,_,rfl,_,_,rfl,rfl,hs i _ c H t hx L p⟩
 ·have e:i=xs.length:=by lia
  exact .inl ⟨⟨xs,E,rfl,by lia⟩,by rw [e] at p;exact hd c H p⟩
end L2
namespace L2
open PySem PySem.Spec PyProof.Rows
section
variable {κ β:Type}[DecidableEq κ][DecidableEq β]
def Ws(ks:List κ):List Nat:=ks.map fun k=>(ZN ks).idxOf k
theorem qY(ks:List κ):(Ws ks).length=ks.length:=Qad ..
theorem qZ(ks:List κ)(i:Nat):(Ws ks)[i]?=(ks[i]?).map fun k=>(ZN ks).idxOf k:=Qah ..
theorem vg{l:List κ}{a b:κ}(ha:a∈l)(h:l.idxOf a=l.idxOf b)(hb:b∈l):a=b:=by
 have h1:=Qdu (Qbd ha);have h2:=Qdu (Qbd hb);rw [<-h1,<-h2];simp only [h]
theorem G1{ks:List κ}{j:Nat}{a b:κ}(ha:ks[i]?=some a)(hb:ks[j]?=some b):(Ws ks)[i]?=(Ws ks)[j]?↔a=b:=by
 rw [qZ,qZ,ha,hb]
 constructor
 ·intro h
  exact vg ((Yt ks a).mpr (Qao ha)) (Option.some.inj h) ((Yt ks b).mpr (Qao hb))
 ·intro h
  rw [h]
theorem ko(f:κ->β)(l:List κ)(k:κ)(h:∀a∈l,f a=f k->a=k):Y8 (l.map f) (f k)=(Y8 l k).map f:=by
 unfold Y8
 by_cases hk:k∈l
 ·rw [Qa4 hk,Qa4 (Qbw hk)]
 ·rw [Qax hk,Qax,Qbm]
  ·rfl
  ·intro z
   obtain ⟨a,ha,e⟩:=Qa2.mp z;exact hk (h a ha e ▸ ha)
theorem jw(f:κ->β)(ks:List κ)(h:∀a∈ks,∀b∈ks,f a=f b->a=b):ZN (ks.map f)=(ZN ks).map f:=by
 have q:∀(ks l:List κ),(∀a,a∈l\/a∈ks->∀b,b∈l\/b∈ks->f a=f b->a=b)->(ks.map f).foldl Y8 (l.map f)=(ks.foldl Y8 l).map f:=by
  intro ks
  induction ks with
  | nil=>exact fun l _=>rfl
  | cons k r g =>
   intro l hh;rw [Qa7,Qc5,Qc5,ko f l k fun a ha e=>hh a (.inl ha) k (.inr Qal) e];refine g _ fun a ha b hb=>hh a ?_ b ?_
   ·rcases ha with ha | ha
    ·rcases XY.mp ha with z | z
     ·exact .inl z
     ·exact .inr (z ▸ Qal)
    ·exact .inr (Qam _ ha)
   ·rcases hb with ha | ha
    ·rcases XY.mp ha with z | z
     ·exact .inl z
     ·exact .inr (z ▸ Qal)
    ·exact .inr (Qam _ ha)
 exact q ks [] fun a ha b hb=>h a (ha.resolve_left Qa6) b (hb.resolve_left Qa6)
theorem Zai(f:κ->β)(s:κ):∀l:List κ,(∀a∈l,f a=f s->a=s)->(l.map f).idxOf (f s)=l.idxOf s
 | [],_=>rfl
 | x::r,h=>by
  rw [Qa7,Qge,Qge,Zai f s r fun a ha=>h a (Qam _ ha)]
  by_cases e:x=s
  ·subst e
   rw [Qb0,Qb0]
  ·rw [Qcd.mpr e,Qcd.mpr fun z=>e (h x Qal z)]
theorem jx(f:κ->β)(ks:List κ)(h:∀a∈ks,∀b∈ks,f a=f b->a=b):Ws (ks.map f)=Ws ks:=by
 unfold Ws;rw [Qbj,jw f ks h];refine Qcn fun k hk=>?_;exact Zai f k _ fun a ha e=>h a ((Yt ks a).mp ha) k hk e
theorem Zaj(ks:List κ):∀a∈ks,∀b∈ks,(ZN ks).idxOf a=(ZN ks).idxOf b->a=b:=fun a ha b hb e=>vg ((Yt ks a).mpr ha) e ((Yt ks b).mpr hb)
theorem xw(ks:List κ):Ws (Ws ks)=Ws ks:=jx (fun k=>(ZN ks).idxOf k) ks (Zaj ks)
theorem Zak(ks:List κ):(ZN (Ws ks)).length=(ZN ks).length:=by
 unfold Ws;rw [jw _ ks (Zaj ks),Qad]
theorem J5:∀{l1 l2:List κ},l1.Nodup->(∀x∈l1,x∈l2)->l1.length<=l2.length
 | [],_,_,_=>Qbp _
 | a::r,l2,h1,hs=>by
  rw [Qb3] at h1;have ha:=hs a Qal;have:=J5 (l1:=r) (l2:=l2.erase a) h1.2 fun x hx=>(Qfz (show x≠a from fun z=>h1.1 (z ▸ hx))).mpr (hs x (Qam _ hx));rw [Qd2 ha] at this;have hp:=Qc9 ha;rw [Qbc];lia
theorem kq:∀{l1 l2:List κ},l1.Nodup->(∀x∈l1,x∈l2)->l2.length<=l1.length->l2.Nodup
 | [],l2,_,_,hl=>by
  rw [Qcf (Nat.le_zero.mp hl)];exact Qc2
 | a::r,l2,h1,hs,hl=>by
  rw [Qb3] at h1;have ha:=hs a Qal;have g:∀x∈r,x∈l2.erase a:=fun x hx=>(Qfz (show x≠a from fun z=>h1.1 (z ▸ hx))).mpr (hs x (Qam _ hx));have D:=Qd2 ha;have hp:=Qc9 ha;rw [Qbc] at hl;have E:=kq h1.2 g (by lia);have q:a∉l2.erase a:=fun z=>by
   have:=J5 (l1:=r) (l2:=(l2.erase a).erase a) h1.2 fun x hx=>(Qfz (show x≠a from fun z=>h1.1 (z ▸ hx))).mpr (g x hx);rw [Qd2 z] at this;have C:=Qc9 z;lia
  exact (List.perm_cons_erase ha).nodup_iff.mpr (Qb3.mpr ⟨q,E⟩)
theorem yl(f:κ->β)(ks:List κ)(h:(ZN ks).length<=(ZN (ks.map f)).length):∀a∈ks,∀b∈ks,f a=f b->a=b:=by
 have hn:((ZN ks).map f).Nodup:=kq (XM (ks.map f)) (fun x hx=>by
  obtain ⟨k,hk,e⟩:=Qa2.mp ((Yt _ x).mp hx);exact Qa2.mpr ⟨k,(Yt ks k).mpr hk,e⟩) (by rw [Qad];exact h)
 intro a ha b hb e;have g:=Qbd ((Yt ks a).mpr ha);have q:=Qbd ((Yt ks b).mpr hb);have D:((ZN ks).map f)[(ZN ks).idxOf a]?=some (f a):=by
  rw [Qah,Qab g,Qdu g]
  rfl
 have C:((ZN ks).map f)[(ZN ks).idxOf b]?=some (f b):=by
  rw [Qah,Qab q,Qdu q]
  rfl
 have:=(List.getElem?_inj (i:=(ZN ks).idxOf a) (j:=(ZN ks).idxOf b) (by rw [Qad];exact g) hn).mp (by rw [D,C,e]);exact vg ((Yt ks a).mpr ha) this ((Yt ks b).mpr hb)
theorem Zg8{ks:List κ}{m:Nat}(h:m∈Ws ks):m < (ZN ks).length:=by
 obtain ⟨k,hk,rfl⟩:=Qa2.mp h;exact Qbd ((Yt ks k).mpr hk)
theorem Zdi{ks:List κ}{m:Nat}(h:m∈Ws ks)(hm:∀n∈Ws ks,n<=m):m + 1=(ZN ks).length:=by
 have h1:=Zg8 h;have hl:(ZN ks).length - 1 < (ZN ks).length:=by lia
 have hk:(ZN ks)[(ZN ks).length - 1]∈ks:=(Yt ks _).mp (Qb1 hl);have hi:(ZN ks).idxOf (ZN ks)[(ZN ks).length - 1]=(ZN ks).length - 1:=List.Nodup.idxOf_getElem (XM ks) _ hl;have:=hm _ (Qa2.mpr ⟨_,hk,rfl⟩);rw [hi] at this;lia
end
theorem wU{b1 b2:Bool}{xs ys:List V}{is:List Nat}{σ:St}{Q:VK}(g:Nat->List V->Hp->Prop)(G:g 0 [] H)(hl:∀i zs H,g i zs H->zs.length<=sizeLine)(M:∀i zs H,g i zs H->SqB K b1 H a xs/\SqB K b2 H f ys)
  (hs:∀i x y p zs H (R:List V->Hp->Prop),(∀zs H,g (i + 1) zs H->R zs H)->xs[i]?=some x->ys[i]?=some y->g i zs H->H p=none->J (kh is σ (some x) (some y)) (upd H p (.tup [x,y])) fun b H2=>if b=true then A (kh is σ (some x) (some y)) H2 fun y I=>R (zs++[y]) I else R zs H2)
  (hd:∀zs H,g (xs.zip ys).length zs H->∀p,H p=none->Q (.ref p) (upd H p (.lst zs))) :
  Zfb K is J A σ Q (Itz K b1 b2 a f) H:=by
 refine ⟨fun i m zs H=>m=(xs.zip ys).length - i/\i<=(xs.zip ys).length/\g i zs H,⟨(xs.zip ys).length,by simp,Qbp _,G⟩,?_⟩;rintro i m zs H ⟨rfl,hi,p⟩;obtain ⟨q,C⟩:=M i zs H p;have N:(xs.zip ys).length=min xs.length ys.length:=Qd0
 by_cases D:i < (xs.zip ys).length
 ·have l1:i < xs.length:=by lia
  have l2:i < ys.length:=by lia
  refine .inr ⟨⟨xs,ys,xs[i],ys[i],q,C,Qab l1,Qab l2⟩,hl i zs H p,fun x H' y=>?_⟩;obtain ⟨c,hc,rfl,e⟩:=y;rw [e xs ys _ _ q C (Qab l1) (Qab l2)];exact ⟨c,_,_,rfl,SqT.of Zc,hs i _ _ c zs H (fun zs H=>∃E,E < (xs.zip ys).length - i/\(fun i m zs H=>m=(xs.zip ys).length - i/\i<=(xs.zip ys).length/\g i zs H) (i + 1) E zs H) (fun zs H L=>⟨(xs.zip ys).length - (i + 1),by lia,rfl,D,L⟩) (Qab l1) (Qab l2) p hc⟩
 ·have e:i=(xs.zip ys).length:=by lia
  subst e;exact .inl ⟨⟨xs,ys,q,C,by lia⟩,hl _ zs H p,hd zs H p⟩
theorem G4{k:Nat}{A:Around}(r:JD k A):A.units + 4 < cLine:=by have:=r.un;lia
section
variable {X:Cx}
end
def EqB(H:Hp):Nat->V->V->Bool->Prop
 | 0,x,y,b=>XX x=true/\XX y=true/\b=eqV x y
 | n + 1,x,y,b=>(XX x=true/\XX y=true/\b=eqV x y)\/∃(a c:Addr) (xs ys:List V) (e:Nat->Bool),x=.ref a/\y=.ref c/\H a=some (.tup xs)/\H c=some (.tup ys)/\b=((List.range (min xs.length ys.length)).all e && xs.length == ys.length)/\∀(j:Nat) (u v:V),xs[j]?=some u->ys[j]?=some v->EqB H n u v (e j)
theorem kr{H:Hp}:∀(n:Nat) (x:V) (b:Bool),EqB H n x x b->b=true
 | 0,x,b,h=>by
  obtain ⟨f,_,rfl⟩:=h;exact Gx f
 | n + 1,x,b,h=>by
  rcases h with ⟨f,_,rfl⟩ | ⟨a,c,xs,ys,e,rfl,q,ha,hc,rfl,he⟩
  ·exact Gx f
  ·cases q
   rw [ha] at hc;cases hc;rw [Nat.min_self,Qb0,Qgw,Qdg];intro j g;have g:=Qb9.mp g;exact kr n _ _ (he j _ _ (Qab g) (Qab g))
theorem zK{xs:List V}(r:Vals xs U){j:Nat}(h1:j < U.toArray.size):∃x,xs[j]?=some x/\RelV x U.toArray[j]:=by
 have q:j < xs.length:=by rw [r.length];simpa using h1
 obtain ⟨u,e1,C⟩:=r.get (Qab q);have g:U.toArray[j]=u:=by
  have:U[j]?=some U[j]:=Qab (by simpa using h1);rw [e1] at this;simpa using (Option.some.inj this).symm
 rw [g];exact ⟨_,Qab q,C⟩
theorem Zal{X:Cx}{pins:List (Addr × Obj)}{σ:St}{H:Hp}{s:Shared}(I:Inv X pins σ H s):∀(n:Nat) (A:Around) (x y:V) (b:Bool) (v u:Value),RelV x v->RelV y u->EqB H n x y b->A.units + n < cLine->SeqAt.EqAt A s v u b
 | 0,A,x,y,b,v,u,C,D,h,hu=>by
  obtain ⟨f,E,rfl⟩:=h;exact ug (A:=A) (s:=s) C D f E
 | n + 1,A,x,y,b,v,u,C,D,h,hu=>by
  rcases h with ⟨f,E,rfl⟩ | ⟨a,c,xs,ys,e,rfl,rfl,ha,hc,rfl,he⟩
  ·exact ug (A:=A) (s:=s) C D f E
  ·cases C
   cases D
   by_cases g:a=c
   ·subst g
    have z:=kr (H:=H) (n + 1) (.ref a) _ (.inr ⟨a,a,xs,ys,e,rfl,rfl,ha,hc,rfl,he⟩);rw [z];exact Qg3 _
   obtain ⟨R,r,p,_⟩:=I.tuple (SqT.of ha);obtain ⟨J,G,p2,_⟩:=I.tuple (SqT.of hc);refine SeqAt.EqAt.of_refs g ?_;have q:=SeqAt.RcAt.tuples (A:=A) (e:=e) p p2 (by lia) fun j h1 h2=>?_
   ·rw [Qa8,Qa8,<-r.length,<-G.length] at q
    exact q
   ·obtain ⟨w1,L,O⟩:=zK r h1
    obtain ⟨w2,M,N⟩:=zK G h2;exact Zal I n A.in1 _ _ _ _ _ O N (he j _ _ L M) (by show A.units + 1 + n < _;lia)
section
variable {X:Cx}
def rNeB:R2:=fun x y H Q=>∃(a c:Addr) (xs ys:List V) (e:Nat->Bool),x=.ref a/\y=.ref c/\H a=some (.tup xs)/\H c=some (.tup ys)/\(∀(j:Nat) (u v:V),xs[j]?=some u->ys[j]?=some v->EqB H 3 u v (e j))/\Q (.bl (!((List.range (min xs.length ys.length)).all e && xs.length == ys.length))) H
theorem Zam(hu:X.A.units + 4 < cLine):OpR X (compareOp .NotEq) rNeB:=by
 intro pins s σ H x y v u Q I L M h;obtain ⟨a,c,xs,ys,e,rfl,rfl,ha,hc,he,q⟩:=h;cases L;cases M;obtain ⟨N,r,p,_⟩:=I.tuple (SqT.of ha);obtain ⟨C,g,p2,_⟩:=I.tuple (SqT.of hc);refine SeqAt.RcNeAt.tuples (e:=e) p p2 (by lia) (fun j h1 h2=>?_) X.prog X.w _ _ (Yl I q ?_)
 ·obtain ⟨w1,D,J⟩:=zK r h1
  obtain ⟨w2,E,G⟩:=zK g h2;exact Zal I 3 _ _ _ _ _ _ J G (he j _ _ D E) (by show X.A.units + 1 + 3 < _;lia)
 ·rw [Qa8,Qa8,<-r.length,<-g.length]
theorem Zdj[DecidableEq g]{kn:KN g}{kvs:List (g × V)}{xs:List (g × Addr × Value)}(D:Paired (fun (p:g × V) (q:g × Addr × Value)=>p.1=q.1/\kn.at_ H q.1 q.2.1/\RelV p.2 q.2.2) kvs xs)(k:g):(atKey xs k).isSome=(YX kvs k).isSome:=by
 have pa:=Jm (fun p q h=>h.1) D k;cases hv:YX kvs k with
 | none=>rw [pa.2 hv];rfl
 | some x =>
  obtain ⟨q,C,_⟩:=pa.1 x hv;rw [C]
  rfl
def rNInN:R2:=fun x y H Q=>∃(Kk:Type) (_:DecidableEq Kk) (kn:KN Kk) (d a:Addr) (k:Kk) (kvs:List (Kk × V)),x=.ref a/\y=.ref d/\GK kn H d kvs/\kn.at_ H k a/\Q (.bl (!(YX kvs k).isSome)) H
theorem Zan(hu:X.A.units + 2 < cLine):OpR X (compareOp .NotIn) rNInN:=by
 intro pins s σ H x y v u Q I g D h;obtain ⟨Kk,_,kn,d,a,k,kvs,rfl,rfl,n,hk,q⟩:=h;cases g;cases D;obtain ⟨xs,dd,C,E,hm⟩:=n.dict I;refine wpAny_notIn_heap (kn.room _ _ _ hu) (kn.ok _ _ _ _ _ _ I.hok hk) hm dd ?_;rw [Zdj C];exact ⟨.bl _,H,I.tok _,rfl,q⟩
def tNGet(td ty:TE):TE:=fun σ H Q=>td σ H fun x H1=>ty σ H1 fun y H2=>∃(Kk:Type) (_:DecidableEq Kk) (kn:KN Kk) (d a:Addr) (k:Kk) (kvs:List (Kk × V)) (v:V),x=.ref d/\y=.ref a/\GK kn H2 d kvs/\kn.at_ H2 k a/\YX kvs k=some v/\Q v H2
theorem Zg9{i:Expr}{ty:TE}(hu:X.A.units + 2 < cLine)(ho:QE X o I)(hi:QE X i ty)(hs:Zjw i):QE X (.Subscript o i E) (tNGet I ty):=⟨by
 intro pins s σ H Q g h;refine uQ PySem.F.slot_dict_getitem.lookup hs (thn (ho.out pins s σ H _ g h) fun u N ⟨x,H1,R,M,J⟩=>thn (hi.out pins N σ H1 _ R J) fun G s2 ⟨y,H2,C,Z,Kk,_,kn,d,a,k,kvs,v,ex,O,n,hk,hv,L⟩=>?_);subst ex;subst O;obtain rfl:u=Value.ref d:=M;obtain rfl:G=Value.ref a:=Z;obtain ⟨xs,dd,S,mu,hm⟩:=n.dict C;obtain ⟨q,Y,p',D,e⟩:=(Jm (fun p q h=>h.1) S k).1 v hv;refine ⟨dd.typeIs,wpAny_getItem_heap (kn.room _ _ _ hu) (kn.ok _ _ _ _ _ _ C.hok hk) dd Y ⟨v,H2,C.tok _,e ▸ D.2.2,L⟩⟩⟩
def sNPut(td ty tv:TE):TS:=fun D σ H=>tv σ H fun v H1=>td σ H1 fun x H2=>ty σ H2 fun y g=>∃(Kk:Type) (_:DecidableEq Kk) (kn:KN Kk) (d a:Addr) (k:Kk) (kvs:List (Kk × V)),x=.ref d/\y=.ref a/\GK kn g d kvs/\kn.at_ g k a/\YX kvs k=none/\kvs.length + 1 < sizeLine /\
 ∀H',GK kn H' d (kvs++[(k,v)])->(∀b o,g b=some o->b≠d->H' b=some o)->(∃o,H'=upd g d o)->D.nx σ H'
theorem Zha{i:Expr}{ty tv:TE}{pos':Pos}(hu:X.A.units + 2 < cLine)(ho:QE X o I)(hi:QE X i ty)(hv:QE X e tv)(hs:swapsWith e (some (.Subscript o i pos')) E.line X.env=pure false):QS X (.Assign [.Subscript o i pos'] e E) (sNPut I ty tv):=⟨by
 intro pins s σ H D g h;refine wpAny_Assign_Subscript (thn (hv.out pins s σ H _ g h) fun r s1 ⟨v,H1,I1,N,R⟩=>thn (ho.out pins s1 σ H1 _ I1 R) fun u M ⟨x,H2,Z,rx,S⟩=>thn (hi.out pins M σ H2 _ Z S) fun O s3 ⟨y,H3,C,ry,Kk,_,kn,d,a,k,kvs,ex,ey,n,hk,hv,hz,q3⟩=>?_) hs;subst ex;subst ey;obtain rfl:u=Value.ref d:=rx;obtain rfl:O=Value.ref a:=ry;obtain ⟨xs,dd,G,Y,hm⟩:=n.dict C;have J:atKey xs k=none:=(Jm (fun p q h=>h.1) G k).2 hv;refine wpAny_setItem_heap (kn.room _ _ _ hu) (kn.ok _ _ _ _ _ _ C.hok hk) dd (fun h' dd' sb=>?_) (by rw [<-Qe3 G];lia);rw [storedH_new J] at dd';obtain ⟨H',n',k',o',L⟩:=jt C n hk N hz G Y hm hv dd' sb;exact ⟨σ,H',L,q3 H' n' k' o'⟩⟩
end
theorem Yu:∀(names:List (Str × NameKind)) (n:Nat) (acc:List (Str × Addr)),cellsFrom n names acc=cellsFrom n names []++acc
 | [],_,_=>rfl
 | (x,k)::r,n,acc=>by
  unfold cellsFrom
  split
  ·rw [Yu r (n + 1) ((x,n)::acc),Yu r (n + 1) [(x,n)],Qbu]
   rfl
  ·exact Yu r n acc
theorem GY:∀(names:List (Str × NameKind)) (n:Nat) {x:Str} {c:Addr},(x,c)∈cellsFrom n names []->(x,NameKind.cell)∈names
 | [],_,_,_,h=>nomatch h
 | (y,k)::r,n,x,c,h=>by
  unfold cellsFrom at h
  split at h
  ·rename_i hk
   rw [Yu] at h;rcases Qbk.mp h with h | h
   ·exact Qam _ (GY r (n + 1) h)
   ·rcases Qas.mp h with e | e
    ·cases e
     rw [beq_iff_eq.mp hk];exact Qal
    ·cases e
  ·exact Qam _ (GY r n h)
theorem Wx{α:Type}{x:Str}:∀{l r:List (Str × α)},(l++r).lookup x=match l.lookup x with | some c=>some c | none=>r.lookup x
 | [],r=>rfl
 | (y,c)::l,r=>by
  rw [Qey,Qbo,Qbo];cases x == y with
  | true=>rfl
  | false=>exact Wx
section
variable {M:Model}{A:Around}{E:Value->Shared->Prop}{s:Shared}
theorem Zhb{scope:Scope}{globals:Addr}{g:List (Str × Addr)}{binds:List (Str × Value)}{qual:Str}{func:Option Addr}{code:Value}{builtins:Addr}{Q:Env->Shared->Prop}
  (hk:scope.kind=.function) (hl:∀x∈binds,scope.names.lookup x.1=some .local)
  (O:∀h' tk,h'.Ns s.heap.objs.size (fun x=>binds.reverse.lookup x)->(∀b o,s.heap.get? b=some o->h'.get? b=some o)->(∀n c,(n,c)∈cellsFrom (s.heap.objs.size + 1) scope.names []->h'.IsCell c none/\s.heap.objs.size < c) ->
   ((cellsFrom (s.heap.objs.size + 1) scope.names []).Pairwise fun x y=>x.2≠y.2)->Q (newEnv scope s.heap.objs.size globals (cellsFrom (s.heap.objs.size + 1) scope.names g) qual func code none builtins) { s with heap:=h',toks:=tk }) :
  wpAny M A (newFunctionEnv scope globals g binds qual func code none builtins) Q E s:=by
 simp only [newFunctionEnv,Option.isSome_none,Qcs,Qe7];refine Qaa (wpAny_alloc ?_);refine Qaa (wpAny_layCells _ (fun name kind cells=>by cases hkc:kind == NameKind.cell <;> simp [hkc]) _ _ _ _ ?_);have ok:=cellsFrom_ok scope.names (s.heap.push { cls:=.type "frame",data:=.dict #[] }) (s.heap.objs.size + 1) [] ⟨fun _ _ hm=>(nomatch hm),List.Pairwise.nil⟩ (by rw [Qca];exact Qai _);rw [Qca] at ok;rw [show ({ s with heap:=s.heap.push { cls:=.type "frame",data:=.dict #[] } }:Shared).heap.objs.size=s.heap.objs.size + 1 from Qca ..];refine Qaa (wpAny_forIn_list _
  (fun rest _ s'=>∃q h',binds=q++rest/\s'={ s with heap:=h',toks:=s.toks + q.length }/\h'.Ns s.heap.objs.size (fun x=>q.reverse.lookup x) /\
   Heap.SameBut s.heap.objs.size (pushCells (s.heap.push { cls:=.type "frame",data:=.dict #[] }) scope.names) h') _ ?_ ?_ binds _
  ⟨[],_,rfl,rfl,(Heap.Ns.new s.heap (.type "frame")).keeps (pushCells_keeps _ _),Heap.SameBut.refl ..⟩)
 ·rintro ⟨name,v⟩ rest _ s' ⟨q,h',hb,rfl,D,C⟩
  have J:Env.kindOf { scope,locals:=s.heap.objs.size,globals,cells:=cellsFrom (s.heap.objs.size + 1) scope.names g,qual,func,code,frame:=some s.heap.objs.size,builtins } name=some .local:=hl (name,v) (by rw [hb];simp);have hp:((scope.kind == .class) || ((scope.kind == .module) && (s.heap.objs.size != globals)))=false:=by rw [hk];rfl
  simp only [storeName_local J hp];refine Qaa (wpAny_nsSet D fun L G I=>Qan ⟨q++[(name,v)],L,by simp [hb],?_,?_,C.trans I⟩)
  ·simp [Nat.add_assoc]
  ·rw [lookup_reverse_snoc];exact G
 ·rintro _ s' ⟨q,h',hb,rfl,D,C⟩
  rw [Qbl] at hb;subst hb;refine Qan (O h' _ D (fun b o e=>?_) (fun n c hm=>?_) ok.apart)
  ·exact C.extBut b o (Qbt (Qav e)) (pushCells_keeps _ _ b o (Qae _ e))
  ·obtain ⟨R,N⟩:=ok.empty n c hm
   exact ⟨R.sameBut C (Qdr N),N⟩
end
structure Zhc(scope:Scope)(ps ls ys:List Str):Prop where
 kind:scope.kind=.function
 co:scope.isCoroutine=false
 gen:scope.isGenerator=false
 par:∀p∈ps,scope.names.lookup p=some .local
 free:∀y∈ys,scope.names.lookup y=some .free
 nd:(ps++(ls++ys)).Nodup
 ndn:(scope.names.map (·.1)).Nodup
def cxN(P:Program)(w:World)(K:PySem.W.Frag)(mg:Str->Option Value)(base:Heap)(N:List Str)(qual:Str)(scope:Scope)(f:Addr)(g:Value)(cl:List (Str × Addr))(A:Around)(outer:List Env)(s:Shared)(H:Hp):Cx where
 prog:=P
 w:=w
 K:=K
 mg:=mg
 base:=base
 A:=A.deeper (PySem.W.envX qual scope s.heap.objs.size f g (cellsFrom (s.heap.objs.size + 1) scope.names cl))
 N:=N
 s₀:=s
 H₀:=H
 env:=PySem.W.envX qual scope s.heap.objs.size f g (cellsFrom (s.heap.objs.size + 1) scope.names cl)
 outer:=outer
 stack:=PySem.W.envX qual scope s.heap.objs.size f g (cellsFrom (s.heap.objs.size + 1) scope.names cl)::outer
 ex:=[]
 calm:=true
 fn:=fun x=>scope.names.lookup x == some .cell
 pn:=[]
 xe:=fun _ _=>False
def Zfg(n m:Nat)(ts:TS)(cs:List Addr)(g:List (Option V)):Sp:=fun vs H Q _=>vs.length=n/\ts { nx:=fun _ H'=>(∀c∈cs,H' c=none)->Q .non (Wv cs H H'),rt:=fun v H'=>(∀c∈cs,H' c=none)->Q v (Wv cs H H') } (vs.map some++(List.replicate m none++g)) (hide cs H)
section
variable {P:Program}{w:World}{K:PySem.W.Frag}{mg:Str->Option Value}{base:Heap}
theorem jy{k:Nat}{name qual:Str}{params:Arguments}{body:List Stmt}{scope:Scope}{cl:List (Str × Addr)}{doc pm ctv:Value}{oc:Obj}{ps ls ys:List Str}{cv:List (Option V)}
  (S:Zhc scope ps ls ys) (hf:H f=some (XI (PySem.W.fnMade name qual params body scope cl doc pm T ctv))) (hc:H T=some (XI oc)) (hoc:zG oc qual)
  (hcl:∀x c,cl.lookup x=some c->c∈L) (hcs:∀c∈L,∃o v,H c=some (XI o)/\o.data=.cell v)
  (inj:∀x y c,cl.lookup x=some c->cl.lookup y=some c->x=y) (has:∀x,scope.names.lookup x=some .free->∃c,cl.lookup x=some c)
  (hcv:cv.length=ys.length) (hval:∀(i:Nat) (y:Str) (v:V),ys[i]?=some y->cv[i]?=some (some v)->∃c o u,cl.lookup y=some c/\H c=some (XI o)/\o.data=.cell (some u)/\RelV v u)
  (hb:∀us:List Value,us.length=ps.length->bindArgs (PySem.W.fnX name qual params body scope cl .none .none doc pm none (.ref T) ctv) ⟨us,[]⟩=pure (ps.zip us))
  (hbody:∀(A:Around) (outer:List Env) (s:Shared) (H1:Hp),JD k (A.deeper (PySem.W.envX qual scope s.heap.objs.size f (.ref T) (cellsFrom (s.heap.objs.size + 1) scope.names cl)))->PSs (cxN P w K mg base (ps++(ls++ys)) qual scope f (.ref T) cl A outer s H1) body Z) :
  Xa P w K mg base (k + 1) f H (Zfg ps.length ls.length Z L cv):=by
 refine ⟨⟨_,_,hf,rfl⟩,?_⟩;intro A outer s H1 us vs Q E fz hr D r ht;obtain ⟨hl,ht⟩:=ht;have gf:s.heap.get? f=some (PySem.W.fnMade name qual params body scope cl doc pm T ctv):=(D.hok f _ (fz _ _ _ hf)).1;have M:∀c∈L,∃o v,H1 c=some (XI o)/\o.data=.cell v/\s.heap.get? c=some o:=fun c m=>by
  obtain ⟨o,v,e,d⟩:=hcs c m;exact ⟨o,v,fz _ _ _ e,d,(D.hok c _ (fz _ _ _ e)).1⟩
 have Y:∀c∈L,∃o,H1 c=some (XI o):=fun c m=>let ⟨o,_,e,_⟩:=M c m;⟨o,e⟩;obtain ⟨vs0,t0,hd0,hv0⟩:=hoc;have lim:s.heap.NoLimit:=D.mod.nolimit.keeps fun b o e=>(D.bs b o e).1;have lus:us.length=ps.length:=by rw [<-r.length];exact hl
 refine codeAny_call_function hr.depth gf rfl S.co S.gen rfl ⟨T,oc,vs0,t0,rfl,(D.hok T _ (fz _ _ _ hc)).1,hd0,hv0⟩ ?_;rw [hb us lus];refine Qan (Zhb S.kind (fun x hx=>S.par _ (Qe5 hx).1) fun h₁ tk hns R N hap=>⟨lim.keeps R,codeAny_func ?_⟩);have ndp:ps.Nodup:=(Qd1.mp S.nd).1;have look:∀x c,(cellsFrom (s.heap.objs.size + 1) scope.names cl).lookup x=some c->((x,c)∈cellsFrom (s.heap.objs.size + 1) scope.names []/\(cellsFrom (s.heap.objs.size + 1) scope.names []).lookup x=some c)\/cl.lookup x=some c:=fun x c e=>by
  rw [Yu,Wx] at e;cases q:(cellsFrom (s.heap.objs.size + 1) scope.names []).lookup x with
  | none=>rw [q] at e;exact .inr e
  | some d=>rw [q] at e;cases e;exact .inl ⟨Qb6 q,rfl⟩
 have C:∀x,scope.names.lookup x=some .free->(cellsFrom (s.heap.objs.size + 1) scope.names cl).lookup x=cl.lookup x:=fun x hx=>by
  rw [Yu,Wx];cases q:(cellsFrom (s.heap.objs.size + 1) scope.names []).lookup x with
  | none=>rfl
  | some d =>
   have m1:=GY scope.names _ (Qb6 q);have m2:=Qb6 hx;have:∀{l:List (Str × NameKind)},(l.map (·.1)).Nodup->(x,NameKind.cell)∈l->(x,NameKind.free)∈l->False:=fun {l} nd a b=>by
    induction l with
    | nil=>cases a
    | cons p l ih =>
     rw [Qa7,Qb3] at nd;rcases Qas.mp a with a | a <;> rcases Qas.mp b with b | b
     ·rw [<-a] at b;cases b
     ·exact nd.1 (by rw [<-a];exact Qbw (f:=(·.1)) b)
     ·exact nd.1 (by rw [<-b];exact Qbw (f:=(·.1)) a)
     ·exact ih nd.2 a b
   exact (this S.ndn m1 m2).elim
 have oldC:∀x c,cl.lookup x=some c->c < s.heap.objs.size:=fun x c e=>by
  obtain ⟨o,v,_,_,g⟩:=M c (hcl x c e);exact Qav g
 have I:Inv (cxN P w K mg base (ps++(ls++ys)) qual scope f (.ref T) cl A outer s (hide L H1)) [] (vs.map some++(List.replicate ls.length none++cv)) (hide L H1) { s with heap:=h₁,toks:=tk }:=by
  have noA:∀b:Addr,b∉([]:List Addr):=fun b z=>nomatch z;refine ⟨⟨D.mod,S.kind,rfl,rfl,Qai _,fun x y c h1 h2=>?_,fun y O=>?_,fun y c O h=>?_,fun _=>hr.hd,Qft D.frames,.inr ⟨rfl,rfl⟩,fun b z=>absurd z (noA b),fun b o e=>⟨(D.bs b o e).1,?_⟩,D.bsz,fun b _ _=>noA b,fun b z=>absurd z (noA b),D.funs,fun b hb=>?_⟩,
   rfl,D.bare,Un.kept R,⟨_,hns,fun i y v h1 h2 h3=>?_⟩,fun y c h=>?_,?_,fun y c h=>?_,fun p hp=>absurd (show p∈([]:List (Addr × Obj)) from hp) (by simp),(jq D.hok Y).kept R,?_⟩
  ·rcases look x c h1 with ⟨m1,_⟩ | l1 <;> rcases look y c h2 with ⟨m2,_⟩ | l2
   ·exact name_of_addr hap m1 m2
   ·exact absurd (oldC y c l2) (Qf5.mpr (Qa5 (N x c m1).2))
   ·exact absurd (oldC x c l1) (Qf5.mpr (Qa5 (N y c m2).2))
   ·exact inj x y c l1 l2
  ·have O:scope.names.lookup y=some .cell\/scope.names.lookup y=some .free:=O
   rcases O with O | O
   ·obtain ⟨c,e⟩:=qT (n:=s.heap.objs.size + 1) O
    exact ⟨c,by show (cellsFrom (s.heap.objs.size + 1) scope.names cl).lookup y=_;rw [Yu,Wx,e]⟩
   ·obtain ⟨c,e⟩:=has y O
    exact ⟨c,by show (cellsFrom (s.heap.objs.size + 1) scope.names cl).lookup y=_;rw [C y O,e]⟩
  ·have O:scope.names.lookup y=some .cell:=eq_of_beq (show (scope.names.lookup y == some .cell)=true from O)
   obtain ⟨d,e⟩:=qT (n:=s.heap.objs.size + 1) O;have h':(cellsFrom (s.heap.objs.size + 1) scope.names cl).lookup y=some c:=h;rw [Yu,Wx,e] at h';cases h';exact Qa5 (N y _ (Qb6 e)).2
  ·by_cases m:b∈L
   ·exact YA m
   ·exact (ZP m).trans (D.bs b o e).2
  ·by_cases m:b∈L
   ·exact YA m
   ·exact (ZP m).trans (D.frf b hb)
  ·by_cases hi:i < vs.length
   ·rw [Qaw (by simpa using hi),Qah] at h2
    have ha:vs[i]?=some v:=by
     cases e:vs[i]? with
     | none=>rw [e] at h2;cases h2
     | some a=>rw [e] at h2;cases h2;rfl
    obtain ⟨u,hu,rv⟩:=r.get ha;have G:(ps++(ls++ys))[i]?=some y:=h1;rw [Qaw (by lia)] at G;exact ⟨u,rv,.inl ⟨S.par y (Qao G),zF ndp G hu lus.symm⟩⟩
   ·rw [Qau (by simpa using hi),Qad] at h2
    have G:(ps++(ls++ys))[i]?=some y:=h1;rw [Qau (by lia),<-hl] at G
    by_cases hj:i - vs.length < ls.length
    ·rw [Qaw (by rw [Qbx];exact hj),List.getElem?_replicate] at h2
     split at h2 <;> cases h2
    ·rw [Qau (by rw [Qbx];lia),Qbx] at h2
     rw [Qau (by lia)] at G;obtain ⟨c,o,u,e1,e2,e3,rv⟩:=hval _ y v G h2;have hfy:=S.free y (Qao G);exact ⟨u,rv,.inr ⟨.inr hfy,c,(C y hfy).trans e1,o,R _ _ (D.hok c _ (fz _ _ _ e2)).1,e3⟩⟩
  ·rcases look y c h with ⟨m1,_⟩ | l1
   ·exact ⟨none,(N y c m1).1⟩
   ·obtain ⟨o,v,_,d,g⟩:=M c (hcl y c l1)
    exact ⟨v,o,R _ _ g,d⟩
  ·show hide L H1 s.heap.objs.size=none
   by_cases m:s.heap.objs.size∈L
   ·exact YA m
   ·rw [ZP m];exact D.hok.fresh (Qai _)
  ·rcases look y c h with ⟨m1,_⟩ | l1
   ·by_cases m:c∈L
    ·exact YA m
    ·rw [ZP m];exact D.hok.fresh (Qa5 (N y c m1).2)
   ·exact YA (hcl y c l1)
  ·show (vs.map some++(List.replicate ls.length none++cv)).length=(ps++(ls++ys)).length
   rw [Qaf,Qaf,Qaf,Qaf,Qad,Qbx,hl,hcv]
 refine Qdm (hbody A outer s (hide L H1) (hr.deeper _) [] _ _ _ _ I ht) (fun fl s' hs=>?_) fun _ _ z=>z.elim;have nfr:∀c∈L,c∉frs outer:=fun c m z=>by
  obtain ⟨o,e⟩:=Y c m;rw [D.frf c z] at e;cases e
 have hh:∀d,H1 d=none->hide L H1 d=none:=fun d n=>by
  by_cases m:d∈L
  ·exact YA m
  ·rw [ZP m];exact n
 have nm:∀d o,H1 d=some o->(∀ob,o≠XI ob)->d∉L:=fun d o e ne m=>by
  obtain ⟨ob,z⟩:=Y d m;rw [e] at z;exact ne ob (Option.some.inj z)
 have fin:∀{σ':St} {H':Hp} {v:V} {u:Value},Inv (cxN P w K mg base (ps++(ls++ys)) qual scope f (.ref T) cl A outer s (hide L H1)) [] σ' H' s'->RelV v u->((∀c∈L,H' c=none)->Q v (Wv L H1 H'))->CE outer P w H1 s Q u s':=fun {σ' H' v u} J rv q=>by
  have b:Un (frs outer) [] (hide L H1) H' s.heap s'.heap:=J.base;have Hn:∀c∈L,H' c=none:=fun c m=>by
   obtain ⟨o,v,e,d,g⟩:=M c m;exact b.free c o g (YA m) (fun z=>nomatch z)
  refine ⟨v,Wv L H1 H',J.os,J.bare,⟨fun d o e n hb hx=>b.keep d o e (hh d n) hb hx,fun d o e n hb hx=>b.slot d o e (hh d n) hb hx,fun d o e n hx=>?_,b.there,fun d xs e=>?_,fun d o u e=>?_,fun d pz e=>?_⟩,yg J.hok Hn fun c m=>?_,rv,q Hn⟩
  ·by_cases m:d∈L
   ·rw [XJ m];exact n
   ·rw [Yc m];exact b.free d o e (hh d n) hx
  ·have m:=nm d _ e (fun ob z=>nomatch z)
   rw [Yc m];exact b.tups d xs (by rw [ZP m];exact e)
  ·by_cases m:d∈L
   ·rw [XJ m];exact e
   ·rw [Yc m];exact b.frzs d o u (by rw [ZP m];exact e)
  ·have m:=nm d _ e (fun ob z=>nomatch z)
   rw [Yc m];exact b.tbls d pz (by rw [ZP m];exact e)
  ·obtain ⟨o,v,e,d,g⟩:=M c m
   exact ⟨o,e,b.keep c o g (YA m) (nfr c m) (fun z=>nomatch z)⟩
 cases fl with
 | ret u =>
  obtain ⟨v,σ',H',J,rv,q⟩:=hs;exact fin J rv q
 | next =>
  obtain ⟨σ',H',J,q⟩:=hs;exact fin (v:=V.non) (u:=Value.none) J rfl q
 | brk =>
  obtain ⟨_,_,_,q⟩:=hs;exact False.elim q
 | cont =>
  obtain ⟨_,_,_,q⟩:=hs;exact False.elim q
end
def tDef(P:Addr)(lpos:Pos)(qual:Str)(C:Addr->Value->Value->Obj)(i:Nat):TS:=fun D σ H=>Xb H P lpos qual /\
 ∀(f E:Addr) (oc:Obj) (q g:Value) (H2:Hp),H f=none->H2 f=some (XI (C E q g))->H2 E=some (XI oc)->zG oc qual->Xb H2 P lpos qual->(∀b o,H b=some o->b≠P->H2 b=some o)->D.nx (σ.set i (some (.ref f))) H2
section
variable {X:Cx}{params:Arguments}{body:List Stmt}{scope:Scope}{lpos:Pos}{c P:Addr}{name qual:Str}
abbrev zL (X:Cx) (name qual:Str) (params:Arguments) (body:List Stmt) (scope:Scope):Addr->Value->Value->Obj:=fun C q g=>PySem.W.fnMade name qual params body scope (qu X.env.cells scope.names []) g ((X.mg "__name__").getD .none) C q
theorem qs_def{S0:Scope}(hN:X.N.Nodup)(hi:X.N[i]?=some name)(hx:Loc X.env.scope name)(J:X.env.code=.ref c)(C:PySem.W.CodeHd X.base c P)(B:xu X.mg X.base)(hd0:params.defaults=[])(hk0:params.kw_defaults=[])(han:annTrees params none X.env=[])(hq:qualnameIn X.env name name=qual)
  (hX:X.env.scope=S0) (hfr0:∀y∈scope.names,y.2=.free->S0.names.lookup y.1=some .cell) (hf:X.fn name=true\/X.env.scope.names.lookup name=some .local:=by first | exact .inl rfl | exact .inr rfl | assumption) :
  QS X (.FunctionDef name params body [] none [] scope none name lpos) (tDef P lpos qual (zL X name qual params body scope) i):=by
 have R:∀y∈scope.names,y.2=.free->X.env.scope.names.lookup y.1=some .cell:=fun y hy h=>by rw [hX];exact hfr0 y hy h
 refine ⟨?_⟩;intro pins s σ H D I hw;obtain ⟨M,Z⟩:=hw;refine PySem.W.nestDef_K hd0 hk0 han ?_;rw [hq];have hcl:closureFor scope X.env=pure (qu X.env.cells scope.names []):=Wt fun y hy h=>I.ok.has y.1 (.inl (R y hy h));have hg:s.heap.Ns mainGlobals X.mg:=I.mod.glob.keeps I.bk;obtain ⟨pz,hPs⟩:=M.ex;have L:X.base.get? P=none:=by
  cases e:X.base.get? P with
  | none=>rfl
  | some o=>rw [(I.bs P o e).2] at hPs;cases hPs
 have hgP:mainGlobals≠P:=fun e=>by
  obtain ⟨o,es,ep,g,_⟩:=I.mod.glob;rw [e,L] at g;cases g
 have hb:s.heap.BuiltinsAt X.mg P:=by
  obtain ⟨bm,ob,b1,b2,b3,b4,b5,b6⟩:=B.ex;refine ⟨bm,ob,b1,b2,fun e=>?_,(fun e=>by rw [e,L] at b3;cases b3),I.bk _ _ b3,b4,b5,b6⟩;obtain ⟨o,es,ep,g,hd,_⟩:=I.mod.glob;rw [<-e,b3] at g;cases g;rw [b6] at hd;cases hd
 rcases M with M | ⟨q,oc,M,hc',O⟩
 ·have hP:s.heap.get? P=some (PySem.W.tabObj #[]):=I.hok P _ M
  refine PySem.W.makeFunction_K (mg:=X.mg) (ps:=#[]) hcl I.ok.glob hg J (C.keeps I.bk) hP trivial rfl hgP hb fun q G E h' tk hx' S Y hrec htb=>?_;obtain ⟨c₂,oc,vs,t,e2,O,hd,hv⟩:=hrec;cases e2;have cn:H q=none:=I.hok.fresh S;have cP:q≠P:=fun e=>by rw [e,M] at cn;cases cn
  have hsz:s.heap.objs.size<=h'.objs.size:=Qbg S (Qa5 Y);have I2:=ke (lpos:=lpos) (fo:=zL X name qual params body scope q G E) (tk:=tk) I M hx' S Y O htb;have fn:H h'.objs.size=none:=I.hok.fresh hsz;have fc:q≠h'.objs.size:=Qbt Y;have fP:P≠h'.objs.size:=Zn M fn;refine WD I2 hN hi hx (v:=.ref h'.objs.size) rfl (fun s' I3=>⟨_,_,I3,Z _ q oc G E _ fn Zc ?_ ⟨vs,t,hd,hv⟩ (.inr ⟨q,oc,?_,?_,⟨vs,t,hd,hv⟩⟩) fun b o e hbP=>?_⟩) hf
  ·rw [Zp fc];exact Zc
  ·rw [Zp fP,Zp cP.symm];exact Zc
  ·rw [Zp fc];exact Zc
  ·rw [Zp (Zn e fn),Zp (Zn e cn),Zp hbP];exact e
 ·have hP:s.heap.get? P=some (PySem.W.tabObj #[rawInt lpos.line,rawInt lpos.col,.ref q]):=I.hok P _ M
  have hfd:codeAmong lpos (#[rawInt lpos.line,rawInt lpos.col,.ref q]:Array Value).toList=some (.ref q):=by
   show (if ((lpos.line:Int) == lpos.line && (lpos.col:Int) == lpos.col)=true then some (Value.ref q) else _)=_;rw [Qb0,Qb0]
   rfl
  refine PySem.W.makeFunction_hit (mg:=X.mg) hcl I.ok.glob hg J (C.keeps I.bk) hP trivial hfd hb fun G E h' tk hk hsz=>?_;have I2:=I.laid (h':=h'.push (zL X name qual params body scope q G E)) (t':=tk) (a:=h'.objs.size) (o:=XI (zL X name qual params body scope q G E)) (fun b u e=>Qae _ (hk b u e)) hsz (JV (Qaz _ rfl));have fn:H h'.objs.size=none:=I.hok.fresh hsz;have sm:∀b o,H b=some o->upd H h'.objs.size (XI (zL X name qual params body scope q G E)) b=some o:=fun b o e=>by rw [Zp (Zn e fn)];exact e
  exact WD I2 hN hi hx (v:=.ref h'.objs.size) rfl (fun s' I3=>⟨_,_,I3,Z _ q oc G E _ fn Zc (sm _ _ hc') O (.inr ⟨q,oc,sm _ _ M,sm _ _ hc',O⟩) fun b o e _=>sm b o e⟩) hf
end
def Zao(X:Cx)(s:Shared)(H:Hp):Hp:=fun b=>if b∈cellsOf X.env.cells then (s.heap.get? b).map XI else H b
section
variable {X:Cx}{pins:List (Addr × Obj)}{σ:St}{H:Hp}{s:Shared}
theorem vh(I:Inv X pins σ H s):∀d∈cellsOf X.env.cells,∃o v,Zao X s H d=some (XI o)/\o.data=.cell v/\s.heap.get? d=some o:=fun d m=>by
 obtain ⟨y,g⟩:=Yn.mp m;obtain ⟨v,o,ho,hd⟩:=I.cell y d g;exact ⟨o,v,by unfold Zao;rw [Qa4 m,ho];rfl,hd,ho⟩
theorem G5{d:Addr}(m:d∉cellsOf X.env.cells):Zao X s H d=H d:=Qax m
theorem GZ(I:Inv X pins σ H s):∀d∈cellsOf X.env.cells,H d=none:=fun d m=>let ⟨y,hy⟩:=Yn.mp m;I.freeC y d hy
theorem ku(I:Inv X pins σ H s):∀b o,H b=some o->Zao X s H b=some o:=fun b o e=>by
 rw [G5 fun m=>by rw [GZ I b m] at e;cases e];exact e
theorem vi{k:Nat}{gd:FuncData}{sp:Sp}{Q:VK}{vs:List V}(F:Ym X.prog X.w X.K X.mg X.base CX0 k a gd N sp)(hr:JD k X.A)(hb:Binds X.K gd N [])(hfn:X.fn=fun _=>true)
  (I:Inv X pins σ H s) (rv:Vals vs U) (L:sp vs (Zao X s H) (fun v H3=>Q v (hide (cellsOf X.env.cells) H3)) E0):wpAny (model X.prog X.w) X.A (call (.ref a) U) (EP X pins σ Q) X.xe s:=by
 have J:=vh I;have hn:=GZ I;have C:=ku I;have O:∀d∈cellsOf X.env.cells,d≠X.env.locals:=fun d m e=>by
  obtain ⟨o,v,_,hd,a⟩:=J d m;obtain ⟨m',⟨o',es,ep,g',Y,_⟩,_⟩:=I.loc;rw [e,g'] at a;cases a;rw [Y] at hd;cases hd
 have D:∀d∈cellsOf X.env.cells,X.s₀.heap.objs.size<=d:=fun d m=>by
  obtain ⟨y,hy⟩:=Yn.mp m;exact I.ok.cab y d (by rw [hfn]) hy
 have nfr:∀d∈cellsOf X.env.cells,d∉frs X.stack:=fun d m z=>by
  rcases Qas.mp (I.stkSub d z) with e | e
  ·exact O d m e
  ·obtain ⟨_,o,a,_⟩:=I.ok.funs.mem e
   exact absurd (Qav a) (Qf5.mpr (D d m))
 have S:HOk X.prog X.w (Zao X s H) s.heap:=fun b o e=>by
  by_cases m:b∈cellsOf X.env.cells
  ·obtain ⟨ob,v,e',hd,a⟩:=J b m
   rw [e'] at e;cases e;exact JV a
  ·rw [G5 m] at e
   exact (I.hok b o e).stay (fun _ _ _ q=>q) (fun d q=>C _ _ q) fun d xs q=>C _ _ q
 have e0:Zgc X.prog X.w X.K X.mg X.base X.A X.stack s (Zao X s H):=by
  have z:=I.env0;refine ⟨z.frames,z.mod,fun b o e=>⟨(z.bs b o e).1,?_⟩,z.bsz,z.funs,fun b hb=>?_,S,z.bare⟩
  ·rw [G5 fun m=>absurd (Qav e) (Qf5.mpr (Qbg I.ok.bsz (D b m)))]
   exact (z.bs b o e).2
  ·rw [G5 fun m=>nfr b m hb]
   exact z.frf b hb
 have Z:(U++[]).length=N.length:=by rw [Qbl,<-rv.length];exact F.len _ _ _ _ L
 refine wpAny_call (Qfn (F.run X.A X.stack s (Zao X s H) ⟨U,[]⟩ U vs _ _ hr e0 (by simpa using hb s U I.kIn Z) rv L) fun r s' R=>?_);cases r with
 | error e=>exact R.elim
 | ok fl =>
  cases fl with
  | next=>exact False.elim R
  | brk=>exact False.elim R
  | cont=>exact False.elim R
  | ret uu =>
   obtain ⟨v,H4,os,M,un,G,rv4,q4⟩:=R;have E:∀d∈cellsOf X.env.cells,∃o,H4 d=some (XI o)/\s.heap.get? d=some o/\s'.heap.get? d=some o:=fun d m=>by
    obtain ⟨o,v,e,hd,a⟩:=J d m;have e4:=un.frzs d o _ e;exact ⟨o,e4,a,(G d _ e4).1⟩
   have g:∀d,H d=none->d∉cellsOf X.env.cells->Zao X s H d=none:=fun d n m=>by rw [G5 m];exact n
   have nm:∀d o,H d=some o->d∉cellsOf X.env.cells:=fun d o e m=>by rw [hn d m] at e;cases e
   refine ⟨v,hide (cellsOf X.env.cells) H4,I.call' os ⟨fun d o e n hb hx=>?_,fun d o e n hb hx=>?_,fun d o e n hx=>?_,fun d o e hx=>un.there d o e hx,fun d xs e=>?_,fun d o u e=>?_,fun d pz e=>?_⟩ (jq G fun d m=>let ⟨o,e,_⟩:=E d m;⟨o,e⟩) M (fun _ z=>nomatch z),rv4,q4⟩
   ·by_cases m:d∈cellsOf X.env.cells
    ·obtain ⟨o',_,a,g'⟩:=E d m
     rw [e] at a;cases a;exact g'
    ·exact un.keep d o e (g d n m) hb hx
   ·by_cases m:d∈cellsOf X.env.cells
    ·obtain ⟨o',_,a,g'⟩:=E d m
     rw [e] at a;cases a;exact ⟨o.slots,g'⟩
    ·exact un.slot d o e (g d n m) hb hx
   ·by_cases m:d∈cellsOf X.env.cells
    ·exact YA m
    ·rw [ZP m];exact un.free d o e (g d n m) hx
   ·rw [ZP (nm d _ e)];exact un.tups d xs (C _ _ e)
   ·rw [ZP (nm d _ e)];exact un.frzs d o u (C _ _ e)
   ·rw [ZP (nm d _ e)];exact un.tbls d pz (C _ _ e)
theorem Zap{scope:Scope}{ys:List Str}{is:List Nat}{N0:List Str}(I:Inv X pins σ H s)(C:∀y∈scope.names,y.2=.free->X.env.scope.names.lookup y.1=some .cell)(G:∀y∈ys,scope.names.lookup y=some .free)(hN:∀q∈ys.zip is,X.N[q.2]?=some q.1)(M:ys.length=is.length) :
  ∀(i:Nat) (y:Str) (v:V),ys[i]?=some y->(is.map fun i=>(σ[i]?).getD none)[i]?=some (some v)->∃c o u,(qu X.env.cells scope.names []).lookup y=some c/\Zao X s H c=some (XI o)/\o.data=.cell (some u)/\RelV v u:=by
 intro i y v h1 h2;have J:∀y d,(qu X.env.cells scope.names []).lookup y=some d->X.env.cells.lookup y=some d :=
  Gs (fun y S h=>I.ok.has y.1 (.inl (C y S h))) fun _ _ z=>by cases z
 rw [Qah] at h2;cases hj:is[i]? with
 | none=>rw [hj] at h2;cases h2
 | some j =>
  rw [hj] at h2;have g:(σ[j]?).getD none=some v:=Option.some.inj h2;have E:σ[j]?=some (some v):=by
   cases q:σ[j]? with
   | none=>rw [q] at g;cases g
   | some z=>rw [q] at g;exact congrArg some g
  have Y:(y,j)∈ys.zip is:=by
   obtain ⟨a1,e1⟩:=Qac.mp h1;obtain ⟨a2,e2⟩:=Qac.mp hj;rw [<-e1,<-e2,<-Qex (h:=by rw [Qd0];lia)];exact Qb1 _
  have hf:=G y (Qao h1);have L:X.env.kindOf y=some .cell:=C _ (qV hf) rfl;obtain ⟨m,R,hl⟩:=I.loc;obtain ⟨u,r,l⟩:=hl j y v (hN _ Y) E (.inr (.inl L));rcases l with ⟨l1,_⟩ | ⟨_,d,l2,Z⟩
  ·rw [L] at l1;cases l1
  ·obtain ⟨d',D⟩:=X3 (cells:=X.env.cells) (acc:=[]) hf
   have e:d'=d:=by have:=J y d' D;rw [l2] at this;exact (Option.some.inj this).symm
   subst e;obtain ⟨o,ho,hd⟩:=Z;obtain ⟨o',v',O,_,g'⟩:=vh I d' (Yn.mpr ⟨y,l2⟩);rw [ho] at g';cases g';exact ⟨d',o,u,D,O,hd,r⟩
end
def tCallN(G:Program)(w:World)(K:PySem.W.Frag)(mg:Str->Option Value)(base:Heap)(k:Nat)(sp:Sp)(qual:Str)(C:Addr->Value->Value->Obj)(ta:TA)(i n m:Nat)(is:List Nat)(ts:TS):TE:=fun σ H Q=>ta σ H fun vs H1 =>
 ∃(f D:Addr) (oc:Obj) (q g:Value),σ[i]?=some (some (.ref f))/\H1 f=some (XI (C D q g))/\H1 D=some (XI oc)/\zG oc qual /\
 ∀(cs:List Addr) (H2:Hp),(∀c∈cs,H1 c=none)->(∀c∈cs,∃o,H2 c=some (XI o))->(∀b o,H1 b=some o->H2 b=some o) ->
  Xa G w K mg base k f H2 (Zfg n m ts cs (is.map fun i=>(σ[i]?).getD none))->sp vs H2 (fun v E=>Q v (hide cs E)) E0
structure Zjh(S0 scope:Scope)(N0 ps ls ys:List Str)(is:List Nat):Prop where
 sc:Zhc scope ps ls ys
 free:∀y∈scope.names,y.2=.free->S0.names.lookup y.1=some .cell
 vis:∀q∈ys.zip is,N0[q.2]?=some q.1
 len:ys.length=is.length
section
variable {X:Cx}{params:Arguments}{body:List Stmt}{scope:Scope}{p pos:Pos}{g:Addr}{name qual x:Str}{k kl:Nat}{gd:FuncData}{pg ps ls ys:List Str}{is:List Nat}{sp:Sp}{ts:TS}{e:Expr}{es:List Expr}{ta:TA}
theorem Zdk(F:Ym X.prog X.w X.K X.mg X.base CX0 k g gd pg sp)(hr:JD k X.A)(hg:Gl X x)(hm:X.mg x=some (.ref g))(hk:PySem.W.keepIn X.K (.ref g)=true)(hb:Binds X.K gd pg [])(hfn:X.fn=fun _=>true)
  (ha:QA X (e::es) ta) {S0:Scope} {N0:List Str} (hX:X.env.scope=S0) (hXN:X.N=N0) (Y:Zjh S0 scope N0 ps ls ys is)
  (G:∀(cl:List (Str × Addr)) (O pm cv Z:Value) (M:List Value),M.length=ps.length->bindArgs (PySem.W.fnX name qual params body scope cl .none .none O pm none cv Z) ⟨M,[]⟩=pure (ps.zip M))
  (J:∀(f c':Addr) (cl:List (Str × Addr)) (A:Around) (outer:List Env) (s:Shared) (H1:Hp),JD kl (A.deeper (PySem.W.envX qual scope s.heap.objs.size f (.ref c') (cellsFrom (s.heap.objs.size + 1) scope.names cl)))->QSs (cxN X.prog X.w X.K X.mg X.base (ps++(ls++ys)) qual scope f (.ref c') cl A outer s H1) body ts)
  (hdb:(x == ("__debug__" : Str))=false:=by decide) (hp:(e::es).all Y2=true:=by rfl) :
  QE X (.Call (.Name x p) (e::es) [] pos) (tCallN X.prog X.w X.K X.mg X.base (kl + 1) sp qual (zL X name qual params body scope) ta i ps.length ls.length is ts):=by
 rw [Qcj,Qbv] at hp;have S:=Y.sc;have C:∀y∈scope.names,y.2=.free->X.env.scope.names.lookup y.1=some .cell:=fun y hy h=>by rw [hX];exact Y.free y hy h
 have hN:∀q∈ys.zip is,X.N[q.2]?=some q.1:=fun q hq=>by rw [hXN];exact Y.vis q hq
 refine ⟨?_⟩;intro pins s σ H Q I hw;refine Qc3 (jc I hg hm ?_ hdb);refine Qgj (h₀:=X.base) I.ok.mod.kin hk (thn (ha.out pos pins s σ H _ I hw) fun M s1 ⟨vs,H1,E,r,f,c',oc,Z,O,hσ,hf,hc',hoc,q⟩=>⟨E.kIn,?_⟩) (Zz hp.1) (Xq hp.2);have L:∀y d,(qu X.env.cells scope.names []).lookup y=some d->X.env.cells.lookup y=some d :=
  Gs (fun y hy h=>E.ok.has y.1 (.inl (C y hy h))) fun _ _ z=>by cases z
 have D:=ku E;have R:=vh E;refine vi F hr hb hfn E r (q (cellsOf X.env.cells) (Zao X s1 H1) (GZ E) (fun d m=>let ⟨o,_,e,_⟩:=R d m;⟨o,e⟩) D ?_);exact jy (ls:=ls) (ys:=ys) S (D _ _ hf) (D _ _ hc') hoc (fun y d h=>Yn.mpr ⟨y,L y d h⟩) (fun d m=>let ⟨o,v,e,hd,_⟩:=R d m;⟨o,v,e,hd⟩) (fun y z d h1 h2=>E.ok.inj y z d (L y d h1) (L z d h2)) (fun y h=>X3 h) (by rw [Qad,Y.len])
  (Zap (N0:=N0) E C S.free hN Y.len) (fun M hl=>G _ _ _ _ _ M hl) fun A outer s H1 hr=>(J f c' _ A outer s H1 hr).out
end
section
variable {X:Cx}
theorem QE.or{t u:TE}(h:QE X e t)(g:QE X e u):QE X e (fun σ H Q=>t σ H Q\/u σ H Q):=⟨fun pins s σ H Q I z=>z.elim (h.out pins s σ H Q I) (g.out pins s σ H Q I)⟩
theorem QS.or{e:Stmt}{t u:TS}(h:QS X e t)(g:QS X e u):QS X e (fun D σ H=>t D σ H\/u D σ H):=⟨fun pins s σ H D I z=>z.elim (h.out pins s σ H D I) (g.out pins s σ H D I)⟩
def Zhd(tk tv:TE):TE:=fun σ H Q=>∀d,H d=none->tk σ (upd H d (.dK [])) fun x H1=>tv σ H1 fun v H2=>∃(Kk:Type) (_:DecidableEq Kk) (kn:KN Kk) (a:Addr) (k:Kk),x=.ref a/\H2 d=some (.dK [])/\kn.at_ H2 k a /\
 ∀H',GK kn H' d [(k,v)]->(∀b o,H2 b=some o->b≠d->H' b=some o)->(∃o,H'=upd H2 d o)->Q (.ref d) H'
theorem Zaq{k v:Expr}{tk:TE}(hu:X.A.units + 2 < cLine)(hk:QE X k tk)(hv:QE X v I):QE X (.Dict [some k] [v] p) (Zhd tk I):=by
 refine ⟨fun pins s σ H Q g q=>?_⟩;have hn:=g.hok.fresh (Qai s.heap.objs.size);have N:=g.laid (a:=s.heap.objs.size) (o:=.dK []) (h':=s.heap.push { cls:=.type "dict",data:=.dict #[] }) (t':=s.toks) (fun _ _ q=>Qae _ q) (Qai _) (jm s.heap g.big);refine wpAny_Dict_any rfl rfl (fun z=>nomatch z) (by show 1<=15;decide) (thn (pp1 hk hv pins _ σ _ _ N (q _ hn)) fun ws Z ⟨x,y,u,r,H2,Y,C,M,S,Kk,_,kn,a,kk,ex,e,D,G⟩=>?_);subst Y ex;cases (show u=Value.ref a from M);have n:GK kn H2 s.heap.objs.size []:=⟨Qc2,(show 0 < sizeLine by decide),.inl ⟨rfl,e⟩⟩;obtain ⟨xs,dd,O,J,hm⟩:=n.dict C;cases O;unfold storeAll;rw [Qdz];refine Qaa (Qaa (wpAny_dictSet_heap (hsz:=Qbp _) (kn.room0 _ _ _ hu) (kn.ok _ _ _ _ _ _ C.hok D) dd fun h' dd' hs=>Qan ?_));show wpAny _ _ (forIn ([]:List (Value × Value)) PUnit.unit _) _ _ _;rw [Qev];rw [storedH_new rfl] at dd';obtain ⟨H',R,L,o',E⟩:=jt C n D S (show 0 + 1 < sizeLine by decide) .nil J hm rfl dd' hs;exact Qan ⟨.ref s.heap.objs.size,H',E,rfl,G H' R L o'⟩
theorem PI.or{l:Expr}{t u:TI}(h:PI X e l t)(g:PI X e l u):PI X e l (fun σ H R=>t σ H R\/u σ H R):=fun pins s σ H R I z=>z.elim (h pins s σ H R I) (g pins s σ H R I)
theorem QI.or{tg l:Expr}{t u:TI}(h:QI X tg l t)(g:QI X tg l u):QI X tg l (fun σ H R=>t σ H R\/u σ H R):=⟨PI.or h.out g.out⟩
end
section
variable {prog:Program}{w:World}{A:Around}{R:Result->Shared->Prop}{I:Addr}{fp wr:List Addr}{n:Nat}{P:Nat->Value->Prop}{St:Nat->Heap->Prop}{d:Value}
theorem Zhe(W:Walks prog w A.in1 I fp wr n P St)(bt:Nat->Nat->Bool)(hcmp:CmpOf prog w A.in1 .Gt P bt)(S:Addr)(hSf:S∉fp) :
  ∀(k j:Nat) (s:Shared) (M:Value) (c:Nat),n - (j + 1)=k->j + 1<=n->St (j + 1) s.heap->P (argBest bt j) M ->
  s.heap.get? S=some { cls:=.type "list",dict:=none,data:=.seq #[M,M] c,slots:=#[] } ->
  (∀v h' tk,P (argBest bt (n - 1)) v->(∀b o,b∉wr->b≠S->s.heap.get? b=some o->h'.get? b=some o)->R (.ok (.ret v)) { s with heap:=h',toks:=tk }) ->
  codeAny (model prog w) A (.builtin "max.loop" ⟨[.ref I,.none,.ref S],[("default",d)]⟩) R s:=by
 have hSw:S∉wr:=fun h=>hSf (W.sub _ h);have E:(toString "max" ++ toString ".loop" : String) = "max.loop" := by decide
 intro k
 induction k with
 | zero =>
  intro j s M c hk hj Z L hS hR;have hin:j + 1=n:=by lia
  refine Qg6 Qfg ?_;rw [Qf0 Qcu _];show wpAny _ A.in1 (seqItems? (.ref S) >>= _) _ _ s;refine Qaa (Qcb hS rfl ?_);show wpAny _ A.in1 (tryCatch (pyNext (.ref I)) _ >>= _) _ _ s;refine Qaa (Qfm (W.done s _ _ (hin ▸ Z) fun h' tk q=>?_));have D:=q S _ hSw hS;show wpAny _ A.in1 (updateSeq S (fun _=>#[]) >>= _) _ _ _;refine Qaa ?_;refine Qg7 D rfl (Qaa (Qel (Qan ?_)));refine hR M _ tk (by rw [<-hin];exact L) fun b o g C e=>(Qch _ _ (Qdk C)).trans (q b o g e)
 | succ k ih =>
  intro j s M c hk hj Z L hS hR;have Y:j + 1 < n:=by lia
  refine Qg6 Qfg ?_;rw [Qf0 Qcu _];show wpAny _ A.in1 (seqItems? (.ref S) >>= _) _ _ s;refine Qaa (Qcb hS rfl ?_);show wpAny _ A.in1 (tryCatch (pyNext (.ref I)) _ >>= _) _ _ s;refine Qaa (Qfm (W.item (j + 1) s _ _ Y Z fun v h' tk hP N q=>?_));have D:=q S _ hSw hS;show wpAny _ A.in1 (tryCatch (holding [v,v] (richCompare .Gt v M >>= _)) _ >>= _) _ _ _;refine Qaa (Qfm (Qeq (Qaa (hcmp (j + 1) (argBest bt j) v M _ _ _ hP L ?_))));refine Qaa (Qeq (Qgr ?_));refine Qaa (Qel (Qan ?_));cases hb:bt (j + 1) (argBest bt j) with
  | true =>
   simp only [Qf9];refine Qaa ?_;refine Qg7 D rfl (Qaa (Qel ?_));rw [E];refine Qan ⟨Qgx Qcu _,ih (j + 1) _ v _ (by lia) Y (W.frame _ _ _ N fun b hbf o e=>?_) (by simp only [argBest,hb,Qf9];exact hP) (Qcx _ D rfl)
    fun v' O G hP' J=>?_⟩
   ·exact (Qch _ _ (fun h:S=b=>hSf (by rw [h];exact hbf))).trans e
   ·exact hR v' O G hP' fun b o g C e=>J b o g C ((Qch _ _ (Qdk C)).trans (q b o g e))
  | false =>
   simp only [Qcs,Qe7];refine Qaa (Qel ?_);rw [E];refine Qan ⟨Qgx Qcu _,ih (j + 1) _ M c (by lia) Y N (by simp only [argBest,hb,Qcs,Qe7];exact L) D fun v' O G hP' J=>?_⟩;exact hR v' O G hP' fun b o g C e=>J b o g C (q b o g e)
theorem Zdl(W:Walks prog w A.in1 I fp wr n P St)(bt:Nat->Nat->Bool)(G:CmpOf prog w A.in1 .Gt P bt)(S:Addr)(C:S∉fp){c:Nat}(Y:St 0 s.heap)
  (hS:s.heap.get? S=some { cls:=.type "list",dict:=none,data:=.seq #[] c,slots:=#[] })
  (h0:n=0->∀h' tk,(∀b o,b∉wr->b≠S->s.heap.get? b=some o->h'.get? b=some o)->R (.ok (.ret d)) { s with heap:=h',toks:=tk })
  (hR:0 < n->∀v h' tk,P (argBest bt (n - 1)) v->(∀b o,b∉wr->b≠S->s.heap.get? b=some o->h'.get? b=some o)->R (.ok (.ret v)) { s with heap:=h',toks:=tk }) :
  codeAny (model prog w) A (.builtin "max.loop" ⟨[.ref I,.none,.ref S],[("default",d)]⟩) R s:=by
 have hSw:S∉wr:=fun h=>C (W.sub _ h);have D:(toString "max" ++ toString ".loop" : String) = "max.loop" := by decide
 refine Qg6 Qfg ?_;rw [Qf0 Qcu _];show wpAny _ A.in1 (seqItems? (.ref S) >>= _) _ _ s;refine Qaa (Qcb hS rfl ?_);show wpAny _ A.in1 (tryCatch (pyNext (.ref I)) _ >>= _) _ _ s
 by_cases hn:0 < n
 ·refine Qaa (Qfm (W.item 0 s _ _ hn Y fun v h' tk hP E q=>?_))
  have J:=q S _ hSw hS;show wpAny _ A.in1 (updateSeq S (fun _=>#[v,v]) >>= _) _ _ _;refine Qaa ?_;refine Qg7 J rfl ?_;rw [D];refine Qan ⟨Qgx Qcu _,Zhe W bt G S C _ 0 _ v _ rfl hn (W.frame _ _ _ E fun b hbf o e=>?_) hP (Qcx _ J rfl) fun v' Z N hP' M=>?_⟩
  ·exact (Qch _ _ (fun h:S=b=>C (by rw [h];exact hbf))).trans e
  ·exact hR hn v' Z N hP' fun b o g O e=>M b o g O ((Qch _ _ (Qdk O)).trans (q b o g e))
 ·have L:n=0:=by lia
  refine Qaa (Qfm (W.done s _ _ (by rw [L];exact Y) fun h' tk q=>?_));refine Qaa (Qdx (Qan ?_));exact h0 L h' tk fun b o g _ e=>q b o g e
end
theorem Zdm (a v:Value):argsOk "max" ⟨[a],[(Str.ofString "default",v)]⟩:=by unfold argsOk;kernel_rfl
section
variable {prog:Program}{w:World}{A:Around}{E:Value->Shared->Prop}{s:Shared}{l:Addr}{xs:Array (Int × Tok)}{d:Value}
theorem Zar(hh:A.handled=none)(hl:s.heap.IsList l (intItems xs))(D:xs.size=0->∀h' tk,(∀b o,s.heap.get? b=some o->h'.get? b=some o)->Q d { s with heap:=h',toks:=tk })
  (h:0 < xs.size->∀v h' tk,(intItems xs)[argBest (fun i j=>decide (numAt xs i > numAt xs j)) (xs.size - 1)]?=some v->(∀b o,s.heap.get? b=some o->h'.get? b=some o)->Q v { s with heap:=h',toks:=tk }) :
  wpAny (model prog w) A (call (.builtin "max") [.ref l] [(Str.ofString "default",d)]) Q E s:=by
 have g:(toString "max" ++ toString ".loop" : String) = "max.loop" := by decide
 refine PyProof.Rows.kmk_tree PySem.F.kind_max PySem.F.plain_max PySem.F.entry_max (Zdm _ _) ?_;show wpAny _ A.in1 (Builtin.Builtins.bindParams "max" ["key","default"] 0 ⟨[],[(Str.ofString "default",d)]⟩ >>= _) _ _ s;refine Qaa (Qcl (show Builtin.Builtins.bindParams "max" ["key","default"] 0 ⟨[],[(Str.ofString "default",d)]⟩=pure [none,some d] from rfl) ?_);refine Qaa (Qan ?_);refine Qaa (iter_intList hl fun s₂ e st C q=>?_);subst e;refine Qaa (Qcg ?_);rw [g];have W:=Walks.list (prog:=prog) (w:=w) (A:=A.in1) hh _ l q (intItems xs);have hsz:(intItems xs).size=xs.size:=by simp [intItems]
 refine Qan ⟨Qgx Qcu _,Zdl W _ (CmpOf.ints_gt (numAt xs) (fun _ _=>intItems_at)) _ (fun hm=>Qby _ (C _ hm)) (W.frame _ _ _ st fun b _ o e=>Qae _ e) (Qaz _ rfl) (fun hn h' tk hk=>?_) fun hn v h' tk G hk=>?_⟩
 ·exact D (by rw [<-hsz];exact hn) h' tk (old_kept fun b o hb e=>hk b o hb (Qbt (Qav e)) (Qae _ e))
 ·exact h (by rw [<-hsz];exact hn) v h' tk (by simpa [intItems] using G) (old_kept fun b o hb e=>hk b o hb (Qbt (Qav e)) (Qae _ e))
end
section
variable {X:Cx}
def tMaxD(K:PySem.W.Frag)(ta td:TE):TE:=fun σ H Q=>ta σ H fun x H1=>td σ H1 fun y H2=>∃(p:Addr) (g:List Int),x=.ref p/\SqL K H2 p (g.map V.int)/\(g=[]->Q y H2)/\∀m∈g,(∀n∈g,n<=m)->Q (.int m) H2
theorem Zhf {a:Expr}  {kp:Pos} (hc:X.calm=true) (hg:Gl X "max") (hm:X.mg "max" = none) (ha:QE X a A) (hd:QE X e I) (hp:Y2 a=true:=by rfl) :
  QE X (.Call (.Name "max" p) [a] [⟨some "default",e,kp⟩] E) (tMaxD X.K A I):=by
 refine ⟨fun pins s σ H Q g hw=>?_⟩;refine Qc3 (Gn g hg hm uK ?_ (by decide));have hs:=Zz (rest:=[]) (env:=X.env) hp;refine callWith_kw ?_ (by rw [hs];rfl) (by rw [hs];rfl);rw [hs];show wpAny _ _ (spliced ((false,eval a X.env)::backTo E (starEach [] X.env))) _ _ s;refine Qci (thn (ha.out pins s σ H _ g hw) fun u s1 ⟨x,H1,I1,r1,Z⟩=>?_);refine Qdn (kws_cons (thn (hd.out pins s1 σ H1 _ I1 Z) fun u2 R ⟨y,H2,G,O,p,L,ex,hq,hz,q⟩=>kws_nil ?_));subst ex;cases r1;obtain ⟨D,r',pl,hz'⟩:=G.list hq;have hi:IntsAre D L:=intsAre_of r';obtain ⟨xs,hx⟩:=hi.allInts.items;have M:R.heap.IsList p (intItems xs):=hx ▸ pl.isList;have e1:L=xs.toList.map (·.1):=by
  rw [<-nums_intItems,<-hx];exact (show numsOf D.toArray.toList=L from hi.numsOf).symm
 refine Zar (G.ok.hd hc) M (fun h0 h' tk hk=>⟨y,H2,G.kept hk,O,hz ?_⟩) fun hsz v h' tk hv hk=>?_
 ·rw [e1,show xs.toList=[] from Qcf (by rw [Qce];exact h0)]
  rfl
 have hb:=argBest_gt (numAt xs) (xs.size - 1);generalize argBest (fun i j=>decide (numAt xs i > numAt xs j)) (xs.size - 1)=b at hv hb;have J:b < xs.size:=by lia
 have at_:∀j (C:j < xs.size),numAt xs j=xs[j].1/\(intItems xs)[j]?=some (.int xs[j].1 xs[j].2):=by
  intro j C;exact ⟨by simp [numAt,C],by simp [intItems,C]⟩
 obtain ⟨Y,n2⟩:=at_ b J;rw [n2] at hv;cases hv;refine ⟨.int xs[b].1,H2,G.kept hk,⟨_,rfl⟩,q _ ?_ fun n hn=>?_⟩
 ·rw [e1]
  exact Qa2.mpr ⟨xs[b],by simp,rfl⟩
 ·rw [e1] at hn
  obtain ⟨y,S,rfl⟩:=Qa2.mp hn;obtain ⟨j,C⟩:=Qet S;have N:j < xs.size:=by
   have:=(Qac.mp C).1
   rwa [Qce] at this
  have:=hb.2 j (by lia);rw [(at_ j N).1,Y] at this;have ej:xs[j]=y:=by
   have:=(Qac.mp C).2;simpa using this
  rw [ej] at this;exact this
def Zji:V->List V->Hp->VK->Prop:=fun x xs H Q=>∃i:Int,x=.int i/\xs=[]/\Q (.int ((Builtin.Int.intBits i:Nat):Int)) H
theorem Zhg:MtR X "int.bit_length" Zji:=by
 intro pins s σ H x xs v C Q I g r h;obtain ⟨i,rfl,rfl,q⟩:=h;obtain ⟨t,rfl⟩:=g;cases r;exact call_int_bit_length ⟨.int _,H,I.tok _,⟨_,rfl⟩,q⟩
end
section
variable {X:Cx}{pos:Pos}
theorem qs_par{j:Nat}{y:Str}{a b:Expr}{ta:TA}{pt:Pos}{q k2 g:_}(hc:X.calm=true)(hN:X.N.Nodup)(hi:X.N[i]?=some x)(D:X.N[j]?=some y)(C:i≠j)
  (hx:X.env.scope.names.lookup x=some .local) (G:X.env.scope.names.lookup y=some .local) (ha:QA X [a,b] ta)
  (hw:swappedStores [.Tuple [.Name x p,.Name y E] q pt] (.Tuple [a,b] k2 g) X.env=pure (some [x,y]))
  (hs:swapsWithSole [.Tuple [.Name x p,.Name y E] q pt] (.Tuple [a,b] k2 g) pos.line X.env=pure false:=by rfl) :
  QS X (.Assign [.Tuple [.Name x p,.Name y E] q pt] (.Tuple [a,b] k2 g) pos) (tPar i j ta):=⟨ps_par hc hN hi D C hx G ha.out hw hs⟩
def rEqB:R2:=fun x y H Q=>∃(a c:Addr) (xs ys:List V) (e:Nat->Bool),x=.ref a/\y=.ref c/\H a=some (.tup xs)/\H c=some (.tup ys)/\(∀(j:Nat) (u v:V),xs[j]?=some u->ys[j]?=some v->EqB H 3 u v (e j))/\Q (.bl ((List.range (min xs.length ys.length)).all e && xs.length == ys.length)) H
theorem op_eqB(hu:X.A.units + 4 < cLine):OpR X (compareOp .Eq) rEqB:=by
 intro pins s σ H x y v u Q I L M h;obtain ⟨a,c,xs,ys,e,rfl,rfl,ha,hc,he,q⟩:=h;cases L;cases M;obtain ⟨N,r,p,_⟩:=I.tuple (SqT.of ha);obtain ⟨C,g,p2,_⟩:=I.tuple (SqT.of hc);refine SeqAt.eq_tupleAt (e:=e) p p2 (by lia) (fun j h1 h2=>?_) (Yl I q ?_)
 ·obtain ⟨w1,D,J⟩:=zK r h1
  obtain ⟨w2,E,G⟩:=zK g h2;exact Zal I 3 _ _ _ _ _ _ J G (he j _ _ D E) (by show X.A.units + 1 + 3 < _;lia)
 ·rw [Qa8,Qa8,<-r.length,<-g.length]
end
end L2
namespace Lw
open PySem L2
def top(i:Nat):Stmt:=PySem.Challenge.pw_everywidth_k20_whole_least_of_sums.main.body.getD i (.Pass ⟨0,0,0,0⟩)
abbrev Wn:Stmt:=top 2
abbrev J6:Stmt:=top 6
abbrev XZ:Stmt:=top 7
abbrev JW:Stmt:=top 8
abbrev qa:Stmt:=top 10
abbrev JX:Stmt:=top 11
abbrev WH:Stmt:=top 16
abbrev XN:Stmt:=top 17
abbrev JY:Stmt:=top 23
abbrev qb:Stmt:=top 27
abbrev WI:Stmt:=top 29
abbrev YU:Stmt:=top 34
abbrev G6:Stmt:=top 35
abbrev WJ:Stmt:=top 37
abbrev WK:Stmt:=top 38
abbrev qc:Stmt:=top 40
abbrev qd:Stmt:=top 41
abbrev X5:Stmt:=top 42
abbrev Wo:Stmt:=top 44
abbrev Jp:Stmt:=top 45
abbrev JZ:Stmt:=top 48
abbrev Xc:Stmt:=top 5
abbrev qe:Stmt:=top 18
abbrev Xn:Stmt:=top 24
abbrev Ga:Stmt:=top 26
abbrev WL:Stmt:=top 28
abbrev XO:Stmt:=top 39
abbrev xx:Stmt:=top 43
abbrev X6:Stmt:=top 20
abbrev Xd:Stmt:=top 46
abbrev Xv:Stmt:=top 47
abbrev xy:Stmt:=top 25
abbrev Xe:Stmt:=top 1
abbrev qf:Stmt:=top 4
abbrev Yd:Stmt:=top 33
abbrev Jq:Stmt:=top 31
abbrev XQ:Stmt:=top 32
abbrev vj:Stmt:=top 49
def Wy:Pos:=⟨19,50,19,102⟩
def Wz:Str:=(("least" : Str) ++ ".<locals>.") ++ "<lambda>"
def ZA:Pos:=⟨147,4,151,77⟩
def Zw:Str:=(("machine_telling" : Str) ++ ".<locals>.") ++ "step_of"
abbrev Xf:Stmt:=(Xu Yd).getD 3 (.Pass ⟨0,0,0,0⟩)
theorem Zd{p:Addr}{o:HO}(h:H p=none):Yb H (upd H p o):=fun b u e=>by rw [Zp (Zn e h)];exact e
theorem xb(w:Nat):(0:Int) < 2 ^ w:=by
 have h2:((2:Int) ^ w)=(((2:Nat) ^ w:Nat):Int):=by rw [Int.natCast_pow];rfl
 have:=Qgf w;rw [h2];lia
theorem pow_succ'(w:Nat):(2:Int) ^ (w + 1)=2 ^ w * 2:=Qdl 2 w
def vk(w:Nat)(r:Int):List Int:=(List.range w).map fun i=>r / 2 ^ i % 2
theorem Zas{t u:TS}{r:VK}{b c:St->Hp->Prop}{σ:St}(J:St->Hp->Prop)(h1:∀N:St->Hp->Prop,(∀σ H,J σ H->N σ H)->t { M with nx:=N } σ H)(h2:∀σ H,J σ H->u M σ H):({ nx:=Yy t u M,rt:=r,bk:=b,ct:=c }:Ends).nx σ H:=h1 _ h2
theorem Zo{Q:St->Hp->Prop}(h:Q (c.set i (some v)) H):JS i v c H Q:=h
theorem kx{P:g->Prop}{l:List g}{y:g}(h:∀x∈l,P x)(q:P y):∀x∈l++[y],P x:=by
 intro x hx;rcases Qbk.mp hx with z | z
 ·exact h x z
 ·rw [Qay.mp z]
  exact q
theorem YM{p:Addr}{o:HO}(s:Yb H B)(hp:H p=none):Yb H (upd B p o):=fun b u e=>by
 rw [Zp (Zn e hp)];exact s b u e
theorem ZO(j:Nat)(q:z=(j:Int))(g:j < y.length):atI (y.map V.int) z=some (.int (y.getD j 0)):=by
 subst q;refine YI ?_;rw [Qah,Qab g,Qag,Qab g]
 rfl
theorem Zhh{m:Int}(h:∀x∈y,0<=x/\x < m)(j:Nat)(g:j < y.length):0<=y.getD j 0/\y.getD j 0 < m:=by
 rw [Qag,Qab g];exact h _ (Qb1 g)
theorem vm{z:Str}{i:Int}(n:Nat)(hn:z.cps.toList.length=n)(q:0<=i)(h1:i < (n:Int)):∃c,c∈z.cps.toList/\atI z.cps.toList i=some c:=by
 obtain ⟨j,rfl⟩:∃j:Nat,i=(j:Int):=⟨i.toNat,by lia⟩;have g:j < z.cps.toList.length:=by lia
 exact ⟨z.cps.toList[j],Qb1 g,YI (Qab g)⟩
theorem xc{ys:List Str}{i:Int}(q:0<=i)(h1:i < (ys.length:Int)):∃y,y∈ys/\atI (ys.map V.str) i=some (.str y):=by
 obtain ⟨j,rfl⟩:∃j:Nat,i=(j:Int):=⟨i.toNat,by lia⟩;have g:j < ys.length:=by lia
 refine ⟨ys[j],Qb1 g,YI ?_⟩;rw [Qah,Qab g]
 rfl
theorem vn{P:Str->Prop}:∀{vs:List V},(∀v∈vs,∃y,v=.str y/\P y)->∃ys:List Str,vs=ys.map V.str/\∀y∈ys,P y
 | [],_=>⟨[],rfl,fun _ h=>nomatch h⟩
 | v::r,h=>by
  obtain ⟨y,rfl,C⟩:=h v Qal;obtain ⟨ys,rfl,q⟩:=vn (vs:=r) fun v hv=>h v (Qam _ hv);refine ⟨y::ys,rfl,fun z g=>?_⟩;rcases Qas.mp g with rfl | g
  ·exact C
  ·exact q z g
def wV(xs:List g)(lo hi:Option Int):List g:=(xs.drop (HT.sIx xs.length 0 lo)).take (HT.sIx xs.length xs.length hi - HT.sIx xs.length 0 lo)
theorem Wa(f:g->V)(xs:List g)(lo hi:Option Int):zy (xs.map f) lo hi=(wV xs lo hi).map f:=by
 unfold zy wV;rw [Qad,Qdv,Qd9]
theorem x4(xs:List g)(k:Nat):(wV xs none (some (k:Int)))=xs.take k:=by
 unfold wV;rw [HT.sIx_none,HT.sIx_nat,Qew,Nat.sub_zero,<-List.take_take,Qb2]
theorem ym(xs:List g)(k:Nat):(wV xs (some (k:Int)) none)=xs.drop k:=by
 unfold wV;rw [HT.sIx_none,HT.sIx_nat,Qbz (by rw [Qbn];lia)]
 by_cases h:k<=xs.length
 ·rw [Qem h]
 ·rw [Nat.min_eq_right (by lia),Qea,List.drop_eq_nil_of_le (by lia)]
theorem Jr(xs:List g)(j k:Nat)(h:j<=xs.length):(wV xs (some (j:Int)) (some (k:Int)))=(xs.drop j).take (k - j):=by
 unfold wV;rw [HT.sIx_nat,HT.sIx_nat,Qem h]
 by_cases hk:k<=xs.length
 ·rw [Qem hk]
 ·rw [Nat.min_eq_right (by lia),Qbz (by rw [Qbn];lia),Qbz (by rw [Qbn];lia)]
theorem yo{lo:Int}{is:List Nat}{Q:VK}(P:Nat->V->Prop)(D:n<=sizeLine)
  (he:∀i,i < n->∀R:VK,(∀v,P i v->R v H)->A (qw is c (some (.int (lo + i)))) H R)
  (hd:∀vs:List V,vs.length=n->(∀i v,vs[i]?=some v->P i v)->∀l,H l=none->Q (.ref l) (upd H l (.lst vs))):za is uA A c Q (Itr lo n) H:=by
 refine z9 (fun i zs H'=>i<=n/\zs.length=i/\(∀j v,zs[j]?=some v->P j v)/\H'=H) ⟨Qbp _,rfl,fun j v h=>by simp at h,rfl⟩ ?_ ?_ ?_
 ·rintro i zs H' ⟨hi,hl,_,_⟩
  lia
 ·rintro i zs H' R C hi ⟨_,hl,hp,rfl⟩
  unfold uA
  try dsimp only
  rw [Qa4 rfl];refine he i hi _ fun v hv=>C _ _ ⟨hi,by rw [Qaf,hl];rfl,fun j u hu=>?_,rfl⟩
  by_cases q:j < zs.length
  ·rw [Qaw q] at hu
   exact hp j u hu
  ·rw [Qau (by lia)] at hu
   have e:j=i:=by
    have:=(Qac.mp hu).1;simp at this;lia
   subst e;rw [hl,Qdd] at hu;cases hu;exact hv
 ·rintro zs H' ⟨_,hl,hp,rfl⟩ l g
  exact hd zs hl hp l g
theorem mem_at{vs:List V}{P:V->Prop}(h:∀(i:Nat) (v:V),vs[i]?=some v->P v):∀v∈vs,P v:=by
 intro v hv;obtain ⟨i,hi,rfl⟩:=List.getElem_of_mem hv;exact h i _ (Qab hi)
def fI(g:Int->V):V->V
 | .int x=>g x
 | v=>v
theorem Xr(a b:Str):(a++b).cps.toList=a.cps.toList++b.cps.toList:=by
 rw [PySem.Str.cps_append,Array.toList_append]
theorem len_signs(a:Str):a.length=a.cps.toList.length:=by
 unfold Str.length;rw [Qce]
theorem Zdn{j:Nat}(h:j<=x.length):(Txt.slice x none (some (j:Int))).cps.toList=x.cps.toList.take j:=by
 have e:=beq_iff_eq.mp (PyProof.Rows.slice_closes_to (x:=x) (j:=(j:Int)) ⟨by lia,by rw [<-len_signs];lia⟩);rw [e];simp
theorem wW(h:i<=x.length):(Txt.slice x (some (i:Int)) none).cps.toList=x.cps.toList.drop i:=by
 rw [PyProof.Rows.slice_from_eq (b:=(x.length:Int)) (by lia) (by lia) rfl];simp only [Qa9];rw [Qbz (by rw [Qbn,<-len_signs];lia)]
theorem wX(g:Str)(hs:g.cps=#[]):∀ys:List Str,(Txt.join g ys).cps.toList=(ys.map (·.cps.toList)).flatten:=by
 intro ys;show (Builtin.Str.glued g ys).cps.toList=_;rw [StrLaws.glued_eq_join]
 induction ys with
 | nil=>rfl
 | cons x r q =>
  cases r with
  | nil =>
   show x.cps.toList=_;simp
  | cons y r =>
   show (x++g++Str.join g (y::r)).cps.toList=_;rw [Xr,Xr,q,hs];simp
theorem Zat{ys:List Str}{P:Nat->Prop}(h:∀y∈ys,∃c,y=⟨#[c]⟩/\P c):(ys.map (·.cps.toList)).flatten.length=ys.length/\(∀c∈(ys.map (·.cps.toList)).flatten,P c)/\(ys.map (·.length)).sum=ys.length:=by
 induction ys with
 | nil=>exact ⟨rfl,fun c h=>absurd h (Qa6),rfl⟩
 | cons y r g =>
  obtain ⟨c,rfl,hc⟩:=h _ Qal;obtain ⟨h1,h2,C⟩:=g fun z q=>h z (Qam _ q);refine ⟨?_,?_,?_⟩
  ·rw [Qa7,Qdo,Qaf,h1]
   show 1 + r.length=r.length + 1;lia
  ·intro d hd
   rw [Qa7,Qdo] at hd;rcases Qbk.mp hd with z | z
   ·have:d=c:=by simpa using z
    rw [this];exact hc
   ·exact h2 d z
  ·rw [Qa7,List.sum_cons,C]
   show 1 + r.length=r.length + 1;lia
def YB:List Str:=["not","neg","twice","low","and","or","odd","add","sub","pick","same","under","beneath","sign","nought","both","either","so","never","yes"]
theorem Ya(y:Str):∀ys:List Str,inV (.str y) (ys.map V.str)=decide (y∈ys)
 | []=>rfl
 | z::r=>by
  have e:inV (.str y) ((z::r).map V.str)=((z == y) || inV (.str y) (r.map V.str)):=rfl;rw [e,Ya y r]
  by_cases h:z=y
  ·rw [h,Qb0,Bool.true_or]
   exact (Qaj Qal).symm
  ·rw [Qcd.mpr h,Bool.false_or]
   by_cases m:y∈r
   ·rw [Qaj m,Qaj (Qam _ m)]
   ·rw [Qak m,Qak (fun z=>(Qas.mp z).elim (fun q=>h q.symm) m)]
theorem Zau(ys:List Str):(ys.map V.str).all XX=true:=by
 rw [List.all_map];exact Qdg.mpr fun _ _=>rfl
theorem jz{c:TT}{σ:St}(q:St->Hp->Prop)(μ:St->Hp->Nat)(D:q σ H)
  (hs:∀σ H,q σ H->c σ H fun b H1=>if b=true then ∃N:St->Hp->Prop,(∀g H',N g H'->∃C,C < μ σ H/\C=μ g H'/\q g H')/\Z { M with nx:=N,ct:=N,bk:=M.nx } σ H1 else M.nx σ H1):gJ c Z M σ H:=by
 refine ⟨fun m σ H=>m=μ σ H/\q σ H,⟨_,rfl,D⟩,?_⟩;rintro m σ H ⟨rfl,p⟩;exact hs σ H p
def Zav(ys:List Str)(v:V):Prop:=(∃y∈ys,v=.str y)\/∃z:Int,v=.int z/\0<=z/\z < 1000
def sumT:List (Str × Nat):=[("not",1),("neg",1),("twice",1),("low",1),("and",2),("or",2),("odd",2),("add",2),("sub",2),("pick",3)]
def Ji:List Str:=sumT.map (·.1)
def Yk(y:Str):Nat:=((sumT.find? fun p=>decide (p.1=y)).map (·.2)).getD 0
def partsV:V->Nat
 | .str y=>Yk y
 | _=>0
def Zfh(ys:List Str)(v:V):Prop:=(∃y,v=.str y/\y∈Ji)\/Zav ys v
def T1:List (Str × Int):=[("not",1),("neg",1),("twice",1),("low",1),("and",2),("or",2),("odd",2),("add",2),("sub",2),("pick",3)]
def T2:List (Str × Int):=[("same",2),("under",2),("beneath",2),("sign",1),("nought",1)]
def T3:List (Str × Int):=[("both",2),("either",2),("so",2),("never",1),("yes",0)]
def Yf:List Str:=["same","under","beneath","sign","nought","both","either","so","never","yes"]
def Gb:List (Str × Int)->Key->Int
 | [],_=>0
 | p::r,k=>if (Sum.inr p.1:Key)=k then p.2 else Gb r k
theorem kget(l:List (Str × Int))(k:Key):(YX (kvsOf l) k).getD (.int 0)=.int (Gb l k):=by
 induction l with
 | nil=>rfl
 | cons p r g =>
  unfold Gb
  by_cases h:(Sum.inr p.1:Key)=k
  ·have e:YX (kvsOf (p::r)) k=some (.int p.2):=YF (p:=((Sum.inr p.1:Key),V.int p.2)) h
   rw [e,Qa4 h]
   rfl
  ·have e:YX (kvsOf (p::r)) k=YX (kvsOf r) k:=YG (p:=((Sum.inr p.1:Key),V.int p.2)) h
   rw [e,g,Qax h]
theorem x5{l:List (Str × Int)}{y:Str}(h:y∉l.map (·.1)):Gb l (.inr y)=0:=by
 induction l with
 | nil=>rfl
 | cons p r g =>
  unfold Gb;rw [Qa7] at h;rw [Qax (fun z=>h (by rw [<-Sum.inr.inj z];exact Qal)),g (fun z=>h (Qam _ z))]
def X7(k:Key):Int:=Gb T1 k + Gb T2 k + Gb T3 k
def keyOf:V->Key
 | .int i=>.inl i
 | .str y=>.inr y
 | _=>.inl 0
def strV:V->Str
 | .str y=>y
 | _ => ""
def Zjj(ys:List Str)(w:V):Prop:=Zfh ys w\/∃y,w=.str y/\y∈Yf
theorem W0:∀y∈Yf,y∈YB:=by decide +kernel
def WB(ys:List Str):Bool->V->Prop
 | true,w=>∃y,w=.str y/\y∈Yf
 | false,w=>Zfh ys w
theorem WB.cw{ys:List Str}{b:Bool}{w:V}(h:WB ys b w):Zjj ys w:=by
 cases b with
 | true=>exact .inr h
 | false=>exact .inl h
def xZ(w:V):Nat:=(Gb T1 (keyOf w) + Gb T2 (keyOf w)).toNat
def j4(w:V):Nat:=(Gb T3 (keyOf w)).toNat
def nextK(w:V):List Bool:=List.replicate (xZ w) false++List.replicate (j4 w) true
inductive Zhi(ys:List Str):List Bool->List V->List Bool->Prop
 | nil {ls:List Bool}:Zhi ys ls [] ls
 | cons {ls e:List Bool} {b:Bool} {w:V} {r:List V}:WB ys b w->Zhi ys (ls++nextK w) r e->Zhi ys (ls++[b]) (w::r) e
theorem Zhi.words{ys:List Str}{a b:List Bool}{u:List V}(h:Zhi ys a u b):∀w∈u,Zjj ys w:=by
 induction h with
 | nil=>exact fun _ h=>nomatch h
 | cons hw _ g =>
  intro x hx;rcases Qas.mp hx with rfl | hx
  ·exact hw.cw
  ·exact g x hx
theorem vo{l:List (Str × Int)}(h:∀p∈l,0<=p.2/\p.2<=3)(k:Key):0<=Gb l k/\Gb l k<=3:=by
 induction l with
 | nil=>exact ⟨Int.le_refl _,(by decide:(0:Int)<=3)⟩
 | cons p r C =>
  unfold Gb
  split
  ·exact h p Qal
  ·exact C fun q g=>h q (Qam _ g)
theorem T1_bd(k:Key):0<=Gb T1 k/\Gb T1 k<=3:=vo (by decide +kernel) k
theorem T2_bd(k:Key):0<=Gb T2 k/\Gb T2 k<=3:=vo (by decide +kernel) k
theorem T3_bd(k:Key):0<=Gb T3 k/\Gb T3 k<=3:=vo (by decide +kernel) k
def npw(w:V):Nat:=(X7 (keyOf w)).toNat
theorem x6(k:Key):0<=X7 k/\X7 k<=9:=by
 have h1:=T1_bd k;have h2:=T2_bd k;have g:=T3_bd k;unfold X7;lia
theorem Zhj(h:i < P.length):(P.drop i).reverse=(P.drop (i + 1)).reverse++[P[i]]:=by
 rw [Qcw h,Qer]
theorem Zaw(l:List V)(y:V):(l++[y])[(l++[y]).length - 1]?=some y:=by
 rw [Qaf,show ([y]:List V).length=1 from rfl,Nat.add_sub_cancel,Qau (Qai _),Qdd]
 rfl
theorem rev_at{x:V}(h:P.reverse[i]?=some x):i < P.length/\P[P.length - 1 - i]?=some x:=by
 have hi:i < P.length:=by
  have:=(Qac.mp h).1;rw [Qd6] at this;exact this
 refine ⟨hi,?_⟩;rw [List.getElem?_reverse hi] at h;exact h
def LsAt(ys:List Str)(q:List V)(ls:Nat->List Bool):Prop:=ls q.length=[]/\∀i x,q[i]?=some x->∃g b,ls i=g++[b]/\WB ys b x/\ls (i + 1)=g++nextK x
theorem Zhi.at{ys:List Str}{a e:List Bool}{g:List V}(h:Zhi ys a g e)(he:e=[]):∃ls,LsAt ys g ls/\ls 0=a:=by
 induction h with
 | @nil ls =>
  subst he;exact ⟨fun _=>[],⟨rfl,fun i x hx=>by simp at hx⟩,rfl⟩
 | @cons q e b w r hw _ D =>
  obtain ⟨ls,⟨h1,h2⟩,C⟩:=D he;refine ⟨fun i=>match i with | 0=>q++[b] | i + 1=>ls i,⟨h1,fun i x hx=>?_⟩,rfl⟩;cases i with
  | zero =>
   have:w=x:=by simpa using hx
   subst this;exact ⟨q,b,rfl,hw,C⟩
  | succ i=>exact h2 i x (by simpa using hx)
def Zjx (y:Str) (a:Int):Int:=if y = "not" then Builtin.bitNot a else if y = "neg" then -a else if y = "twice" then a + a else Builtin.bitAnd a (-a)
def Zjy (y:Str) (a b:Int):Int:=if y = "and" then Builtin.bitAnd a b else if y = "or" then Builtin.bitOr a b else if y = "odd" then Builtin.bitXor a b else if y = "add" then a + b else a - b
def wwv(ρ:Str->Int):V->List Int->Int
 | .int z,_=>z
 | .str y,[]=>ρ y
 | .str y,[a]=>Zjx y a
 | .str y,[a,b]=>Zjy y a b
 | .str _,a::b::c::_=>Builtin.bitOr (Builtin.bitAnd a b) (Builtin.bitAnd (Builtin.bitNot a) c)
 | _,_=>0
def sgn(m a:Int):Int:=if a * 2>=m then a - m else a
def Zhk(m:Int)(y:Str)(xs:List Int):Bool :=
 if y = "nought" then decide (xs.getD 0 0=0) else if y = "sign" then decide (sgn m (xs.getD 0 0) < 0) else if y = "same" then decide (xs.getD 0 0=xs.getD 1 0)
 else if y = "under" then decide (xs.getD 0 0 < xs.getD 1 0) else decide (sgn m (xs.getD 0 0) < sgn m (xs.getD 1 0))
def Zfi(y:Str)(bs:List Bool):Bool :=
 if y = "yes" then true else if y = "never" then !(bs.getD 0 false) else if y = "both" then bs.getD 0 false && bs.getD 1 false else if y = "either" then bs.getD 0 false || bs.getD 1 false else bs.getD 1 false || !(bs.getD 0 false)
theorem Zjk(m n:Nat):(m &&& n) / 2=m / 2 &&& n / 2/\(m &&& n) % 2=m % 2 * (n % 2):=by
 refine ⟨Nat.and_div_two_pow (n:=1),?_⟩;have h:=Nat.and_mod_two_pow (a:=m) (b:=n) (n:=1);rw [Nat.pow_one] at h;rw [h];rcases Qcq m with e | e <;> rcases Qcq n with f | f <;> rw [e,f] <;> rfl
theorem n_or(m n:Nat):(m ||| n) / 2=m / 2 ||| n / 2/\(m ||| n) % 2=m % 2 + n % 2 - m % 2 * (n % 2):=by
 refine ⟨Nat.or_div_two_pow (n:=1),?_⟩;have h:=Nat.or_mod_two_pow (a:=m) (b:=n) (n:=1);rw [Nat.pow_one] at h;rw [h];rcases Qcq m with e | e <;> rcases Qcq n with f | f <;> rw [e,f] <;> rfl
theorem Zhl(m n:Nat):Builtin.bitAnd m n=((m &&& n:Nat):Int):=by
 unfold Builtin.bitAnd;rw [Qaj (Qcr m),Qaj (Qcr n)]
 rfl
theorem ky(n:Nat):¬(0:Int)<=-(n:Int) - 1:=by lia
theorem kz(n:Nat):(Builtin.bitNot (-(n:Int) - 1)).toNat=n:=by
 unfold Builtin.bitNot;lia
theorem Zjl(m n:Nat):Builtin.bitAnd m (-(n:Int) - 1)=(m:Int) - ((m &&& n:Nat):Int):=by
 unfold Builtin.bitAnd;rw [Qaj (Qcr m),Qak (ky n)]
 try dsimp only
 rw [kz]
 rfl
theorem Zhm(m n:Nat):Builtin.bitAnd (-(m:Int) - 1) n=(n:Int) - ((n &&& m:Nat):Int):=by
 unfold Builtin.bitAnd;rw [Qaj (Qcr n),Qak (ky m)]
 try dsimp only
 rw [kz]
 rfl
theorem Zjm(m n:Nat):Builtin.bitAnd (-(m:Int) - 1) (-(n:Int) - 1)=-((m ||| n:Nat):Int) - 1:=by
 unfold Builtin.bitAnd;rw [Qak (ky n),Qak (ky m)]
 try dsimp only
 rw [kz,kz]
 rfl
theorem j5(a:Int):(∃m:Nat,a=m)\/∃m:Nat,a=-(m:Int) - 1:=by
 by_cases h:0<=a
 ·exact .inl ⟨a.toNat,by lia⟩
 ·exact .inr ⟨(-a - 1).toNat,by lia⟩
theorem vp(a:Int):a % 2=0\/a % 2=1:=by lia
theorem sub2(m A:Int)(h:A % 2=0\/m % 2=1):(m - A) / 2=m / 2 - A / 2/\(m - A) % 2=m % 2 - A % 2:=by lia
theorem cast2(m:Nat):(m:Int) / 2=((m / 2:Nat):Int)/\(m:Int) % 2=((m % 2:Nat):Int):=⟨rfl,rfl⟩
theorem Zcl(x:Int):(-x - 1) / 2=-(x / 2) - 1/\(-x - 1) % 2=1 - x % 2:=by lia
theorem Zjn(m n:Nat):(((m &&& n:Nat):Int)) / 2=((m / 2 &&& n / 2:Nat):Int)/\(((m &&& n:Nat):Int)) % 2=(m:Int) % 2 * ((n:Int) % 2):=by
 rw [(cast2 _).1,(cast2 _).2,(Zjk m n).1,(Zjk m n).2,Int.natCast_mul];exact ⟨rfl,rfl⟩
theorem take2(m n:Nat):((m:Int) - ((m &&& n:Nat):Int)) / 2=((m / 2:Nat):Int) - ((m / 2 &&& n / 2:Nat):Int)/\((m:Int) - ((m &&& n:Nat):Int)) % 2=(m:Int) % 2 * (1 - (n:Int) % 2):=by
 have l:=Zjn m n;have h:((m &&& n:Nat):Int) % 2=0\/(m:Int) % 2=1:=by
  rcases vp (m:Int) with e | e
  ·rw [l.2,e,Int.zero_mul]
   exact .inl rfl
  ·exact .inr e
 have z:=sub2 _ _ h;rw [z.1,z.2,l.1,l.2];refine ⟨rfl,?_⟩;rcases vp (m:Int) with e | e <;> rcases vp (n:Int) with f | f <;> rw [e,f] <;> rfl
theorem Zjo(a b:Int):Builtin.bitAnd a b / 2=Builtin.bitAnd (a / 2) (b / 2)/\Builtin.bitAnd a b % 2=a % 2 * (b % 2):=by
 rcases j5 a with ⟨m,rfl⟩ | ⟨m,rfl⟩ <;> rcases j5 b with ⟨n,rfl⟩ | ⟨n,rfl⟩
 ·rw [(cast2 m).1,(cast2 n).1,Zhl,Zhl]
  exact Zjn m n
 ·rw [(cast2 m).1,(Zcl _).1,(Zcl _).2,(cast2 n).1,Zjl,Zjl]
  exact take2 m n
 ·rw [(cast2 n).1,(Zcl _).1,(Zcl _).2,(cast2 m).1,Zhm,Zhm,Qd4]
  exact take2 n m
 ·rw [(Zcl (m:Int)).1,(Zcl (m:Int)).2,(Zcl (n:Int)).1,(Zcl (n:Int)).2,(cast2 m).1,(cast2 n).1,Zjm,Zjm,(Zcl _).1,(Zcl _).2,(cast2 _).1,(cast2 _).2,(n_or m n).1,(n_or m n).2]
  refine ⟨rfl,?_⟩;rw [(cast2 m).2,(cast2 n).2];rcases Qcq m with e | e <;> rcases Qcq n with f | f <;> rw [e,f] <;> rfl
theorem Zfj(a:Int):Builtin.bitNot a / 2=Builtin.bitNot (a / 2)/\Builtin.bitNot a % 2=1 - a % 2:=by
 unfold Builtin.bitNot;lia
theorem or2(a b:Int):Builtin.bitOr a b / 2=Builtin.bitOr (a / 2) (b / 2)/\Builtin.bitOr a b % 2=1 - (1 - a % 2) * (1 - b % 2):=by
 unfold Builtin.bitOr;have h:=Zjo (Builtin.bitNot a) (Builtin.bitNot b);rw [(Zfj a).1,(Zfj b).1,(Zfj a).2,(Zfj b).2] at h;rw [(Zfj _).1,(Zfj _).2,h.1,h.2];exact ⟨rfl,rfl⟩
theorem xor2(a b:Int):Builtin.bitXor a b / 2=Builtin.bitXor (a / 2) (b / 2)/\Builtin.bitXor a b % 2=(a % 2 + b % 2) % 2:=by
 unfold Builtin.bitXor;have h:=Zjo a b;have g:=or2 a b;have q:Builtin.bitAnd a b % 2=0\/Builtin.bitOr a b % 2=1:=by
  rw [h.2,g.2];rcases vp a with e | e <;> rcases vp b with f | f <;> rw [e,f] <;> decide
 have z:=sub2 _ _ q;rw [z.1,z.2,h.1,h.2,g.1,g.2];refine ⟨rfl,?_⟩;rcases vp a with e | e <;> rcases vp b with f | f <;> rw [e,f] <;> rfl
theorem yp(w:Nat)(n:Int):vk (w + 1) n=n % 2::vk w (n / 2):=by
 unfold vk;rw [List.range_succ_eq_map,Qa7,Qbj,Qdw,Qct];congr 1;refine Qcn fun i _=>?_;show n / 2 ^ (i + 1) % 2=n / 2 / 2 ^ i % 2;rw [Qdl,Qd4,Qfb (by decide:(0:Int)<=2)]
theorem Zdo(w:Nat)(n:Int):vk w (n % 2 ^ w)=vk w n:=by
 induction w generalizing n with
 | zero=>rfl
 | succ w g =>
  rw [yp,yp,<-g (n / 2)];have e1:n % 2 ^ (w + 1) % 2=n % 2:=by
   rw [Int.emod_emod_of_dvd];exact ⟨2 ^ w,by rw [Qdl,Qd4]⟩
  have e2:n % 2 ^ (w + 1) / 2=n / 2 % 2 ^ w:=by
   have hp:(0:Int) < 2 ^ w:=Qen (by decide);have h1:=Qde n 2;have h2:=Qde (n / 2) (2 ^ w);have C:=Qbi (n / 2) (Qgl hp);have q:=Qbb (n / 2) hp;have e:n % 2 ^ (w + 1)=n % 2 + 2 * (n / 2 % 2 ^ w):=by
    have:n=n % 2 + 2 * (n / 2 % 2 ^ w) + 2 ^ (w + 1) * (n / 2 / 2 ^ w):=by
     rw [Qdl];have:(2:Int) ^ w * 2 * (n / 2 / 2 ^ w)=2 * (2 ^ w * (n / 2 / 2 ^ w)):=by
      rw [Qd4 ((2:Int) ^ w) 2,Qfc]
     lia
    conv=>lhs;rw [this]
    rw [Qes];refine Qb7 (by lia) ?_;rw [Qdl];lia
   rw [e];lia
  rw [e1,e2]
theorem bits_getD(w:Nat)(n:Int)(i:Nat)(h:i < w):(vk w n).getD i 0=n / 2 ^ i % 2:=by
 unfold vk;rw [Qag,Qah,Qco h]
 rfl
theorem vq{j:Nat}(h:i<=j):(2:Int) ^ i<=2 ^ j:=by
 obtain ⟨d,rfl⟩:∃d,j=i + d:=⟨j - i,by lia⟩;clear h
 induction d with
 | zero=>exact Int.le_refl _
 | succ d g =>
  have:=Qen (n:=2) (m:=i + d) (by decide);rw [show i + (d + 1)=i + d + 1 from rfl,Qdl];lia
def bt(x:Int)(k:Nat):Int:=x / 2 ^ k % 2
theorem Xg(x:Int)(k:Nat):bt x (k + 1)=bt (x / 2) k:=by
 unfold bt;rw [Qdl,Qd4,Qfb (by decide:(0:Int)<=2)]
theorem Yp(x:Int)(k:Nat):bt x k=0\/bt x k=1:=by
 unfold bt;lia
theorem YR(k:Nat):∀a b:Int,bt (Builtin.bitAnd a b) k=bt a k * bt b k:=by
 induction k with
 | zero =>
  intro a b;unfold bt;rw [Qdw,Qct,Qct,Qct,(Zjo a b).2]
 | succ k g =>
  intro a b;rw [Xg,Xg,Xg,(Zjo a b).1,g]
theorem Gd(k:Nat):∀a b:Int,bt (Builtin.bitOr a b) k=1 - (1 - bt a k) * (1 - bt b k):=by
 induction k with
 | zero =>
  intro a b;unfold bt;rw [Qdw,Qct,Qct,Qct,(or2 a b).2]
 | succ k g =>
  intro a b;rw [Xg,Xg,Xg,(or2 a b).1,g]
theorem Xx(k:Nat):∀a b:Int,bt (Builtin.bitXor a b) k=(bt a k + bt b k) % 2:=by
 induction k with
 | zero =>
  intro a b;unfold bt;rw [Qdw,Qct,Qct,Qct,(xor2 a b).2]
 | succ k g =>
  intro a b;rw [Xg,Xg,Xg,(xor2 a b).1,g]
theorem Xy(k:Nat):∀a:Int,bt (Builtin.bitNot a) k=1 - bt a k:=by
 induction k with
 | zero =>
  intro a;unfold bt;rw [Qdw,Qct,Qct,(Zfj a).2]
 | succ k g =>
  intro a;rw [Xg,Xg,(Zfj a).1,g]
theorem x8(k:Nat):bt 0 k=0:=by
 unfold bt;rw [Qgy]
 rfl
theorem Zax(k:Nat):bt (-1) k=1:=by
 induction k with
 | zero=>rfl
 | succ k g=>rw [Xg];exact g
theorem Xl(x:Int)(w k:Nat)(h:k < w):bt (x % 2 ^ w) k=bt x k:=by
 have e:=Zdo w x;have h1:=bits_getD w (x % 2 ^ w) k h;have h2:=bits_getD w x k h;rw [e,h2] at h1;exact h1.symm
def lo(x:Int)(k:Nat):Int:=x % 2 ^ k
theorem zc(x:Int)(k:Nat):0<=lo x k/\lo x k < 2 ^ k:=⟨Qbi _ (Qgl (Qen (by decide))),Qbb _ (Qen (by decide))⟩
theorem x9(x:Int)(k:Nat):lo x (k + 1)=lo x k + 2 ^ k * bt x k:=by
 unfold lo bt;have hp:(0:Int) < 2 ^ k:=Qen (by decide);have e1:=Qde x (2 ^ k);have e2:=Qde (x / 2 ^ k) 2;have g:=Qbi x (Qgl hp);have b1:=Qbb x hp;have e3:x=(x % 2 ^ k + 2 ^ k * (x / 2 ^ k % 2)) + 2 ^ (k + 1) * (x / 2 ^ k / 2):=by
  rw [Qdl,Qfc];have q:(2:Int) ^ k * (x / 2 ^ k)=2 ^ k * (x / 2 ^ k % 2) + 2 ^ k * (2 * (x / 2 ^ k / 2)):=by
   rw [<-Qgg,e2]
  lia
 conv=>lhs;rw [e3]
 rw [Qes];have hb:x / 2 ^ k % 2=0\/x / 2 ^ k % 2=1:=by lia
 refine Qb7 ?_ ?_
 ·rcases hb with h | h <;> rw [h] <;> lia
 ·rw [Qdl]
  rcases hb with h | h <;> rw [h] <;> lia
theorem Zhn(x:Int)(k:Nat):x=lo x k + 2 ^ k * (x / 2 ^ k):=(Qde x (2 ^ k)).symm
theorem bt_sum{x y:Int}{k:Nat}{c:Int}(hc:c=0\/c=1)(e:lo z k + 2 ^ k * c=lo x k + lo y k)(g:z=x + y):bt z k=(bt x k + bt y k + c) % 2:=by
 have hp:(0:Int) < 2 ^ k:=Qen (by decide);have e1:=Zhn x k;have e2:=Zhn y k;have e3:=Zhn z k;have h:(2:Int) ^ k * (z / 2 ^ k)=2 ^ k * (x / 2 ^ k + y / 2 ^ k + c):=by
  rw [Qgg,Qgg];lia
 have h2:=Int.eq_of_mul_eq_mul_left (Qgl hp) h;unfold bt;rw [h2];lia
def cyA(x y:Int)(k:Nat):Int:=(lo x k + lo y k) / 2 ^ k
theorem Zay(x y:Int)(k:Nat):lo (x + y) k + 2 ^ k * cyA x y k=lo x k + lo y k:=by
 unfold cyA;have e:lo (x + y) k=(lo x k + lo y k) % 2 ^ k:=by
  unfold lo;rw [<-Int.emod_add_emod,<-Int.add_emod_emod]
 rw [e];exact Qde _ _
theorem Zaz(x y:Int)(k:Nat):cyA x y k=0\/cyA x y k=1:=by
 have hp:(0:Int) < 2 ^ k:=Qen (by decide);have a:=zc x k;have b:=zc y k;have g:0<=cyA x y k:=Int.ediv_nonneg (by lia) (Int.le_of_lt hp);have q:cyA x y k < 2:=Int.ediv_lt_of_lt_mul hp (by lia);lia
theorem Zfk(x y:Int)(k:Nat):bt (x + y) k=(bt x k + bt y k + cyA x y k) % 2:=bt_sum (Zaz x y k) (Zay x y k) rfl
theorem kA(x y:Int):cyA x y 0=0:=by
 unfold cyA lo;rw [Qdw,Qgm,Qgm]
 rfl
theorem kB(x y:Int)(k:Nat):cyA x y (k + 1)=(bt x k + bt y k + cyA x y k) / 2:=by
 have hp:(0:Int) < 2 ^ k:=Qen (by decide);have e1:=x9 x k;have e2:=x9 y k;have e3:=Zay x y k;have b:=zc (x + y) k;have e:lo x (k + 1) + lo y (k + 1)=lo (x + y) k + 2 ^ k * (bt x k + bt y k + cyA x y k):=by
  rw [Qgg,Qgg];lia
 unfold cyA;rw [e,Qdl,<-Qfb (Int.le_of_lt hp),Qfq _ _ (Qgl hp),Qfh b.1 b.2,Qgn]
 rfl
def brA(x y:Int)(k:Nat):Int:=if lo x k < lo y k then 1 else 0
theorem kD(x y:Int)(k:Nat):brA x y k=cyA (x - y) y k:=by
 have e:=Zay (x - y) y k;rw [Int.sub_add_cancel] at e;have hp:(0:Int) < 2 ^ k:=Qen (by decide);have b:=zc (x - y) k;unfold brA;rcases Zaz (x - y) y k with h | h <;> rw [h] at e ⊢
 ·rw [Qax (by lia)]
 ·rw [Qa4 (by lia)]
theorem zM(x y:Int)(k:Nat):brA x y k=0\/brA x y k=1:=by
 unfold brA
 split
 ·exact .inr rfl
 ·exact .inl rfl
theorem Za0(x y:Int)(k:Nat):bt (x - y) k=(bt x k + bt y k + brA x y k) % 2:=by
 have h:=Zfk (x - y) y k;rw [Int.sub_add_cancel,<-kD] at h;have a:=Yp (x - y) k;have b:=Yp y k;have c:=zM x y k;rw [h];lia
theorem kG(x y:Int):brA x y 0=0:=by
 rw [kD,kA]
theorem kH(x y:Int)(k:Nat):brA x y (k + 1)=1 - (1 - (1 - bt x k) * bt y k) * (1 - brA x y k * (1 - (bt x k + bt y k) % 2)):=by
 rw [kD,kB,<-kD,Za0];rcases Yp x k with a | a <;> rcases Yp y k with b | b <;> rcases zM x y k with c | c <;> rw [a,b,c] <;> rfl
def nzA(x:Int)(k:Nat):Int:=brA 0 x k
theorem Za1(x:Int)(k:Nat):nzA x k=0\/nzA x k=1:=zM 0 x k
theorem Zdp(x:Int):nzA x 0=0:=kG 0 x
theorem Zdq(x:Int)(k:Nat):nzA x (k + 1)=1 - (1 - bt x k) * (1 - nzA x k):=by
 unfold nzA;rw [kH,x8];rcases Yp x k with a | a <;> rcases zM 0 x k with c | c <;> rw [a,c] <;> rfl
theorem Zfl(x:Int)(k:Nat):bt (-x) k=(bt x k + nzA x k) % 2:=by
 have h:=Za0 0 x k;rw [Int.zero_sub,x8,Qgn] at h;exact h
theorem bt_low(x:Int)(k:Nat):bt (Builtin.bitAnd x (-x)) k=bt x k * (1 - nzA x k):=by
 rw [YR,Zfl];rcases Yp x k with a | a <;> rcases Za1 x k with c | c <;> rw [a,c] <;> rfl
def tw(x:Int):Nat->Int
 | 0=>0
 | k + 1=>bt x k
theorem tw_01(x:Int):∀k,tw x k=0\/tw x k=1
 | 0=>.inl rfl
 | k + 1=>Yp x k
theorem Zdr(x:Int):∀k,bt (x + x) k=tw x k
 | 0=>by
  unfold bt;rw [Qdw,Qct];show (x + x) % 2=0;lia
 | k + 1=>by
  rw [Xg,show (x + x) / 2=x by lia]
  rfl
def hld(y:Str)(is:List Int)(k:Nat):Int :=
 if y = "twice" then tw (is.getD 0 0) k else if y = "neg" \/ y = "low" then nzA (is.getD 0 0) k else if y = "add" then cyA (is.getD 0 0) (is.getD 1 0) k else brA (is.getD 0 0) (is.getD 1 0) k
def qz:List Str:=["neg","twice","low","add","sub"]
def once(y:Str)(bs:List Int):Int :=
 if y = "not" then 1 - bs.getD 0 0 else if y = "and" then bs.getD 0 0 * bs.getD 1 0 else if y = "or" then 1 - (1 - bs.getD 0 0) * (1 - bs.getD 1 0) else if y = "odd" then (bs.getD 0 0 + bs.getD 1 0) % 2
 else 1 - (1 - bs.getD 0 0 * bs.getD 1 0) * (1 - (1 - bs.getD 0 0) * bs.getD 2 0)
def ans1(y:Str)(bs:List Int)(h:Int):Int :=
 if y = "twice" then h else if y = "neg" then (bs.getD 0 0 + h) % 2 else if y = "low" then bs.getD 0 0 * (1 - h) else (bs.getD 0 0 + bs.getD 1 0 + h) % 2
theorem Xz(is:List Int)(k i:Nat):(is.map fun x=>bt x k).getD i 0=bt (is.getD i 0) k:=by
 rw [Qag,Qag,Qah];cases is[i]? with
 | none=>exact (x8 k).symm
 | some x=>rfl
theorem Za2:∀y∈qz,y∈Ji/\Yk y=(if y = "add" \/ y = "sub" then 2 else 1):=by decide +kernel
theorem zN:∀y∈Ji,y∉qz->(y = "not" /\ Yk y=1)\/(y = "and" /\ Yk y=2)\/(y = "or" /\ Yk y=2)\/(y = "odd" /\ Yk y=2)\/(y = "pick" /\ Yk y=3):=by decide +kernel
theorem ans_ok(ρ:Str->Int){y:Str}(g:y∈qz){is:List Int}(hl:is.length=Yk y)(k:Nat):ans1 y (is.map fun x=>bt x k) (hld y is k)=bt (wwv ρ (.str y) is) k:=by
 rw [(Za2 y g).2] at hl;unfold ans1 hld;rw [Xz,Xz];unfold qz at g;simp only [Qas,Qa6,Qc1] at g;rcases g with rfl | rfl | rfl | rfl | rfl
 ·rw [Qax (by decide +kernel)] at hl
  match is,hl with
  | [a],_=>exact (Zfl a k).symm
 ·rw [Qax (by decide +kernel)] at hl
  match is,hl with
  | [a],_=>exact (Zdr a k).symm
 ·rw [Qax (by decide +kernel)] at hl
  match is,hl with
  | [a],_=>exact (bt_low a k).symm
 ·rw [Qa4 (by decide +kernel)] at hl
  match is,hl with
  | [a,b],_=>exact (Zfk a b k).symm
 ·rw [Qa4 (by decide +kernel)] at hl
  match is,hl with
  | [a,b],_=>exact (Za0 a b k).symm
theorem Zho(ρ:Str->Int){y:Str}(g:y∈Ji)(hr:y∉qz){is:List Int}(hl:is.length=Yk y)(k:Nat):once y (is.map fun x=>bt x k)=bt (wwv ρ (.str y) is) k:=by
 unfold once;rw [Xz,Xz,Xz];rcases zN y g hr with ⟨rfl,e⟩ | ⟨rfl,e⟩ | ⟨rfl,e⟩ | ⟨rfl,e⟩ | ⟨rfl,e⟩ <;> rw [e] at hl
 ·match is,hl with
  | [a],_=>exact (Xy k a).symm
 ·match is,hl with
  | [a,b],_=>exact (YR k a b).symm
 ·match is,hl with
  | [a,b],_=>exact (Gd k a b).symm
 ·match is,hl with
  | [a,b],_=>exact (Xx k a b).symm
 ·match is,hl with
  | [a,b,c],_ =>
   show 1 - (1 - bt a k * bt b k) * (1 - (1 - bt a k) * bt c k)=bt (Builtin.bitOr (Builtin.bitAnd a b) (Builtin.bitAnd (Builtin.bitNot a) c)) k;rw [Gd,YR,YR,Xy]
def GL:List V->Nat
 | []=>0
 | w::r=>GL r - npw w + 1
def YS:List V->Prop
 | []=>True
 | w::r=>npw w<=GL r/\YS r
def vt:V->Bool
 | .str y=>decide (y∈qz)
 | _=>false
def zd(ys:List Str)(B:Nat)(w:V):Prop:=(∃y,w=.str y/\y∈Ji/\y∉ys/\npw w=Yk y)\/(∃y,w=.str y/\y∈ys/\y∉qz/\npw w=0)\/∃z:Int,w=.int z/\0<=z/\z < 2 ^ B/\npw w=0
theorem Zfm{B k:Nat}(g:0<=z)(h:z < 2 ^ B)(hk:B<=k):bt z k=0:=by
 have hp:(2:Int) ^ B<=2 ^ k:=vq hk;unfold bt;rw [Qfh g (by lia)]
 rfl
def Zjp(a b h:Int):Int:=Builtin.bitOr (Builtin.bitAnd (Builtin.bitNot a) b) (Builtin.bitAnd h (Builtin.bitNot (Builtin.bitXor a b)))
def allR:List Str:=["neg","twice","low","add","sub","same","under","beneath","nought"]
def Zhp:List Str:=["add","sub","same","under","beneath"]
def ktI(y:Str)(is:List Int)(h:Int):Int :=
 if y = "twice" then is.getD 0 0 else if y = "neg" \/ y = "low" \/ y = "nought" then Builtin.bitOr (is.getD 0 0) h else if y = "same" then Builtin.bitOr (Builtin.bitXor (is.getD 0 0) (is.getD 1 0)) h
 else if y = "add" then Builtin.bitOr (Builtin.bitAnd (is.getD 0 0) (is.getD 1 0)) (Builtin.bitAnd h (Builtin.bitOr (is.getD 0 0) (is.getD 1 0))) else Zjp (is.getD 0 0) (is.getD 1 0) h
def okI(y:Str)(is:List Int)(h n:Int):Int :=
 if y = "add" \/ y = "sub" then Builtin.bitXor (Builtin.bitXor (is.getD 0 0) (is.getD 1 0)) h else if y = "neg" then Builtin.bitXor (is.getD 0 0) h else if y = "twice" then h else if y = "low" then Builtin.bitAnd (is.getD 0 0) (Builtin.bitNot h)
 else if y = "same" \/ y = "nought" then Builtin.bitNot n else if y = "under" then n else Zjp (is.getD 1 0) (is.getD 0 0) h
def oaI(y:Str)(is:List Int):Int :=
 if y = "yes" then -1 else if y = "sign" then is.getD 0 0 else if y = "not" \/ y = "never" then Builtin.bitNot (is.getD 0 0) else if y = "and" \/ y = "both" then Builtin.bitAnd (is.getD 0 0) (is.getD 1 0) else if y = "or" \/ y = "either" then Builtin.bitOr (is.getD 0 0) (is.getD 1 0)
 else if y = "odd" then Builtin.bitXor (is.getD 0 0) (is.getD 1 0) else if y = "so" then Builtin.bitOr (Builtin.bitNot (is.getD 0 0)) (is.getD 1 0) else Builtin.bitOr (Builtin.bitAnd (is.getD 0 0) (is.getD 1 0)) (Builtin.bitAnd (Builtin.bitNot (is.getD 0 0)) (is.getD 2 0))
def Za3 (y:Str):Nat:=if y = "yes" then 0 else if y = "sign" \/ y = "not" \/ y = "never" then 1 else if y = "pick" then 3 else 2
theorem Za4:∀y∈allR,¬y = "twice" -> ¬(y = "neg" \/ y = "low" \/ y = "nought")->y∈Zhp:=by decide +kernel
def Za5:List Str:=["not","and","or","odd","pick","both","either","so","never","yes","sign"]
theorem wY:∀y∈Za5,¬y = "yes" -> ¬y = "sign" -> ¬(y = "not" \/ y = "never")->¬(y = "and" \/ y = "both")->¬(y = "or" \/ y = "either")->¬y = "odd" -> ¬y = "so" -> 3<=Za3 y:=by decide +kernel
theorem xA{m:Nat}{is:List Int}(h:is.length=m)(h2:n<=m):n<=is.length:=by rw [h];exact h2
theorem and_zero(x:Int):Builtin.bitAnd x 0=0:=by
 rcases j5 x with ⟨m,rfl⟩ | ⟨m,rfl⟩
 ·rw [show (0:Int)=((0:Nat):Int) from rfl,Zhl,Nat.and_zero]
 ·rw [show (0:Int)=((0:Nat):Int) from rfl,Zhm,Nat.zero_and]
  rfl
theorem and_1(x:Int):Builtin.bitAnd x 1=x % 2:=by
 obtain ⟨h1,h2⟩:=Zjo x 1;rw [show (1:Int) / 2=0 from rfl,and_zero] at h1;rw [show (1:Int) % 2=1 from rfl,Int.mul_one] at h2;lia
def Wb(ys:List Str)(cols:Str->Int)(pl:Nat)(kp:List Int):List V->List Int × List Int
 | []=>([],[])
 | w::r =>
  let p:=Wb ys cols pl kp r
  match w with
  | .str y =>
   if y∈allR then (okI y (p.1.take (npw w)) (-(kp.getD p.2.length 0)) (ktI y (p.1.take (npw w)) (-(kp.getD p.2.length 0)))::p.1.drop (npw w),p.2++[ktI y (p.1.take (npw w)) (-(kp.getD p.2.length 0))])
   else if y∈ys then (cols y::p.1.drop (npw w),p.2)
   else (oaI y (p.1.take (npw w))::p.1.drop (npw w),p.2)
  | .int z=>(-(bt z pl)::p.1.drop (npw w),p.2)
  | _=>p
def Zhq(kvs:List (Key × V))(ys:List Str)(cols:Str->Int):Prop:=(∀y∈ys,YX kvs (.inr y)=some (.int (cols y)))/\∀y,y∉ys->YX kvs (.inr y)=none
def ze(ys:List Str)(w:V):Prop:=(∃y,w=.str y/\y∈allR/\y∉ys/\1<=npw w/\(y∈Zhp->2<=npw w))\/(∃y,w=.str y/\y∈Za5/\y∉allR/\y∉ys/\npw w=Za3 y)\/(∃y,w=.str y/\y∈ys/\y∉allR/\npw w=0)\/∃z:Int,w=.int z/\0<=z/\npw w=0
theorem j6{ys:List Str}{cols:Str->Int}{pl:Nat}{kp:List Int}:∀q:List V,(∀w∈q,ze ys w)->(Wb ys cols pl kp q).1.length=GL q
 | [],_=>rfl
 | w::r,hw=>by
  have D:=j6 (ys:=ys) (cols:=cols) (pl:=pl) (kp:=kp) r fun w h=>hw w (Qam _ h);have g:∀x:Int,(x::(Wb ys cols pl kp r).1.drop (npw w)).length=GL r - npw w + 1:=fun x=>by rw [Qbc,Qbn,D]
  rcases hw w Qal with ⟨y,rfl,h1,_⟩ | ⟨y,rfl,h1,h2,C,_⟩ | ⟨y,rfl,h1,h2,_⟩ | ⟨z,rfl,_⟩
  ·show (if y∈allR then _ else _:List Int × List Int).1.length=_
   rw [Qa4 h1];exact g _
  ·show (if y∈allR then _ else if y∈ys then _ else _:List Int × List Int).1.length=_
   rw [Qax h2,Qax C];exact g _
  ·show (if y∈allR then _ else if y∈ys then _ else _:List Int × List Int).1.length=_
   rw [Qax h2,Qa4 h1];exact g _
  ·exact g _
theorem yq(ys:List Str)(cols:Str->Int)(pl:Nat)(kp:List Int)(w:V)(r:List V):(Wb ys cols pl kp r).2.length<=(Wb ys cols pl kp (w::r)).2.length:=by
 cases w with
 | str y =>
  show _<=(if y∈allR then _ else if y∈ys then _ else _:List Int × List Int).2.length
  split
  ·rw [Qaf]
   exact Qez _ _
  ·split <;> exact Qai _
 | _=>exact Qai _
theorem yr(ys:List Str)(cols:Str->Int)(pl:Nat)(kp:List Int):∀(g:List V) (j:Nat),(Wb ys cols pl kp (g.drop j)).2.length<=(Wb ys cols pl kp g).2.length
 | [],j=>by rw [List.drop_nil];exact Qai _
 | w::r,0=>Qai _
 | w::r,j + 1=>Qbg (yr ys cols pl kp r j) (yq ys cols pl kp w r)
theorem xB:∀(g:List V) (j:Nat),YS g->YS (g.drop j)
 | [],j,_=>by rw [List.drop_nil];exact trivial
 | w::r,0,h=>h
 | w::r,j + 1,h=>xB r j h.2
theorem Za6:∀g:List V,GL g<=g.length
 | []=>Qai _
 | w::r=>by
  have:=Za6 r;show GL r - npw w + 1<=r.length + 1;lia
theorem qg(z:Int)(ys:List Str):inV (.int z) (ys.map V.str)=false:=by
 cases q:inV (.int z) (ys.map V.str) with
 | false=>rfl
 | true =>
  obtain ⟨x,hx,e⟩:=List.any_eq_true.mp q;obtain ⟨y,_,rfl⟩:=Qa2.mp hx;cases e
theorem kK(ys:List Str)(cols:Str->Int)(pl:Nat)(kp:List Int):∀q:List V,(Wb ys cols pl kp q).2.length<=q.length
 | []=>Qai _
 | w::r=>by
  have g:=kK ys cols pl kp r;cases w with
  | str y =>
   show (if y∈allR then _ else if y∈ys then _ else _:List Int × List Int).2.length<=r.length + 1
   split
   ·rw [Qaf]
    exact Nat.add_le_add_right g 1
   ·split <;> exact Nat.le_succ_of_le g
  | _=>exact Nat.le_succ_of_le g
theorem vv{x:Int}(h:x=0\/x=1)(l:Nat):bt (-x) l=x:=by
 rcases h with rfl | rfl
 ·exact x8 l
 ·exact Zax l
theorem vw:∀y∈Ji,(y∈allR↔y∈qz):=by decide +kernel
def hor(g:List Int):Int:=g.foldl (fun a b=>a * 2 + b) 0
theorem kN(g:List Int)(b:Int):hor (g++[b])=hor g * 2 + b:=by
 unfold hor;rw [Qcy]
 rfl
theorem Zds{b:Int}(h:y[i]?=some b):hor (y.take (i + 1))=hor (y.take i) * 2 + b:=by
 rw [List.take_add_one,h];exact kN _ b
def sm(b:Nat->Int):Nat->Int
 | 0=>0
 | n + 1=>sm b n + b n * 2 ^ n
theorem J7{b c:Nat->Int}:∀{n:Nat},(∀i,i < n->b i=c i)->sm b n=sm c n
 | 0,_=>rfl
 | n + 1,h=>by
  show sm b n + b n * 2 ^ n=sm c n + c n * 2 ^ n;rw [J7 (n:=n) fun i hi=>h i (Qep hi),h n (Qfr n)]
theorem j7{b:Nat->Int}(hb:∀i,b i=0\/b i=1):∀n,0<=sm b n/\sm b n < 2 ^ n
 | 0=>⟨Int.le_refl _,(show (0:Int) < 2 ^ 0 by decide)⟩
 | n + 1=>by
  have g:=j7 hb n;have e:sm b (n + 1)=sm b n + b n * 2 ^ n:=rfl;rw [e,pow_succ'];have hp:=xb n;rcases hb n with z | z <;> rw [z] <;> constructor <;> lia
theorem Za7{b:Nat->Int}(hb:∀i,b i=0\/b i=1)(p:Nat):∀n,p < n->sm b n / 2 ^ p % 2=b p
 | 0,h=>absurd h (Qd3 _)
 | n + 1,h=>by
  have e:sm b (n + 1)=sm b n + b n * 2 ^ n:=rfl;have hp:=xb p;rw [e]
  by_cases g:p < n
  ·obtain ⟨k,rfl⟩:∃k,n=p + (k + 1):=⟨n - p - 1,by lia⟩
   have e2:b (p + (k + 1)) * 2 ^ (p + (k + 1))=2 ^ p * (2 ^ k * b (p + (k + 1)) * 2):=by
    rw [Int.pow_add,pow_succ',Qd4 (b _),Qfc,Qfc,Qfc,Qd4 2 (b _)]
   rw [e2,Qfq _ _ (by lia)];have C:=Za7 hb p (p + (k + 1)) g;generalize 2 ^ k * b (p + (k + 1))=z;lia
  ·have e3:p=n:=by lia
   subst e3;obtain ⟨q,h1⟩:=j7 hb p;rw [Qd4,Qfq _ _ (by lia),Qfh q h1];rcases hb p with z | z <;> rw [z] <;> rfl
theorem Zdt(r:Int)(w:Nat):r / 2 ^ w % 2 * 2 ^ w + r % 2 ^ w=r % 2 ^ (w + 1):=by
 rw [pow_succ'];have hp:=xb w;generalize (2:Int) ^ w=p at *;have g:0<=r % p:=Qbi _ (by lia);have h1:r % p < p:=Qbb _ hp;have e1:r=p * (r / p) + r % p:=(Int.mul_ediv_add_emod r p).symm;generalize r / p=q at *;generalize r % p=t at *;have e2:q=2 * (q / 2) + q % 2:=by lia
 have h2:0<=q % 2:=by lia
 have C:q % 2<=1:=by lia
 generalize q / 2=u at *;generalize q % 2=b at *;subst e2;have hb:b=0\/b=1:=by lia
 have e3:r=b * p + t + p * 2 * u:=by
  rw [e1,Qgg,<-Qfc,Qd4 b p];lia
 rw [e3,Qes];rcases hb with rfl | rfl
 ·rw [Qb7 (by lia) (by lia)]
 ·rw [Qb7 (by lia) (by lia)]
theorem Za8(r:Int):∀w,sm (fun k=>r / 2 ^ k % 2) w=r % 2 ^ w
 | 0=>by
  rw [Qdw,Qgm]
  rfl
 | w + 1=>by
  show sm (fun k=>r / 2 ^ k % 2) w + r / 2 ^ w % 2 * 2 ^ w=_;rw [Za8 r w];have:=Zdt r w;lia
abbrev Ge(l:Nat):V:=.int (l:Int)
def W4(tr:Bool)(v:V):Prop:=(tr=true/\∃x,v=.bl x)\/(tr=false/\∃x,v=.int x)
def JB(H:Hp)(p:Addr)(rs:List (List V)):Prop:=∃as:List V,H p=some (.tup as)/\as.length=rs.length/\∀(i:Nat) (r:List V),rs[i]?=some r->∃a,as[i]?=some (V.ref a)/\H a=some (.tup r)
theorem JB.same{H H':Hp}{p:Addr}{rs:List (List V)}(R:JB H p rs)(e:Yb H H'):JB H' p rs:=by
 obtain ⟨as,h1,h2,C⟩:=R;refine ⟨as,e _ _ h1,h2,fun i r hi=>?_⟩;obtain ⟨a,g,q⟩:=C i r hi;exact ⟨a,g,e _ _ q⟩
def GN(r:List Nat):List V:=r.map Ge
structure M4(H:Hp)(m:Addr)(nm:List Str)(b:Nat)(nx:List (List Nat))(ot:List (List V)):Prop where
 ex:∃pn ps po,H m=some (.tup [.ref pn,.int (b:Int),.ref ps,.ref po])/\H pn=some (.tup (nm.map V.str))/\JB H ps (nx.map GN)/\JB H po ot
theorem M4.same{H H':Hp}{m:Addr}{nm:List Str}{b:Nat}{nx:List (List Nat)}{ot:List (List V)}(M:M4 H m nm b nx ot)(e:Yb H H'):M4 H' m nm b nx ot:=by
 obtain ⟨pn,ps,q,h1,h2,C,g⟩:=M.ex;exact ⟨⟨pn,ps,q,e _ _ h1,e _ _ h2,C.same e,g.same e⟩⟩
structure Wf(nm:List Str)(b:Nat)(nx:List (List Nat))(ot:List (List V))(tr:Bool):Prop where
 n3:nm.length<=3
 b:b < nx.length
 le:nx.length<=1000000
 ol:ot.length=nx.length
 nr:∀r∈nx,r.length=2 ^ nm.length
 nl:∀r∈nx,∀s∈r,s < nx.length
 or:∀r∈ot,r.length=2 ^ nm.length
 ok:∀r∈ot,∀v∈r,W4 tr v
 bit:∀r∈ot,∀v∈r,vB v=some 0\/vB v=some 1
theorem Zjz{A B:Hp->Prop}(h:A H):uA c H fun b H2=>if b=true then A H2 else B H2:=by
 show if true=true then A H else B H;exact WC h
theorem p8(h:n<=3):2 ^ n<=8:=Qf1 (by decide) h
def Prs(H:Hp)(ps:List (Int × Int))(zs:List V):Prop:=zs.length=ps.length/\∀(i:Nat) (p:Int × Int),ps[i]?=some p->∃a,zs[i]?=some (V.ref a)/\H a=some (.tup [.int p.1,.int p.2])
theorem Prs.same{H H':Hp}{ps:List (Int × Int)}{zs:List V}(h:Prs H ps zs)(e:Yb H H'):Prs H' ps zs:=by
 refine ⟨h.1,fun i p hp=>?_⟩;obtain ⟨a,g,q⟩:=h.2 i p hp;exact ⟨a,g,e _ _ q⟩
theorem Prs.app{ps g:List (Int × Int)}(h:Prs H ps P)(h':Prs H g G):Prs H (ps++g) (P++G):=by
 refine ⟨by rw [Qaf,Qaf,h.1,h'.1],fun i p hp=>?_⟩
 by_cases e:i < ps.length
 ·rw [Qaw e] at hp
  rw [Qaw (by rw [h.1];exact e)];exact h.2 i p hp
 ·rw [Qau (by lia)] at hp
  rw [Qau (by rw [h.1];lia),h.1];exact h'.2 _ p hp
theorem Prs.one{x y:Int}(h:H a=some (.tup [.int x,.int y])):Prs H [(x,y)] [.ref a]:=by
 refine ⟨rfl,fun i p hp=>?_⟩;cases i with
 | zero=>cases hp;exact ⟨a,rfl,h⟩
 | succ j=>cases hp
theorem kO(r:List Nat):(GN r).length=r.length:=Qad _
theorem XR{rs:List (List g)}(h:i < rs.length):rs[i]?=some (rs.getD i []):=by
 rw [Qag,Qab h]
 rfl
theorem WM{p:Addr}{rs:List (List V)}(R:JB H p rs)(h:i < rs.length):∃as a,H p=some (HO.tup as)/\atI as (i:Int)=some (V.ref a)/\H a=some (.tup (rs.getD i [])):=by
 obtain ⟨as,h1,h2,C⟩:=R;obtain ⟨a,g,q⟩:=C i _ (XR h);exact ⟨as,a,h1,YI g,q⟩
theorem G7(nx:List (List Nat))(i:Nat):(nx.map GN).getD i []=GN (nx.getD i []):=by
 rw [Qag,Qag,Qah];cases nx[i]? <;> rfl
theorem getD_mem{rs:List (List g)}(h:i < rs.length):rs.getD i []∈rs:=Qao (XR h)
def pk(p:Int × Int):List Key:=[.inl p.1,.inl p.2]
theorem pk_inj{p q:Int × Int}(h:pk p=pk q):p=q:=by
 obtain ⟨a,b⟩:=p;obtain ⟨c,d⟩:=q;simp only [pk,List.cons.injEq,Sum.inl.injEq,and_true] at h;rw [h.1,h.2]
def dk(ps:List (Int × Int)):List (List Key × V):=ps.foldl (fun acc p=>putK acc (pk p) (.bl true)) []
theorem vx(ps:List (Int × Int))(p:Int × Int):dk (ps++[p])=putK (dk ps) (pk p) (.bl true):=by
 unfold dk;rw [Qcy]
 rfl
theorem Zjq{P:List g->Prop}(C:P [])(hs:∀l x,P l->P (l++[x])):∀l,P l:=by
 intro l;have key:∀r:List g,P r.reverse:=by
  intro r
  induction r with
  | nil=>exact C
  | cons x r q=>rw [Qer];exact hs _ _ q
 have z:=key l.reverse;rw [List.reverse_reverse] at z;exact z
theorem dk_val(p:Int × Int):∀ps:List (Int × Int),(YX (dk ps) (pk p)).isSome=decide (p∈ps):=by
 refine Zjq ?_ ?_
 ·rfl
 ·intro l x g
  rw [vx,Gu]
  by_cases e:p=x
  ·subst e
   rw [Qa4 rfl];exact (Qaj (Qa0 _ Qal)).symm
  ·rw [Qax (fun z=>e (pk_inj z)),g]
   have:p∈l++[x]↔p∈l:=by simp [e]
   simp only [this]
theorem dk_len:∀ps:List (Int × Int),(dk ps).length<=ps.length:=by
 refine Zjq (Qai _) ?_;intro l x g;rw [vx,Qaf];have:=XH (dk l) (pk x) (.bl true);simp only [Qbc,Qdc];lia
theorem Zhr{d c:Addr}{ps:List (Int × Int)}{x y:Int}(h:Rd H d (.dT (dk ps)))(hc:H c=some (.tup [.int x,.int y])):Zgo H d (.ref c) (YX (dk ps) (pk (x,y))):=.inr ⟨dk ps,pk (x,y),c,h,rfl,hc,rfl⟩
theorem Prs.put{ps:List (Int × Int)}{o:HO}(h:Prs H ps P)(C:∀xs,H f≠some (.tup xs)):Prs (upd H f o) ps P:=by
 refine ⟨h.1,fun i p hp=>?_⟩;obtain ⟨a,q,g⟩:=h.2 i p hp;refine ⟨a,q,?_⟩;rw [Zp (fun e=>C _ (by rw [<-e];exact g))];exact g
theorem Zfn:∀(n:Nat) (l:List Nat),l.Nodup->(∀x∈l,x < n)->l.length<=n
 | 0,[],_,_=>Qai _
 | 0,x::_,_,h=>absurd (h x Qal) (Qd3 _)
 | n + 1,l,g,h=>by
  have z:=Zfn n (l.erase n) (g.erase n) fun x hx=>by
   have h1:=(g.mem_erase_iff.mp hx);have h2:=h x h1.2;have q:=h1.1;lia
  by_cases e:n∈l
  ·rw [Qd2 e] at z
   lia
  ·rw [List.erase_of_not_mem e] at z
   lia
theorem wZ{l:List g}{x:g}(q:l.Nodup)(h:¬x∈l):(l++[x]).Nodup:=by
 rw [Qd1];refine ⟨q,by simp,fun a ha b hb e=>?_⟩;have:b=x:=by simpa using hb
 rw [e,this] at ha;exact h ha
theorem xf{f:Nat->g}(h:i < n):((List.range n).map f)[i]?=some (f i):=by
 rw [Qah,Qco h]
 rfl
theorem Zhs{ls:List Nat}{l:Nat}(h:ls[i]?=some l):(ls.map Ge)[i]?=some (.int (l:Int)):=by
 rw [Qah,h]
 rfl
theorem kP{ls:List Nat}{l:Nat}(h:ls[i]?=some l):(GN ls)[i]?=some (.int (l:Int)):=Zhs h
theorem Za9(xs:List V)(k:Nat):zy xs none (some (k:Int))=xs.take k:=x4 xs k
theorem Zba(xs:List V)(k:Nat):zy xs (some (k:Int)) none=xs.drop k:=ym xs k
def YC(H:Hp)(zs:List V)(rs:List (List V)):Prop:=zs.length=rs.length/\∀(i:Nat) (r:List V),rs[i]?=some r->∃a,zs[i]?=some (V.ref a)/\H a=some (.tup r)
theorem YC.same{H H':Hp}{zs:List V}{rs:List (List V)}(z:YC H zs rs)(e:Yb H H'):YC H' zs rs:=by
 refine ⟨z.1,fun i r hr=>?_⟩;obtain ⟨a,g,q⟩:=z.2 i r hr;exact ⟨a,g,e _ _ q⟩
theorem YC.snoc{rs:List (List V)}{r:List V}(z:YC H P rs)(h:H a=some (.tup r)):YC H (P++[.ref a]) (rs++[r]):=by
 refine ⟨by rw [Qaf,Qaf,z.1];rfl,fun i q g=>?_⟩
 by_cases e:i < rs.length
 ·rw [Qaw e] at g
  rw [Qaw (by rw [z.1];exact e)];exact z.2 i q g
 ·rw [Qau (by lia)] at g
  have C:i - rs.length=0:=by
   have:=(Qac.mp g).1;simp only [Qbc,Qdc] at this;lia
  rw [C] at g;cases g;refine ⟨a,?_,h⟩;rw [Qau (by rw [z.1];lia),z.1,C]
  rfl
theorem YC.nil{H:Hp}:YC H [] []:=⟨rfl,fun i r hr=>by cases hr⟩
theorem YC.at{H:Hp}{zs:List V}{rs:List (List V)}(z:YC H zs rs){i:Nat}{v:V}(h:zs[i]?=some v):∃a r,v=V.ref a/\rs[i]?=some r/\H a=some (.tup r):=by
 have l:=(Qac.mp h).1;rw [z.1] at l;obtain ⟨a,g,q⟩:=z.2 i _ (Qab l);exact ⟨a,_,Option.some.inj (h.symm.trans g),Qab l,q⟩
def nk(l:List Int):List (Key × V):=X4 (l.map (Sum.inl:Int->Key))
theorem Zbb{l:List Int}(h:l.Nodup):(l.map (Sum.inl:Int->Key)).Nodup:=by
 unfold List.Nodup;rw [Qfl];exact List.Pairwise.imp (fun g e=>g (Sum.inl.inj e)) h
theorem vy{l:List Int}{s:Int}:(Sum.inl s:Key)∈l.map Sum.inl↔s∈l:=by
 constructor
 ·intro h
  obtain ⟨x,hx,e⟩:=Qa2.mp h;rw [<-Sum.inl.inj e];exact hx
 ·exact fun h=>Qbw h
theorem Zbc{l:List Int}{s:Int}(h:s∈l)(hn:l.Nodup):YX (nk l) (.inl s)=some (.int (l.idxOf s:Int)):=by
 have:=Jo (l.map (Sum.inl:Int->Key)) (.inl s) (vy.mpr h) (Zbb hn);have e:=idx_map (β:=Key) Sum.inl (fun _ _=>Sum.inl.inj) s l;rw [e] at this;exact this
theorem Zht{l:List Int}{s:Int}(h:s∉l):YX (nk l) (.inl s)=none:=GX _ _ fun z=>h (vy.mp z)
theorem nk_len(l:List Int):(nk l).length=l.length:=by
 unfold nk;rw [Jn,Qad]
theorem nk_put{l:List Int}{s:Int}(h:s∉l):putK (nk l) (.inl s) (.int (l.length:Int))=nk (l++[s]):=by
 unfold nk;rw [Qbm];show _=X4 (l.map Sum.inl++[Sum.inl s]);rw [GW,Qad];unfold putK;rw [Qax fun z=>?_];rw [List.any_eq_true] at z;obtain ⟨p,hp,e⟩:=z;have:p.1∈(X4 (l.map (Sum.inl:Int->Key))).map (·.1):=Qbw hp;rw [GV,Qba e] at this;exact h (vy.mp this)
def qK(nx:List (List Nat))(cs:List Nat):List (Int × List Int):=List.zipWith (fun (c:Nat) (row:List Nat)=>((c:Int),row.map fun s=>(cs.getD s 0:Int))) cs nx
theorem xg{nx:List (List Nat)}(h:d.length=nx.length):(qK nx d).length=d.length:=by
 unfold qK;rw [List.length_zipWith,h,Nat.min_self]
theorem kQ{nx:List (List Nat)}(h:d.length=nx.length):(qK nx d).map (·.1)=d.map fun c:Nat=>(c:Int):=by
 unfold qK;rw [List.map_zipWith];have:∀(d:List Nat) (nx:List (List Nat)),d.length=nx.length->List.zipWith (fun (c:Nat) (_:List Nat)=>(c:Int)) d nx=d.map fun c:Nat=>(c:Int):=by
  intro d
  induction d with
  | nil=>intro nx _;rfl
  | cons c r g =>
   intro nx h;cases nx with
   | nil=>cases h
   | cons x y=>rw [List.zipWith_cons_cons,Qa7,g y (by simpa using h)]
 exact this d nx h
theorem gc{nx:List (List Nat)}(h:d.length=nx.length)(hn:Ws d=d)(hc:(ZN (qK nx d)).length<=(ZN d).length):Ws (qK nx d)=d:=by
 have e1:ZN ((qK nx d).map (·.1))=(ZN d).map fun c:Nat=>(c:Int):=by
  rw [kQ h];exact jw _ _ fun a _ b _ e=>Int.ofNat.inj e
 have hi:=yl (·.1) (qK nx d) (by rw [e1,Qad];exact hc);rw [<-jx (·.1) (qK nx d) hi,kQ h,jx (fun c:Nat=>(c:Int)) d fun a _ b _ e=>Int.ofNat.inj e,hn]
theorem yt{p:Addr}{rs:List (List V)}(R:JB H p rs):∃bs:List Addr,H p=some (.tup (bs.map V.ref))/\bs.length=rs.length/\∀(i:Nat) (r:List V) (b:Addr),rs[i]?=some r->bs[i]?=some b->H b=some (.tup r):=by
 obtain ⟨as,h1,h2,q⟩:=R;have C:∀(as:List V) (rs:List (List V)),as.length=rs.length->(∀(i:Nat) (r:List V),rs[i]?=some r->∃a,as[i]?=some (V.ref a)/\H a=some (.tup r))->∃bs:List Addr,as=bs.map V.ref/\∀(i:Nat) (r:List V) (b:Addr),rs[i]?=some r->bs[i]?=some b->H b=some (.tup r):=by
  intro as
  induction as with
  | nil =>
   intro rs hl _;exact ⟨[],rfl,fun i r b _ hb=>by cases hb⟩
  | cons v r E =>
   intro rs hl hh;cases rs with
   | nil=>cases hl
   | cons x y =>
    obtain ⟨a,ha,hx⟩:=hh 0 x rfl;obtain ⟨bs,e,hb⟩:=E y (by simpa using hl) fun i r hi=>by
     obtain ⟨a,D,G⟩:=hh (i + 1) r (by simpa using hi);exact ⟨a,by simpa using D,G⟩
    refine ⟨a::bs,?_,fun i r b hr g=>?_⟩
    ·rw [Qa7,<-e]
     cases ha
     rfl
    ·cases i with
     | zero =>
      cases hr;cases g;exact hx
     | succ i=>exact hb i r b (by simpa using hr) (by simpa using g)
 obtain ⟨bs,e,hb⟩:=C as rs h2 q;subst e;exact ⟨bs,h1,by rw [<-h2,Qad],hb⟩
theorem yu[DecidableEq g](ks:List g):(ks.map fun k=>((ZN ks).idxOf k:Int)).map V.int=(Ws ks).map Ge:=by
 unfold Ws;rw [Qbj,Qbj]
 rfl
theorem WN{nx:List (List Nat)}{c:Nat}{row:List Nat}(hc:d[i]?=some c)(hr:nx[i]?=some row):(qK nx d)[i]?=some ((c:Int),row.map fun s=>(d.getD s 0:Int)):=by
 unfold qK;rw [List.getElem?_zipWith,hc,hr]
theorem Zhu{g:List (List Int)}{nx:List (List Nat)}(hl:d.length=nx.length)(hk:g.length=nx.length)(h:∀(i j:Nat) (a b:List Int),g[i]?=some a->g[j]?=some b->d[i]?=d[j]?->a=b):∀(i j:Nat) (a b:List Int),g[i]?=some a->g[j]?=some b->(Ws (qK nx d))[i]?=(Ws (qK nx d))[j]?->a=b:=by
 intro i j a b ha hb e;have hi:i < nx.length:=by have:=(Qac.mp ha).1;lia
 have D:j < nx.length:=by have:=(Qac.mp hb).1;lia
 have C:=Qab (l:=d) (i:=i) (by lia);have q:=Qab (l:=d) (i:=j) (by lia);have:=(G1 (WN C (Qab hi)) (WN q (Qab D))).mp e;refine h i j a b ha hb ?_;rw [C,q];have e2:=congrArg Prod.fst this;exact congrArg some (Int.ofNat.inj e2)
def Zbd(nx:List (List Nat))(l:List Nat)(i:Nat):List Nat:=(nx.getD (l.getD i 0) []).foldl Y8 l
def Wq(nx:List (List Nat))(b:Nat):Nat->List Nat
 | 0=>[b]
 | i + 1=>Zbd nx (Wq nx b i) i
structure zP(nx:List (List Nat))(b:Nat)(l:List Nat):Prop where
 e:l=Wq nx b l.length
 go:∀i,i < l.length->i < (Wq nx b i).length
theorem gg(r:List Nat):∀l:List Nat,l.Nodup->(r.foldl Y8 l).Nodup:=by
 induction r with
 | nil=>exact fun l h=>h
 | cons k r g=>exact fun l h=>g _ (Ww h k)
theorem xh(r:List Nat){x:Nat}:∀l:List Nat,x∈r.foldl Y8 l↔x∈l\/x∈r:=by
 induction r with
 | nil=>intro l;simp
 | cons k r g =>
  intro l;rw [Qc5,g,XY,Qas,or_assoc]
theorem xC(nx:List (List Nat))(b:Nat):∀i,(Wq nx b i).Nodup
 | 0=>Qb3.mpr ⟨Qa6,Qc2⟩
 | i + 1=>gg _ _ (xC nx b i)
theorem Zbe{nx:List (List Nat)}{b:Nat}(hb:b < nx.length)(hr:∀row∈nx,∀s∈row,s < nx.length):∀i,∀s∈Wq nx b i,s < nx.length
 | 0,s,h=>by rw [Qay.mp h];exact hb
 | i + 1,s,h=>by
  rcases (xh _ _).mp h with z | z
  ·exact Zbe hb hr i s z
  ·rw [Qag] at z
   cases q:nx[(Wq nx b i).getD i 0]? with
   | none=>rw [q] at z;cases z
   | some row=>rw [q] at z;exact hr row (Qao q) s z
theorem j8{nx:List (List Nat)}{b:Nat}(hb:b < nx.length)(hr:∀row∈nx,∀s∈row,s < nx.length)(i:Nat):(Wq nx b i).length<=nx.length:=by
 have:=J5 (l2:=List.range nx.length) (xC nx b i) fun x hx=>Qb9.mpr (Zbe hb hr i x hx);rw [Qbr] at this;exact this
theorem vz(nx:List (List Nat))(b j:Nat):∀d,∃r,Wq nx b (j + d)=Wq nx b j++r
 | 0=>⟨[],(Qbl _).symm⟩
 | d + 1=>by
  obtain ⟨r,e⟩:=vz nx b j d;obtain ⟨g,e2⟩:=J4 (nx.getD ((Wq nx b (j + d)).getD (j + d) 0) []) (Wq nx b (j + d));refine ⟨r++g,?_⟩;show Zbd nx (Wq nx b (j + d)) (j + d)=_;unfold Zbd;rw [e2,e,Qbu]
theorem bfs_at{nx:List (List Nat)}{b j:Nat}(g:j < i)(hg:j < (Wq nx b j).length):(Wq nx b i)[j]?=some ((Wq nx b j).getD j 0):=by
 obtain ⟨r,e⟩:=vz nx b j (i - j);rw [show j + (i - j)=i by lia] at e;rw [e,Qaw hg,Qag,Qab hg]
 rfl
theorem map_range{β:Type}(l:List g)(i:Nat)(hl:l.length=i)(f:g->β)(q:Nat->β)(h:∀j a,l[j]?=some a->q j=f a):(List.range i).map q=l.map f:=by
 refine Qcz fun j=>?_;rw [Qah,Qah]
 by_cases C:j < i
 ·rw [Qco C,Qab (by lia)]
  exact congrArg some (h j _ (Qab (by lia)))
 ·rw [Qbe (by rw [Qbr];lia),Qbe (by lia)]
  rfl
theorem qh{H':Hp}{rs:List (List V)}(h:∀b xs,H b=some (.tup xs)->H' b=some (.tup xs))(z:YC H P rs):YC H' P rs:=⟨z.1,fun i r hr=>by
 obtain ⟨a,h1,h2⟩:=z.2 i r hr;exact ⟨a,h1,h _ _ h2⟩⟩
inductive SK(κ:Type)[DecidableEq κ] where
 | int (f:κ->Int) (inj:∀a b,f a=f b->a=b)
 | key (kn:KN κ)
theorem X0(h:n<=10000000):n < sizeLine:=Qds h (by decide)
section
variable {κ:Type}[DecidableEq κ]
def SK.at_:SK κ->Hp->κ->V->Prop
 | .int f _,_,k,v=>v=.int (f k)
 | .key kn,H,k,v=>∃a,v=.ref a/\kn.at_ H k a
def SK.dic:SK κ->Hp->Addr->List κ->Prop
 | .int f _,H,d,l=>H d=some (.dK (nk (l.map f)))
 | .key kn,H,d,l=>GK kn H d (X4 l)
theorem SK.keep{sk:SK κ}{H H':Hp}{k:κ}{v:V}(h:sk.at_ H k v)(e:∀b xs,H b=some (.tup xs)->H' b=some (.tup xs)):sk.at_ H' k v:=by
 cases sk with
 | int f _=>exact h
 | key kn =>
  obtain ⟨a,rfl,ha⟩:=h;exact ⟨a,rfl,kn.keep _ _ _ _ e ha⟩
theorem Zbf{kn:KN κ}{d:Addr}{kvs:List (κ × V)}(n:GK kn H d kvs):∃o,H d=some o/\(∀xs,o≠.tup xs)/\∀xs,o≠.lst xs:=by
 rcases n.2.2 with ⟨_,e⟩ | ⟨ys,e,_⟩
 ·exact ⟨_,e,(fun _ z=>nomatch z),fun _ z=>nomatch z⟩
 ·exact ⟨_,e,(fun _ z=>nomatch z),fun _ z=>nomatch z⟩
theorem SK.ne{sk:SK κ}{d:Addr}{l:List κ}(h:sk.dic H d l):∃o,H d=some o/\(∀xs,o≠.tup xs)/\∀xs,o≠.lst xs:=by
 cases sk with
 | int f _=>exact ⟨_,h,(fun _ z=>nomatch z),fun _ z=>nomatch z⟩
 | key kn=>exact Zbf h
theorem Zdu{kn:KN κ}{H':Hp}{d:Addr}{kvs:List (κ × V)}(n:GK kn H d kvs)(hd:∀o,H d=some o->H' d=some o)(e:∀b xs,H b=some (.tup xs)->H' b=some (.tup xs)):GK kn H' d kvs:=by
 obtain ⟨C,D,g⟩:=n;refine ⟨C,D,?_⟩;rcases g with ⟨e1,e2⟩ | ⟨ys,e1,e2⟩
 ·exact .inl ⟨e1,hd _ e2⟩
 ·exact .inr ⟨ys,hd _ e1,Paired.mapP e2 fun p q h=>⟨h.1,kn.keep _ _ _ _ e h.2.1,h.2.2⟩⟩
theorem SK.stay{sk:SK κ}{H':Hp}{d:Addr}{l:List κ}(h:sk.dic H d l)(hd:∀o,H d=some o->H' d=some o)(e:∀b xs,H b=some (.tup xs)->H' b=some (.tup xs)):sk.dic H' d l:=by
 cases sk with
 | int f _=>exact hd _ h
 | key kn=>exact Zdu h hd e
theorem SK.off{sk:SK κ}{d:Addr}{l:List κ}{xs:List V}{o:HO}(h:sk.dic H d l)(e:H f=some (.lst xs)):sk.dic (upd H f o) d l:=by
 obtain ⟨u,hu,_,hl⟩:=SK.ne h;have g:d≠f:=fun z=>by
  rw [z,e] at hu;cases hu;exact hl xs rfl
 exact SK.stay h (fun o e=>by rw [Zp g];exact e) fun b ys q=>by rw [Zp (XW q e fun z=>nomatch z)];exact q
def StA(sk:SK κ)(H:Hp)(l:List κ)(vs:List V):Prop:=vs.length=l.length/\∀(i:Nat) (k:κ),l[i]?=some k->∃v,vs[i]?=some v/\sk.at_ H k v
theorem StA.keep{sk:SK κ}{H H':Hp}{l:List κ}{vs:List V}(h:StA sk H l vs)(e:∀b xs,H b=some (.tup xs)->H' b=some (.tup xs)):StA sk H' l vs:=⟨h.1,fun i k hk=>by
 obtain ⟨v,h1,h2⟩:=h.2 i k hk;exact ⟨v,h1,SK.keep h2 e⟩⟩
theorem StA.snoc{sk:SK κ}{l:List κ}{vs:List V}{k:κ}(h:StA sk H l vs)(hv:sk.at_ H k v):StA sk H (l++[k]) (vs++[v]):=by
 refine ⟨by rw [Qaf,Qaf,h.1];rfl,fun i q g=>?_⟩
 by_cases e:i < l.length
 ·rw [Qaw e] at g
  rw [Qaw (by rw [h.1];exact e)];exact h.2 i q g
 ·rw [Qau (by lia)] at g
  have C:i - l.length=0:=by
   have:=(Qac.mp g).1;simp only [Qbc,Qdc] at this;lia
  rw [C] at g;cases g;refine ⟨v,?_,hv⟩;rw [Qau (by rw [h.1];lia),h.1,C]
  rfl
theorem StA.one{sk:SK κ}{k:κ}(hv:sk.at_ H k v):StA sk H [k] [v]:=StA.snoc (l:=[]) (vs:=[]) ⟨rfl,fun i q g=>by cases g⟩ hv
def bfS(nx:κ->List κ)(l:List κ)(i:Nat):List κ:=match l[i]? with
 | some s=>(nx s).foldl Y8 l
 | none=>l
def bfN(nx:κ->List κ)(b:κ):Nat->List κ
 | 0=>[b]
 | i + 1=>bfS nx (bfN nx b i) i
structure BfE(nx:κ->List κ)(b:κ)(l:List κ):Prop where
 e:l=bfN nx b l.length
 go:∀i,i < l.length->i < (bfN nx b i).length
theorem xD(r:List κ):∀l:List κ,l.Nodup->(r.foldl Y8 l).Nodup:=by
 induction r with
 | nil=>exact fun l h=>h
 | cons k r g=>exact fun l h=>g _ (Ww h k)
theorem xE(r:List κ){x:κ}:∀l:List κ,x∈r.foldl Y8 l↔x∈l\/x∈r:=by
 induction r with
 | nil=>intro l;simp
 | cons k r g =>
  intro l;rw [Qc5,g,XY,Qas,or_assoc]
theorem Zbg(r:List κ):∀l:List κ,(r.foldl Y8 l).length<=l.length + r.length:=by
 induction r with
 | nil=>exact fun l=>Qai _
 | cons k r g =>
  intro l;have h1:=g (Y8 l k);have h2:=qX l k;rw [Qc5,Qbc];lia
variable {nx:κ->List κ}{b:κ}
theorem G8:∀i,(bfN nx b i).Nodup
 | 0=>Qb3.mpr ⟨Qa6,Qc2⟩
 | i + 1=>by
  show (bfS nx (bfN nx b i) i).Nodup;unfold bfS
  split
  ·exact xD _ _ (G8 i)
  ·exact G8 i
theorem Zbh{U:List κ}(hb:b∈U)(hr:∀s∈U,∀x∈nx s,x∈U):∀i,∀s∈bfN nx b i,s∈U
 | 0,s,h=>by rw [Qay.mp h];exact hb
 | i + 1,s,h=>by
  have h:s∈bfS nx (bfN nx b i) i:=h;unfold bfS at h
  split at h
  ·rename_i q g
   rcases (xE _ _).mp h with z | z
   ·exact Zbh hb hr i s z
   ·exact hr q (Zbh hb hr i q (Qao g)) s z
  ·exact Zbh hb hr i s h
theorem Zbi{U:List κ}(hb:b∈U)(hr:∀s∈U,∀x∈nx s,x∈U)(i:Nat):(bfN nx b i).length<=U.length:=J5 (G8 i) (Zbh hb hr i)
theorem j9{s:κ}(h:(bfN nx b i)[i]?=some s):bfN nx b (i + 1)=(nx s).foldl Y8 (bfN nx b i):=by
 show bfS nx (bfN nx b i) i=_;unfold bfS;rw [h]
theorem kR(j:Nat):∀d,∃r,bfN nx b (j + d)=bfN nx b j++r
 | 0=>⟨[],(Qbl _).symm⟩
 | d + 1=>by
  obtain ⟨r,e⟩:=kR j d;show ∃r,bfS nx (bfN nx b (j + d)) (j + d)=_;unfold bfS
  split
  ·obtain ⟨g,e2⟩:=J4 (nx _) (bfN nx b (j + d))
   exact ⟨r++g,by rw [e2,e,Qbu]⟩
  ·exact ⟨r,e⟩
theorem Zjr{j:Nat}{s:κ}(g:j<=i)(hs:(bfN nx b j)[j]?=some s):(bfN nx b i)[j]?=some s:=by
 obtain ⟨r,e⟩:=kR (nx:=nx) (b:=b) j (i - j);rw [show j + (i - j)=i by lia] at e;rw [e,Qaw (Qac.mp hs).1];exact hs
def Zjs(nx:κ->List κ)(b:κ)(j:Nat):List Nat:=match (bfN nx b j)[j]? with
 | some s=>(nx s).map fun x=>(bfN nx b (j + 1)).idxOf x
 | none=>[]
def zf(nx:κ->List κ)(b:κ)(i:Nat):List (List V):=(List.range i).map fun j=>GN (Zjs nx b j)
def Zj0(nx:κ->List κ)(ot:κ->List V)(b:κ)(j:Nat):List V:=match (bfN nx b j)[j]? with
 | some s=>ot s
 | none=>[]
def zg(nx:κ->List κ)(ot:κ->List V)(b:κ)(i:Nat):List (List V):=(List.range i).map (Zj0 nx ot b)
theorem gh{s:κ}(h:(bfN nx b i)[i]?=some s):zf nx b (i + 1)=zf nx b i++[((nx s).map fun x=>Ge ((bfN nx b (i + 1)).idxOf x))]:=by
 unfold zf;rw [Qg8,Qbm];show _++[GN (Zjs nx b i)]=_;unfold Zjs GN;rw [h];show _++[List.map _ (List.map _ _)]=_;rw [Qbj]
 rfl
theorem gk{ot:κ->List V}{s:κ}(h:(bfN nx b i)[i]?=some s):zg nx ot b (i + 1)=zg nx ot b i++[ot s]:=by
 unfold zg;rw [Qg8,Qbm];show _++[Zj0 nx ot b i]=_;unfold Zj0;rw [h]
def rnG(nx:κ->List κ)(l:List κ):List (List Nat):=l.map fun s=>(nx s).map fun x=>l.idxOf x
theorem xF(nx:κ->List κ)(l:List κ):(rnG nx l).length=l.length:=Qad _
theorem v9{j:Nat}{a:κ}(hl:(bfN nx b i).length=i)(hg:∀j,j < i->j < (bfN nx b j).length)(ha:(bfN nx b i)[j]?=some a):j < i/\(bfN nx b j)[j]?=some a:=by
 have g:j < i:=by have:=(Qac.mp ha).1;lia
 refine ⟨g,?_⟩;have e:=Qab (hg j g);rw [Zjr (Qa5 g) e] at ha;rw [e];exact ha
theorem Zbj(hl:(bfN nx b i).length=i)(hg:∀j,j < i->j < (bfN nx b j).length):zf nx b i=(rnG nx (bfN nx b i)).map GN:=by
 unfold zf rnG;rw [Qbj];refine map_range _ i hl _ _ fun j a ha=>?_;obtain ⟨g,e⟩:=v9 hl hg ha;show GN (Zjs nx b j)=GN _;unfold Zjs;rw [e];congr 1;refine Qcn fun x hx=>?_;obtain ⟨r,e2⟩:=kR (nx:=nx) (b:=b) (j + 1) (i - (j + 1));rw [show j + 1 + (i - (j + 1))=i by lia] at e2;rw [e2,GU];rw [j9 e];exact (xE _ _).mpr (.inr hx)
theorem Zbk{ot:κ->List V}(hl:(bfN nx b i).length=i)(hg:∀j,j < i->j < (bfN nx b j).length):zg nx ot b i=(bfN nx b i).map ot:=by
 unfold zg;refine map_range _ i hl _ _ fun j a ha=>?_;obtain ⟨g,e⟩:=v9 hl hg ha;unfold Zj0;rw [e]
end
def SqF(H1 H2:Hp)(r:Addr)(g:List V):Prop:=H2 r=some (.tup g)\/(H2 r=some (.lst g)/\H1 r=none)
theorem Zdv{xs:List V}{is:List Nat}{Q:VK}(q:∀R:VK,R (.ref a) H->A c H R)(hx:H a=some (.tup xs)\/H a=some (.lst xs))(g:Nat->List V->Hp->Prop)(C:g 0 [] H)(hl:∀i zs H,g i zs H->zs.length<=sizeLine)(D:∀i zs H',g i zs H'->∀o,H a=some o->H' a=some o)
  (hs:∀i x zs H (R:List V->Hp->Prop),(∀zs H,g (i + 1) zs H->R zs H)->xs[i]?=some x->g i zs H->J (qw is c (some x)) H fun b H2=>if b=true then I (qw is c (some x)) H2 fun y E=>R (zs++[y]) E else R zs H2)
  (hd:∀zs H,g xs.length zs H->∀p,H p=none->Q (.ref p) (upd H p (.lst zs))):gM K A c H (za is J I c Q)\/iTup K A c H (za is J I c Q):=by
 rcases hx with hx | hx
 ·exact .inr (q _ ⟨a,rfl,⟨_,SqT.of hx⟩,J2 (K:=K) (a:=a) (xs:=xs) g C hl (fun i zs H' h=>SqT.of (D i zs H' h _ hx)) hs hd⟩)
 ·exact .inl (q _ ⟨a,rfl,⟨_,SqL.of hx⟩,XG (K:=K) (a:=a) (xs:=xs) g C hl (fun i zs H' h=>SqL.of (D i zs H' h _ hx)) hs hd⟩)
def Gf:List V->List Int
 | []=>[]
 | .int z::r=>((Builtin.Int.intBits z:Nat):Int)::Gf r
 | _::r=>Gf r
theorem yw:∀g:List V,(Gf g).length<=g.length
 | []=>Qai _
 | w::r=>by
  have:=yw r;cases w <;> simp only [Gf,Qbc] <;> lia
theorem xG:∀(a b:List V),Gf (a++b)=Gf a++Gf b
 | [],_=>rfl
 | w::r,b=>by
  have:=xG r b;cases w <;> simp only [Gf,Qey,this]
theorem xH{z:Int}:∀{g:List V},V.int z∈g->((Builtin.Int.intBits z:Nat):Int)∈Gf g
 | w::r,h=>by
  rcases Qas.mp h with rfl | h
  ·exact Qal
  ·have:=xH h
   cases w <;> simp only [Gf] <;> first | exact this | exact Qam _ this
theorem kS{m:Int}:∀{q:List V},m∈Gf q->∃z:Int,V.int z∈q/\m=((Builtin.Int.intBits z:Nat):Int)
 | w::r,h=>by
  have g:m∈Gf r->∃z:Int,V.int z∈w::r/\m=((Builtin.Int.intBits z:Nat):Int):=fun h=>let ⟨z,h1,h2⟩:=kS h;⟨z,Qam _ h1,h2⟩;cases w with
  | int z =>
   rcases Qas.mp h with rfl | h
   ·exact ⟨z,Qal,rfl⟩
   ·exact g h
  | _=>exact g h
theorem Zhv(h:0<=z):z < 2 ^ Builtin.Int.intBits z:=by
 unfold Builtin.Int.intBits
 split
 ·rename_i e
  rw [beq_iff_eq.mp e]
  decide
 ·obtain ⟨n,rfl⟩:=Int.eq_ofNat_of_zero_le h
  have:=Nat.lt_log2_self (n:=n);rw [show ((n:Int)).natAbs=n from rfl]
  exact_mod_cast this
theorem bits_le{B:Nat}(h:0<=z)(g:z < 2 ^ B):Builtin.Int.intBits z<=B:=by
 unfold Builtin.Int.intBits
 split
 ·exact Qbp _
 ·rename_i e
  obtain ⟨n,rfl⟩:=Int.eq_ofNat_of_zero_le h;have hn:n≠0:=fun q=>e (by rw [q];rfl);rw [show ((n:Int)).natAbs=n from rfl];have h2:n < 2 ^ B:=by exact_mod_cast g
  exact (Nat.log2_lt hn).mpr h2
theorem Zfo:∀(bs:List Int) (l:Nat),(∀b∈bs,b=0\/b=1)->bt (hor bs.reverse) l=bs.getD l 0
 | [],l,_=>x8 l
 | b::r,l,h=>by
  rw [Qer,kN];have hb:=h b Qal;cases l with
  | zero =>
   unfold bt;rw [Qdw,Qct];show _=b;lia
  | succ l =>
   rw [Xg,show (hor r.reverse * 2 + b) / 2=hor r.reverse by lia,Zfo r l fun b hb=>h b (Qam _ hb)]
   rfl
def Yv(L:Nat)(ys:List Str)(y:Str):Int:=hor ((List.range L).map fun l:Nat=>bt (l:Int) (ys.idxOf y)).reverse
theorem WV[DecidableEq g]{l:List g}{x:g}(hn:l.Nodup)(h:l[i]?=some x):l.idxOf x=i:=by
 obtain ⟨hi,rfl⟩:=Qac.mp h;exact hn.idxOf_getElem i hi
theorem Zdw{ys:List Str}{l:Nat}{y:Str}(hn:ys.Nodup)(h:ys[i]?=some y)(hl:l < n):bt (Yv n ys y) l=bt (l:Int) i:=by
 unfold Yv;rw [WV hn h,Zfo _ _ fun b hb=>by
  obtain ⟨c,_,rfl⟩:=Qa2.mp hb;exact Yp _ _]
 rw [Qag,Qah,Qco hl]
 rfl
def lgB:List V->Nat
 | []=>0
 | .int z::r=>max (Builtin.Int.intBits z) (lgB r)
 | _::r=>lgB r
theorem Zbl{z:Int}:∀{g:List V},V.int z∈g->Builtin.Int.intBits z<=lgB g
 | w::r,h=>by
  rcases Qas.mp h with rfl | h
  ·exact Nat.le_max_left _ _
  ·have:=Zbl h
   cases w <;> simp only [lgB] <;> lia
theorem Zbm:∀g:List V,lgB g=0\/∃z:Int,V.int z∈g/\lgB g=Builtin.Int.intBits z
 | []=>.inl rfl
 | w::r=>by
  have q:(lgB (w::r)=lgB r)->lgB (w::r)=0\/∃z:Int,V.int z∈w::r/\lgB (w::r)=Builtin.Int.intBits z:=fun e=>by
   rw [e];rcases Zbm r with h | ⟨z,h1,h2⟩
   ·exact .inl h
   ·exact .inr ⟨z,Qam _ h1,h2⟩
  cases w with
  | int z =>
   by_cases h:lgB r<=Builtin.Int.intBits z
   ·exact .inr ⟨z,Qal,Nat.max_eq_left h⟩
   ·exact q (Nat.max_eq_right (by lia))
  | _=>exact q rfl
theorem Zfp(h1:∀z:Int,V.int z∈P->Builtin.Int.intBits z<=i)(h2:i=0\/∃z:Int,V.int z∈P/\i=Builtin.Int.intBits z):i=lgB P:=by
 refine Nat.le_antisymm ?_ ?_
 ·rcases h2 with h | ⟨z,g,h⟩
  ·lia
  ·rw [h]
   exact Zbl g
 ·rcases Zbm P with h | ⟨z,g,h⟩
  ·lia
  ·rw [h]
   exact h1 z g
def YV(g:List V):Nat:=(g.filter fun w=>inV w (allR.map V.str)).length
def Zio(nm:List Str)(cols:Str->Int)(g:List V)(s:Int × List Int):List Int × List Int:=Wb nm cols s.1.toNat s.2 g
def nxT(nm:List Str)(cols:Str->Int)(g:List V)(L:Nat)(s:Int × List Int):List (Int × List Int):=(List.range (2 ^ nm.length)).map fun l=>(min (s.1 + 1) (L:Int),(Zio nm cols g s).2.map fun c=>bt c l)
def otT(nm:List Str)(cols:Str->Int)(C:List V)(q g:V)(s:Int × List Int):List V:=(List.range (2 ^ nm.length)).map fun l=>if bt ((Zio nm cols C s).1.getD 0 0) l=1 then g else q
def Zcm(g:Addr)(H H':Hp):Prop:=∀b o,H b=some o->b≠g->H' b=some o
def Zhw(H:Hp)(k:Int × List Int)(a:Addr):Prop:=∃t,H a=some (.tup [.int k.1,.ref t])/\H t=some (.tup (k.2.map V.int))
theorem Zhw.bits{k:Int × List Int}(h:Zhw H k a):Zae H k a:=by
 obtain ⟨t,h1,h2⟩:=h;refine ⟨t,h1,_,h2,?_⟩;rw [Qbj]
 rfl
def knQ:KN (Int × List Int) where
 knd:=knP.knd
 hsh:=knP.hsh
 at_:=Zhw
 hash_eq:=knP.hash_eq
 ok:=fun P w H h k a ok b=>knP.ok P w H h k a ok b.bits
 room:=knP.room
 room0:=knP.room0
 keep:=fun H H' k a hk ⟨t,e,e2⟩=>⟨t,hk _ _ e,hk _ _ e2⟩
def qi:Nat->List (List Int)
 | 0=>[[]]
 | n + 1=>(qi n).map (List.cons 0)++(qi n).map (List.cons 1)
theorem yx:∀n,(qi n).length=2 ^ n
 | 0=>rfl
 | n + 1=>by
  show ((qi n).map (List.cons 0)++(qi n).map (List.cons 1)).length=_;rw [Qaf,Qad,Qad,yx n,Nat.pow_succ];lia
theorem Xs:∀{n:Nat} {ks:List Int},ks∈qi n↔ks.length=n/\∀x∈ks,x=0\/x=1
 | 0,ks=>by
  constructor
  ·intro h
   rw [Qay.mp h];exact ⟨rfl,fun x hx=>by cases hx⟩
  ·rintro ⟨h,_⟩
   rw [Qcf h];exact Qay.mpr rfl
 | n + 1,ks=>by
  show ks∈(qi n).map (List.cons 0)++(qi n).map (List.cons 1)↔_;rw [Qbk,Qa2,Qa2]
  constructor
  ·rintro (⟨r,hr,rfl⟩ | ⟨r,hr,rfl⟩)
   ·obtain ⟨h1,h2⟩:=Xs.mp hr
    refine ⟨by rw [Qbc,h1],fun x hx=>?_⟩;rcases Qas.mp hx with rfl | hx
    ·exact .inl rfl
    ·exact h2 x hx
   ·obtain ⟨h1,h2⟩:=Xs.mp hr
    refine ⟨by rw [Qbc,h1],fun x hx=>?_⟩;rcases Qas.mp hx with rfl | hx
    ·exact .inr rfl
    ·exact h2 x hx
  ·rintro ⟨h1,h2⟩
   cases ks with
   | nil=>cases h1
   | cons x r =>
    have hr:r∈qi n:=Xs.mpr ⟨by simpa using h1,fun y g=>h2 y (Qam _ g)⟩;rcases h2 x Qal with rfl | rfl
    ·exact .inl ⟨r,hr,rfl⟩
    ·exact .inr ⟨r,hr,rfl⟩
def uni(g:Nat):Nat->List (Int × List Int)
 | 0=>[]
 | n + 1=>uni g n++(qi g).map fun ks=>((n:Int),ks)
theorem jA(g:Nat):∀n,(uni g n).length=n * 2 ^ g
 | 0=>by rw [Nat.zero_mul];rfl
 | n + 1=>by
  show (uni g n++(qi g).map _).length=_;rw [Qaf,Qad,jA g n,yx,Nat.succ_mul]
theorem Gg{g:Nat}{s:Int × List Int}:∀{n:Nat},s∈uni g n↔∃p:Nat,p < n/\s.1=(p:Int)/\s.2∈qi g
 | 0=>⟨(fun h=>nomatch h),fun ⟨p,h,_⟩=>absurd h (Qd3 _)⟩
 | n + 1=>by
  show s∈uni g n++(qi g).map (fun ks=>((n:Int),ks))↔_;rw [Qbk,Gg,Qa2]
  constructor
  ·rintro (⟨p,h1,h2⟩ | ⟨ks,h1,rfl⟩)
   ·exact ⟨p,by lia,h2⟩
   ·exact ⟨n,by lia,rfl,h1⟩
  ·rintro ⟨p,h1,h2,q⟩
   by_cases e:p < n
   ·exact .inl ⟨p,e,h2,q⟩
   ·have e:p=n:=by lia
    subst e;exact .inr ⟨s.2,q,by rw [<-h2]⟩
theorem W5(w:V)(r:List V):YV (w::r)=YV r + if inV w (allR.map V.str)=true then 1 else 0:=by
 unfold YV;rw [Qdf]
 split <;> rfl
theorem jB{ys:List Str}{cols:Str->Int}{pl:Nat}{kp:List Int}:∀q:List V,(∀w∈q,ze ys w)->(Wb ys cols pl kp q).2.length=YV q
 | [],_=>rfl
 | w::r,hw=>by
  have g:=jB (ys:=ys) (cols:=cols) (pl:=pl) (kp:=kp) r fun w h=>hw w (Qam _ h);rw [W5];rcases hw w Qal with ⟨y,rfl,h1,_⟩ | ⟨y,rfl,h1,h2,C,_⟩ | ⟨y,rfl,h1,h2,_⟩ | ⟨z,rfl,_⟩
  ·show (if y∈allR then _ else _:List Int × List Int).2.length=_
   rw [Qa4 h1,Ya,Qaj h1,Qa4 rfl,Qaf,g]
   rfl
  ·show (if y∈allR then _ else if y∈ys then _ else _:List Int × List Int).2.length=_
   rw [Qax h2,Qax C,Ya,Qak h2,Qax (by decide)];exact g
  ·show (if y∈allR then _ else if y∈ys then _ else _:List Int × List Int).2.length=_
   rw [Qax h2,Qa4 h1,Ya,Qak h2,Qax (by decide)];exact g
  ·rw [qg,Qax (by decide)]
   exact g
theorem jC{cols:Str->Int}(hw:∀w∈P,ze N w)(hk:n=YV P){s:Int × List Int}(hs:s∈uni n (i + 1)):∀x∈nxT N cols P i s,x∈uni n (i + 1):=by
 intro x hx;obtain ⟨l,_,rfl⟩:=Qa2.mp hx;obtain ⟨p,h1,h2,g⟩:=Gg.mp hs;refine Gg.mpr ⟨min (p + 1) i,by lia,?_,Xs.mpr ⟨?_,fun b hb=>?_⟩⟩
 ·show min (s.1 + 1) (i:Int)=_
  rw [h2];lia
 ·rw [Qad,hk]
  exact jB P hw
 ·obtain ⟨c,_,rfl⟩:=Qa2.mp hb
  exact Yp c l
theorem gm{H':Hp}(s:Yb (hide L H) H')(hn:∀c∈L,H' c=none):Yb H (Wv L H H')/\(∀t o,H' t=some o->Wv L H H' t=some o)/\∀t o,H' t=some o->hide L H t=none->H t=none:=by
 have m:∀t o,H' t=some o->t∉L:=fun t o e m=>by rw [hn t m] at e;cases e
 refine ⟨fun b o e=>?_,fun t o e=>by rw [Yc (m t o e)];exact e,fun t o e h=>by rw [ZP (m t o e)] at h;exact h⟩
 by_cases g:b∈L
 ·rw [XJ g]
  exact e
 ·rw [Yc g]
  exact s _ _ (by rw [ZP g];exact e)
theorem zQ{H':Hp}{p:Addr}{rs:List (List V)}(R:JB H p rs)(e:∀b xs,H b=some (.tup xs)->H' b=some (.tup xs)):JB H' p rs:=by
 obtain ⟨as,h1,h2,C⟩:=R;refine ⟨as,e _ _ h1,h2,fun i r hi=>?_⟩;obtain ⟨a,g,q⟩:=C i r hi;exact ⟨a,g,e _ _ q⟩
theorem Zbn{B:Nat}(g:∀z:Int,V.int z∈P->0<=z/\z < 2 ^ B):lgB P<=B:=by
 rcases Zbm P with h | ⟨z,q,h⟩
 ·lia
 ·rw [h]
  exact bits_le (g z q).1 (g z q).2
theorem lgB_lt(h:V.int z∈P)(g:0<=z):z < 2 ^ lgB P:=Qgo (Zhv g) (vq (Zbl h))
def vA(g:List V):Prop:=∀r,GL (g++r)=GL r + 1/\(YS r->YS (g++r))
theorem zR:∀(ps:List (List V)),(∀p∈ps,vA p)->∀r,GL (ps.flatten++r)=GL r + ps.length/\(YS r->YS (ps.flatten++r))
 | [],_,r=>⟨rfl,fun h=>h⟩
 | p::ps,h,r=>by
  obtain ⟨h1,h2⟩:=zR ps (fun q C=>h q (Qam _ C)) r;obtain ⟨g,D⟩:=h p Qal (ps.flatten++r);rw [Qdo,Qbu,g,h1,Qbc];exact ⟨by lia,fun z=>D (h2 z)⟩
theorem zS{w:V}{ps:List (List V)}(hn:npw w=ps.length)(h:∀p∈ps,vA p):vA (w::ps.flatten):=fun r=>by
 obtain ⟨h1,h2⟩:=zR ps h r
 constructor
 ·show GL (ps.flatten++r) - npw w + 1=_
  rw [h1,hn];lia
 ·intro z
  exact ⟨by show npw w<=GL (ps.flatten++r);rw [h1,hn];lia,h2 z⟩
theorem gn{w:V}(h:npw w=0):vA [w]:=zS (ps:=[]) h fun p hp=>by cases hp
theorem vA.one(h:vA P):YS P/\GL P=1:=by
 have:=h [];rw [Qbl] at this;exact ⟨this.2 trivial,this.1⟩
theorem kT{y:Str}(h:y∉YB):npw (.str y)=0:=by
 have k:∀p∈T1++T2++T3,p.1∈YB:=by decide +kernel
 unfold npw X7;show (Gb T1 (.inr y) + Gb T2 (.inr y) + Gb T3 (.inr y)).toNat=0;have n:∀l:List (Str × Int),(∀p∈l,p∈T1++T2++T3)->y∉l.map (·.1):=fun l hl z=>by
  obtain ⟨p,hp,e⟩:=Qa2.mp z;exact h (by rw [<-e];exact k p (hl p hp))
 rw [x5 (n T1 fun p hp=>by simp [hp]),x5 (n T2 fun p hp=>by simp [hp]),x5 (n T3 fun p hp=>by simp [hp])]
 rfl
theorem vC(z:Int):npw (.int z)=0:=by
 have k:∀l:List (Str × Int),Gb l (.inl z)=0:=fun l=>by
  induction l with
  | nil=>rfl
  | cons p r g =>
   unfold Gb;rw [Qax (fun e=>nomatch e)];exact g
 unfold npw X7;show (Gb T1 (.inl z) + Gb T2 (.inl z) + Gb T3 (.inl z)).toNat=0;rw [k,k,k]
 rfl
theorem Zbo:∀y∈Ji,npw (.str y)=Yk y/\y∈YB:=by decide +kernel
theorem Zdx:∀y∈qz,y∈YB:=by decide +kernel
theorem jD:∀y∈allR,y∈YB:=by decide +kernel
theorem Zbp{ys:List Str}{w:V}(g:∀y∈ys,y∉YB)(h:Zav ys w):zd ys 10 w/\npw w=0/\inV w (allR.map V.str)=false:=by
 rcases h with ⟨y,h1,rfl⟩ | ⟨z,rfl,q,h1⟩
 ·refine ⟨.inr (.inl ⟨y,rfl,h1,fun z=>g y h1 (Zdx y z),kT (g y h1)⟩),kT (g y h1),?_⟩
  rw [Ya];exact Qak fun z=>g y h1 (jD y z)
 ·exact ⟨.inr (.inr ⟨z,rfl,q,by lia,vC z⟩),vC z,qg z _⟩
theorem J8{ys:List Str}{y:Str}(g:∀y∈ys,y∉YB)(h:y∈Ji):zd ys 10 (.str y)/\npw (.str y)=Yk y/\inV (.str y) (allR.map V.str)=decide (y∈qz):=by
 obtain ⟨h1,h2⟩:=Zbo y h;refine ⟨.inl ⟨y,rfl,h,fun z=>g y z h2,h1⟩,h1,?_⟩;rw [Ya,Qe4,decide_eq_true_iff,decide_eq_true_iff];exact vw y h
theorem Wc(a b:List V):YV (a++b)=YV a + YV b:=by
 unfold YV;rw [Qef,Qaf]
theorem kU:∀y∈Ji,y∉allR->y∈Za5/\npw (.str y)=Za3 y:=by decide +kernel
theorem Zhx:∀y∈allR,y∈Ji->1<=npw (.str y)/\(y∈Zhp->2<=npw (.str y)):=by decide +kernel
theorem kW{ys:List Str}{B:Nat}{w:V}(C:∀y∈ys,y∉YB)(h:zd ys B w):ze ys w:=by
 rcases h with ⟨y,rfl,h1,h2,g⟩ | ⟨y,rfl,h1,h2,g⟩ | ⟨z,rfl,q,_,g⟩
 ·by_cases ha:y∈allR
  ·exact .inl ⟨y,rfl,ha,h2,Zhx y ha h1⟩
  ·exact .inr (.inl ⟨y,rfl,(kU y h1 ha).1,ha,h2,(kU y h1 ha).2⟩)
 ·exact .inr (.inr (.inl ⟨y,rfl,h1,fun z=>C y h1 (jD y z),g⟩))
 ·exact .inr (.inr (.inr ⟨z,rfl,q,g⟩))
def vD(ys:List Str)(g:List (List V)):Prop:=∀ps∈g,vA ps/\∀w∈ps,zd ys 10 w
theorem vD.word{ys:List Str}{y:Str}(q:∀y∈ys,y∉YB)(g:vD ys O)(h:y∈Ji)(hn:Yk y=n)(hl:n<=O.length):vD ys (O.take (O.length - n)++[.str y::(O.drop (O.length - n)).flatten]):=by
 obtain ⟨w1,w2,w3⟩:=J8 q h;intro ps hp;rcases Qbk.mp hp with hp | hp
 ·exact g ps (Qdj hp)
 ·rw [Qay.mp hp]
  refine ⟨zS (by rw [w2,hn,Qbn];lia) fun p hp=>(g p (Qc7 hp)).1,fun w hw=>?_⟩;rcases Qas.mp hw with rfl | hw
  ·exact w1
  ·obtain ⟨p,hp,hw⟩:=List.mem_flatten.mp hw
   exact (g p (Qc7 hp)).2 w hw
theorem yy(g:List (List V))(w:V)(n:Nat):(g.take n++[w::(g.drop n).flatten]).flatten.length=g.flatten.length + 1/\YV (g.take n++[w::(g.drop n).flatten]).flatten=YV g.flatten + if inV w (allR.map V.str)=true then 1 else 0:=by
 have e:g.flatten=(g.take n).flatten++(g.drop n).flatten:=by rw [<-Qcp,Qcc]
 rw [Qcp,Qdo,Qfs,Qbl,e]
 constructor
 ·simp only [Qaf,Qbc]
  lia
 ·rw [Wc,Wc,W5]
  lia
theorem YC.take{H:Hp}{zs:List V}{rs:List (List V)}(z:YC H zs rs)(n:Nat):YC H (zs.take n) (rs.take n):=by
 refine ⟨by rw [Qa1,Qa1,z.1],fun i r hr=>?_⟩;rw [Qfd] at hr ⊢
 split at hr
 ·rename_i lt
  rw [Qa4 lt];exact z.2 i r hr
 ·cases hr
theorem YC.drop{H:Hp}{zs:List V}{rs:List (List V)}(z:YC H zs rs)(n:Nat):YC H (zs.drop n) (rs.drop n):=by
 refine ⟨by rw [Qbn,Qbn,z.1],fun i r hr=>?_⟩;rw [List.getElem?_drop] at hr ⊢;exact z.2 _ r hr
theorem kX{xs:List g}{j:Nat}{v:g}(h:xs[j]?=some v)(hn:j + n=xs.length)(h1:1<=n):atI xs (-(n:Int))=some v:=by
 unfold atI ixN;rw [Qax (by lia),Qa4 (by lia)];show xs[(-(n:Int) + (xs.length:Int)).toNat]?=_;rw [show (-(n:Int) + (xs.length:Int)).toNat=j by lia];exact h
theorem Zbq{xs:List V}(hn:n<=xs.length)(h1:1<=n):zy xs none (some (-(n:Int)))=xs.take (xs.length - n):=by
 unfold zy;simp only [HT.sIx];rw [Qa4 (by lia),show (-(n:Int) + (xs.length:Int)).toNat=xs.length - n by lia];simp
def qL(ls:List Nat)(ys:List Str)(y:Str):Int:=sm (fun k=>bt ((ls.getD k 0:Nat):Int) (ys.idxOf y)) ls.length
theorem Zhy{ls:List Nat}{ys:List Str}{k l:Nat}{y:Str}(hn:ys.Nodup)(h:ys[i]?=some y)(hk:ls[k]?=some l):bt (qL ls ys y) k=bt (l:Int) i:=by
 unfold qL;rw [WV hn h];have:=Za7 (b:=fun k=>bt ((ls.getD k 0:Nat):Int) i) (fun _=>Yp _ _) k ls.length (Qac.mp hk).1;rw [Qag,hk] at this;exact this
structure Runs(nx:List (List Nat))(ot:List (List V))(n:Nat):Prop where
 pos:0 < nx.length
 ol:ot.length=nx.length
 nr:∀r∈nx,r.length=2 ^ n
 nl:∀r∈nx,∀s∈r,s < nx.length
 or:∀r∈ot,r.length=2 ^ n
def stN(nx:List (List Nat)):Nat->List Nat->Nat
 | s,[]=>s
 | s,c::r=>stN nx ((nx.getD s []).getD c 0) r
def rnO(nx:List (List Nat))(ot:List (List V)):Nat->List Nat->List V
 | _,[]=>[]
 | s,c::r=>(ot.getD s []).getD c .non::rnO nx ot ((nx.getD s []).getD c 0) r
theorem xi(nx:List (List Nat)):∀(s:Nat) (ls:List Nat) (c:Nat),stN nx s (ls++[c])=(nx.getD (stN nx s ls) []).getD c 0
 | _,[],_=>rfl
 | s,d::r,c=>xi nx ((nx.getD s []).getD d 0) r c
theorem kY(nx:List (List Nat))(ot:List (List V)):∀(s:Nat) (ls:List Nat) (c:Nat),rnO nx ot s (ls++[c])=rnO nx ot s ls++[(ot.getD (stN nx s ls) []).getD c .non]
 | _,[],_=>rfl
 | s,d::r,c=>congrArg (List.cons _) (kY nx ot ((nx.getD s []).getD d 0) r c)
theorem jE(nx:List (List Nat))(ot:List (List V)):∀(s:Nat) (ls:List Nat),(rnO nx ot s ls).length=ls.length
 | _,[]=>rfl
 | s,d::r=>congrArg Nat.succ (jE nx ot _ r)
theorem getD_at{l:List g}{d:g}(h:i < l.length):l[i]?=some (l.getD i d):=by rw [Qag,Qab h];rfl
section
variable {κ:Type}[DecidableEq κ]{nx:κ->List κ}{b:κ}{l:List κ}
theorem Zbr{x:κ}(h:x∈l):l[l.idxOf x]?=some x:=by
 have hl:=Qbd h;rw [Qab hl,Qdu hl]
theorem BfE.len(B:BfE nx b l):(bfN nx b l.length).length=l.length:=by rw [<-B.e]
theorem BfE.here(B:BfE nx b l){j:Nat}{s:κ}(h:l[j]?=some s):j < l.length/\(bfN nx b j)[j]?=some s:=v9 B.len B.go (by rw [<-B.e];exact h)
theorem BfE.sub(B:BfE nx b l){j:Nat}(g:j<=l.length){x:κ}(h:x∈bfN nx b j):x∈l:=by
 obtain ⟨r,e⟩:=kR (nx:=nx) (b:=b) j (l.length - j);rw [show j + (l.length - j)=l.length by lia,<-B.e] at e;rw [e];exact Qc6 _ h
theorem BfE.begin(B:BfE nx b l):l[0]?=some b/\b∈l:=by
 have hb:b∈l:=B.sub (Qbp _) (show b∈[b] from Qay.mpr rfl);have hl:0 < l.length:=Qc9 hb;have e:=Zjr (nx:=nx) (b:=b) (i:=l.length) (j:=0) (Qbp _) (s:=b) rfl;rw [<-B.e] at e;exact ⟨e,hb⟩
theorem BfE.next(B:BfE nx b l){s x:κ}(h:s∈l)(hx:x∈nx s):x∈l:=by
 obtain ⟨j,g⟩:=Qb5.mp h;obtain ⟨h1,h2⟩:=B.here g;refine B.sub (j:=j + 1) h1 ?_;rw [j9 h2];exact (xE _ _).mpr (.inr hx)
theorem BfE.nodup(B:BfE nx b l):l.Nodup:=by
 rw [B.e];exact G8 _
def ixG(l:List κ)(x:κ):Nat:=l.idxOf x
theorem BfE.zero(B:BfE nx b l):ixG l b=0:=WV B.nodup B.begin.1
theorem rnG_at(h:∀s∈l,∀x∈nx s,x∈l){s:κ}(hs:s∈l):(rnG nx l).getD (ixG l s) []=(nx s).map fun x=>ixG l x:=by
 unfold rnG ixG;rw [Qag,Qah,Zbr hs]
 rfl
theorem Zhz{ot:κ->List V}{s:κ}(hs:s∈l):(l.map ot).getD (ixG l s) []=ot s:=by
 unfold ixG;rw [Qag,Qah,Zbr hs]
 rfl
end
structure yz(nm:List Str)(ws:List V):Prop where
 n3:nm.length<=3
 nd:nm.Nodup
 kp:∀y∈nm,y∉YB
 ln:ws.length<=100
 wd:∀w∈ws,zd nm 10 w
 en:YS ws
 st:GL ws=1
 rm:YV ws<=15
abbrev nxS(nm:List Str)(g:List V):Int × List Int->List (Int × List Int):=nxT nm (Yv (2 ^ nm.length) nm) g (lgB g)
theorem yz.wc(S:yz N P):∀w∈P,ze N w:=fun w h=>kW S.kp (S.wd w h)
theorem yz.iz(S:yz N P):∀z:Int,V.int z∈P->0<=z/\z < 2 ^ 10:=fun z h=>by
 rcases S.wd _ h with ⟨y,e,_⟩ | ⟨y,e,_⟩ | ⟨q,e,g,h1,_⟩
 ·cases e
 ·cases e
 ·cases e
  exact ⟨g,h1⟩
theorem yz.big(S:yz N P):(10 + 1) * 2 ^ YV P<=1000000:=by
 have:2 ^ YV P<=2 ^ 15:=Qf1 (by decide) S.rm;lia
theorem yz.len{l:List (Int × List Int)}(S:yz N P)(B:BfE (nxS N P) (0,List.replicate (YV P) 0) l):l.length<=1000000:=by
 have h:=Zbi (nx:=nxS N P) (b:=((0:Int),List.replicate (YV P) (0:Int))) (U:=uni (YV P) (lgB P + 1)) (Gg.mpr ⟨0,by lia,rfl,Xs.mpr ⟨Qbx,fun x hx=>.inl (Qc0 hx)⟩⟩) (fun s hs=>jC S.wc rfl hs) l.length;rw [<-B.e,jA] at h;have h2:lgB P<=10:=Zbn S.iz;have g:=S.big;exact Qbg h (Qbg (Qf2 _ (by lia)) g)
theorem Zh0(nm:List Str)(cols:Str->Int)(g:List V)(L:Nat)(s:Int × List Int):(nxT nm cols g L s).length=2 ^ nm.length:=by
 unfold nxT;rw [Qad,Qbr]
theorem Zh1(nm:List Str)(cols:Str->Int)(C:List V)(q g:V)(s:Int × List Int):(otT nm cols C q g s).length=2 ^ nm.length:=by
 unfold otT;rw [Qad,Qbr]
section
variable {κ:Type}[DecidableEq κ]{nx:κ->List κ}{b:κ}{l:List κ}
theorem Zh2(B:BfE nx b l)(hn:∀s,(nx s).length=n):(∀r∈rnG nx l,r.length=n)/\∀r∈rnG nx l,∀s∈r,s < (rnG nx l).length:=by
 constructor
 ·intro r hr
  obtain ⟨s,_,rfl⟩:=Qa2.mp hr;rw [Qad,hn]
 ·intro r hr x hx
  obtain ⟨s,hs,rfl⟩:=Qa2.mp hr;obtain ⟨y,g,rfl⟩:=Qa2.mp hx;rw [xF];exact Qbd (B.next hs g)
end
theorem Zbs{H':Hp}{xs:List V}(h:SqL K H a xs)(g:H f=some (.tbl D))(o:Zcm f H H'):SqL K H' a xs:=by
 rcases h with h | h
 ·rcases h with h | ⟨u,h⟩
  ·exact .inl (.inl (o _ _ h (XW h g fun z=>nomatch z)))
  ·exact .inl (.inr ⟨u,o _ _ h (XW h g fun z=>nomatch z)⟩)
 ·exact .inr h
theorem kZ{H':Hp}{xs:List V}(h:SqL K H a xs)(s:Yb H H'):SqL K H' a xs:=by
 rcases h with h | h
 ·rcases h with h | ⟨u,h⟩
  ·exact .inl (.inl (s _ _ h))
  ·exact .inl (.inr ⟨u,s _ _ h⟩)
 ·exact .inr h
theorem Zcm.tup{g:Addr}{H H':Hp}(o:Zcm g H H'){q:Array Value}(C:H g=some (.tbl q)){b:Addr}{xs:List V}(e:H b=some (.tup xs)):H' b=some (.tup xs):=o _ _ e (XW e C fun z=>nomatch z)
def neA(x y:Int)(k:Nat):Int:=if lo x k=lo y k then 0 else 1
theorem Zfq(x y:Int)(k:Nat):neA x y k=0\/neA x y k=1:=by
 unfold neA
 split
 ·exact .inl rfl
 ·exact .inr rfl
theorem Zdy(x y:Int):neA x y 0=0:=by
 unfold neA lo;rw [Qdw,Qgm,Qgm]
 rfl
theorem Zdz(x y:Int)(k:Nat):neA x y (k + 1)=1 - (1 - (bt x k + bt y k) % 2) * (1 - neA x y k):=by
 have e1:=x9 x k;have e2:=x9 y k;have b1:=zc x k;have b2:=zc y k;unfold neA;rcases Yp x k with a | a <;> rcases Yp y k with b | b <;> rw [a] at e1 ⊢ <;> rw [b] at e2 ⊢ <;> by_cases h:lo x k=lo y k
 all_goals first
  | rw [Qa4 h,Qa4 (by lia)];rfl
  | rw [Qax h,Qax (by lia)];rfl
  | rw [Qa4 h,Qax (by lia)];rfl
def sgA(x:Int)(k:Nat):Int:=lo x k - 2 ^ k * bt x k
def bnA(x y:Int)(k:Nat):Int:=if sgA x k < sgA y k then 1 else 0
theorem bnA_01(x y:Int)(k:Nat):bnA x y k=0\/bnA x y k=1:=by
 unfold bnA
 split
 ·exact .inr rfl
 ·exact .inl rfl
theorem bnA_br(x y:Int)(k:Nat):bnA x y k=1 - (1 - (1 - bt y k) * bt x k) * (1 - brA x y k * (1 - (bt y k + bt x k) % 2)):=by
 have b1:=zc x k;have b2:=zc y k;unfold bnA sgA brA;rcases Yp x k with a | a <;> rcases Yp y k with b | b <;> rw [a,b] <;> by_cases h:lo x k < lo y k
 all_goals first
  | rw [Qa4 h,Qa4 (by lia)];rfl
  | rw [Qax h,Qax (by lia)];rfl
  | rw [Qa4 h,Qax (by lia)];rfl
  | rw [Qax h,Qa4 (by lia)];rfl
def wa(y:Str)(is:List Int)(k:Nat):Int :=
 if y = "twice" then tw (is.getD 0 0) k else if y = "neg" \/ y = "low" \/ y = "nought" then nzA (is.getD 0 0) k else if y = "same" then neA (is.getD 0 0) (is.getD 1 0) k else if y = "add" then cyA (is.getD 0 0) (is.getD 1 0) k else brA (is.getD 0 0) (is.getD 1 0) k
theorem Zh3(y:Str)(is:List Int)(k:Nat):wa y is k=0\/wa y is k=1:=by
 unfold wa
 repeat' split
 ·exact tw_01 _ _
 ·exact Za1 _ _
 ·exact Zfq _ _ _
 ·exact Zaz _ _ _
 ·exact zM _ _ _
theorem Zbt(y:Str)(is:List Int):wa y is 0=0:=by
 unfold wa
 repeat' split
 ·rfl
 ·exact Zdp _
 ·exact Zdy _ _
 ·exact kA _ _
 ·exact kG _ _
def Zcn(y:Str)(bs:List Int)(h:Int):Int :=
 if y = "twice" then bs.getD 0 0 else if y = "neg" \/ y = "low" \/ y = "nought" then 1 - (1 - bs.getD 0 0) * (1 - h) else if y = "same" then 1 - (1 - (bs.getD 0 0 + bs.getD 1 0) % 2) * (1 - h) else if y = "add" then (bs.getD 0 0 + bs.getD 1 0 + h) / 2 else 1 - (1 - (1 - bs.getD 0 0) * bs.getD 1 0) * (1 - h * (1 - (bs.getD 0 0 + bs.getD 1 0) % 2))
theorem y0(y:Str)(is:List Int)(k:Nat):wa y is (k + 1)=Zcn y (is.map fun x=>bt x k) (wa y is k):=by
 unfold wa Zcn;rw [Xz,Xz]
 repeat' split
 ·rfl
 ·exact Zdq _ _
 ·exact Zdz _ _ _
 ·exact kB _ _ _
 ·exact kH _ _ _
def Zjt(y:Str)(bs:List Int)(h:Int):Int :=
 if y = "add" \/ y = "sub" then (bs.getD 0 0 + bs.getD 1 0 + h) % 2 else if y = "neg" then (bs.getD 0 0 + h) % 2 else if y = "twice" then h else if y = "low" then bs.getD 0 0 * (1 - h)
 else if y = "same" \/ y = "nought" then 1 - Zcn y bs h else if y = "under" then Zcn y bs h else 1 - (1 - (1 - bs.getD 1 0) * bs.getD 0 0) * (1 - h * (1 - (bs.getD 1 0 + bs.getD 0 0) % 2))
def y4(y:Str)(bs:List Int):Int :=
 if y = "yes" then 1 else if y = "sign" then bs.getD 0 0 else if y = "not" \/ y = "never" then 1 - bs.getD 0 0 else if y = "and" \/ y = "both" then bs.getD 0 0 * bs.getD 1 0 else if y = "or" \/ y = "either" then 1 - (1 - bs.getD 0 0) * (1 - bs.getD 1 0)
 else if y = "odd" then (bs.getD 0 0 + bs.getD 1 0) % 2 else if y = "so" then 1 - (1 - (1 - bs.getD 0 0)) * (1 - bs.getD 1 0) else 1 - (1 - bs.getD 0 0 * bs.getD 1 0) * (1 - (1 - bs.getD 0 0) * bs.getD 2 0)
theorem Zfr(a b h:Int)(l:Nat):bt (Zjp a b h) l=1 - (1 - (1 - bt a l) * bt b l) * (1 - bt h l * (1 - (bt a l + bt b l) % 2)):=by
 unfold Zjp;rw [Gd,YR,YR,Xy,Xy,Xx]
theorem Zfs(y:Str)(is:List Int)(h:Int)(l:Nat):bt (ktI y is h) l=Zcn y (is.map fun x=>bt x l) (bt h l):=by
 unfold Zcn ktI;rw [Xz,Xz]
 repeat' split
 ·rfl
 ·exact Gd l _ _
 ·rw [Gd,Xx]
 ·rw [Gd,YR,YR,Gd]
  rcases Yp (is.getD 0 0) l with a | a <;> rcases Yp (is.getD 1 0) l with b | b <;> rcases Yp h l with c | c <;> rw [a,b,c] <;> rfl
 ·exact Zfr _ _ _ _
theorem okR_bt(y:Str)(is:List Int)(h:Int)(l:Nat):bt (okI y is h (ktI y is h)) l=Zjt y (is.map fun x=>bt x l) (bt h l):=by
 unfold Zjt okI;rw [<-Zfs,Xz,Xz]
 repeat' split
 ·rw [Xx,Xx]
  lia
 ·exact Xx l _ _
 ·rfl
 ·rw [YR,Xy]
 ·exact Xy l _
 ·rfl
 ·exact Zfr _ _ _ _
theorem Zft(y:Str)(is:List Int)(l:Nat):bt (oaI y is) l=y4 y (is.map fun x=>bt x l):=by
 unfold y4 oaI;rw [Xz,Xz,Xz]
 repeat' split
 ·exact Zax l
 ·rfl
 ·exact Xy l _
 ·exact YR l _ _
 ·exact Gd l _ _
 ·exact Xx l _ _
 ·rw [Gd,Xy]
 ·rw [Gd,YR,YR,Xy]
def clB(y:Str)(is:List Int)(k:Nat):Int :=
 if y = "same" then 1 - neA (is.getD 0 0) (is.getD 1 0) (k + 1) else if y = "nought" then 1 - nzA (is.getD 0 0) (k + 1) else if y = "under" then brA (is.getD 0 0) (is.getD 1 0) (k + 1) else if y = "beneath" then bnA (is.getD 0 0) (is.getD 1 0) k
 else y4 y (is.map fun x=>bt x k)
theorem once01(y:Str)(is:List Int)(k:Nat):y4 y (is.map fun x=>bt x k)=0\/y4 y (is.map fun x=>bt x k)=1:=by
 rw [<-Zft];exact Yp _ _
theorem wb(y:Str)(is:List Int)(k:Nat):clB y is k=0\/clB y is k=1:=by
 unfold clB
 repeat' split
 ·have:=Zfq (is.getD 0 0) (is.getD 1 0) (k + 1)
  lia
 ·have:=Za1 (is.getD 0 0) (k + 1)
  lia
 ·exact zM _ _ _
 ·exact bnA_01 _ _ _
 ·exact once01 _ _ _
def rwR(W:Nat)(ρ:Str->Int)(w:V)(is:List Int):Int :=
 match w with
 | .str y=>if y∈Yf then sm (clB y is) W else wwv ρ w is % 2 ^ W
 | _=>wwv ρ w is % 2 ^ W
def Y0(W:Nat)(ρ:Str->Int):List V->List Int
 | []=>[]
 | w::r=>rwR W ρ w ((Y0 W ρ r).take (npw w))::(Y0 W ρ r).drop (npw w)
theorem G9(W:Nat)(ρ:Str->Int):∀g:List V,(Y0 W ρ g).length=GL g
 | []=>rfl
 | w::r=>by
  show ((Y0 W ρ r).drop (npw w)).length + 1=_;rw [Qbn,G9 W ρ r]
  rfl
def we:V->Bool
 | .str y=>decide (y∈allR)
 | _=>false
def qj(W:Nat)(ρ:Str->Int):List V->Nat->List Int
 | [],_=>[]
 | w::r,k=>qj W ρ r k++if we w=true then [wa (strV w) ((Y0 W ρ r).take (npw w)) k] else []
def Zbu(ys:List Str)(ν:Str->Int)(pl:Nat)(kp:List Int):List V->List Int × List Int
 | []=>([],[])
 | w::r =>
  let p:=Zbu ys ν pl kp r
  match w with
  | .str y =>
   if y∈allR then (Zjt y (p.1.take (npw w)) (kp.getD p.2.length 0)::p.1.drop (npw w),p.2++[Zcn y (p.1.take (npw w)) (kp.getD p.2.length 0)])
   else if y∈ys then (ν y::p.1.drop (npw w),p.2)
   else (y4 y (p.1.take (npw w))::p.1.drop (npw w),p.2)
  | .int z=>(bt z pl::p.1.drop (npw w),p.2)
  | _=>p
theorem y6{ys:List Str}{cols:Str->Int}{pl:Nat}{kp:List Int}(hk:∀i:Nat,kp.getD i 0=0\/kp.getD i 0=1)(l:Nat):∀g:List V,
  (Wb ys cols pl kp g).1.map (fun x=>bt x l)=(Zbu ys (fun y=>bt (cols y) l) pl kp g).1/\(Wb ys cols pl kp g).2.map (fun x=>bt x l)=(Zbu ys (fun y=>bt (cols y) l) pl kp g).2
 | []=>⟨rfl,rfl⟩
 | w::r=>by
  obtain ⟨e1,e2⟩:=y6 (ys:=ys) (cols:=cols) (pl:=pl) hk l r;have C:(Wb ys cols pl kp r).2.length=(Zbu ys (fun y=>bt (cols y) l) pl kp r).2.length:=by rw [<-e2,Qad]
  cases w with
  | str y =>
   show (if y∈allR then _ else if y∈ys then _ else _:List Int × List Int).1.map _=(if y∈allR then _ else if y∈ys then _ else _:List Int × List Int).1/\(if y∈allR then _ else if y∈ys then _ else _:List Int × List Int).2.map _=(if y∈allR then _ else if y∈ys then _ else _:List Int × List Int).2
   by_cases ha:y∈allR
   ·rw [Qa4 ha,Qa4 ha]
    constructor
    ·show bt _ l::_=_::_
     rw [okR_bt,vv (hk _),Qdv,Qd9,e1,C]
    ·show List.map _ (_++[_])=_++[_]
     rw [Qbm,e2];show _++[bt _ l]=_;rw [Zfs,vv (hk _),Qdv,e1,C]
   ·rw [Qax ha,Qax ha]
    by_cases q:y∈ys
    ·rw [Qa4 q,Qa4 q]
     refine ⟨?_,e2⟩;show bt _ l::List.map _ (List.drop _ _)=_::_;rw [Qd9,e1]
    ·rw [Qax q,Qax q]
     refine ⟨?_,e2⟩;show bt _ l::List.map _ (List.drop _ _)=_::_;rw [Zft,Qdv,Qd9,e1]
  | int z =>
   refine ⟨?_,e2⟩;show bt (-(bt z pl)) l::List.map _ (List.drop _ _)=bt z pl::_;rw [Qd9,e1,vv (Yp z pl)]
  | _=>exact ⟨e1,e2⟩
theorem jF:∀y∈Ji,y∉Yf:=by decide +kernel
theorem Zd0{y:Str}(g:y∈qz)(is:List Int)(k:Nat):wa y is k=hld y is k:=by
 unfold qz at g;simp only [Qas,Qa6,Qc1] at g;rcases g with rfl | rfl | rfl | rfl | rfl <;> rfl
theorem Zd1{y:Str}(g:y∈qz)(bs:List Int)(h:Int):Zjt y bs h=ans1 y bs h:=by
 unfold qz at g;simp only [Qas,Qa6,Qc1] at g;rcases g with rfl | rfl | rfl | rfl | rfl <;> rfl
theorem Zbv{y:Str}(g:y∈Ji)(hr:y∉qz)(bs:List Int):y4 y bs=once y bs:=by
 rcases zN y g hr with ⟨rfl,_⟩ | ⟨rfl,_⟩ | ⟨rfl,_⟩ | ⟨rfl,_⟩ | ⟨rfl,_⟩ <;> rfl
theorem Zbw:∀y∈Yf,y∈allR->y = "same" \/ y = "under" \/ y = "beneath" \/ y = "nought" := by decide +kernel
theorem gp:∀y∈Yf,y∉allR->¬y = "same" /\ ¬y = "under" /\ ¬y = "beneath" /\ ¬y = "nought" := by decide +kernel
theorem Zh4{f:Nat->Int}(hf:∀i,f i=0\/f i=1){k W:Nat}(h:k < W):bt (sm f W) k=f k:=Za7 hf k W h
theorem Zd2(ρ:Str->Int){y:Str}{W k:Nat}(hk:k < W)(ha:y∈allR){is:List Int}(h:y∈Yf\/(y∈Ji/\is.length=Yk y)):Zjt y (is.map fun x=>bt x k) (wa y is k)=bt (rwR W ρ (.str y) is) k:=by
 rcases h with hc | ⟨hs,hl⟩
 ·show _=bt (if y∈Yf then _ else _) k
  rw [Qa4 hc,Zh4 (wb y is) hk];have hs:=y0 y is k;rcases Zbw y hc ha with rfl | rfl | rfl | rfl
  ·show 1 - Zcn "same" _ _=1 - neA _ _ (k + 1)
   rw [<-hs]
   rfl
  ·show Zcn "under" _ _=brA _ _ (k + 1)
   rw [<-hs]
   rfl
  ·show 1 - (1 - (1 - List.getD _ 1 0) * List.getD _ 0 0) * (1 - brA _ _ k * (1 - (List.getD _ 1 0 + List.getD _ 0 0) % 2))=bnA _ _ k
   rw [Xz,Xz,bnA_br]
  ·show 1 - Zcn "nought" _ _=1 - nzA _ (k + 1)
   rw [<-hs]
   rfl
 ·have hr:=(vw y hs).mp ha
  show _=bt (if y∈Yf then _ else _) k;rw [Qax (jF y hs),Zd1 hr,Zd0 hr,ans_ok ρ hr hl,Xl _ _ _ hk]
theorem Zbx(ρ:Str->Int){y:Str}{W k:Nat}(hk:k < W)(ha:y∉allR){is:List Int}(h:y∈Yf\/(y∈Ji/\is.length=Yk y)):y4 y (is.map fun x=>bt x k)=bt (rwR W ρ (.str y) is) k:=by
 rcases h with hc | ⟨hs,hl⟩
 ·show _=bt (if y∈Yf then _ else _) k
  obtain ⟨h1,h2,q,g⟩:=gp y hc ha;rw [Qa4 hc,Zh4 (wb y is) hk];unfold clB;rw [Qax h1,Qax g,Qax h2,Qax q]
 ·have hr:y∉qz:=fun z=>ha ((vw y hs).mpr z)
  show _=bt (if y∈Yf then _ else _) k;rw [Qax (jF y hs),Zbv hs hr,Zho ρ hs hr hl,Xl _ _ _ hk]
def gq(ys:List Str)(B:Nat)(w:V):Prop:=zd ys B w\/∃y,w=.str y/\y∈Yf/\y∉ys
theorem Zd3(W:Nat)(ρ:Str->Int)(g:List V)(k:Nat):(qj W ρ g k).length=(g.filter we).length:=by
 induction g with
 | nil=>rfl
 | cons w r q =>
  show (qj W ρ r k++_).length=_;rw [Qaf,q,Qdf]
  split <;> rfl
theorem Zby{ys:List Str}{B W k pl:Nat}{ρ:Str->Int}(hk:k < W)(I:pl=k\/(B<=pl/\B<=k))(D:∀y∈ys,y∉YB)(kp:List Int):∀E:List V,(∀w∈E,gq ys B w)->YS E->(∃r,kp=qj W ρ E k++r)->Zbu ys (fun y=>bt (ρ y) k) pl kp E=((Y0 W ρ E).map (fun x=>bt x k),qj W ρ E (k + 1))
 | [],_,_,_=>rfl
 | w::r,hw,he,O=>by
  obtain ⟨r0,J⟩:=O;have N:=Zby (ρ:=ρ) hk I D kp r (fun w h=>hw w (Qam _ h)) he.2 ⟨_,by rw [J];show (_++_)++_=_;rw [Qbu]⟩;have G:=G9 W ρ r;have S:((Y0 W ρ r).take (npw w)).length=npw w:=by rw [Qa1,G];exact Qem he.1
  have Z:=Zd3 W ρ r;have word:∀y,w=.str y->y∉ys->(y∈Yf\/(y∈Ji/\npw w=Yk y))->Zbu ys (fun y=>bt (ρ y) k) pl kp (w::r)=((Y0 W ρ (w::r)).map (fun x=>bt x k),qj W ρ (w::r) (k + 1)):=by
   rintro y rfl q C;have M:y∈Yf\/(y∈Ji/\((Y0 W ρ r).take (npw (.str y))).length=Yk y):=by rw [S];exact C
   by_cases ha:y∈allR
   ·have g:we (.str y)=true:=Qaj ha
    have hg:kp.getD (qj W ρ r (k + 1)).length 0=wa y ((Y0 W ρ r).take (npw (.str y))) k:=by
     have e:qj W ρ (.str y::r) k=qj W ρ r k++[wa y ((Y0 W ρ r).take (npw (.str y))) k]:=by
      show _++(if we (.str y)=true then _ else _)=_;rw [Qa4 g]
      rfl
     rw [J,e,Z,<-Z k,Qbu,Qag,Qau (Qai _),Qdd]
     rfl
    show (if y∈allR then _ else _)=_;rw [Qa4 ha,N]
    try dsimp only
    rw [hg,<-Qdv,Zd2 ρ hk ha M,<-y0];refine Qhb ?_ ?_
    ·show _::_=bt _ k::((Y0 W ρ r).drop (npw (.str y))).map _
     rw [Qd9]
    ·show _=_++(if we (.str y)=true then _ else _)
     rw [Qa4 g]
     rfl
   ·have g:¬we (.str y)=true:=fun z=>ha (Qba z)
    show (if y∈allR then _ else if y∈ys then _ else _)=_;rw [Qax ha,Qax q,N]
    try dsimp only
    rw [<-Qdv,Zbx ρ hk ha M];refine Qhb ?_ ?_
    ·show _::_=bt _ k::((Y0 W ρ r).drop (npw (.str y))).map _
     rw [Qd9]
    ·show _=_++(if we (.str y)=true then _ else _)
     rw [Qax g,Qbl]
  rcases hw w Qal with (⟨y,rfl,C,q,hp⟩ | ⟨y,rfl,C,hnr,hp⟩ | ⟨z,rfl,Y,z1,hp⟩) | ⟨y,rfl,C,q⟩
  ·exact word y rfl q (.inr ⟨C,hp⟩)
  ·have L:y∉allR:=fun z=>D y C (jD y z)
   have R:y∉Yf:=fun z=>D y C (W0 y z);have g:¬we (.str y)=true:=fun z=>L (Qba z);show (if y∈allR then _ else if y∈ys then _ else _)=_;rw [Qax L,Qa4 C,N];refine Qhb ?_ ?_
   ·show _::_=bt (if y∈Yf then _ else _) k::((Y0 W ρ r).drop (npw (.str y))).map _
    rw [Qax R,Xl _ _ _ hk,hp,List.take_zero,Qew,Qew]
    rfl
   ·show _=_++(if we (.str y)=true then _ else _)
    rw [Qax g,Qbl]
  ·show (bt z pl::(Zbu ys (fun y=>bt (ρ y) k) pl kp r).1.drop (npw (.int z)),(Zbu ys (fun y=>bt (ρ y) k) pl kp r).2)=_
   rw [N];have ez:bt z pl=bt z k:=by
    rcases I with h | ⟨h1,h2⟩
    ·rw [h]
    ·rw [Zfm Y z1 h1,Zfm Y z1 h2]
   refine Qhb ?_ ?_
   ·show bt z pl::_=bt (wwv ρ (.int z) ((Y0 W ρ r).take (npw (.int z))) % 2 ^ W) k::((Y0 W ρ r).drop (npw (.int z))).map _
    rw [Xl _ _ _ hk,hp,Qew,Qew,ez]
    rfl
   ·show _=_++(if we (.int z)=true then _ else _)
    rw [Qax (fun z=>nomatch z),Qbl]
  ·exact word y rfl q (.inl C)
theorem zT{ys:List Str}{ν g:Str->Int}{pl:Nat}{kp:List Int}(h:∀y∈ys,ν y=g y):∀C:List V,Zbu ys ν pl kp C=Zbu ys g pl kp C
 | []=>rfl
 | w::r=>by
  have D:=zT (pl:=pl) (kp:=kp) h r;unfold Zbu;rw [D];cases w with
  | str y =>
   by_cases hr:y∈allR
   ·simp only [Qa4 hr]
   ·by_cases q:y∈ys
    ·simp only [Qax hr,Qa4 q,h y q]
    ·simp only [Qax hr,Qax q]
  | _=>rfl
theorem wg{W:Nat}{ρ:Str->Int}{k:Nat}:∀{g:List V},∀x∈qj W ρ g k,x=0\/x=1
 | w::r,x,h=>by
  have h:x∈qj W ρ r k++if we w=true then [wa (strV w) ((Y0 W ρ r).take (npw w)) k] else []:=h;rcases Qbk.mp h with h | h
  ·exact wg x h
  ·split at h
   ·rw [Qay.mp h]
    exact Zh3 _ _ _
   ·cases h
theorem Zh5(W:Nat)(ρ:Str->Int)(g:List V)(k i:Nat):(qj W ρ g k).getD i 0=0\/(qj W ρ g k).getD i 0=1:=by
 rw [Qag];cases e:(qj W ρ g k)[i]? with
 | none=>exact .inl rfl
 | some x=>exact wg x (Qao e)
theorem y7(W:Nat)(ρ:Str->Int):∀g:List V,qj W ρ g 0=List.replicate (g.filter we).length 0
 | []=>rfl
 | w::r=>by
  show qj W ρ r 0++_=_;rw [y7 W ρ r,Qdf]
  split
  ·rw [Zbt,Qbc,List.replicate_succ']
  ·rw [Qbl]
theorem y8{ys:List Str}{B:Nat}:∀{g:List V},(∀w∈g,gq ys B w)->YV g=(g.filter we).length
 | [],_=>rfl
 | w::r,h=>by
  rw [W5,y8 (fun v hv=>h v (Qam _ hv)),Qdf];have e:inV w (allR.map V.str)=we w:=by
   rcases h w Qal with (⟨y,rfl,_⟩ | ⟨y,rfl,_⟩ | ⟨z,rfl,_⟩) | ⟨y,rfl,_⟩
   ·exact Ya _ _
   ·exact Ya _ _
   ·exact qg z _
   ·exact Ya _ _
  rw [e]
  split <;> rfl
theorem xI{ls:List Nat}{W k c:Nat}(g:N.Nodup)(hk:∀y∈N,y∉YB)(hw:∀w∈P,gq N 10 w)(he:YS P)(G:k < W)(hc:ls[k]?=some c)(D:c < 2 ^ N.length) :
  (Zio N (Yv (2 ^ N.length) N) P (min (k:Int) (lgB P:Int),qj W (qL ls N) P k)).1.map (fun x=>bt x c)=(Y0 W (qL ls N) P).map (fun x=>bt x k)/\(Zio N (Yv (2 ^ N.length) N) P (min (k:Int) (lgB P:Int),qj W (qL ls N) P k)).2.map (fun x=>bt x c)=qj W (qL ls N) P (k + 1):=by
 have q:∀w∈P,gq N (lgB P) w:=fun w h=>by
  rcases hw w h with (z | z | ⟨z,rfl,E,_,I⟩) | z
  ·exact .inl (.inl z)
  ·exact .inl (.inr (.inl z))
  ·exact .inl (.inr (.inr ⟨z,rfl,E,lgB_lt h E,I⟩))
  ·exact .inr z
 obtain ⟨e1,e2⟩:=y6 (ys:=N) (cols:=Yv (2 ^ N.length) N) (pl:=(min (k:Int) (lgB P:Int)).toNat) (Zh5 W (qL ls N) P k) c P;have C:∀y∈N,bt (Yv (2 ^ N.length) N y) c=bt (qL ls N y) k:=fun y J=>by
  obtain ⟨i,hi⟩:=Qb5.mp J;rw [Zdw g hi D,Zhy g hi hc]
 have e3:=zT (pl:=(min (k:Int) (lgB P:Int)).toNat) (kp:=qj W (qL ls N) P k) C P;have L:=Zby (ρ:=qL ls N) (pl:=(min (k:Int) (lgB P:Int)).toNat) G (by lia:(min (k:Int) (lgB P:Int)).toNat=k\/(lgB P<=(min (k:Int) (lgB P:Int)).toNat/\lgB P<=k)) hk (qj W (qL ls N) P k) P q he ⟨[],(Qbl _).symm⟩;rw [e3,L] at e1 e2;exact ⟨e1,e2⟩
theorem Zbz{ls:List Nat}{W:Nat}{o:Int}{J:V}{l:List (Int × List Int)}(E:N.Nodup)(hk:∀y∈N,y∉YB)(hw:∀w∈P,gq N 10 w)(he:YS P)(hW:W<=ls.length)(M:∀x∈ls,x < 2 ^ N.length)(ho:Y0 W (qL (ls.take W) N) P=[o])
  (B:BfE (nxT N (Yv (2 ^ N.length) N) P (lgB P)) (0,List.replicate (YV P) 0) l) :
  ∀k,k < W->(rnO (rnG (nxT N (Yv (2 ^ N.length) N) P (lgB P)) l) (l.map (otT N (Yv (2 ^ N.length) N) P v J)) 0 ls)[k]?=some (if bt o k=1 then J else v):=by
 have cl:∀s∈l,∀x∈nxT N (Yv (2 ^ N.length) N) P (lgB P) s,x∈l:=fun s hs x hx=>B.next hs hx;generalize hρ:qL (ls.take W) N=ρ at *;have R:((0:Int),List.replicate (YV P) (0:Int))=(min ((0:Nat):Int) (lgB P:Int),qj W ρ P 0):=by
  rw [y7,y8 hw,show min ((0:Nat):Int) (lgB P:Int)=0 by lia]
 have at_:∀k,k < W->∃c,ls[k]?=some c/\(ls.take W)[k]?=some c/\c < 2 ^ N.length:=fun k hk=>by
  have h1:ls[k]?=some ls[k]:=Qab (by lia);exact ⟨_,h1,by rw [Qfd,Qa4 hk];exact h1,M _ (Qao h1)⟩
 have step:∀k,k<=W->stN (rnG (nxT N (Yv (2 ^ N.length) N) P (lgB P)) l) 0 (ls.take k)=ixG l (min (k:Int) (lgB P:Int),qj W ρ P k)/\(min (k:Int) (lgB P:Int),qj W ρ P k)∈l:=by
  intro k
  induction k with
  | zero =>
   intro _;rw [<-R];exact ⟨B.zero.symm,B.begin.2⟩
  | succ k L =>
   intro hk1;obtain ⟨i1,i2⟩:=L (by lia);obtain ⟨c,hc,D,C⟩:=at_ k (by lia);obtain ⟨_,e2⟩:=xI E hk hw he (show k < W by lia) D C;rw [hρ] at e2;have O:(nxT N (Yv (2 ^ N.length) N) P (lgB P) (min (k:Int) (lgB P:Int),qj W ρ P k))[c]?=some (min ((k + 1:Nat):Int) (lgB P:Int),qj W ρ P (k + 1)):=by
    unfold nxT;rw [xf C,e2];congr 2;show min (min (k:Int) (lgB P:Int) + 1) (lgB P:Int)=_;lia
   refine ⟨?_,B.next i2 (Qao O)⟩;rw [take_snoc hc,xi,i1,rnG_at cl i2,Qag,Qah,O]
   rfl
 intro k I;obtain ⟨i1,i2⟩:=step k (by lia);obtain ⟨c,hc,D,C⟩:=at_ k I;obtain ⟨e1,_⟩:=xI E hk hw he I D C;rw [hρ] at e1;have G:k < ls.length:=by lia
 have S:ls=ls.take k++c::ls.drop (k + 1):=by
  rw [show c::ls.drop (k + 1)=ls.drop k by rw [Qcw G];congr 1;exact (Qac.mp hc).2.symm,Qcc]
 have Y:∀(nx:List (List Nat)) (ot:List (List V)) (s:Nat) (a:List Nat) (c:Nat) (r:List Nat),(rnO nx ot s (a++c::r))[a.length]?=some ((ot.getD (stN nx s a) []).getD c .non):=fun nx ot s a c r=>by
  induction a generalizing s with
  | nil=>rfl
  | cons d a L=>exact L _
 have g:=Y (rnG (nxT N (Yv (2 ^ N.length) N) P (lgB P)) l) (l.map (otT N (Yv (2 ^ N.length) N) P v J)) 0 (ls.take k) c (ls.drop (k + 1));rw [<-S,Qa1,Qem (by lia),i1,Zhz i2] at g;rw [g];congr 1;unfold otT;rw [Qag,xf C];rw [ho] at e1;generalize (Zio N (Yv (2 ^ N.length) N) P (min (k:Int) (lgB P:Int),qj W ρ P k)).1=q at e1 ⊢;have Z:q.length=1:=by
  have:=congrArg List.length e1;rw [Qad] at this;exact this
 match q,Z,e1 with
 | [x],_,e1 =>
  have e1:bt x c=bt o k:=by
   injection e1
  show (if bt x c=1 then J else v)=_;rw [e1]
inductive TyR(ys:List Str):List V->List Bool->Prop
 | nil:TyR ys [] []
 | sum {w:V} {r:List V} {ks:List Bool}:zd ys 10 w->TyR ys r (List.replicate (npw w) false++ks)->TyR ys (w::r) (false::ks)
 | clm {y:Str} {r:List V} {ks:List Bool}:y∈Yf->y∉ys->TyR ys r (List.replicate (xZ (.str y)) false++(List.replicate (j4 (.str y)) true++ks))->TyR ys (.str y::r) (true::ks)
theorem y9:∀y∈Yf,npw (.str y)=xZ (.str y) + j4 (.str y):=by decide +kernel
theorem TyR.facts{ys:List Str}{ks:List Bool}(h:TyR ys P ks):(∀w∈P,gq ys 10 w)/\YS P/\GL P=ks.length:=by
 induction h with
 | nil=>exact ⟨(fun _ h=>nomatch h),trivial,rfl⟩
 | @sum w r ks hw _ q =>
  obtain ⟨h1,h2,g⟩:=q;rw [Qaf,Qbx] at g;refine ⟨fun v hv=>?_,⟨by lia,h2⟩,?_⟩
  ·rcases Qas.mp hv with rfl | hv
   ·exact .inl hw
   ·exact h1 v hv
  ·show GL r - npw w + 1=ks.length + 1
   lia
 | @clm y r ks C hn _ q =>
  obtain ⟨h1,h2,g⟩:=q;rw [Qaf,Qaf,Qbx,Qbx] at g;have e:=y9 y C;refine ⟨fun v hv=>?_,⟨by lia,h2⟩,?_⟩
  ·rcases Qas.mp hv with rfl | hv
   ·exact .inr ⟨y,rfl,C,hn⟩
   ·exact h1 v hv
  ·show GL r - npw (.str y) + 1=ks.length + 1
   lia
theorem gr{x:Int}{W:Nat}(g:0<=x)(h1:x < 2 ^ W):lo x W=x:=Qb7 g h1
theorem Zb0{x:Int}{k:Nat}(g:0<=x)(h1:x < 2 ^ (k + 1)):sgA x k=sgn (2 ^ (k + 1)) x:=by
 have e:=x9 x k;rw [gr g h1] at e;have b:=zc x k;have hp:(2:Int) ^ (k + 1)=2 ^ k * 2:=Qdl 2 k;unfold sgA sgn;rcases Yp x k with a | a <;> rw [a] at e ⊢
 ·rw [Qax (by lia)]
  lia
 ·rw [Qa4 (by lia)]
  lia
theorem gs:∀y∈Yf,0 < xZ (.str y)->j4 (.str y)=0/\((y = "same" /\ xZ (.str y)=2)\/(y = "under" /\ xZ (.str y)=2)\/(y = "beneath" /\ xZ (.str y)=2)\/(y = "sign" /\ xZ (.str y)=1)\/(y = "nought" /\ xZ (.str y)=1)):=by decide +kernel
theorem gu:∀y∈Yf,¬0 < xZ (.str y)->(y = "both" /\ j4 (.str y)=2)\/(y = "either" /\ j4 (.str y)=2)\/(y = "so" /\ j4 (.str y)=2)\/(y = "never" /\ j4 (.str y)=1)\/(y = "yes" /\ j4 (.str y)=0):=by decide +kernel
theorem wj{W:Nat}(q:1<=W){y:Str}(g:y∈Yf)(hs:0 < xZ (.str y)){xs:List Int}(hl:xs.length=xZ (.str y))(hb:∀x∈xs,0<=x/\x < 2 ^ W):Zhk (2 ^ W) y xs=decide (clB y xs (W - 1)=1):=by
 obtain ⟨k,rfl⟩:∃k,W=k + 1:=⟨W - 1,by lia⟩;show _=decide (clB y xs k=1);obtain ⟨_,h⟩:=gs y g hs;rcases h with ⟨rfl,e⟩ | ⟨rfl,e⟩ | ⟨rfl,e⟩ | ⟨rfl,e⟩ | ⟨rfl,e⟩ <;> rw [e] at hl
 ·match xs,hl with
  | [a,b],_ =>
   have ha:=hb a Qal;have hb:=hb b (Qam _ Qal);show decide (a=b)=decide (1 - neA a b (k + 1)=1);refine Qdh.mpr ?_;unfold neA;rw [gr ha.1 ha.2,gr hb.1 hb.2]
   split <;> lia
 ·match xs,hl with
  | [a,b],_ =>
   have ha:=hb a Qal;have hb:=hb b (Qam _ Qal);show decide (a < b)=decide (brA a b (k + 1)=1);refine Qdh.mpr ?_;unfold brA;rw [gr ha.1 ha.2,gr hb.1 hb.2]
   split <;> lia
 ·match xs,hl with
  | [a,b],_ =>
   have ha:=hb a Qal;have hb:=hb b (Qam _ Qal);show decide (sgn (2 ^ (k + 1)) a < sgn (2 ^ (k + 1)) b)=decide (bnA a b k=1);refine Qdh.mpr ?_;unfold bnA;rw [Zb0 ha.1 ha.2,Zb0 hb.1 hb.2]
   split <;> lia
 ·match xs,hl with
  | [a],_ =>
   have ha:=hb a Qal;show decide (sgn (2 ^ (k + 1)) a < 0)=decide (bt a k=1);refine Qdh.mpr ?_;rw [<-Zb0 ha.1 ha.2];have b:=zc a k;unfold sgA;rcases Yp a k with h | h <;> rw [h] <;> lia
 ·match xs,hl with
  | [a],_ =>
   have ha:=hb a Qal;show decide (a=0)=decide (1 - nzA a (k + 1)=1);refine Qdh.mpr ?_;unfold nzA brA;rw [gr ha.1 ha.2,show lo 0 (k + 1)=0 from Qgz _]
   split <;> lia
theorem wk{k:Nat}{y:Str}(q:y∈Yf)(hs:¬0 < xZ (.str y)){xs:List Int}(hl:xs.length=j4 (.str y)):Zfi y (xs.map fun x=>decide (bt x k=1))=decide (clB y xs k=1):=by
 rcases gu y q hs with ⟨rfl,e⟩ | ⟨rfl,e⟩ | ⟨rfl,e⟩ | ⟨rfl,e⟩ | ⟨rfl,e⟩ <;> rw [e] at hl
 ·match xs,hl with
  | [a,b],_ =>
   show (decide (bt a k=1) && decide (bt b k=1))=decide (bt a k * bt b k=1);rcases Yp a k with h | h <;> rcases Yp b k with g | g <;> rw [h,g] <;> rfl
 ·match xs,hl with
  | [a,b],_ =>
   show (decide (bt a k=1) || decide (bt b k=1))=decide (1 - (1 - bt a k) * (1 - bt b k)=1);rcases Yp a k with h | h <;> rcases Yp b k with g | g <;> rw [h,g] <;> rfl
 ·match xs,hl with
  | [a,b],_ =>
   show (decide (bt b k=1) || !decide (bt a k=1))=decide (1 - (1 - (1 - bt a k)) * (1 - bt b k)=1);rcases Yp a k with h | h <;> rcases Yp b k with g | g <;> rw [h,g] <;> rfl
 ·match xs,hl with
  | [a],_ =>
   show (!decide (bt a k=1))=decide (1 - bt a k=1);rcases Yp a k with h | h <;> rw [h] <;> rfl
 ·match xs,hl with
  | [],_=>rfl
def Seg(ys:List Str)(b:Bool)(g:List V):Prop:=∀(r:List V) (ks:List Bool),TyR ys r ks->TyR ys (g++r) (b::ks)
theorem Zb1{ys:List Str}:∀{q:List V},(∀w∈q,zd ys 10 w)->YS q->∀(r:List V) (ks:List Bool),TyR ys r ks->TyR ys (q++r) (List.replicate (GL q) false++ks)
 | [],_,_,r,ks,h=>h
 | w::g,hw,he,r,ks,h=>by
  have C:=Zb1 (fun v hv=>hw v (Qam _ hv)) he.2 r ks h;show TyR ys (w::(g++r)) (List.replicate (GL g - npw w + 1) false++ks);rw [List.replicate_succ];refine .sum (hw w Qal) ?_;show TyR ys (g++r) (List.replicate (npw w) false++(List.replicate (GL g - npw w) false++ks));rw [<-Qbu,List.replicate_append_replicate,show npw w + (GL g - npw w)=GL g by have:=he.1;lia];exact C
theorem Seg.sum{ys:List Str}{g:List V}(hw:∀w∈g,zd ys 10 w)(he:YS g)(hs:GL g=1):Seg ys false g:=fun r ks h=>by
 have:=Zb1 hw he r ks h;rw [hs] at this;exact this
theorem Seg.rel1{ys:List Str}{y:Str}(g:y∈Yf)(hn:y∉ys)(h1:xZ (.str y)=1)(h2:j4 (.str y)=0)(h:Seg ys false P):Seg ys true (.str y::P):=fun r ks hr=>by
 refine .clm g hn ?_;rw [h1,h2];exact h r ks hr
theorem Seg.rel2{ys:List Str}{y:Str}{vs:List V}(q:y∈Yf)(hn:y∉ys)(h1:xZ (.str y)=2)(h2:j4 (.str y)=0)(h:Seg ys false P)(g:Seg ys false vs):Seg ys true (.str y::(P++vs)):=fun r ks hr=>by
 refine .clm q hn ?_;rw [h1,h2];show TyR ys ((P++vs)++r) _;rw [Qbu];exact h _ _ (g r ks hr)
theorem Seg.clm1{ys:List Str}{y:Str}(g:y∈Yf)(hn:y∉ys)(h1:xZ (.str y)=0)(h2:j4 (.str y)=1)(h:Seg ys true P):Seg ys true (.str y::P):=fun r ks hr=>by
 refine .clm g hn ?_;rw [h1,h2];exact h r ks hr
theorem Seg.clm2{ys:List Str}{y:Str}{vs:List V}(q:y∈Yf)(hn:y∉ys)(h1:xZ (.str y)=0)(h2:j4 (.str y)=2)(h:Seg ys true P)(g:Seg ys true vs):Seg ys true (.str y::(P++vs)):=fun r ks hr=>by
 refine .clm q hn ?_;rw [h1,h2];show TyR ys ((P++vs)++r) _;rw [Qbu];exact h _ _ (g r ks hr)
theorem Seg.ty{ys:List Str}{b:Bool}(h:Seg ys b P):TyR ys P [b]:=by
 have:=h [] [] .nil;rw [Qbl] at this;exact this
theorem zU:("never" : Str)∈Yf/\("never" : Str)∉allR/\xZ (.str "never")=0/\j4 (.str "never")=1:=by decide +kernel
theorem Gh(w:V)(r:List V):YV (w::r)<=YV r + 1:=by
 rw [W5]
 split <;> lia
theorem claimC:∀y∈Yf,(y∈allR/\1<=npw (.str y)/\(y∈Zhp->2<=npw (.str y)))\/(y∈Za5/\y∉allR/\npw (.str y)=Za3 y):=by decide +kernel
theorem J9(W:Nat)(ρ:Str->Int):∀{u:List V},YS u->∀r,Y0 W ρ (u++r)=Y0 W ρ u++Y0 W ρ r
 | [],_,r=>rfl
 | w::u,h,r=>by
  have g:=J9 W ρ h.2 r;have hl:npw w<=(Y0 W ρ u).length:=by rw [G9];exact h.1
  show rwR W ρ w ((Y0 W ρ (u++r)).take (npw w))::(Y0 W ρ (u++r)).drop (npw w)=(rwR W ρ w ((Y0 W ρ u).take (npw w))::(Y0 W ρ u).drop (npw w))++Y0 W ρ r;rw [g,List.take_append_of_le_length hl,List.drop_append_of_le_length hl,Qey]
theorem rwR_bd(W:Nat)(ρ:Str->Int)(w:V)(is:List Int):0<=rwR W ρ w is/\rwR W ρ w is < 2 ^ W:=by
 have hp:=xb W;have hm:∀z:Int,0<=z % 2 ^ W/\z % 2 ^ W < 2 ^ W:=fun z=>⟨Qbi _ (by lia),Qbb _ hp⟩;unfold rwR
 split
 ·split
  ·exact j7 (wb _ _) W
  ·exact hm _
 ·exact hm _
theorem WO{W:Nat}{ρ:Str->Int}{o:Int}:∀{g:List V},Y0 W ρ g=[o]->0<=o/\o < 2 ^ W
 | [],h=>nomatch h
 | w::r,h=>by
  have e:rwR W ρ w ((Y0 W ρ r).take (npw w))=o:=(List.cons.inj h).1;rw [<-e];exact rwR_bd _ _ _ _
structure POk(nm:List Str)(b:Bool)(ws:List V):Prop where
 n3:nm.length<=3
 nd:nm.Nodup
 kp:∀y∈nm,y∉YB
 ln:ws.length<=100
 sg:Seg nm b ws
 rm:YV ws<=15
theorem POk.wc{b:Bool}(S:POk N b P):∀w∈P,ze N w:=fun w h=>by
 rcases S.sg.ty.facts.1 w h with h | ⟨y,rfl,q,hn⟩
 ·exact kW S.kp h
 ·rcases claimC y q with ⟨h1,h2,g⟩ | ⟨h1,h2,g⟩
  ·exact .inl ⟨y,rfl,h1,hn,h2,g⟩
  ·exact .inr (.inl ⟨y,rfl,h1,h2,hn,g⟩)
theorem POk.iz{b:Bool}(S:POk N b P):∀z:Int,V.int z∈P->0<=z/\z < 2 ^ 10:=fun z h=>by
 rcases S.sg.ty.facts.1 _ h with (⟨y,e,_⟩ | ⟨y,e,_⟩ | ⟨q,e,g,h1,_⟩) | ⟨y,e,_⟩
 ·cases e
 ·cases e
 ·cases e
  exact ⟨g,h1⟩
 ·cases e
theorem POk.big{b:Bool}(S:POk N b P):(10 + 1) * 2 ^ YV P<=1000000:=by
 have:2 ^ YV P<=2 ^ 15:=Qf1 (by decide) S.rm;lia
theorem POk.len{b:Bool}{l:List (Int × List Int)}(S:POk N b P)(B:BfE (nxS N P) (0,List.replicate (YV P) 0) l):l.length<=1000000:=by
 have h:=Zbi (nx:=nxS N P) (b:=((0:Int),List.replicate (YV P) (0:Int))) (U:=uni (YV P) (lgB P + 1)) (Gg.mpr ⟨0,by lia,rfl,Xs.mpr ⟨Qbx,fun x hx=>.inl (Qc0 hx)⟩⟩) (fun s hs=>jC S.wc rfl hs) l.length;rw [<-B.e,jA] at h;have h2:lgB P<=10:=Zbn S.iz;have g:=S.big;exact Qbg h (Qbg (Qf2 _ (by lia)) g)
theorem POk.runs{b:Bool}{l:List (Int × List Int)}(S:POk N b P)(B:BfE (nxS N P) (0,List.replicate (YV P) 0) l)(g q:V):Runs (rnG (nxS N P) l) (l.map (otT N (Yv (2 ^ N.length) N) P g q)) N.length:=by
 obtain ⟨C,D⟩:=Zh2 B (n:=2 ^ N.length) (Zh0 _ _ _ _);have hpos:0 < l.length:=Qc9 B.begin.2;refine ⟨by rw [xF];exact hpos,by rw [xF,Qad],C,D,fun r hr=>?_⟩;obtain ⟨s,_,rfl⟩:=Qa2.mp hr;exact Zh1 _ _ _ _ _ _
structure Zb2(nm:List Str)(ws:List V)(ls:List Nat)(o0 o1:V)(row:List V):Prop where
 len:row.length=ls.length
 bit:∀W,1<=W->W<=ls.length->∃o,Y0 W (qL (ls.take W) nm) ws=[o]/\∀k,k < W->row[k]?=some (if bt o k=1 then o1 else o0)
theorem POk.row{b:Bool}{l:List (Int × List Int)}{ls:List Nat}(S:POk N b P)(B:BfE (nxS N P) (0,List.replicate (YV P) 0) l)(g:∀x∈ls,x < 2 ^ N.length)(C D:V):Zb2 N P ls C D (rnO (rnG (nxS N P) l) (l.map (otT N (Yv (2 ^ N.length) N) P C D)) 0 ls):=by
 refine ⟨jE _ _ _ _,fun W h1 h2=>?_⟩;have f:=S.sg.ty.facts;obtain ⟨o,ho⟩:∃o,Y0 W (qL (ls.take W) N) P=[o]:=by
  have h:=G9 W (qL (ls.take W) N) P;rw [f.2.2] at h;generalize Y0 W (qL (ls.take W) N) P=q at h
  match q,h with
  | [o],_=>exact ⟨o,rfl⟩
 exact ⟨o,ho,Zbz S.nd S.kp f.1 f.2.1 h2 g ho B⟩
theorem xJ(o:Int)(W:Nat):sm (fun k=>bt o k) W=o % 2 ^ W:=Za8 o W
theorem Zb2.num{ls:List Nat}(R:Zb2 N P ls (.int 0) (.int 1) G){W:Nat}(h1:1<=W)(h2:W<=ls.length):∃(o:Int) (is:List Int),Y0 W (qL (ls.take W) N) P=[o]/\0<=o/\o < 2 ^ W/\G.take W=is.map V.int/\is.length=W/\(∀x∈is,x=0\/x=1)/\sm (fun k=>is.getD k 0) is.length=o:=by
 obtain ⟨o,ho,hb⟩:=R.bit W h1 h2;have g:=WO ho;refine ⟨o,(List.range W).map fun k=>bt o k,ho,g.1,g.2,?_,by rw [Qad,Qbr],fun x hx=>?_,?_⟩
 ·refine Qcz fun k=>?_
  rw [Qfd,Qah,Qah]
  by_cases hk:k < W
  ·rw [Qa4 hk,hb k hk,Qco hk]
   show some _=some (V.int (bt o k));rcases Yp o k with e | e <;> rw [e] <;> rfl
  ·rw [Qax hk,Qbe (by rw [Qbr];lia)]
   rfl
 ·obtain ⟨k,_,rfl⟩:=Qa2.mp hx
  exact Yp o k
 ·rw [Qad,Qbr]
  have e:sm (fun k=>((List.range W).map fun k=>bt o k).getD k 0) W=sm (fun k=>bt o k) W:=J7 fun i hi=>by
   rw [Qag,Qah,Qco hi]
   rfl
  rw [e,xJ,Qb7 g.1 g.2]
def abc:Nat->Str
 | 0 => "a"
 | 1 => "b"
 | _ => "c"
theorem Zh6:∀i j,i < 3->j < 3->abc i=abc j->i=j:=by
 intro i j hi g;have h:∀i∈[0,1,2],∀j∈[0,1,2],abc i=abc j->i=j:=by decide +kernel
 exact h i (by simp only [Qas,Qa6,Qc1];lia) j (by simp only [Qas,Qa6,Qc1];lia)
structure VOk(kvs:List (Key × V))(n:Nat)(v:Nat->V):Prop where
 yes:∀j,j < n->YX kvs (.inr (abc j))=some (v j)
 no:∀y,(∀j,j < n->y≠abc j)->YX kvs (.inr y)=none
theorem VOk.put{kvs:List (Key × V)}{v:Nat->V}(h:VOk kvs n v)(hn:n < 3):VOk (putK kvs (.inr (abc n)) (v n)) (n + 1) v:=by
 refine ⟨fun j q=>?_,fun y g=>?_⟩
 ·rw [Gu]
  by_cases e:j=n
  ·rw [Qa4 (by rw [e]),e]
  ·rw [Qax (fun z=>e (Zh6 j n (by lia) hn (Sum.inr.inj z)))]
   exact h.yes j (by lia)
 ·rw [Gu,Qax (fun z=>g n (by lia) (Sum.inr.inj z))]
  exact h.no y fun j q=>g j (by lia)
def nvR(nm:List Str)(ls:List Nat)(g:List V):Int:=if ls.length=0 then 0 else (Y0 ls.length (qL ls nm) g).getD 0 0
theorem Zb2.all{ls:List Nat}(R:Zb2 N P ls (.int 0) (.int 1) G):∃is:List Int,G=is.map V.int/\is.length=ls.length/\(∀x∈is,x=0\/x=1)/\sm (fun k=>is.getD k 0) is.length=nvR N ls P:=by
 unfold nvR
 by_cases g:ls.length=0
 ·rw [Qa4 g]
  have:G=[]:=Qcf (by rw [R.len,g]);rw [this];exact ⟨[],rfl,g.symm,(fun _ h=>nomatch h),rfl⟩
 ·rw [Qax g]
  obtain ⟨o,is,h1,h2,I,q,C,D,E⟩:=R.num (W:=ls.length) (by lia) (Qai _);rw [Qbz (by rw [R.len];exact Qai _)] at q;rw [Qb2] at h1;rw [h1];exact ⟨is,q,C,D,E⟩
theorem YW{b:Bool}(S:Seg N b P)(W:Nat)(ρ:Str->Int):Y0 W ρ P=[(Y0 W ρ P).getD 0 0]:=by
 have h:=G9 W ρ P;rw [S.ty.facts.2.2] at h;generalize Y0 W ρ P=q at h
 match q,h with
 | [o],_=>rfl
def gv(g:List (List Int))(cs:List Nat):Prop:=∀(i j:Nat) (a b:List Int),g[i]?=some a->g[j]?=some b->cs[i]?=cs[j]?->a=b
def jN(nx:List (List Nat))(g:List (List Int)):Nat->List Nat
 | 0=>Ws g
 | i + 1=>Ws (qK nx (jN nx g i))
theorem Zd4{nx:List (List Nat)}{g:List (List Int)}{j:Nat}(h:Ws (qK nx (jN nx g i))=jN nx g i)(C:i<=j):jN nx g j=jN nx g i:=by
 obtain ⟨d,rfl⟩:∃d,j=i + d:=⟨j - i,by lia⟩
 induction d with
 | zero=>rfl
 | succ d q =>
  show Ws (qK nx (jN nx g (i + d)))=_;rw [q (by lia),h]
def xK:List Int->Nat->List Nat->List Nat
 | [],_,acc=>acc
 | c::r,i,acc=>xK r (i + 1) (if c=(acc.length:Int) then acc++[i] else acc)
structure Canon(R:List (List Nat)):Prop where
 ord:∀(r p t:Nat) (row:List Nat),R[r]?=some row->row[p]?=some t->∀t',t' < t->t'=0\/(∃r' row',r' < r/\R[r']?=some row'/\t'∈row')\/t'∈row.take p
 reach:∀t,0 < t->t < R.length->∃r row,r < t/\R[r]?=some row/\t∈row
 lt:∀row∈R,∀s∈row,s < R.length
theorem Gi{nx:List (List Nat)}{b x:Nat}:∀i,x∈Wq nx b i↔x=b\/∃j,j < i/\x∈nx.getD ((Wq nx b j).getD j 0) []
 | 0=>by
  constructor
  ·exact fun h=>.inl (Qay.mp h)
  ·rintro (h | ⟨j,g,_⟩)
   ·exact Qay.mpr h
   ·exact absurd g (Qd3 _)
 | i + 1=>by
  show x∈Zbd nx (Wq nx b i) i↔_;unfold Zbd;rw [xh,Gi i]
  constructor
  ·rintro ((h | ⟨j,g,h⟩) | h)
   ·exact .inl h
   ·exact .inr ⟨j,Qep g,h⟩
   ·exact .inr ⟨i,Qfr i,h⟩
  ·rintro (h | ⟨j,g,h⟩)
   ·exact .inl (.inl h)
   ·by_cases e:j=i
    ·subst e
     exact .inr h
    ·exact .inl (.inr ⟨j,by lia,h⟩)
theorem zV{i:Nat}{R:List (List Nat)}(C:Canon R){row:List Nat}(hr:R[i]?=some row){k:Nat}(h1:0 < k)(hm:∀D g,D < i->R[D]?=some g->∀t∈g,t < k):∀p,∃q,(row.take p).foldl Y8 (List.range k)=List.range q/\k<=q
 | 0=>⟨k,rfl,Qai _⟩
 | p + 1=>by
  obtain ⟨q,e,hk⟩:=zV C hr h1 hm p;cases hp:row[p]? with
  | none =>
   refine ⟨q,?_,hk⟩;rw [Qbz (by have:=List.getElem?_eq_none_iff.mp hp;lia)];rw [Qbz (by have:=List.getElem?_eq_none_iff.mp hp;lia)] at e;exact e
  | some x =>
   rw [take_snoc hp,Qcy,e];show ∃I,Y8 (List.range q) x=_/\_;unfold Y8
   by_cases hx:x∈List.range q
   ·exact ⟨q,Qa4 hx,hk⟩
   ·rw [Qax hx]
    have G:¬x < q:=fun z=>hx (Qb9.mpr z)
    by_cases ex:x=q
    ·subst ex
     exact ⟨x + 1,Qg8.symm,by lia⟩
    ·rcases C.ord i p x row hr hp q (by lia) with z | ⟨D,g,h2,J,E⟩ | z
     ·lia
     ·have:=hm D g h2 J _ E
      lia
     ·have:q∈(row.take p).foldl Y8 (List.range k):=(xh _ _).mpr (.inr z)
      rw [e] at this;exact absurd (Qb9.mp this) (Qby _)
theorem range_getD{k:Nat}(h:i < k):(List.range k).getD i 0=i:=by
 rw [Qag,Qco h]
 rfl
theorem Zb3(C:Canon R)(h0:0 < R.length):∀i,i<=R.length->(∃k,Wq R 0 i=List.range k/\0 < k)/\∀j,j < i->∃k,Wq R 0 j=List.range k/\j < k:=by
 intro i
 induction i with
 | zero=>exact fun _=>⟨⟨1,rfl,Nat.one_pos⟩,fun j G=>absurd G (Qd3 _)⟩
 | succ i Y =>
  intro hi;obtain ⟨⟨k,e,hk⟩,G⟩:=Y (by lia);have gd:∀j,j < i->(Wq R 0 j).getD j 0=j:=fun j h=>by
   obtain ⟨kj,ej,I⟩:=G j h;rw [ej];exact range_getD I
  have hm:∀E g,E < i->R[E]?=some g->∀t∈g,t < k:=fun E g h2 J t S=>by
   have:t∈Wq R 0 i:=(Gi i).mpr (.inr ⟨E,h2,by rw [gd E h2,Qag,J];exact S⟩);rw [e] at this;exact Qb9.mp this
  have D:i < k:=by
   by_cases hz:i=0
   ·lia
   ·obtain ⟨r,row,h2,J,O⟩:=C.reach i (by lia) (by lia)
    exact hm r row h2 J i O
  obtain ⟨row,q⟩:∃row,R[i]?=some row:=⟨_,Qab (by lia)⟩;obtain ⟨N,M,Z⟩:=zV C q hk hm row.length;rw [Qb2] at M;refine ⟨⟨N,?_,by lia⟩,fun j h=>?_⟩
  ·show Zbd R (Wq R 0 i) i=_
   unfold Zbd;rw [e,range_getD D,Qag,q];exact M
  ·by_cases L:j=i
   ·subst L
    exact ⟨k,e,D⟩
   ·exact G j (by lia)
def rnR(nx:List (List Nat))(l:List Nat):List (List Nat):=l.map fun s=>(nx.getD s []).map fun x=>l.idxOf x
def rnQ(ot:List (List V))(l:List Nat):List (List V):=l.map fun s=>ot.getD s []
theorem WQ(nx:List (List Nat))(l:List Nat):(rnR nx l).length=l.length:=Qad ..
theorem zP.nodup{nx:List (List Nat)}{b:Nat}{l:List Nat}(B:zP nx b l):l.Nodup:=by
 rw [B.e];exact xC nx b _
theorem zP.at{nx:List (List Nat)}{b:Nat}{l:List Nat}(B:zP nx b l){j:Nat}(g:j < l.length):l[j]?=some ((Wq nx b j).getD j 0):=by
 have:=bfs_at (nx:=nx) (b:=b) (i:=l.length) g (B.go j g);rw [<-B.e] at this;exact this
theorem zP.next{nx:List (List Nat)}{b:Nat}{l:List Nat}(B:zP nx b l){s x:Nat}(hi:l[i]?=some s)(hx:x∈nx.getD s []):x∈l:=by
 have g:=(Qac.mp hi).1;rw [B.at g] at hi;rw [B.e,Gi];refine .inr ⟨i,g,?_⟩;rw [Option.some.inj hi];exact hx
theorem zP.zero{nx:List (List Nat)}{b:Nat}{l:List Nat}(B:zP nx b l):l[0]?=some b:=by
 have:b∈l:=by rw [B.e,Gi];exact .inl rfl
 exact B.at (Qc9 this)
theorem zP.pre{nx:List (List Nat)}{b:Nat}{l:List Nat}(B:zP nx b l){j:Nat}(g:j<=l.length):∃r,l=Wq nx b j++r:=by
 obtain ⟨r,e⟩:=vz nx b j (l.length - j);rw [show j + (l.length - j)=l.length by lia,<-B.e] at e;exact ⟨r,e⟩
theorem Zb4{l:List Nat}{x:Nat}(h:x∈l):l[l.idxOf x]?=some x:=by
 rw [Qab (Qbd h),Qdu (Qbd h)]
theorem xj{nx:List (List Nat)}{b:Nat}{l:List Nat}(B:zP nx b l):Canon (rnR nx l):=by
 have hn:=B.nodup;have C:∀{r:Nat} {row:List Nat},(rnR nx l)[r]?=some row->∃s,l[r]?=some s/\row=(nx.getD s []).map fun x=>l.idxOf x:=fun {r row} h=>by
  unfold rnR at h;rw [Qah] at h;obtain ⟨s,hs,e⟩:=Qbh.mp h;exact ⟨s,hs,e.symm⟩
 have g:∀{j:Nat} {x:Nat},j < l.length->x∈nx.getD ((Wq nx b j).getD j 0) []->∃row,(rnR nx l)[j]?=some row/\l.idxOf x∈row:=fun {j x} N hx=>by
  refine ⟨_,?_,Qbw (f:=fun x=>l.idxOf x) hx⟩;unfold rnR;rw [Qah,B.at N]
  rfl
 refine ⟨fun r p t row hr hp t' ht=>?_,fun t h1 h2=>?_,fun row G s hs=>?_⟩
 ·obtain ⟨s,hs,rfl⟩:=C hr
  have J:=(Qac.mp hs).1;rw [Qah] at hp;obtain ⟨x,hx,rfl⟩:=Qbh.mp hp;have es:(Wq nx b r).getD r 0=s:=by
   have:=B.at J;rw [hs] at this;exact (Option.some.inj this).symm
  obtain ⟨q,Z⟩:=B.pre (j:=r + 1) J;have eb:Wq nx b (r + 1)=((nx.getD s []).drop (p + 1)).foldl Y8 (Y8 (((nx.getD s []).take p).foldl Y8 (Wq nx b r)) x):=by
   show Zbd nx (Wq nx b r) r=_;unfold Zbd;rw [es];have:=Qcc (p + 1) (nx.getD s [])
   conv=>lhs;rw [<-this]
   rw [Qcy,take_snoc hx,Qcy]
   rfl
  obtain ⟨q2,e2⟩:=J4 ((nx.getD s []).drop (p + 1)) (Y8 (((nx.getD s []).take p).foldl Y8 (Wq nx b r)) x);rw [e2] at eb;rw [eb,Qbu] at Z;generalize hL:((nx.getD s []).take p).foldl Y8 (Wq nx b r)=L at *;obtain ⟨q3,e3⟩:=jv L x;have E:t' < L.length:=by
   have M:x∈Y8 L x:=XY.mpr (.inr rfl);have hlt:=Qbd M;have h3:=qX L x;have h4:l.idxOf x=(Y8 L x).idxOf x:=by rw [Z,GU M]
   lia
  have hy:l[t']?=some L[t']:=by
   rw [Z,e3,Qbu,Qaw E,Qab E]
  have I:L[t']∈L:=Qb1 E;have D:=WV hn hy;generalize L[t']=y at *;rw [<-hL] at I;rcases (xh _ _).mp I with h | h
  ·rcases (Gi r).mp h with h | ⟨j,N,h⟩
   ·refine .inl ?_
    rw [<-D,h];exact WV hn B.zero
   ·obtain ⟨O,S,R⟩:=g (j:=j) (by lia) h
    exact .inr (.inl ⟨j,O,N,S,D ▸ R⟩)
  ·refine .inr (.inr ?_)
   rw [<-Qdv,<-D];exact Qbw (f:=fun x=>l.idxOf x) h
 ·rw [WQ] at h2
  have hg:=B.go t h2;have ha:=B.at h2;have hm:(Wq nx b t).getD t 0∈Wq nx b t:=by
   rw [Qag,Qab hg];exact Qb1 hg
  have hi:=WV hn ha;rcases (Gi t).mp hm with h | ⟨j,N,h⟩
  ·rw [h,WV hn B.zero] at hi
   lia
  ·obtain ⟨row,S,R⟩:=g (j:=j) (by lia) h
   rw [hi] at R;exact ⟨j,row,N,S,R⟩
 ·obtain ⟨r,hr⟩:=Qb5.mp G
  obtain ⟨s',Y,rfl⟩:=C hr;obtain ⟨x,hx,rfl⟩:=Qa2.mp hs;rw [WQ];exact Qbd (B.next Y hx)
structure Zb5(cs fs:List Nat):Prop where
 at_:∀c f:Nat,fs[c]?=some f->cs[f]?=some c/\∀j d:Nat,j < f->cs[j]?=some d->d < c
 lt:∀j d:Nat,cs[j]?=some d->d < fs.length
theorem wm[DecidableEq g](ks:List g)(i d:Nat)(h:(Ws ks)[i]?=some d)(c:Nat)(hc:c < d):∃j,j < i/\(Ws ks)[j]?=some c:=by
 rw [qZ] at h;obtain ⟨k,hk,rfl⟩:=Qbh.mp h;obtain ⟨r,J⟩:=zJ ks (i + 1);have e1:ZN (ks.take (i + 1))=Y8 (ZN (ks.take i)) k:=by rw [take_snoc hk,zI]
 rw [e1] at J;obtain ⟨q,O⟩:=jv (ZN (ks.take i)) k;have D:k∈Y8 (ZN (ks.take i)) k:=XY.mpr (.inr rfl);have N:=Qbd D;have S:=qX (ZN (ks.take i)) k;have R:(ZN ks).idxOf k=(Y8 (ZN (ks.take i)) k).idxOf k:=by rw [J,GU D]
 have C:c < (ZN (ks.take i)).length:=by lia
 have M:(ZN ks)[c]?=some (ZN (ks.take i))[c]:=by
  rw [J,O,Qbu,Qaw C,Qab C]
 have hm:(ZN (ks.take i))[c]∈ZN (ks.take i):=Qb1 C;generalize (ZN (ks.take i))[c]=y at *;obtain ⟨j,E⟩:=Qb5.mp ((Yt _ y).mp hm);rw [Qfd] at E
 split at E
 ·rename_i I
  refine ⟨j,I,?_⟩;rw [qZ,E];obtain ⟨G,L⟩:=Qac.mp M;show some ((ZN ks).idxOf y)=_;rw [<-L,List.Nodup.idxOf_getElem (XM ks) c G]
 ·cases E
theorem Zh7{cs:List Nat}(hn:Ws cs=cs):∀(q pre acc:List Nat),cs=pre++q->(∀c f:Nat,acc[c]?=some f->pre[f]?=some c/\∀j d:Nat,j < f->pre[j]?=some d->d < c)->(∀j d:Nat,pre[j]?=some d->d < acc.length)->Zb5 cs (xK (q.map fun c:Nat=>(c:Int)) pre.length acc):=by
 intro q
 induction q with
 | nil =>
  intro pre acc e h1 h2;rw [Qbl] at e;subst e;exact ⟨h1,h2⟩
 | cons x r M =>
  intro pre acc e h1 h2;have hx:cs[pre.length]?=some x:=by
   rw [e,Qau (Qai _),Qdd]
   rfl
  have O:x<=acc.length:=by
   rcases Qd5 acc.length x with h | h
   ·obtain ⟨j,D,hc⟩:=wm cs pre.length x (by rw [hn];exact hx) acc.length h
    rw [hn,e,Qaw D] at hc;have:=h2 j _ hc;lia
   ·exact h
  have L:cs=(pre++[x])++r:=by rw [e,Qbu];rfl
  have E:∀{j d:Nat},pre[j]?=some d->(pre++[x])[j]?=some d:=fun {j d} h=>by
   rw [Qaw (Qac.mp h).1];exact h
  have C:∀{α:Type} {l:List α} {y z:α} {j:Nat},(l++[y])[j]?=some z->l[j]?=some z\/(j=l.length/\z=y):=fun {α l y z j} h=>by
   rcases Nat.lt_trichotomy j l.length with g | g | g
   ·rw [Qaw g] at h
    exact .inl h
   ·subst g
    rw [Qau (Qai _),Qdd] at h;exact .inr ⟨rfl,(Option.some.inj h).symm⟩
   ·rw [Qbe (by rw [Qaf];show l.length + 1<=j;lia)] at h
    cases h
  have N:(pre++[x]).length=pre.length + 1:=Qaf;show Zb5 cs (xK (r.map fun c:Nat=>(c:Int)) (pre.length + 1) (if (x:Int)=(acc.length:Int) then acc++[pre.length] else acc));rw [<-N]
  by_cases I:x=acc.length
  ·rw [Qa4 (by rw [I])]
   refine M _ _ L (fun c f hf=>?_) fun j d hd=>?_
   ·rcases C hf with hf | ⟨rfl,rfl⟩
    ·obtain ⟨G,J⟩:=h1 c f hf
     refine ⟨E G,fun j d D hd=>?_⟩;rcases C hd with hd | ⟨rfl,rfl⟩
     ·exact J j d D hd
     ·have:=(Qac.mp G).1
      lia
    ·refine ⟨by rw [Qau (Qai _),Qdd,I];rfl,fun j d D hd=>?_⟩
     rcases C hd with hd | ⟨rfl,rfl⟩
     ·exact h2 j d hd
     ·lia
   ·rw [Qaf]
    rcases C hd with hd | ⟨rfl,rfl⟩
    ·exact Qep (h2 j d hd)
    ·show d < acc.length + 1
     lia
  ·rw [Qax (by lia)]
   refine M _ _ L (fun c f hf=>?_) fun j d hd=>?_
   ·obtain ⟨G,J⟩:=h1 c f hf
    refine ⟨E G,fun j d D hd=>?_⟩;rcases C hd with hd | ⟨rfl,rfl⟩
    ·exact J j d D hd
    ·have:=(Qac.mp G).1
     lia
   ·rcases C hd with hd | ⟨rfl,rfl⟩
    ·exact h2 j d hd
    ·lia
def Xk(cs:List Nat):List Nat:=xK (cs.map fun c:Nat=>(c:Int)) 0 []
theorem xk{cs:List Nat}(hn:Ws cs=cs):Zb5 cs (Xk cs):=Zh7 hn cs [] [] rfl (fun c f h=>by cases h) fun j d h=>by cases h
theorem yA:∀(cs:List Int) (i:Nat) (acc:List Nat),(xK cs i acc).length<=acc.length + cs.length
 | [],_,acc=>Qai _
 | c::r,i,acc=>by
  have:=yA r (i + 1) (if c=(acc.length:Int) then acc++[i] else acc);show (xK r (i + 1) (if c=(acc.length:Int) then acc++[i] else acc)).length<=_;have h2:(if c=(acc.length:Int) then acc++[i] else acc).length<=acc.length + 1:=by
   split
   ·rw [Qaf]
    exact Qai _
   ·lia
  rw [Qbc];lia
theorem yB(cs:List Nat):(Xk cs).length<=cs.length:=by
 have:=yA (cs.map fun c:Nat=>(c:Int)) 0 [];rw [Qad] at this;unfold Xk;simpa using this
def lsR(R:List (List Nat))(cs:List Nat):List (List Nat):=(Xk cs).map fun s=>(R.getD s []).map fun x=>cs.getD x 0
def lsO(O:List (List V))(cs:List Nat):List (List V):=(Xk cs).map fun s=>O.getD s []
structure Zco(R:List (List Nat))(cs:List Nat):Prop where
 len:cs.length=R.length
 st:Ws (qK R cs)=cs
theorem Zco.nn(S:Zco R d):Ws d=d:=by
 have:=xw (qK R d);rw [S.st] at this;exact this
theorem Zco.row(S:Zco R d){j c:Nat}(hi:d[i]?=some c)(g:d[j]?=some c):(R.getD i []).map (fun x=>d.getD x 0)=(R.getD j []).map fun x=>d.getD x 0:=by
 have C:=(Qac.mp hi).1;have q:=(Qac.mp g).1;have D:=WN hi (Qab (l:=R) (i:=i) (by rw [<-S.len];exact C));have E:=WN g (Qab (l:=R) (i:=j) (by rw [<-S.len];exact q));have:=congrArg Prod.snd ((G1 D E).mp (by rw [S.st,hi,g]));have h2:=congrArg (List.map Int.toNat) this;simp only [Qbj] at h2;rw [Qag,Qag,Qab (by rw [<-S.len];exact C),Qab (by rw [<-S.len];exact q)];exact h2
theorem qk{l:List Nat}{x:Nat}(h:l[i]?=some x):l.getD i 0=x:=by rw [Qag,h];rfl
theorem at_getD{l:List Nat}(h:i < l.length):l[i]?=some (l.getD i 0):=by rw [Qag,Qab h];rfl
theorem wo(C:Canon R)(S:Zco R d):Canon (lsR R d):=by
 have F:=xk S.nn;have ll:(lsR R d).length=(Xk d).length:=Qad ..;have g:∀{c:Nat} {row:List Nat},(lsR R d)[c]?=some row->∃f,(Xk d)[c]?=some f/\row=(R.getD f []).map fun x=>d.getD x 0:=fun {c row} h=>by
  unfold lsR at h;rw [Qah] at h;obtain ⟨s,hs,e⟩:=Qbh.mp h;exact ⟨s,hs,e.symm⟩
 have cls:∀{j:Nat},j < R.length->∃c f,d[j]?=some c/\(Xk d)[c]?=some f/\(lsR R d)[c]?=some ((R.getD j []).map fun x=>d.getD x 0):=fun {j} hj=>by
  obtain ⟨c,hc⟩:∃c,d[j]?=some c:=⟨_,Qab (by rw [S.len];exact hj)⟩;obtain ⟨f,hf⟩:∃f,(Xk d)[c]?=some f:=⟨_,Qab (F.lt j c hc)⟩;refine ⟨c,f,hc,hf,?_⟩;unfold lsR;rw [Qah,hf];exact congrArg some (S.row (F.at_ c f hf).1 hc)
 have O:∀{f x:Nat},x∈R.getD f []->x < R.length:=fun {f x} h=>by
  rw [Qag] at h;cases q:R[f]? with
  | none=>rw [q] at h;cases h
  | some row=>rw [q] at h;exact C.lt row (Qao q) x h
 have Z:∀{x:Nat},x < R.length->d.getD x 0 < (Xk d).length:=fun {x} h=>by
  exact F.lt x _ (at_getD (by rw [S.len];exact h))
 have z0:0 < R.length->d.getD 0 0=0:=fun h=>by
  obtain ⟨c,f,hc,hf,_⟩:=cls h;obtain ⟨f0,G⟩:∃f0,(Xk d)[0]?=some f0:=⟨_,Qab (by have:=F.lt 0 c hc;lia)⟩;have h0:=F.at_ 0 f0 G
  by_cases e:f0=0
  ·rw [e] at h0
   exact qk h0.1
  ·have:=h0.2 0 c (by lia) hc
   lia
 refine ⟨fun c p t row hr hp t' ht=>?_,fun t h1 h2=>?_,fun row L s hs=>?_⟩
 ·obtain ⟨f,hf,rfl⟩:=g hr
  obtain ⟨I,g2⟩:=F.at_ c f hf;have E:f < R.length:=by rw [<-S.len];exact (Qac.mp I).1
  rw [Qah] at hp;obtain ⟨x,hx,rfl⟩:=Qbh.mp hp;have M:=O (Qao hx);have htl:d.getD x 0 < (Xk d).length:=Z M;obtain ⟨D,hf'⟩:∃D,(Xk d)[t']?=some D:=⟨_,Qab (by lia)⟩;obtain ⟨k1,k2⟩:=F.at_ t' D hf';have Y:d[x]?=some (d.getD x 0):=at_getD (by rw [S.len];exact M);have hfx:D < x:=by
   rcases Nat.lt_trichotomy D x with h | h | h
   ·exact h
   ·rw [h,Y] at k1
    have:=Option.some.inj k1;lia
   ·have:=k2 x _ h Y
    lia
  have J:R[f]?=some (R.getD f []):=XR E;rcases C.ord f p x _ J hx D hfx with h | ⟨r',row',h3,h4,h5⟩ | h
  ·refine .inl ?_
   have:=z0 (by lia);rw [h] at k1;rw [qk k1] at this;exact this
  ·have hr':r' < R.length:=by lia
   obtain ⟨N,f2,q1,q2,q3⟩:=cls hr';refine .inr (.inl ⟨N,_,g2 r' N h3 q1,q3,?_⟩);rw [Qag,h4];exact Qa2.mpr ⟨D,h5,qk k1⟩
  ·refine .inr (.inr ?_)
   rw [<-Qdv];exact Qa2.mpr ⟨D,h,qk k1⟩
 ·rw [ll] at h2
  obtain ⟨f,hf⟩:∃f,(Xk d)[t]?=some f:=⟨_,Qab h2⟩;obtain ⟨I,g2⟩:=F.at_ t f hf;have E:f < R.length:=by rw [<-S.len];exact (Qac.mp I).1
  have G:0 < f:=by
   rcases Nat.eq_zero_or_pos f with h | h
   ·have:=z0 (by lia)
    rw [h] at I;rw [qk I] at this;lia
   ·exact h
  obtain ⟨r,row,h3,h4,h5⟩:=C.reach f G E;obtain ⟨N,f2,q1,q2,q3⟩:=cls (j:=r) (by lia);refine ⟨N,_,g2 r N h3 q1,q3,?_⟩;rw [Qag,h4];exact Qa2.mpr ⟨f,h5,qk I⟩
 ·obtain ⟨c,hc⟩:=Qb5.mp L
  obtain ⟨f,hf,rfl⟩:=g hc;obtain ⟨x,hx,rfl⟩:=Qa2.mp hs;rw [ll];exact Z (O hx)
theorem JB.tups{H':Hp}{p:Addr}{rs:List (List V)}(R:JB H p rs)(e:∀b xs,H b=some (.tup xs)->H' b=some (.tup xs)):JB H' p rs:=by
 obtain ⟨as,h1,h2,C⟩:=R;refine ⟨as,e _ _ h1,h2,fun i r hi=>?_⟩;obtain ⟨a,g,q⟩:=C i r hi;exact ⟨a,g,e _ _ q⟩
theorem M4.tups{H H':Hp}{m:Addr}{nm:List Str}{b:Nat}{nx:List (List Nat)}{ot:List (List V)}(M:M4 H m nm b nx ot)(e:∀b xs,H b=some (.tup xs)->H' b=some (.tup xs)):M4 H' m nm b nx ot:=by
 obtain ⟨pn,ps,q,h1,h2,C,g⟩:=M.ex;exact ⟨⟨pn,ps,q,e _ _ h1,e _ _ h2,C.tups e,g.tups e⟩⟩
theorem Zh8{t:Addr}{o:HO}(q:hide L H t=none)(hn:∀c∈L,upd (hide L H) t o c=none):Yb H (Wv L H (upd (hide L H) t o))/\Wv L H (upd (hide L H) t o) t=some o:=by
 have m:t∉L:=fun m=>by
  have:=hn t m;rw [Zc] at this;cases this
 refine ⟨fun b u e=>?_,by rw [Yc m];exact Zc⟩
 by_cases g:b∈L
 ·rw [XJ g]
  exact e
 ·rw [ZP m] at q
  rw [Yc g,Zp (Zn e q),ZP g];exact e
def vE(ot:List (List V)):List (List Int):=ot.map fun r=>r.map fun v=>(vB v).getD 0
theorem Zh9{ot:List (List V)}(h:∀r∈ot,∀v∈r,∃x,vB v=some x):ot.map (fun r=>r.map vB)=(vE ot).map (fun k=>k.map some):=by
 unfold vE;rw [Qbj];refine Qcn fun r hr=>?_;show _=(r.map fun v=>(vB v).getD 0).map some;rw [Qbj];refine Qcn fun v hv=>?_;obtain ⟨x,e⟩:=h r hr v hv;show vB v=some ((vB v).getD 0);rw [e]
 rfl
theorem zP.lt{nx:List (List Nat)}{b:Nat}{l:List Nat}(B:zP nx b l)(hb:b < nx.length)(hr:∀row∈nx,∀s∈row,s < nx.length){s:Nat}(h:s∈l):s < nx.length:=by
 rw [B.e] at h;exact Zbe hb hr _ s h
theorem zP.len{nx:List (List Nat)}{b:Nat}{l:List Nat}(B:zP nx b l)(hb:b < nx.length)(hr:∀row∈nx,∀s∈row,s < nx.length):l.length<=nx.length:=by
 have:=j8 hb hr l.length;rw [<-B.e] at this;exact this
theorem Zju{b:Nat}{nx:List (List Nat)}{ot:List (List V)}{l:List Nat}(W:Wf N b nx ot j)(B:zP nx b l):Wf N 0 (rnR nx l) (rnQ ot l) j:=by
 have hl:∀s∈l,s < nx.length:=fun s h=>B.lt W.b W.nl h;have g:∀r∈rnQ ot l,r∈ot:=fun r h=>by
  obtain ⟨s,hs,rfl⟩:=Qa2.mp h;exact getD_mem (by rw [W.ol];exact hl s hs)
 refine ⟨W.n3,?_,?_,?_,fun r hr=>?_,(xj B).lt,fun r hr=>W.or r (g r hr),fun r hr=>W.ok r (g r hr),fun r hr=>W.bit r (g r hr)⟩
 ·rw [WQ]
  exact (Qac.mp B.zero).1
 ·rw [WQ]
  exact Qbg (B.len W.b W.nl) W.le
 ·rw [WQ]
  exact Qad ..
 ·obtain ⟨s,hs,rfl⟩:=Qa2.mp hr
  rw [Qad];exact W.nr _ (getD_mem (hl s hs))
theorem wf_ls(W:Wf N 0 R O j)(C:Canon R)(S:Zco R d):Wf N 0 (lsR R d) (lsO O d) j:=by
 have F:=xk S.nn;have hl:∀f∈Xk d,f < R.length:=fun f h=>by
  obtain ⟨c,hc⟩:=Qb5.mp h;rw [<-S.len];exact (Qac.mp (F.at_ c f hc).1).1
 have q:∀r∈lsO O d,r∈O:=fun r h=>by
  obtain ⟨s,hs,rfl⟩:=Qa2.mp h;exact getD_mem (by rw [W.ol];exact hl s hs)
 have g:(lsR R d).length=(Xk d).length:=Qad ..;refine ⟨W.n3,?_,?_,?_,fun r hr=>?_,(wo C S).lt,fun r hr=>W.or r (q r hr),fun r hr=>W.ok r (q r hr),fun r hr=>W.bit r (q r hr)⟩
 ·rw [g]
  have D:d[0]?=some (d.getD 0 0):=at_getD (by rw [S.len];exact W.b);exact Qds (Qbp _) (F.lt 0 _ D)
 ·rw [g]
  have:=yB d;have h2:=W.le;rw [S.len] at this;lia
 ·rw [g]
  exact Qad ..
 ·obtain ⟨s,hs,rfl⟩:=Qa2.mp hr
  rw [Qad];exact W.nr _ (getD_mem (hl s hs))
theorem Zia{b:Nat}{nx:List (List Nat)}{ot:List (List V)}(W:Wf N b nx ot j):ot.map (fun r=>r.map vB)=(vE ot).map (fun k=>k.map some):=Zh9 fun r hr v hv=>by
 rcases W.bit r hr v hv with h | h
 ·exact ⟨_,h⟩
 ·exact ⟨_,h⟩
theorem Zb6(cs:List Nat)(s:Nat):(cs.map fun c:Nat=>(c:Int)).getD s 0=((cs.getD s 0:Nat):Int):=by
 rw [Qag,Qag,Qah];cases cs[s]? <;> rfl
structure AlR(nx nx':List (List Nat))(ot ot':List (List V))(b b':Nat)(A:Nat->Nat->Prop):Prop where
 b:A b b'
 lt:∀s c,A s c->s < nx.length/\c < nx'.length
 fn:∀s c c':Nat,A s c->A s c'->c=c'
 out:∀s c,A s c->ot'.getD c []=ot.getD s []
 next:∀s c p x y:Nat,A s c->(nx.getD s [])[p]?=some x->(nx'.getD c [])[p]?=some y->A x y
theorem vB_inj{q:V}(h:W4 j v)(h':W4 j q)(e:(vB v).getD 0=(vB q).getD 0):v=q:=by
 rcases h with ⟨C,x,rfl⟩ | ⟨C,x,rfl⟩ <;> rcases h' with ⟨g,y,rfl⟩ | ⟨g,y,rfl⟩
 ·cases x <;> cases y
  ·rfl
  ·cases e
  ·cases e
  ·rfl
 ·rw [C] at g;cases g
 ·rw [C] at g;cases g
 ·have e:x=y:=e
  rw [e]
theorem wq{tr:Bool}:∀{r g:List V},(∀v∈r,W4 tr v)->(∀v∈g,W4 tr v)->r.map (fun v=>(vB v).getD 0)=g.map (fun v=>(vB v).getD 0)->r=g
 | [],[],_,_,_=>rfl
 | [],_::_,_,_,e=>by cases e
 | _::_,[],_,_,e=>by cases e
 | v::r,q::g,h,h',e=>by
  rw [Qa7,Qa7] at e;injection e with e1 e2;rw [vB_inj (h v Qal) (h' q Qal) e1,wq (fun v hv=>h v (Qam _ hv)) (fun v hv=>h' v (Qam _ hv)) e2]
def Al(l cs:List Nat)(s c:Nat):Prop:=∃i:Nat,l[i]?=some s/\cs[i]?=some c
theorem al_ok{b:Nat}{nx:List (List Nat)}{ot:List (List V)}{tr:Bool}{l:List Nat}(W:Wf N b nx ot tr)(B:zP nx b l)(S:Zco (rnR nx l) d)(hc:gv (vE (rnQ ot l)) d):AlR nx (lsR (rnR nx l) d) ot (lsO (rnQ ot l) d) b 0 (Al l d):=by
 have F:=xk S.nn;have hn:=B.nodup;have D:d.length=l.length:=by rw [S.len,WQ]
 have q:∀{s c:Nat},Al l d s c->∃i f,l[i]?=some s/\d[i]?=some c/\(Xk d)[c]?=some f/\d[f]?=some c:=fun {s c} h=>by
  obtain ⟨i,h1,h2⟩:=h;obtain ⟨f,hf⟩:∃f,(Xk d)[c]?=some f:=⟨_,Qab (F.lt i c h2)⟩;exact ⟨i,f,h1,h2,hf,(F.at_ c f hf).1⟩
 refine ⟨⟨0,B.zero,?_⟩,fun s c h=>?_,fun s c c' h h'=>?_,fun s c h=>?_,fun s c p x y h hx J=>?_⟩
 ·have O:d[0]?=some (d.getD 0 0):=at_getD (by rw [D];exact (Qac.mp B.zero).1)
  rw [O];rcases Nat.eq_zero_or_pos (d.getD 0 0) with h | h
  ·rw [h]
  ·obtain ⟨j,hj,_⟩:=wm d 0 _ (by rw [S.nn];exact O) 0 h
   exact absurd hj (Qd3 _)
 ·obtain ⟨i,f,h1,h2,G,_⟩:=q h
  refine ⟨B.lt W.b W.nl (Qao h1),?_⟩;show c < ((Xk d).map _).length;rw [Qad];exact (Qac.mp G).1
 ·obtain ⟨i,h1,h2⟩:=h
  obtain ⟨i',L,E⟩:=h';have e1:=WV hn h1;have e2:=WV hn L;rw [<-e1] at h2;rw [<-e2,h2] at E;exact Option.some.inj E
 ·obtain ⟨i,f,h1,h2,G,I⟩:=q h
  have Y:=(Qac.mp h1).1;have M:f < l.length:=by rw [<-D];exact (Qac.mp I).1
  have g:∀{j s':Nat},l[j]?=some s'->(vE (rnQ ot l))[j]?=some ((ot.getD s' []).map fun v=>(vB v).getD 0):=fun {j s'} e=>by
   unfold vE rnQ;rw [Qbj,Qah,e]
   rfl
  obtain ⟨s',C⟩:∃s',l[f]?=some s':=⟨_,Qab M⟩;have e:=hc f i _ _ (g C) (g h1) (by rw [I,h2]);have R:∀{s:Nat},s∈l->∀v∈ot.getD s [],W4 tr v:=fun {s} h=>W.ok _ (getD_mem (by rw [W.ol];exact B.lt W.b W.nl h));have e2:=wq (R (Qao C)) (R (Qao h1)) e;unfold lsO rnQ;rw [Qag,Qah,G];show (l.map fun s=>ot.getD s []).getD f []=_;rw [Qag,Qah,C];exact e2
 ·obtain ⟨i,f,h1,h2,G,I⟩:=q h
  have er:(lsR (rnR nx l) d).getD c []=((rnR nx l).getD f []).map fun x=>d.getD x 0:=by
   unfold lsR;rw [Qag,Qah,G]
   rfl
  have Z:(rnR nx l).getD i []=(nx.getD s []).map fun x=>l.idxOf x:=by
   unfold rnR;rw [Qag,Qah,h1]
   rfl
  rw [er,S.row I h2,Z,Qbj,Qah,hx] at J;have J:d.getD (l.idxOf x) 0=y:=Option.some.inj J;have hm:=B.next h1 (Qao hx);refine ⟨l.idxOf x,Zb4 hm,?_⟩;rw [<-J];exact at_getD (by rw [D];exact Qbd hm)
def InA(A:Nat->Nat->Prop)(ps:List (Int × Int)):Prop:=∀p∈ps,∃s c:Nat,p=((s:Int),(c:Int))/\A s c
theorem vF{nx:List (List Nat)}{ot:List (List V)}{b:Nat}{A:Nat->Nat->Prop}(g:AlR nx R ot O b n A){ps:List (Int × Int)}(D:ps.Nodup)(h:InA A ps):ps.length<=nx.length:=by
 have z:=Zfn nx.length (ps.map fun p=>p.1.toNat) ?_ ?_
 ·rw [Qad] at z
  exact z
 ·unfold List.Nodup at D ⊢
  rw [Qfl];refine List.Pairwise.imp_of_mem (fun {a b} ha hb q e=>q ?_) D;obtain ⟨i,j,rfl,hi⟩:=h a ha;obtain ⟨E,G,rfl,C⟩:=h b hb;simp only [Qa9] at e;subst e;rw [g.fn _ _ _ hi C]
 ·intro x hx
  obtain ⟨p,hp,rfl⟩:=Qa2.mp hx;obtain ⟨i,j,rfl,hi⟩:=h p hp;rw [Qa9];exact (g.lt _ _ hi).1
theorem Zd5{A:Nat->Nat->Prop}{ps:List (Int × Int)}{j:Nat}(h:InA A ps)(hi:A i j):InA A (ps++[((i:Int),(j:Int))]):=by
 intro p hp;rcases Qbk.mp hp with hp | hp
 ·exact h p hp
 ·have:p=((i:Int),(j:Int)):=by simpa using hp
  exact ⟨i,j,this,hi⟩
theorem Zb7{x y:V}(hx:W4 j x)(q:W4 j y):scal x y=true:=by
 rcases hx with ⟨e,a,rfl⟩ | ⟨e,a,rfl⟩ <;> rcases q with ⟨g,b,rfl⟩ | ⟨g,b,rfl⟩
 ·rfl
 ·rw [e] at g;cases g
 ·rw [e] at g;cases g
 ·rfl
theorem yC(h:W4 j v):XX v=true:=by
 rcases h with ⟨_,x,rfl⟩ | ⟨_,x,rfl⟩ <;> rfl
theorem vH{R:List (List Nat)}{g:List (List Int)}(h:g.length=R.length):∀n,(jN R g n).length=R.length
 | 0=>by
  show (Ws g).length=_;rw [qY,h]
 | n + 1=>by
  show (Ws (qK R (jN R g n))).length=_;rw [qY,xg (vH h n),vH h n]
structure Bsm(R:List (List Nat))(kos:List (List Int))(T:Nat->Nat->Prop):Prop where
 lt:∀i j,T i j->i < R.length/\j < R.length
 out:∀i j:Nat,T i j->kos[i]?=kos[j]?
 next:∀i j p x y:Nat,T i j->(R.getD i [])[p]?=some x->(R.getD j [])[p]?=some y->T x y
 len:∀i j,T i j->(R.getD i []).length=(R.getD j []).length
theorem ql{R:List (List Nat)}{g:List (List Int)}{T:Nat->Nat->Prop}(h:g.length=R.length)(B:Bsm R g T):∀(n i j:Nat),T i j->(jN R g n)[i]?=(jN R g n)[j]?
 | 0,i,j,t=>by
  obtain ⟨hi,G⟩:=B.lt i j t;have e:=B.out i j t;have C:=XR (rs:=g) (i:=i) (by lia);have q:=XR (rs:=g) (i:=j) (by lia);rw [C,q] at e;exact (G1 C q).mpr (Option.some.inj e)
 | n + 1,i,j,t=>by
  obtain ⟨hi,G⟩:=B.lt i j t;have J:=vH h n;have I:=at_getD (l:=jN R g n) (i:=i) (by lia);have D:=at_getD (l:=jN R g n) (i:=j) (by lia);have C:=WN I (XR hi);have q:=WN D (XR G);refine (G1 C q).mpr (Qhb ?_ ?_)
  ·have e:=ql h B n i j t
   rw [I,D] at e;exact congrArg (fun z:Nat=>(z:Int)) (Option.some.inj e)
  ·refine Qcz fun p=>?_
   have hl:=B.len i j t;rw [Qah,Qah];rcases Qd5 p (R.getD i []).length with hp | hp
   ·obtain ⟨x,hx⟩:∃x,(R.getD i [])[p]?=some x:=⟨_,Qab hp⟩
    obtain ⟨y,E⟩:∃y,(R.getD j [])[p]?=some y:=⟨_,Qab (by lia)⟩;have e:=ql h B n x y (B.next i j p x y t hx E);rw [hx,E];show some (((jN R g n).getD x 0:Nat):Int)=some (((jN R g n).getD y 0:Nat):Int);rw [Qag,Qag,e]
   ·rw [Qbe hp,Qbe (by lia)]
def LR(B:Nat->Nat->Prop)(l g:List Nat):Prop:=l.length=g.length/\∀i x y:Nat,l[i]?=some x->g[i]?=some y->B x y
section
variable {B:Nat->Nat->Prop}(fn:∀c d d',B c d->B c d'->d=d')(inj:∀c c' d,B c d->B c' d->c=c')
include fn inj
theorem lr_ins{l:List Nat}(h:LR B l d){x y:Nat}(b:B x y):LR B (Y8 l x) (Y8 d y):=by
 obtain ⟨hl,q⟩:=h;have e:x∈l↔y∈d:=by
  constructor
  ·intro hx
   obtain ⟨i,hi⟩:=Qb5.mp hx;obtain ⟨z,g⟩:∃z,d[i]?=some z:=⟨_,Qab (by have:=(Qac.mp hi).1;lia)⟩;rw [fn _ _ _ b (q i x z hi g)];exact Qao g
  ·intro D
   obtain ⟨i,hi⟩:=Qb5.mp D;obtain ⟨z,g⟩:∃z,l[i]?=some z:=⟨_,Qab (by have:=(Qac.mp hi).1;lia)⟩;rw [inj _ _ _ b (q i z y g hi)];exact Qao g
 unfold Y8
 by_cases hx:x∈l
 ·rw [Qa4 hx,Qa4 (e.mp hx)]
  exact ⟨hl,q⟩
 ·rw [Qax hx,Qax (fun z=>hx (e.mpr z))]
  refine ⟨by rw [Qaf,Qaf,hl];rfl,fun i u v hu hv=>?_⟩;rcases Qd5 i l.length with hi | hi
  ·rw [Qaw hi] at hu
   rw [Qaw (by lia)] at hv;exact q i u v hu hv
  ·rw [Qau hi] at hu
   rw [Qau (by lia),<-hl] at hv;have C:i - l.length=0:=by
    have:=(Qac.mp hu).1;simp only [Qbc,Qdc] at this;lia
   rw [C] at hu hv;cases hu;cases hv;exact b
theorem Zb8:∀{r C l q:List Nat},LR B r C->LR B l q->LR B (r.foldl Y8 l) (C.foldl Y8 q)
 | [],[],_,_,_,h=>h
 | [],_::_,_,_,h,_=>by cases h.1
 | _::_,[],_,_,h,_=>by cases h.1
 | x::r,y::C,l,q,h,g=>by
  rw [Qc5,Qc5];refine Zb8 ⟨?_,fun i u v hu hv=>h.2 (i + 1) u v (by simpa using hu) (by simpa using hv)⟩ (lr_ins fn inj g (h.2 0 x y rfl rfl));have:=h.1;simpa using this
theorem Zfu{N N':List (List Nat)}(C:B 0 0)(next:∀c d p x y:Nat,B c d->(N.getD c [])[p]?=some x->(N'.getD d [])[p]?=some y->B x y)(len:∀c d,B c d->(N.getD c []).length=(N'.getD d []).length):∀i,LR B (Wq N 0 i) (Wq N' 0 i)
 | 0=>⟨rfl,fun i x y hx g=>by
   match i,hx,g with
   | 0,hx,g =>
    cases hx;cases g;exact C
   | i + 1,hx,g=>cases hx⟩
 | i + 1=>by
  have q:=Zfu C next len i;have hb:B ((Wq N 0 i).getD i 0) ((Wq N' 0 i).getD i 0):=by
   rcases Qd5 i (Wq N 0 i).length with h | h
   ·exact q.2 i _ _ (at_getD h) (at_getD (by rw [<-q.1];exact h))
   ·rw [Qag,Qag,Qbe h,Qbe (by rw [<-q.1];exact h)]
    exact C
  exact Zb8 fn inj ⟨len _ _ hb,fun p x y hx g=>next _ _ p x y hb hx g⟩ q
theorem Zd6{N':List (List Nat)}(C:Canon R)(O:Canon N')(E:0 < R.length)(G:0 < N'.length)(Y:B 0 0)(next:∀c d p x y:Nat,B c d->(R.getD c [])[p]?=some x->(N'.getD d [])[p]?=some y->B x y)(len:∀c d,B c d->(R.getD c []).length=(N'.getD d []).length) :
  R=N'/\∀c,c < R.length->B c c:=by
 have q:∀{g:List (List Nat)},Canon g->0 < g.length->Wq g 0 g.length=List.range g.length:=fun {g} C E=>by
  obtain ⟨⟨k,e,hk⟩,Z⟩:=Zb3 C E g.length (Qai _);have h1:=j8 E C.lt g.length;rw [e,Qbr] at h1;have h2:g.length<=k:=by
   rcases Qd5 k g.length with h | h
   ·exfalso
    obtain ⟨r,row,hr,D,hm⟩:=C.reach k hk h;obtain ⟨k',S,M⟩:=Z r (by lia);have:k∈Wq g 0 g.length:=(Gi _).mpr (.inr ⟨r,by lia,by
     rw [S,range_getD M,Qag,D];exact hm⟩)
    rw [e] at this;exact absurd (Qb9.mp this) (Qby _)
   ·exact h
  rw [e,show k=g.length by lia]
 have L:=Zfu fn inj Y next len;have e1:=q C E;have e2:=q O G;have l1:=(L R.length).1;have l2:=(L N'.length).1;rw [e1,Qbr] at l1;rw [e2,Qbr] at l2;have g1:=j8 G O.lt R.length;have g2:=j8 E C.lt N'.length;have hn:R.length=N'.length:=by lia
 have I:∀c,c < R.length->B c c:=fun c hc=>by
  have:=(L R.length).2 c c c;rw [e1,hn,e2] at this;exact this (Qco (by lia)) (Qco (by lia))
 refine ⟨Qcz fun c=>?_,I⟩;rcases Qd5 c R.length with hc | hc
 ·rw [XR hc,XR (rs:=N') (i:=c) (by lia)]
  refine congrArg some (Qcz fun p=>?_);have hl:=len c c (I c hc);rcases Qd5 p (R.getD c []).length with hp | hp
  ·obtain ⟨x,hx⟩:∃x,(R.getD c [])[p]?=some x:=⟨_,Qab hp⟩
   obtain ⟨y,N⟩:∃y,(N'.getD c [])[p]?=some y:=⟨_,Qab (by lia)⟩;have J:x < R.length:=C.lt _ (getD_mem hc) _ (Qao hx);rw [hx,N,fn _ _ _ (next c c p x y (I c hc) hx N) (I x J)]
  ·rw [Qbe hp,Qbe (by lia)]
 ·rw [Qbe hc,Qbe (by lia)]
end
structure Bis(nx nx':List (List Nat))(ot ot':List (List V))(b b':Nat)(A:Nat->Nat->Prop):Prop where
 b:A b b'
 lt:∀s c,A s c->s < nx.length/\c < nx'.length
 out:∀s c,A s c->ot'.getD c []=ot.getD s []
 next:∀s c p x y:Nat,A s c->(nx.getD s [])[p]?=some x->(nx'.getD c [])[p]?=some y->A x y
theorem AlR.bis{nx:List (List Nat)}{ot:List (List V)}{b:Nat}{A:Nat->Nat->Prop}(g:AlR nx R ot O b i A):Bis nx R ot O b i A:=⟨g.b,g.lt,g.out,g.next⟩
theorem Bis.symm{nx q:List (List Nat)}{ot g:List (List V)}{b C:Nat}{A:Nat->Nat->Prop}(R:Bis nx q ot g b C A):Bis q nx g ot C b (fun s c=>A c s) :=
 ⟨R.b,fun s c h=>(R.lt c s h).symm,fun s c h=>(R.out c s h).symm,fun s c p x y h hx D=>R.next c s p y x h D hx⟩
structure Lst(nm:List Str)(b:Nat)(nx:List (List Nat))(ot:List (List V))(tr:Bool)(l cs:List Nat):Prop where
 W:Wf nm b nx ot tr
 B:zP nx b l
 e:cs=jN (rnR nx l) (vE (rnQ ot l)) l.length
 S:Zco (rnR nx l) cs
 C:gv (vE (rnQ ot l)) cs
theorem Lst.al{b:Nat}{nx:List (List Nat)}{ot:List (List V)}{l:List Nat}(L:Lst N b nx ot j l d):AlR nx (lsR (rnR nx l) d) ot (lsO (rnQ ot l) d) b 0 (Al l d):=al_ok L.W L.B L.S L.C
theorem Lst.W2{b:Nat}{nx:List (List Nat)}{ot:List (List V)}{l:List Nat}(L:Lst N b nx ot j l d):Wf N 0 (lsR (rnR nx l) d) (lsO (rnQ ot l) d) j:=wf_ls (Zju L.W L.B) (xj L.B) L.S
theorem Lst.C2{b:Nat}{nx:List (List Nat)}{ot:List (List V)}{l:List Nat}(L:Lst N b nx ot j l d):Canon (lsR (rnR nx l) d):=wo (xj L.B) L.S
theorem Zd7(ot:List (List V)):(vE ot).length=ot.length:=Qad ..
theorem Zb9{ot:List (List V)}{l:List Nat}{s:Nat}(h:l[i]?=some s):(vE (rnQ ot l))[i]?=some ((ot.getD s []).map fun v=>(vB v).getD 0):=by
 unfold vE rnQ;rw [Qbj,Qah,h]
 rfl
theorem Zd8{nx:List (List Nat)}{l:List Nat}{s:Nat}(h:l[i]?=some s):(rnR nx l).getD i []=(nx.getD s []).map fun x=>l.idxOf x:=by
 unfold rnR;rw [Qag,Qah,h]
 rfl
theorem kr_len(nx:List (List Nat))(ot:List (List V))(l:List Nat):(vE (rnQ ot l)).length=(rnR nx l).length:=by
 rw [Zd7,WQ];exact Qad ..
theorem Wf.row{b:Nat}{nx:List (List Nat)}{ot:List (List V)}(W:Wf N b nx ot j){s:Nat}(h:s < nx.length):(nx.getD s []).length=2 ^ N.length:=W.nr _ (getD_mem h)
theorem wt{b:Nat}{nx:List (List Nat)}{ot:List (List V)}{tr:Bool}{l C D:List Nat}(L:Lst N b nx ot tr l d)(E:Lst N n R O tr C D){A:Nat->Nat->Prop}(q:Bis nx R ot O b n A)
  {s s' t t' c j:Nat} (h1:Al l d s c) (h2:Al l d s' c) (a1:A s t) (a2:A s' t') (hi:C[i]?=some t) (g:C[j]?=some t'):D[i]?=D[j]?:=by
 rw [E.e];have al:=L.al;refine ql (T:=fun i j=>∃s s' t t' c:Nat,Al l d s c/\Al l d s' c/\A s t/\A s' t'/\C[i]?=some t/\C[j]?=some t') (kr_len R O C) ⟨?_,?_,?_,?_⟩ C.length i j ⟨s,s',t,t',c,h1,h2,a1,a2,hi,g⟩
 ·rintro i j ⟨s,s',t,t',c,h1,h2,a1,a2,hi,g⟩
  rw [WQ];exact ⟨(Qac.mp hi).1,(Qac.mp g).1⟩
 ·rintro i j ⟨s,s',t,t',c,h1,h2,a1,a2,hi,g⟩
  rw [Zb9 hi,Zb9 g,q.out _ _ a1,q.out _ _ a2,<-al.out _ _ h1,<-al.out _ _ h2]
 ·rintro i j p x y ⟨s,s',t,t',c,h1,h2,a1,a2,hi,g⟩ hx S
  rw [Zd8 hi,Qah] at hx;rw [Zd8 g,Qah] at S;obtain ⟨u,hu,rfl⟩:=Qbh.mp hx;obtain ⟨v,hv,rfl⟩:=Qbh.mp S;have hp:=(Qac.mp hu).1;rw [E.W.row (q.lt _ _ a1).2] at hp;obtain ⟨M,I⟩:∃M,(nx.getD s [])[p]?=some M:=⟨_,Qab (by rw [L.W.row (q.lt _ _ a1).1];exact hp)⟩;obtain ⟨J,G⟩:∃J,(nx.getD s' [])[p]?=some J:=⟨_,Qab (by rw [L.W.row (q.lt _ _ a2).1];exact hp)⟩;obtain ⟨z,Y⟩:∃z,((lsR (rnR nx l) d).getD c [])[p]?=some z:=⟨_,Qab (by rw [L.W2.row (al.lt _ _ h1).2];exact hp)⟩;exact ⟨M,J,u,v,z,al.next _ _ p _ _ h1 I Y,al.next _ _ p _ _ h2 G Y,q.next _ _ p _ _ a1 I hu,q.next _ _ p _ _ a2 G hv,Zb4 (E.B.next hi (Qao hu)),Zb4 (E.B.next g (Qao hv))⟩
 ·rintro i j ⟨s,s',t,t',c,h1,h2,a1,a2,hi,g⟩
  rw [Zd8 hi,Zd8 g,Qad,Qad,E.W.row (q.lt _ _ a1).2,E.W.row (q.lt _ _ a2).2]
theorem wu{b:Nat}{nx:List (List Nat)}{ot:List (List V)}{tr:Bool}{l cs q g:List Nat}(L:Lst N b nx ot tr l cs)(G:Lst N n R O tr q g){A:Nat->Nat->Prop}(E:Bis nx R ot O b n A) :
  lsR (rnR nx l) cs=lsR (rnR R q) g/\lsO (rnQ ot l) cs=lsO (rnQ O q) g:=by
 have al:=L.al;have D:=G.al;have W:=L.W2;have Z:=G.W2;have fn:∀c d d':Nat,(∃s t,Al l cs s c/\A s t/\Al q g t d)->(∃s t,Al l cs s c/\A s t/\Al q g t d')->d=d':=by
  rintro c d d' ⟨s,t,h1,h2,⟨i,C,I⟩⟩ ⟨s',t',M,S,⟨j,J,g4⟩⟩;have:=wt L G E h1 M h2 S C J;rw [I,g4] at this;exact Option.some.inj this
 have inj:∀c Y d:Nat,(∃s t,Al l cs s c/\A s t/\Al q g t d)->(∃s t,Al l cs s Y/\A s t/\Al q g t d)->c=Y:=by
  rintro c Y d ⟨s,t,⟨i,C,I⟩,h2,h1⟩ ⟨s',t',⟨j,J,g4⟩,S,M⟩;have:=wt G L E.symm h1 M h2 S C J;rw [I,g4] at this;exact Option.some.inj this
 have next:∀c d p x y:Nat,(∃s t,Al l cs s c/\A s t/\Al q g t d)->((lsR (rnR nx l) cs).getD c [])[p]?=some x->((lsR (rnR R q) g).getD d [])[p]?=some y->∃s t,Al l cs s x/\A s t/\Al q g t y:=by
  rintro c d p x y ⟨s,t,h1,h2,C⟩ hx hy;have hp:=(Qac.mp hx).1;rw [W.row (al.lt _ _ h1).2] at hp;obtain ⟨u,hu⟩:∃u,(nx.getD s [])[p]?=some u:=⟨_,Qab (by rw [L.W.row (E.lt _ _ h2).1];exact hp)⟩;obtain ⟨v,hv⟩:∃v,(R.getD t [])[p]?=some v:=⟨_,Qab (by rw [G.W.row (E.lt _ _ h2).2];exact hp)⟩;exact ⟨u,v,al.next _ _ p _ _ h1 hu hx,E.next _ _ p _ _ h2 hu hv,D.next _ _ p _ _ C hv hy⟩
 obtain ⟨e,hB⟩:=Zd6 fn inj L.C2 G.C2 W.b Z.b ⟨b,n,al.b,E.b,D.b⟩ next (by
  rintro c d ⟨s,t,h1,h2,C⟩;rw [W.row (al.lt _ _ h1).2,Z.row (D.lt _ _ C).2])
 refine ⟨e,Qcz fun c=>?_⟩;have el:=congrArg List.length e;have o1:=W.ol;have o2:=Z.ol;rcases Qd5 c (lsO (rnQ ot l) cs).length with hc | hc
 ·obtain ⟨s,t,h1,h2,C⟩:=hB c (by lia)
  rw [XR hc,XR (rs:=lsO (rnQ O q) g) (i:=c) (by lia),al.out _ _ h1,D.out _ _ C,E.out _ _ h2]
 ·rw [Qbe hc,Qbe (by lia)]
theorem wx:∀{r g:List V},(∀v∈r,∀w∈g,eqV v w=true->v=w)->Zck r g=true->r=g
 | [],[],_,_=>rfl
 | [],_::_,_,e=>by cases e
 | _::_,[],_,e=>by cases e
 | x::r,y::g,h,e=>by
  have e:(eqV x y && Zck r g)=true:=e;rw [Qbv] at e;rw [h x Qal y Qal e.1,wx (fun v hv w hw=>h v (Qam _ hv) w (Qam _ hw)) e.2]
theorem wy{p:Addr}{rs:List (List V)}(R:JB H p rs)(S:JB H f O)(hf:∀r∈rs,∀v∈r,XX v=true)(C:∀r∈O,∀v∈r,XX v=true)(inj:∀r∈rs,∀v∈r,∀J∈O,∀w∈J,eqV v w=true->v=w) :
  ∃b,EqB H 3 (.ref p) (.ref f) b/\(b=true↔rs=O):=by
 obtain ⟨as,h1,h2,L⟩:=R;obtain ⟨bs,I,E,G⟩:=S;refine ⟨_,.inr ⟨p,f,as,bs,fun j=>Zck (rs.getD j []) (O.getD j []),rfl,rfl,h1,I,rfl,fun j u v hu hv=>?_⟩,?_⟩
 ·have q:j < rs.length:=by rw [<-h2];exact (Qac.mp hu).1
  have g:j < O.length:=by rw [<-E];exact (Qac.mp hv).1
  obtain ⟨a,e1,e2⟩:=L j _ (XR q);obtain ⟨c,e3,M⟩:=G j _ (XR g);rw [hu] at e1;rw [hv] at e3;cases e1;cases e3;refine .inr ⟨a,c,_,_,eqJ (rs.getD j []) (O.getD j []),rfl,rfl,e2,M,(zE _ _).symm,fun i x y hx D=>.inl ⟨hf _ (getD_mem q) x (Qao hx),C _ (getD_mem g) y (Qao D),?_⟩⟩;unfold eqJ;rw [hx,D]
 ·rw [Qbv,Qdg]
  constructor
  ·rintro ⟨ha,hl⟩
   have hl:as.length=bs.length:=eq_of_beq hl;refine Qcz fun j=>?_;rcases Qd5 j rs.length with q | q
   ·have g:j < O.length:=by lia
    have:=ha j (Qb9.mpr (by lia));rw [XR q,XR g,wx (fun v hv w hw=>inj _ (getD_mem q) v hv _ (getD_mem g) w hw) this]
   ·rw [Qbe q,Qbe (by lia)]
  ·intro e
   subst e;refine ⟨fun j q=>?_,by rw [h2,E];exact Qb0 _⟩;have q:=Qb9.mp q;refine uX (Qdg.mpr fun v hv=>hf _ (getD_mem (i:=j) (by lia)) v hv)
theorem Zd9{w:V}(h:W4 j v)(h':W4 j w)(e:eqV v w=true):v=w:=by
 rcases h with ⟨q,x,rfl⟩ | ⟨q,x,rfl⟩ <;> rcases h' with ⟨g,y,rfl⟩ | ⟨g,y,rfl⟩
 ·have e:(x == y)=true:=e
  rw [eq_of_beq e]
 ·rw [q] at g;cases g
 ·rw [q] at g;cases g
 ·have e:(x == y)=true:=e
  rw [eq_of_beq e]
theorem wz{c:Addr}{b:Nat}{nx:List (List Nat)}{ot:List (List V)}{tr:Bool}(M:M4 H a N b nx ot)(E:M4 H c N b R O)(ho:∀r∈ot,∀v∈r,W4 tr v)(G:∀r∈O,∀v∈r,W4 tr v) :
  ∃xs ys e,H a=some (.tup xs)/\H c=some (.tup ys)/\(∀(j:Nat) (u v:V),xs[j]?=some u->ys[j]?=some v->EqB H 3 u v (e j))/\(((List.range (min xs.length ys.length)).all e && xs.length == ys.length)=true↔nx=R/\ot=O):=by
 obtain ⟨pn,ps,po,h1,h2,h3,L⟩:=M.ex;obtain ⟨qn,qs,qo,Y,g2,S,g4⟩:=E.ex;have g:∀{nx:List (List Nat)} {r:List V} {v:V},r∈nx.map GN->v∈r->∃z:Nat,v=Ge z:=fun {nx r v} hr hv=>by
  obtain ⟨C,_,rfl⟩:=Qa2.mp hr;obtain ⟨z,_,rfl⟩:=Qa2.mp hv;exact ⟨z,rfl⟩
 obtain ⟨b2,Z,i2⟩:=wy h3 S (fun r hr v hv=>by obtain ⟨z,rfl⟩:=g hr hv;rfl) (fun r hr v hv=>by obtain ⟨z,rfl⟩:=g hr hv;rfl) (fun r hr v hv C q w hw e=>by
  obtain ⟨z,rfl⟩:=g hr hv;obtain ⟨z',rfl⟩:=g q hw;have e:((z:Int) == (z':Int))=true:=e;exact congrArg V.int (eq_of_beq e))
 obtain ⟨D,z3,i3⟩:=wy L g4 (fun r hr v hv=>yC (ho r hr v hv)) (fun r hr v hv=>yC (G r hr v hv)) (fun r hr v hv C q w hw e=>Zd9 (ho r hr v hv) (G C q w hw) e);refine ⟨_,_,fun j=>match j with | 2=>b2 | 3=>D | _=>true,h1,Y,fun j u v hu hv=>?_,?_⟩
 ·match j,hu,hv with
  | 0,hu,hv =>
   cases hu;cases hv;refine .inr ⟨pn,qn,_,_,fun _=>true,rfl,rfl,h2,g2,?_,fun i x y hx I=>?_⟩
   ·rw [Qb0,Qgw]
    exact (Qdg.mpr fun _ _=>rfl).symm
   ·rw [hx] at I
    cases I;rw [Qah] at hx;obtain ⟨z,_,rfl⟩:=Qbh.mp hx;exact .inl ⟨rfl,rfl,(Gx rfl).symm⟩
  | 1,hu,hv =>
   cases hu;cases hv;exact .inl ⟨rfl,rfl,(Gx rfl).symm⟩
  | 2,hu,hv =>
   cases hu;cases hv;exact Z
  | 3,hu,hv =>
   cases hu;cases hv;exact z3
  | j + 4,hu,hv=>cases hu
 ·have inj:nx.map GN=R.map GN->nx=R:=fun e=>by
   refine Qcz fun i=>?_;have e1:=congrArg (fun l=>l[i]?) e;simp only [Qah] at e1;cases h:nx[i]? with
   | none =>
    rw [h] at e1;cases h':R[i]? with
    | none=>rfl
    | some r=>rw [h'] at e1;cases e1
   | some r =>
    rw [h] at e1;cases h':R[i]? with
    | none=>rw [h'] at e1;cases e1
    | some C =>
     rw [h'] at e1;have e2:GN r=GN C:=Option.some.inj e1;have e3:=congrArg (List.map fun v=>match v with | .int z=>z.toNat | _=>0) e2;unfold GN at e3;rw [Qbj,Qbj] at e3;have J:r.map (fun z:Nat=>(z:Int).toNat)=C.map (fun z:Nat=>(z:Int).toNat):=e3;simp only [Qa9,List.map_id'] at J;rw [J]
  have hb:((List.range (min 4 4)).all (fun j=>match j with | 2=>b2 | 3=>D | _=>true) && (4:Nat) == 4)=(b2 && D):=by
   cases b2 <;> cases D <;> rfl
  show (((List.range (min 4 4)).all (fun j=>match j with | 2=>b2 | 3=>D | _=>true) && (4:Nat) == 4)=true)↔_;rw [hb,Qbv,i2,i3];exact ⟨fun h=>⟨inj h.1,h.2⟩,fun h=>⟨by rw [h.1],h.2⟩⟩
theorem Zib{nx:List (List Nat)}{b:Nat}{l:List Nat}(B:BfE (fun s=>nx.getD s []) b l):zP nx b l:=by
 have e:∀i,i<=l.length->Wq nx b i=bfN (fun s=>nx.getD s []) b i:=by
  intro i
  induction i with
  | zero=>exact fun _=>rfl
  | succ i g =>
   intro h;obtain ⟨s,hs⟩:∃s,(bfN (fun s=>nx.getD s []) b i)[i]?=some s:=⟨_,Qab (B.go i (by lia))⟩;show Zbd nx (Wq nx b i) i=_;rw [g (by lia),j9 hs];unfold Zbd;have:(bfN (fun s=>nx.getD s []) b i).getD i 0=s:=by rw [Qag,hs];rfl
   rw [this]
 exact ⟨by rw [e _ (Qai _)];exact B.e,fun i hi=>by rw [e i (by lia)];exact B.go i hi⟩
inductive Tr where
 | p | q | r
 | num (z:Int)
 | one (y:Str) (t:Tr)
 | two (y:Str) (t u:Tr)
 | thr (y:Str) (t u v:Tr)
def Tr.flat(P Q R:List V):Tr->List V
 | .p=>P
 | .q=>Q
 | .r=>R
 | .num z=>[.int z]
 | .one y t=>.str y::t.flat P Q R
 | .two y t u=>.str y::(t.flat P Q R++u.flat P Q R)
 | .thr y t u v=>.str y::(t.flat P Q R++(u.flat P Q R++v.flat P Q R))
def Tr.ev(m a b c:Int):Tr->Int
 | .p=>a
 | .q=>b
 | .r=>c
 | .num z=>z % m
 | .one y t=>Zjx y (t.ev m a b c) % m
 | .two y t u=>Zjy y (t.ev m a b c) (u.ev m a b c) % m
 | .thr _ t u v=>Builtin.bitOr (Builtin.bitAnd (t.ev m a b c) (u.ev m a b c)) (Builtin.bitAnd (Builtin.bitNot (t.ev m a b c)) (v.ev m a b c)) % m
def Tr.ok:Tr->Bool
 | .p=>true
 | .q=>true
 | .r=>true
 | .num z=>decide (0<=z/\z < 1000)
 | .one y t=>decide (y∈Ji/\Yk y=1) && t.ok
 | .two y t u=>decide (y∈Ji/\Yk y=2) && (t.ok && u.ok)
 | .thr y t u v=>decide (y∈Ji/\Yk y=3) && (t.ok && (u.ok && v.ok))
def Tr.sz:Tr->Nat
 | .p=>7
 | .q=>7
 | .r=>7
 | .num _=>1
 | .one _ t=>t.sz + 1
 | .two _ t u=>t.sz + u.sz + 1
 | .thr _ t u v=>t.sz + u.sz + v.sz + 1
def Tr.rs:Tr->Nat
 | .p=>1
 | .q=>1
 | .r=>1
 | .num _=>0
 | .one _ t=>t.rs + 1
 | .two _ t u=>t.rs + u.rs + 1
 | .thr _ t u v=>t.rs + u.rs + v.rs + 1
structure Prt(nm:List Str)(P:List V):Prop where
 g:Seg nm false P
 l:P.length<=7
 m:YV P<=1
theorem Zic(g:0<=z)(h1:z < 1000):Seg N false [.int z]:=Seg.sum (fun w hw=>by
 rw [Qay.mp hw];exact .inr (.inr ⟨z,rfl,g,Qgo h1 (by decide),vC z⟩)) ⟨Qbp _,trivial⟩ (by
 show 0 - npw (.int z) + 1=1;lia)
theorem Seg.w1{nm:List Str}{y:Str}{u:List V}(hk:∀y∈nm,y∉YB)(g:y∈Ji)(hn:Yk y=1)(h:Seg nm false u):Seg nm false (.str y::u):=fun r ks hr=>by
 obtain ⟨w1,w2,_⟩:=J8 hk g;refine .sum w1 ?_;rw [w2,hn];exact h r ks hr
theorem Seg.w2{nm:List Str}{y:Str}{u v:List V}(hk:∀y∈nm,y∉YB)(q:y∈Ji)(hn:Yk y=2)(h:Seg nm false u)(g:Seg nm false v):Seg nm false (.str y::(u++v)):=fun r ks hr=>by
 obtain ⟨w1,w2,_⟩:=J8 hk q;refine .sum w1 ?_;rw [w2,hn];show TyR nm ((u++v)++r) _;rw [Qbu];exact h _ _ (g r ks hr)
theorem Seg.w3{y:Str}{u v w:List V}(hk:∀y∈N,y∉YB)(q:y∈Ji)(hn:Yk y=3)(h:Seg N false u)(g:Seg N false v)(f:Seg N false w):Seg N false (.str y::(u++(v++w))):=fun r ks hr=>by
 obtain ⟨w1,w2,_⟩:=J8 hk q;refine .sum w1 ?_;rw [w2,hn];show TyR N ((u++(v++w))++r) _;rw [Qbu,Qbu];exact h _ _ (g _ _ (f r ks hr))
theorem Tr.seg{nm:List Str}{P Q R:List V}(hk:∀y∈nm,y∉YB)(E:Prt nm P)(C:Prt nm Q)(D:Prt nm R):∀{t:Tr},t.ok=true->Seg nm false (t.flat P Q R)/\(t.flat P Q R).length<=t.sz/\YV (t.flat P Q R)<=t.rs
 | .p,_=>⟨E.g,E.l,E.m⟩
 | .q,_=>⟨C.g,C.l,C.m⟩
 | .r,_=>⟨D.g,D.l,D.m⟩
 | .num z,h=>by
  have h:=Qba h;refine ⟨Zic h.1 h.2,Qai _,?_⟩;show YV [.int z]<=0;rw [W5,qg];exact Qai _
 | .one y t,h=>by
  have h:=Qat.mp h;have h1:=Qba h.1;obtain ⟨G,M,J⟩:=Tr.seg hk E C D h.2;have:=Gh (.str y) (t.flat P Q R);exact ⟨G.w1 hk h1.1 h1.2,by show _ + 1<=_ + 1;lia,by show YV (_::_)<=_ + 1;lia⟩
 | .two y t u,h=>by
  have h:=Qat.mp h;have h1:=Qba h.1;have h2:=Qat.mp h.2;obtain ⟨G,M,J⟩:=Tr.seg hk E C D h2.1;obtain ⟨I,N,O⟩:=Tr.seg hk E C D h2.2;have:=Gh (.str y) (t.flat P Q R++u.flat P Q R);rw [Wc] at this;refine ⟨G.w2 hk h1.1 h1.2 I,?_,by show YV (_::_)<=_ + _ + 1;lia⟩;show (t.flat P Q R++u.flat P Q R).length + 1<=t.sz + u.sz + 1;rw [Qaf];lia
 | .thr y t u v,h=>by
  have h:=Qat.mp h;have h1:=Qba h.1;have h2:=Qat.mp h.2;have L:=Qat.mp h2.2;obtain ⟨G,M,J⟩:=Tr.seg hk E C D h2.1;obtain ⟨I,N,O⟩:=Tr.seg hk E C D L.1;obtain ⟨e1,e2,e3⟩:=Tr.seg hk E C D L.2;have:=Gh (.str y) (t.flat P Q R++(u.flat P Q R++v.flat P Q R));rw [Wc,Wc] at this;refine ⟨G.w3 hk h1.1 h1.2 I e1,?_,by show YV (_::_)<=_ + _ + _ + 1;lia⟩;show (t.flat P Q R++(u.flat P Q R++v.flat P Q R)).length + 1<=t.sz + u.sz + v.sz + 1;rw [Qaf,Qaf];lia
theorem jG{W:Nat}{ρ:Str->Int}{y:Str}{u:List V}{is:List Int}(g:y∈Ji)(hn:Yk y=is.length)(h:Y0 W ρ u=is):Y0 W ρ (.str y::u)=[wwv ρ (.str y) is % 2 ^ W]:=by
 have q:npw (.str y)=Yk y:=(Zbo y g).1;show rwR W ρ (.str y) ((Y0 W ρ u).take (npw (.str y)))::(Y0 W ρ u).drop (npw (.str y))=_;rw [h,q,hn,Qb2,Qea];show [if y∈Yf then _ else _]=_;rw [Qax (jF y g)]
theorem Tr.run{nm:List Str}{P Q R:List V}{W:Nat}{ρ:Str->Int}{a b c:Int}(hk:∀y∈nm,y∉YB)(D:Prt nm P)(g:Prt nm Q)(C:Prt nm R)(ha:Y0 W ρ P=[a])(hb:Y0 W ρ Q=[b])(hc:Y0 W ρ R=[c]):∀{t:Tr},t.ok=true->Y0 W ρ (t.flat P Q R)=[t.ev (2 ^ W) a b c]
 | .p,_=>ha
 | .q,_=>hb
 | .r,_=>hc
 | .num z,_=>by
  show rwR W ρ (.int z) _::_=_;show wwv ρ (.int z) _ % 2 ^ W::List.drop _ []=[z % 2 ^ W];rw [List.drop_nil]
  rfl
 | .one y t,h=>by
  have h:=Qat.mp h;have h1:=Qba h.1;exact jG (is:=[_]) h1.1 h1.2 (Tr.run hk D g C ha hb hc h.2)
 | .two y t u,h=>by
  have h:=Qat.mp h;have h1:=Qba h.1;have h2:=Qat.mp h.2;refine jG (is:=[_,_]) h1.1 h1.2 ?_;rw [J9 W ρ (Tr.seg hk D g C h2.1).1.ty.facts.2.1,Tr.run hk D g C ha hb hc h2.1,Tr.run hk D g C ha hb hc h2.2]
  rfl
 | .thr y t u v,h=>by
  have h:=Qat.mp h;have h1:=Qba h.1;have h2:=Qat.mp h.2;have E:=Qat.mp h2.2;refine jG (is:=[_,_,_]) h1.1 h1.2 ?_;rw [J9 W ρ (Tr.seg hk D g C h2.1).1.ty.facts.2.1,J9 W ρ (Tr.seg hk D g C E.1).1.ty.facts.2.1,Tr.run hk D g C ha hb hc h2.1,Tr.run hk D g C ha hb hc E.1,Tr.run hk D g C ha hb hc E.2]
  rfl
theorem w4(f g:Nat->Int):∀n,sm (fun k=>f k + g k) n=sm f n + sm g n
 | 0=>rfl
 | n + 1=>by
  show sm (fun k=>f k + g k) n + (f n + g n) * 2 ^ n=sm f n + f n * 2 ^ n + (sm g n + g n * 2 ^ n);rw [w4 f g n,Int.add_mul];lia
theorem or_and(a b:Int)(W:Nat):Builtin.bitOr a b % 2 ^ W + Builtin.bitAnd a b % 2 ^ W=a % 2 ^ W + b % 2 ^ W:=by
 rw [<-xJ,<-xJ,<-xJ,<-xJ,<-w4,<-w4];refine J7 fun k _=>?_;rw [Gd,YR];rcases Yp a k with h | h <;> rcases Yp b k with g | g <;> rw [h,g] <;> rfl
theorem Zid(a b:Int)(W:Nat):Builtin.bitXor a b % 2 ^ W + Builtin.bitAnd a b % 2 ^ W=Builtin.bitOr a b % 2 ^ W:=by
 rw [<-xJ,<-xJ,<-xJ,<-w4];refine J7 fun k _=>?_;rw [Gd,YR,Xx];rcases Yp a k with h | h <;> rcases Yp b k with g | g <;> rw [h,g] <;> rfl
theorem Js{x y:Int}{W:Nat}(h:∀k,k < W->bt x k=bt y k):x % 2 ^ W=y % 2 ^ W:=by
 rw [<-xJ,<-xJ];exact J7 h
theorem mdA(x y m:Int):(x + y % m) % m=(x + y) % m:=by rw [Qg9,Qfe,<-Qg9]
theorem mdB(x y m:Int):(x % m + y) % m=(x + y) % m:=by rw [Qg9,Qfe,<-Qg9]
theorem mdC(x y m:Int):(x - y % m) % m=(x - y) % m:=by rw [Qha,Qfe,<-Qha]
theorem mdD(x y m:Int):(x % m - y) % m=(x - y) % m:=by rw [Qha,Qfe,<-Qha]
theorem mdE(x m:Int):(-(x % m)) % m=(-x) % m:=by
 have:=mdC 0 x m;rw [Int.zero_sub,Int.zero_sub] at this;exact this
theorem mdN(x m:Int):Builtin.bitNot (x % m) % m=Builtin.bitNot x % m:=by
 show (-(x % m) - 1) % m=(-x - 1) % m;rw [<-mdD,mdE,mdD]
def EqT(t u:Tr):Prop:=∀(W:Nat) (a b c:Int),1<=W->0<=a/\a < 2 ^ W->0<=b/\b < 2 ^ W->0<=c/\c < 2 ^ W->t.ev (2 ^ W) a b c=u.ev (2 ^ W) a b c
theorem EqT.one{t u:Tr}(h:EqT t u)(y:Str):EqT (.one y t) (.one y u):=fun W a b c g ha hb hc=>by
 show Zjx y _ % _=Zjx y _ % _;rw [h W a b c g ha hb hc]
theorem EqT.two{t u t' g:Tr}(h:EqT t u)(h':EqT t' g)(y:Str):EqT (.two y t t') (.two y u g):=fun W a b c q ha hb hc=>by
 show Zjy y _ _ % _=Zjy y _ _ % _;rw [h W a b c q ha hb hc,h' W a b c q ha hb hc]
theorem EqT.refl(t:Tr):EqT t t:=fun _ _ _ _ _ _ _ _=>rfl
theorem EqT.symm{t u:Tr}(h:EqT t u):EqT u t:=fun W a b c g ha hb hc=>(h W a b c g ha hb hc).symm
def Zfv:List (Tr × Tr):=[
 (.two "add" .p .q,.two "add" (.two "or" .p .q) (.two "and" .p .q)),
 (.two "add" .p .q,.two "add" .q .p),
 (.two "sub" .p .q,.two "add" .p (.one "neg" .q)),
 (.two "odd" .p .q,.two "sub" (.two "or" .p .q) (.two "and" .p .q)),
 (.one "neg" .p,.one "not" (.two "sub" .p (.num 1))),
 (.one "twice" .p,.two "add" .p .p),
 (.one "low" .p,.two "and" .p (.one "neg" .p)),
 (.thr "pick" .p .q .r,.two "odd" .r (.two "and" .p (.two "odd" .q .r))),
 (.one "not" (.two "and" .p .q),.two "or" (.one "not" .p) (.one "not" .q)),
 (.two "add" .p .q,.two "add" (.two "odd" .p .q) (.one "twice" (.two "and" .p .q))),
 (.two "sub" .p .q,.one "not" (.two "add" (.one "not" .p) .q)),
 (.two "or" .p .q,.one "not" (.two "and" (.one "not" .p) (.one "not" .q))),
 (.p,.one "neg" (.one "neg" .p)),
 (.two "and" .p .q,.two "sub" (.two "add" .p .q) (.two "or" .p .q)),
 (.two "odd" .p .p,.num 0),
 (.p,.two "odd" .q (.two "odd" .p .q))]
theorem Zie:∀w∈Zfv,w.1.ok=true/\w.2.ok=true/\w.1.sz<=40/\w.2.sz<=40/\w.1.rs<=10/\w.2.rs<=10:=by decide +kernel
theorem Zif:∀w∈Zfv,EqT w.1 w.2:=by
 intro w hw W a b c G ha hb hc;have C:a % 2 ^ W=a:=Qb7 ha.1 ha.2;have E:b % 2 ^ W=b:=Qb7 hb.1 hb.2;have I:c % 2 ^ W=c:=Qb7 hc.1 hc.2;have oa:=or_and a b W;have D:=Zid a b W;rw [C,E] at oa;have q:∀x k,bt x k=0\/bt x k=1:=Yp;simp only [Zfv,Qas,Qa6,Qc1] at hw;rcases hw with rfl | rfl | rfl | rfl | rfl | rfl | rfl | rfl | rfl | rfl | rfl | rfl | rfl | rfl | rfl | rfl
 ·show (a + b) % 2 ^ W=(Builtin.bitOr a b % 2 ^ W + Builtin.bitAnd a b % 2 ^ W) % 2 ^ W
  rw [oa]
 ·show (a + b) % 2 ^ W=(b + a) % 2 ^ W
  rw [Int.add_comm]
 ·show (a - b) % 2 ^ W=(a + (-b) % 2 ^ W) % 2 ^ W
  rw [mdA]
  rfl
 ·show Builtin.bitXor a b % 2 ^ W=(Builtin.bitOr a b % 2 ^ W - Builtin.bitAnd a b % 2 ^ W) % 2 ^ W
  rw [<-D,show ∀x y:Int,x + y - y=x from fun x y=>by lia,Qfe]
 ·show (-a) % 2 ^ W=Builtin.bitNot ((a - 1 % 2 ^ W) % 2 ^ W) % 2 ^ W
  rw [mdN];show (-a) % 2 ^ W=(-(a - 1 % 2 ^ W) - 1) % 2 ^ W;rw [show -(a - 1 % 2 ^ W) - 1=(-a - 1) + 1 % 2 ^ W by lia,mdA];congr 1;lia
 ·rfl
 ·show Builtin.bitAnd a (-a) % 2 ^ W=Builtin.bitAnd a ((-a) % 2 ^ W) % 2 ^ W
  exact Js fun k hk=>by rw [YR,YR,Xl _ _ _ hk]
 ·show Builtin.bitOr (Builtin.bitAnd a b) (Builtin.bitAnd (Builtin.bitNot a) c) % 2 ^ W=Builtin.bitXor c (Builtin.bitAnd a (Builtin.bitXor b c % 2 ^ W) % 2 ^ W) % 2 ^ W
  refine Js fun k hk=>?_;rw [Gd,YR,YR,Xy,Xx,Xl _ _ _ hk,YR,Xl _ _ _ hk,Xx];rcases q a k with h | h <;> rcases q b k with g | g <;> rcases q c k with f | f <;> rw [h,g,f] <;> rfl
 ·show Builtin.bitNot (Builtin.bitAnd a b % 2 ^ W) % 2 ^ W=Builtin.bitOr (Builtin.bitNot a % 2 ^ W) (Builtin.bitNot b % 2 ^ W) % 2 ^ W
  refine Js fun k hk=>?_;rw [Xy,Xl _ _ _ hk,YR,Gd,Xl _ _ _ hk,Xl _ _ _ hk,Xy,Xy];rcases q a k with h | h <;> rcases q b k with g | g <;> rw [h,g] <;> rfl
 ·show (a + b) % 2 ^ W=(Builtin.bitXor a b % 2 ^ W + (Builtin.bitAnd a b % 2 ^ W + Builtin.bitAnd a b % 2 ^ W) % 2 ^ W) % 2 ^ W
  rw [mdA,<-oa,<-D];congr 1;lia
 ·show (a - b) % 2 ^ W=Builtin.bitNot ((Builtin.bitNot a % 2 ^ W + b) % 2 ^ W) % 2 ^ W
  rw [mdB,mdN];show (a - b) % 2 ^ W=(-((-a - 1) + b) - 1) % 2 ^ W;congr 1;lia
 ·show Builtin.bitOr a b % 2 ^ W=Builtin.bitNot (Builtin.bitAnd (Builtin.bitNot a % 2 ^ W) (Builtin.bitNot b % 2 ^ W) % 2 ^ W) % 2 ^ W
  refine Js fun k hk=>?_;rw [Gd,Xy,Xl _ _ _ hk,YR,Xl _ _ _ hk,Xl _ _ _ hk,Xy,Xy]
 ·show a=(-((-a) % 2 ^ W)) % 2 ^ W
  rw [mdE,Int.neg_neg,C]
 ·show Builtin.bitAnd a b % 2 ^ W=((a + b) % 2 ^ W - Builtin.bitOr a b % 2 ^ W) % 2 ^ W
  rw [mdD,<-oa,show ∀x y:Int,x + y - x=y from fun x y=>by lia,Qfe]
 ·show Builtin.bitXor a a % 2 ^ W=0 % 2 ^ W
  refine Js fun k hk=>?_;rw [Xx];have:bt 0 k=0:=by unfold bt;rw [Qgy];rfl
  rw [this];rcases q a k with h | h <;> rw [h] <;> rfl
 ·show a=Builtin.bitXor b (Builtin.bitXor a b % 2 ^ W) % 2 ^ W
  rw [<-C];refine (Js fun k hk=>?_).trans rfl;rw [Xx,Xl _ _ _ hk,Xx];rcases q a k with h | h <;> rcases q b k with g | g <;> simp only [Xl _ _ _ hk,h,g] <;> rfl
inductive CT where
 | c1 (y:Str) (t:Tr)
 | c2 (y:Str) (t u:Tr)
 | nev (c:CT)
 | jn (y:Str) (c d:CT)
def CT.flat(P Q R:List V):CT->List V
 | .c1 y t=>.str y::t.flat P Q R
 | .c2 y t u=>.str y::(t.flat P Q R++u.flat P Q R)
 | .nev c=>.str "never" :: c.flat P Q R
 | .jn y c d=>.str y::(c.flat P Q R++d.flat P Q R)
def CT.tv(m a b c:Int):CT->Bool
 | .c1 y t=>Zhk m y [t.ev m a b c]
 | .c2 y t u=>Zhk m y [t.ev m a b c,u.ev m a b c]
 | .nev d=>Zfi "never" [d.tv m a b c]
 | .jn y d e=>Zfi y [d.tv m a b c,e.tv m a b c]
def CT.ok:CT->Bool
 | .c1 y t=>decide (y∈Yf/\xZ (.str y)=1/\j4 (.str y)=0) && t.ok
 | .c2 y t u=>decide (y∈Yf/\xZ (.str y)=2/\j4 (.str y)=0) && (t.ok && u.ok)
 | .nev c=>c.ok
 | .jn y c d=>decide (y∈Yf/\xZ (.str y)=0/\j4 (.str y)=2) && (c.ok && d.ok)
def CT.sz:CT->Nat
 | .c1 _ t=>t.sz + 1
 | .c2 _ t u=>t.sz + u.sz + 1
 | .nev c=>c.sz + 1
 | .jn _ c d=>c.sz + d.sz + 1
def CT.rs:CT->Nat
 | .c1 _ t=>t.rs + 1
 | .c2 _ t u=>t.rs + u.rs + 1
 | .nev c=>c.rs + 1
 | .jn _ c d=>c.rs + d.rs + 1
theorem CT.seg{nm:List Str}{P Q R:List V}(hk:∀y∈nm,y∉YB)(E:Prt nm P)(C:Prt nm Q)(D:Prt nm R):∀{t:CT},t.ok=true->Seg nm true (t.flat P Q R)/\(t.flat P Q R).length<=t.sz/\YV (t.flat P Q R)<=t.rs
 | .c1 y t,h=>by
  have h:=Qat.mp h;obtain ⟨h1,h2,g⟩:=Qba h.1;obtain ⟨q,L,J⟩:=Tr.seg hk E C D h.2;have:=Gh (.str y) (t.flat P Q R);exact ⟨Seg.rel1 h1 (fun z=>hk y z (W0 y h1)) h2 g q,by show _ + 1<=_ + 1;lia,by show YV (_::_)<=_ + 1;lia⟩
 | .c2 y t u,h=>by
  have h:=Qat.mp h;obtain ⟨h1,h2,g⟩:=Qba h.1;have G:=Qat.mp h.2;obtain ⟨q,L,J⟩:=Tr.seg hk E C D G.1;obtain ⟨I,M,N⟩:=Tr.seg hk E C D G.2;have:=Gh (.str y) (t.flat P Q R++u.flat P Q R);rw [Wc] at this;refine ⟨Seg.rel2 h1 (fun z=>hk y z (W0 y h1)) h2 g q I,?_,by show YV (_::_)<=_ + _ + 1;lia⟩;show (t.flat P Q R++u.flat P Q R).length + 1<=t.sz + u.sz + 1;rw [Qaf];lia
 | .nev c,h=>by
  obtain ⟨q,L,J⟩:=CT.seg hk E C D (t:=c) h;obtain ⟨h1,_,h2,g⟩:=zU;have:=Gh (.str "never") (c.flat P Q R);exact ⟨Seg.clm1 h1 (fun z=>hk _ z (W0 _ h1)) h2 g q,by show _ + 1<=_ + 1;lia,by show YV (_::_)<=_ + 1;lia⟩
 | .jn y c d,h=>by
  have h:=Qat.mp h;obtain ⟨h1,h2,g⟩:=Qba h.1;have G:=Qat.mp h.2;obtain ⟨q,L,J⟩:=CT.seg hk E C D G.1;obtain ⟨I,M,N⟩:=CT.seg hk E C D G.2;have:=Gh (.str y) (c.flat P Q R++d.flat P Q R);rw [Wc] at this;refine ⟨Seg.clm2 h1 (fun z=>hk y z (W0 y h1)) h2 g q I,?_,by show YV (_::_)<=_ + _ + 1;lia⟩;show (c.flat P Q R++d.flat P Q R).length + 1<=c.sz + d.sz + 1;rw [Qaf];lia
theorem xl{W:Nat}{ρ:Str->Int}{y:Str}{u:List V}{is:List Int}(C:1<=W)(g:y∈Yf)(hn:xZ (.str y) + j4 (.str y)=is.length)(h:Y0 W ρ u=is):decide (bt ((Y0 W ρ (.str y::u)).getD 0 0) (W - 1)=1)=decide (clB y is (W - 1)=1):=by
 have q:=y9 y g;have e:Y0 W ρ (.str y::u)=[sm (clB y is) W]:=by
  show rwR W ρ (.str y) ((Y0 W ρ u).take (npw (.str y)))::(Y0 W ρ u).drop (npw (.str y))=_;rw [h,q,hn,Qb2,Qea];show [if y∈Yf then _ else _]=_;rw [Qa4 g]
 rw [e];show decide (bt (sm (clB y is) W) (W - 1)=1)=_;rw [Zh4 (wb y is) (by lia)]
theorem CT.run{nm:List Str}{P Q R:List V}{W:Nat}{ρ:Str->Int}{a b c:Int}(E:1<=W)(hk:∀y∈nm,y∉YB)(C:Prt nm P)(g:Prt nm Q)(q:Prt nm R)(ha:Y0 W ρ P=[a])(hb:Y0 W ρ Q=[b])(hc:Y0 W ρ R=[c]):∀{t:CT},t.ok=true->decide (bt ((Y0 W ρ (t.flat P Q R)).getD 0 0) (W - 1)=1)=t.tv (2 ^ W) a b c
 | .c1 y t,h=>by
  have h:=Qat.mp h;obtain ⟨h1,h2,G⟩:=Qba h.1;have rt:=Tr.run hk C g q ha hb hc h.2;rw [show (CT.c1 y t).flat P Q R=.str y::t.flat P Q R from rfl,xl (is:=[_]) E h1 (by rw [h2,G];rfl) rt];exact (wj E h1 (by lia) (by rw [h2];rfl) fun x hx=>by rw [Qay.mp hx];exact WO rt).symm
 | .c2 y t u,h=>by
  have h:=Qat.mp h;obtain ⟨h1,h2,G⟩:=Qba h.1;have D:=Qat.mp h.2;have rt:=Tr.run hk C g q ha hb hc D.1;have J:=Tr.run hk C g q ha hb hc D.2;rw [show (CT.c2 y t u).flat P Q R=.str y::(t.flat P Q R++u.flat P Q R) from rfl,xl (is:=[t.ev (2 ^ W) a b c,u.ev (2 ^ W) a b c]) E h1 (by rw [h2,G];rfl) (by
   rw [J9 W ρ (Tr.seg hk C g q D.1).1.ty.facts.2.1,rt,J]
   rfl)]
  refine (wj E h1 (by lia) (by rw [h2];rfl) fun x hx=>?_).symm;rcases Qas.mp hx with e | e
  ·rw [e]
   exact WO rt
  ·rw [Qay.mp e]
   exact WO J
 | .nev d,h=>by
  have M:=CT.run E hk C g q ha hb hc (t:=d) h;obtain ⟨h1,_,h2,G⟩:=zU;have I:=YW (CT.seg hk C g q (t:=d) h).1 W ρ;rw [show (CT.nev d).flat P Q R=.str "never" :: d.flat P Q R from rfl,xl E h1 (by rw [h2,G];rfl) I,<-wk h1 (by lia) (by rw [G];rfl)];show Zfi "never" [decide (bt ((Y0 W ρ (d.flat P Q R)).getD 0 0) (W - 1)=1)]=Zfi "never" [d.tv (2 ^ W) a b c];rw [M]
 | .jn y d e,h=>by
  have h:=Qat.mp h;obtain ⟨h1,h2,G⟩:=Qba h.1;have D:=Qat.mp h.2;have i1:=CT.run E hk C g q ha hb hc D.1;have i2:=CT.run E hk C g q ha hb hc D.2;have I:=YW (CT.seg hk C g q D.1).1 W ρ;have L:=YW (CT.seg hk C g q D.2).1 W ρ;rw [show (CT.jn y d e).flat P Q R=.str y::(d.flat P Q R++e.flat P Q R) from rfl,xl (is:=[(Y0 W ρ (d.flat P Q R)).getD 0 0,(Y0 W ρ (e.flat P Q R)).getD 0 0]) E h1 (by rw [h2,G];rfl) (by
   rw [J9 W ρ (CT.seg hk C g q D.1).1.ty.facts.2.1];exact (congrArg (·++_) I).trans (congrArg ([_]++·) L)),<-wk h1 (by lia) (by rw [G];rfl)]
  show Zfi y [decide (bt ((Y0 W ρ (d.flat P Q R)).getD 0 0) (W - 1)=1),decide (bt ((Y0 W ρ (e.flat P Q R)).getD 0 0) (W - 1)=1)]=_;rw [i1,i2]
  rfl
def EqC(t u:CT):Prop:=∀(W:Nat) (a b c:Int),1<=W->0<=a/\a < 2 ^ W->0<=b/\b < 2 ^ W->t.tv (2 ^ W) a b c=u.tv (2 ^ W) a b c
theorem EqC.nev{t u:CT}(h:EqC t u):EqC (.nev t) (.nev u):=fun W a b c g ha hb=>by
 show Zfi _ [_]=Zfi _ [_];rw [h W a b c g ha hb]
def vI:List (CT × CT):=[
 (.c2 "same" .p .q,.c1 "nought" (.two "odd" .p .q)),
 (.c2 "under" .p .q,.jn "both" (.nev (.c2 "under" .q .p)) (.nev (.c2 "same" .p .q))),
 (.c1 "sign" .p,.c2 "beneath" .p (.num 0)),
 (.c1 "nought" .p,.nev (.c2 "under" (.num 0) .p)),
 (.jn "so" (.c2 "under" .p .q) (.c1 "sign" .p),.jn "either" (.nev (.c2 "under" .p .q)) (.c1 "sign" .p))]
theorem Zea:∀w∈vI,w.1.ok=true/\w.2.ok=true/\w.1.sz<=40/\w.2.sz<=40/\w.1.rs<=10/\w.2.rs<=10:=by decide +kernel
theorem Zeb:∀w∈vI,EqC w.1 w.2:=by
 intro w hw W a b c q ha hb;have C:a % 2 ^ W=a:=Qb7 ha.1 ha.2;have D:b % 2 ^ W=b:=Qb7 hb.1 hb.2;have hm:(2:Int)<=2 ^ W:=Int.le_trans (by decide) (vq (i:=1) q);simp only [vI,Qas,Qa6,Qc1] at hw;rcases hw with rfl | rfl | rfl | rfl | rfl
 ·show decide (a=b)=decide (Builtin.bitXor a b % 2 ^ W=0)
  refine Qdh.mpr ⟨fun e=>?_,fun e=>?_⟩
  ·rw [e]
   have:Builtin.bitXor b b % 2 ^ W=0 % 2 ^ W:=Js fun k _=>by
    rw [Xx];have:bt 0 k=0:=by unfold bt;rw [Qgy];rfl
    rw [this];rcases Yp b k with h | h <;> rw [h] <;> rfl
   rw [this,Qgz]
  ·rw [<-C,<-D]
   refine Js fun k hk=>?_;have h1:=Xl (Builtin.bitXor a b) W k hk;rw [e,Xx] at h1;have:bt 0 k=0:=by unfold bt;rw [Qgy];rfl
   rw [this] at h1;rcases Yp a k with h | h <;> rcases Yp b k with g | g <;> rw [h,g] at h1 ⊢
   ·exact absurd h1 (by decide)
   ·exact absurd h1 (by decide)
 ·show decide (a < b)=((!decide (b < a)) && !decide (a=b))
  by_cases h1:a < b
  ·rw [Qaj h1,Qak (by lia),Qak (by lia)]
   rfl
  ·rw [Qak h1]
   by_cases h2:b < a
   ·rw [Qaj h2]
    rfl
   ·rw [Qak h2,Qaj (show a=b by lia)]
    rfl
 ·show decide (sgn (2 ^ W) a < 0)=decide (sgn (2 ^ W) a < sgn (2 ^ W) (0 % 2 ^ W))
  rw [Qgz];have:sgn (2 ^ W) 0=0:=by
   unfold sgn;rw [Qax (by lia)]
  rw [this]
 ·show decide (a=0)=!decide (0 % 2 ^ W < a)
  rw [Qgz]
  by_cases h1:a=0
  ·rw [Qaj h1,Qak (by lia)]
   rfl
  ·rw [Qak h1,Qaj (by lia)]
   rfl
 ·show (decide (sgn (2 ^ W) a < 0) || !decide (a < b))=((!decide (a < b)) || decide (sgn (2 ^ W) a < 0))
  exact Bool.or_comm _ _
theorem zW{nx:List (List Nat)}{ot:List (List V)}{n:Nat}(R:Runs nx ot n):∀{ls:List Nat} {s:Nat},s < nx.length->(∀x∈ls,x < 2 ^ n)->stN nx s ls < nx.length
 | [],s,h,_=>h
 | c::ls,s,h,hl=>by
  have hc:=hl c Qal;have g:=R.nr _ (getD_mem h);have hm:(nx.getD s []).getD c 0∈nx.getD s []:=Qao (getD_at (by lia));exact zW (ls:=ls) R (R.nl _ (getD_mem h) _ hm) fun x hx=>hl x (Qam _ hx)
def SmB(q g:List V):Prop:=∀(W:Nat) (ρ:Str->Int),1<=W->bt ((Y0 W ρ q).getD 0 0) (W - 1)=bt ((Y0 W ρ g).getD 0 0) (W - 1)
theorem w5{b:Bool}{l:List (Int × List Int)}(S:POk N b P)(B:BfE (nxS N P) (0,List.replicate (YV P) 0) l)(g q:V){ls:List Nat}{c:Nat}(C:∀x∈ls++[c],x < 2 ^ N.length) :
  ((l.map (otT N (Yv (2 ^ N.length) N) P g q)).getD (stN (rnG (nxS N P) l) 0 ls) []).getD c .non=if bt ((Y0 (ls.length + 1) (qL (ls++[c]) N) P).getD 0 0) ls.length=1 then q else g:=by
 have R:=S.row B C g q;obtain ⟨o,ho,hb⟩:=R.bit (ls.length + 1) (by lia) (by rw [Qaf];exact Qai _);have h:=hb ls.length (by lia);rw [kY,Qau (by rw [jE];exact Qai _),jE,Qdd] at h;have h:=Option.some.inj h;rw [Qbz (by rw [Qaf];exact Qai _)] at ho;rw [h,ho]
 rfl
theorem Zfw{b:Bool}{l D:List (Int × List Int)}(S:POk N b P)(L:POk N b G)(B:BfE (nxS N P) (0,List.replicate (YV P) 0) l)(M:BfE (nxS N G) (0,List.replicate (YV G) 0) D)(C g:V)(h:SmB P G) :
  Bis (rnG (nxS N P) l) (rnG (nxS N G) D) (l.map (otT N (Yv (2 ^ N.length) N) P C g)) (D.map (otT N (Yv (2 ^ N.length) N) G C g)) 0 0 (fun s s'=>∃ls:List Nat,(∀x∈ls,x < 2 ^ N.length)/\stN (rnG (nxS N P) l) 0 ls=s/\stN (rnG (nxS N G) D) 0 ls=s'):=by
 have R:=S.runs B C g;have E:=L.runs M C g;refine ⟨⟨[],(fun _ h=>nomatch h),rfl,rfl⟩,?_,?_,?_⟩
 ·rintro s c ⟨ls,hl,rfl,rfl⟩
  exact ⟨zW R R.pos hl,zW E E.pos hl⟩
 ·rintro s c ⟨ls,hl,rfl,rfl⟩
  have J:=zW R R.pos hl;have Y:=zW E E.pos hl;have l1:=R.or _ (getD_mem (show stN (rnG (nxS N P) l) 0 ls < (l.map (otT N (Yv (2 ^ N.length) N) P C g)).length by rw [R.ol];exact J));have l2:=E.or _ (getD_mem (show stN (rnG (nxS N G) D) 0 ls < (D.map (otT N (Yv (2 ^ N.length) N) G C g)).length by rw [E.ol];exact Y));refine Qcz fun c=>?_
  by_cases hc:c < 2 ^ N.length
  ·have I:∀x∈ls++[c],x < 2 ^ N.length:=fun x hx=>by
    rcases Qbk.mp hx with z | z
    ·exact hl x z
    ·rw [Qay.mp z]
     exact hc
   have e1:=w5 S B C g I;have e2:=w5 L M C g I;have e3:=h (ls.length + 1) (qL (ls++[c]) N) (by lia);have e3:bt ((Y0 (ls.length + 1) (qL (ls++[c]) N) P).getD 0 0) ls.length=bt ((Y0 (ls.length + 1) (qL (ls++[c]) N) G).getD 0 0) ls.length:=e3;rw [getD_at (d:=.non) (by lia),getD_at (d:=.non) (show c < (List.getD (l.map (otT N (Yv (2 ^ N.length) N) P C g)) _ []).length by rw [l1];exact hc),e1,e2,e3]
  ·rw [Qbe (by lia),Qbe (by lia)]
 ·rintro s c p x y ⟨ls,hl,rfl,rfl⟩ hx O
  have J:=zW R R.pos hl;have lr:=R.nr _ (getD_mem J);have hp:p < 2 ^ N.length:=by
   have:=(Qac.mp hx).1;lia
  refine ⟨ls++[p],fun z Z=>?_,?_,?_⟩
  ·rcases Qbk.mp Z with q | q
   ·exact hl z q
   ·rw [Qay.mp q]
    exact hp
  ·rw [xi,Qag,hx]
   rfl
  ·rw [xi,Qag,O]
   rfl
theorem vJ{nx g:List (List Nat)}{ot C:List (List V)}{b G n:Nat}{A:Nat->Nat->Prop}(M:Bis nx g ot C b G A)(hr:∀r∈nx,r.length=2 ^ n)(q:∀r∈g,r.length=2 ^ n):∀{ls:List Nat} {s s':Nat},A s s'->(∀x∈ls,x < 2 ^ n)->rnO nx ot s ls=rnO g C s' ls
 | [],_,_,_,_=>rfl
 | c::ls,s,s',h,hl=>by
  have hc:=hl c Qal;obtain ⟨D,E⟩:=M.lt s s' h;have l1:=hr _ (getD_mem D);have l2:=q _ (getD_mem E);have hn:=M.next s s' c _ _ h (getD_at (d:=0) (by lia)) (getD_at (d:=0) (by lia));show _::_=_::_;rw [M.out s s' h,vJ M hr q hn fun x hx=>hl x (Qam _ hx)]
theorem yD{nx:List (List Nat)}{ot:List (List V)}{l C g:List Nat}(L:Lst N 0 nx ot j l d)(q:Lst N 0 R O j C g){ls:List Nat}(hl:∀x∈ls,x < 2 ^ N.length)(D:rnO nx ot 0 ls≠rnO R O 0 ls):¬(lsR (rnR R C) g=lsR (rnR nx l) d/\lsO (rnQ O C) g=lsO (rnQ ot l) d):=by
 rintro ⟨e1,e2⟩;have h1:=vJ L.al.bis L.W.nr L.W2.nr L.al.b hl;have h2:=vJ q.al.bis q.W.nr q.W2.nr q.al.b hl;rw [e1,e2] at h2;exact D (h1.trans h2.symm)
theorem Zca{b:Bool}{l J:List (Int × List Int)}(S:POk N b P)(O:POk N b G)(B:BfE (nxS N P) (0,List.replicate (YV P) 0) l)(M:BfE (nxS N G) (0,List.replicate (YV G) 0) J){D:V}(ho:v≠D){k:Nat}(h:bt ((Y0 (k + 1) (qL (List.replicate (k + 1) 0) N) P).getD 0 0) k≠bt ((Y0 (k + 1) (qL (List.replicate (k + 1) 0) N) G).getD 0 0) k) :
  rnO (rnG (nxS N P) l) (l.map (otT N (Yv (2 ^ N.length) N) P v D)) 0 (List.replicate (k + 1) 0)≠rnO (rnG (nxS N G) J) (J.map (otT N (Yv (2 ^ N.length) N) G v D)) 0 (List.replicate (k + 1) 0):=by
 have E:∀x∈List.replicate (k + 1) 0,x < 2 ^ N.length:=fun x hx=>by
  rw [Qc0 hx];exact Qgf _
 have C:(List.replicate (k + 1) 0).length=k + 1:=Qbx;have R:=S.row B E v D;have Y:=O.row M E v D;obtain ⟨o,h1,h2⟩:=R.bit (k + 1) (by lia) (by rw [C];exact Qai _);obtain ⟨o',I,L⟩:=Y.bit (k + 1) (by lia) (by rw [C];exact Qai _);rw [Qbz (by rw [C];exact Qai _)] at h1 I;rw [h1,I] at h;intro e;have g:=h2 k (by lia);rw [e,L k (by lia)] at g;have g:=Option.some.inj g;have h:bt o k≠bt o' k:=h;rcases Yp o k with p | p <;> rcases Yp o' k with q | q
 ·exact h (p.trans q.symm)
 ·rw [p,q] at g
  exact ho g.symm
 ·rw [p,q] at g
  exact ho g
 ·exact h (p.trans q.symm)
theorem SmB.tr{Q:List V}{t u:Tr}(hk:∀y∈N,y∉YB)(D:Prt N P)(q:Prt N Q)(C:Prt N G)(E:t.ok=true)(hu:u.ok=true)(e:EqT t u):SmB (t.flat P Q G) (u.flat P Q G):=fun W ρ I=>by
 have a:=YW D.g W ρ;have b:=YW q.g W ρ;have c:=YW C.g W ρ;rw [Tr.run hk D q C a b c E,Tr.run hk D q C a b c hu,e W _ _ _ I (WO a) (WO b) (WO c)]
theorem SmB.ct{Q:List V}{t u:CT}(hk:∀y∈N,y∉YB)(I:Prt N P)(C:Prt N Q)(E:Prt N G)(J:t.ok=true)(hu:u.ok=true)(e:EqC t u):SmB (t.flat P Q G) (u.flat P Q G):=fun W ρ D=>by
 have a:=YW I.g W ρ;have b:=YW C.g W ρ;have c:=YW E.g W ρ;have h1:=CT.run D hk I C E a b c J;have h2:=CT.run D hk I C E a b c hu;rw [e W _ _ _ D (WO a) (WO b),<-h2] at h1;have h:=Qdh.mp h1;rcases Yp ((Y0 W ρ (t.flat P Q G)).getD 0 0) (W - 1) with p | p <;> rcases Yp ((Y0 W ρ (u.flat P Q G)).getD 0 0) (W - 1) with q | q
 ·rw [p,q]
 ·have:=h.mpr q
  lia
 ·have:=h.mp p
  lia
 ·rw [p,q]
theorem Zig(g:1<=z)(h1:z < 2 ^ 10):∃k,k < 10/\bt z k=1:=by
 refine Classical.byContradiction fun h=>?_;have e:z % 2 ^ 10=0:=by
  rw [<-xJ];have:sm (fun k=>bt z k) 10=sm (fun _=>0) 10:=J7 fun k hk=>by
   rcases Yp z k with p | p
   ·exact p
   ·exact absurd ⟨k,hk,p⟩ h
  rw [this]
  rfl
 rw [Qb7 (by lia) h1] at e;lia
def xM (n:Int) (g R:List V):List V:=if n % 8=1 then .str "not" :: g else if n % 8=2 then .str "and" :: (g++R) else if n % 8=3 then .str "odd" :: (R++g) else if n % 8=4 then .str "add" :: (g++R) else if n % 8=5 then .str "twice" :: g else if n % 8=6 then .str "or" :: (R++g) else g
def jH (n:Int) (t:Tr):Tr:=if n % 8=1 then .one "not" t else if n % 8=2 then .two "and" t .r else if n % 8=3 then .two "odd" .r t else if n % 8=4 then .two "add" t .r else if n % 8=5 then .one "twice" t else if n % 8=6 then .two "or" .r t else t
theorem Zcb(n:Int)(t:Tr)(P Q R:List V):(jH n t).flat P Q R=xM n (t.flat P Q R) R:=by
 unfold jH xM
 repeat' split
 all_goals rfl
theorem Zcc(n:Int){t:Tr}(h:t.ok=true):(jH n t).ok=true/\(jH n t).sz<=t.sz + 8/\(jH n t).rs<=t.rs + 2:=by
 obtain ⟨h1,h2,D,g,q,C⟩:=(by decide +kernel:(("not" : Str)∈Ji/\Yk "not" = 1)/\(("and" : Str)∈Ji/\Yk "and" = 2)/\(("odd" : Str)∈Ji/\Yk "odd" = 2)/\(("add" : Str)∈Ji/\Yk "add" = 2)/\(("twice" : Str)∈Ji/\Yk "twice" = 1)/\(("or" : Str)∈Ji/\Yk "or" = 2));unfold jH
 repeat' split
 ·exact ⟨Qat.mpr ⟨Qaj h1,h⟩,by show t.sz + 1<=_;lia,by show t.rs + 1<=_;lia⟩
 ·exact ⟨Qat.mpr ⟨Qaj h2,Qat.mpr ⟨h,rfl⟩⟩,by show t.sz + 7 + 1<=_;lia,by show t.rs + 1 + 1<=_;lia⟩
 ·exact ⟨Qat.mpr ⟨Qaj D,Qat.mpr ⟨rfl,h⟩⟩,by show 7 + t.sz + 1<=_;lia,by show 1 + t.rs + 1<=_;lia⟩
 ·exact ⟨Qat.mpr ⟨Qaj g,Qat.mpr ⟨h,rfl⟩⟩,by show t.sz + 7 + 1<=_;lia,by show t.rs + 1 + 1<=_;lia⟩
 ·exact ⟨Qat.mpr ⟨Qaj q,h⟩,by show t.sz + 1<=_;lia,by show t.rs + 1<=_;lia⟩
 ·exact ⟨Qat.mpr ⟨Qaj C,Qat.mpr ⟨rfl,h⟩⟩,by show 7 + t.sz + 1<=_;lia,by show 1 + t.rs + 1<=_;lia⟩
 ·exact ⟨h,by lia,by lia⟩
theorem Zih(n:Int){t u:Tr}(h:EqT t u):EqT (jH n t) (jH n u):=by
 unfold jH
 repeat' split
 ·exact h.one _
 ·exact h.two (EqT.refl _) _
 ·exact EqT.two (EqT.refl _) h _
 ·exact h.two (EqT.refl _) _
 ·exact h.one _
 ·exact EqT.two (EqT.refl _) h _
 ·exact h
structure Gives(te:TE)(σ:St)(H0:Hp)(ws:List V)(n:Nat):Prop where
 l:ws.length<=n
 g:∀(H:Hp) (Q:VK),Yb H0 H->(∀p H',Yb H H'->H' p=some (.tup ws)->Q (.ref p) H')->te σ H Q
theorem X1{p:Addr}(g:c[i]?=some (some (.ref p)))(h:B p=some (.tup P))(hl:P.length<=n):Gives (JC i) c B P n:=⟨hl,fun H Q s k=>⟨.ref p,g,k p H (Yb.refl _) (s _ _ h)⟩⟩
theorem Wd{ta:TA}{xs:List V}(n:Nat)(h:∀(H:Hp) (R:List V->Hp->Prop),R xs H->ta c H R)(hl:xs.length<=n)(hn:n<=1000):Gives (jf ta) c B xs n:=⟨hl,fun H Q s k=>h H _ ⟨Qa5 (Zs (by lia)),fun p hp=>k p _ (Zd hp) Zc⟩⟩
theorem Zm{vs:List V}{m:Nat}(a:Gives A c B P n)(b:Gives I c B vs m)(h:n + m<=1000:=by decide):Gives (tOp Zjb A I) c B (P++vs) (n + m):=by
 have L:=a.l;have M:=b.l;refine ⟨by rw [Qaf];lia,fun H Q s k=>a.g H _ s fun p H1 C h1=>b.g H1 _ (s.trans C) fun q H2 D h2=>⟨p,q,P,vs,rfl,rfl,D _ _ h1,h2,Qa5 (Zs (by lia)),fun t J G E=>k t J (C.trans (D.trans E)) G⟩⟩
structure Prw(H:Hp)(zs:List V)(ws:List (List V × List V)):Prop where
 l:zs.length=ws.length
 g:∀(i:Nat) (w:List V × List V),ws[i]?=some w->∃t a b,zs[i]?=some (.ref t)/\H t=some (.tup [.ref a,.ref b])/\H a=some (.tup w.1)/\H b=some (.tup w.2)
theorem Prw.tups{H':Hp}{q:List (List V × List V)}(h:Prw H P q)(e:∀b xs,H b=some (.tup xs)->H' b=some (.tup xs)):Prw H' P q:=⟨h.l,fun i w hw=>by
 obtain ⟨t,a,b,h1,h2,D,C⟩:=h.g i w hw;exact ⟨t,a,b,h1,e _ _ h2,e _ _ D,e _ _ C⟩⟩
theorem Prw.snoc{q:List (List V × List V)}{t b:Addr}{u v:List V}(h:Prw H P q)(h1:H t=some (.tup [.ref a,.ref b]))(h2:H a=some (.tup u))(J:H b=some (.tup v)):Prw H (P++[.ref t]) (q++[(u,v)]):=by
 refine ⟨by rw [Qaf,Qaf,h.l];rfl,fun i w hw=>?_⟩;have hi:=(Qac.mp hw).1;rw [Qaf] at hi;have hi:i < q.length + 1:=hi
 by_cases C:i < q.length
 ·rw [Qaw C] at hw
  obtain ⟨t',L,G,D,E⟩:=h.g i w hw;exact ⟨t',L,G,by rw [Qaw (by rw [h.l];exact C)];exact D,E⟩
 ·have I:i=q.length:=by lia
  subst I;rw [Qau (Qai _),Qdd] at hw;cases hw;exact ⟨t,a,b,by rw [<-h.l,Qau (Qai _),Qdd];rfl,h1,h2,J⟩
theorem Y5{B:TE}{N:St->Hp->Prop}{rt:VK}{bk ct:St->Hp->Prop}{σ:St}{C:Hp}{ps:Addr}{S:List (List V × List V)}{vs:List V}{m:Nat}(M:σ[i]?=some (some (.ref ps)))(Y:C ps=none)(h:H ps=some (.lst P))(hP:Prw H P S){c:Nat}(hl:P.length<=c)(s:Yb C H)(gA:Gives A σ C G n)(Z:Gives B σ C vs m)
  (hc:c<=100) (k:∀q H',H' ps=some (.lst q)->Prw H' q (S++[(G,vs)])->q.length<=c + 1->Yb C H'->N σ H'):wC (tBM K "list" yP (JC i) (Y1 (jf (Y1 A (Y1 B qS))) qS)) { nx:=N,rt:=rt,bk:=bk,ct:=ct } σ H:=by
 refine ⟨_,M,.inl ⟨rfl,_,SqL.of h⟩,gA.g H _ s fun a H1 J h1=>Z.g H1 _ (s.trans J) fun b H2 E h2=>⟨by show 2<=sizeLine;decide,fun t R=>⟨ps,P,.ref t,rfl,rfl,?_,Zs (by lia),?_⟩⟩⟩
 ·exact ((J.trans E).trans (Zd R)) _ _ h
 ·have L:=Zd (o:=.tup [.ref a,.ref b]) R
  have I:=(J.trans E).trans L;have O:=I _ _ h;have D:∀{c:Addr} {xs:List V},upd H2 t (.tup [.ref a,.ref b]) c=some (.tup xs)->upd (upd H2 t (.tup [.ref a,.ref b])) ps (.lst (P++[.ref t])) c=some (.tup xs):=fun e=>by
   rw [Zp (XW e O fun z=>nomatch z)];exact e
  refine k _ _ Zc (((hP.tups fun c xs e=>I _ _ e).tups fun c xs e=>D e).snoc (D Zc) (D (L _ _ (E _ _ h1))) (D (L _ _ h2))) (by rw [Qaf];show P.length + 1<=c + 1;lia) ?_;exact YM (s.trans I) Y
theorem Zcd{B:TE}{vs:List V}{m:Nat}{Q:VK}(M:Gives A c H P n)(J:Gives B c H vs m)
  (k:∀ps C H',H ps=none->H' ps=some (.lst C)->Prw H' C [(P,vs)]->Yb H H'->Q (.ref ps) H'):Ziy (Y1 (jf (Y1 A (Y1 B qS))) qS) c H Q:=by
 refine M.g H _ (Yb.refl _) fun a H1 G h1=>J.g H1 _ G fun b H2 I h2=>⟨by show 2<=sizeLine;decide,fun t L=>⟨by show 1<=sizeLine;decide,fun ps q=>?_⟩⟩;have D:=Zd (o:=.tup [.ref a,.ref b]) L;have E:=Zd (o:=.lst [.ref t]) q;refine k ps _ _ (G.free (I.free (D.free q))) Zc ?_ (G.trans (I.trans (D.trans E)));have N:Prw (upd (upd H2 t (.tup [.ref a,.ref b])) ps (.lst [.ref t])) [] []:=⟨rfl,fun i w hw=>nomatch hw⟩;exact N.snoc (E _ _ Zc) (E _ _ (D _ _ (I _ _ h1))) (E _ _ (D _ _ h2))
theorem Zce{g:TG}{u:TS}(h:A c H fun x H1=>g x c H1 (u M)):Yy (Zek A g) u M c H:=h
theorem Xh{t u:TS}(h:t { M with nx:=u M } c H):Yy t u M c H:=h
structure S20(K:PySem.W.Frag)(pl pw:Addr)(H:Hp)(a:Addr)(ns:List Int)(tn:Addr)(nm:List Str):Prop where
 S:SqL K H a (ns.map V.int)
 n:H tn=some (.tup (nm.map V.str))
 L:Xb H pl Wy Wz
 M:Xb H pw ZA Zw
theorem S20.same{K:PySem.W.Frag}{pl g:Addr}{H H':Hp}{a:Addr}{q:List Int}{C:Addr}{nm:List Str}(h:S20 K pl g H a q C nm)(s:Yb H H'):S20 K pl g H' a q C nm:=⟨kZ h.S s,s _ _ h.n,h.L.same s,h.M.same s⟩
theorem S20.mach{pl:Addr}{H':Hp}{C:Addr}(h:S20 K pl f H a y C N)(q:pl≠f)(o:Zcm f H H')(T:Xb H' f ZA Zw):S20 K pl f H' a y C N/\∀b xs,H b=some (.tup xs)->H' b=some (.tup xs):=by
 obtain ⟨D,g⟩:=h.M.ex;exact ⟨⟨Zbs h.S g o,o.tup g h.n,h.L.other q ⟨D,g⟩ o,T⟩,fun b xs e=>o.tup g e⟩
theorem S20.lea{pl:Addr}{H':Hp}{C:Addr}(h:S20 K pl f H a y C N)(q:pl≠f)(o:Zcm pl H H')(T:Xb H' pl Wy Wz):S20 K pl f H' a y C N/\∀b xs,H b=some (.tup xs)->H' b=some (.tup xs):=by
 obtain ⟨D,g⟩:=h.L.ex;exact ⟨⟨Zbs h.S g o,o.tup g h.n,T,h.M.other q.symm ⟨D,g⟩ o⟩,fun b xs e=>o.tup g e⟩
theorem POk.wf{b:Bool}{l:List (Int × List Int)}{g q:V}(S:POk N b P)(B:BfE (nxS N P) (0,List.replicate (YV P) 0) l)(h:(j=false/\g=.int 0/\q=.int 1)\/(j=true/\g=.bl false/\q=.bl true)):Wf N 0 (rnG (nxS N P) l) (l.map (otT N (Yv (2 ^ N.length) N) P g q)) j:=by
 have R:=S.runs B g q;have ho:∀r∈l.map (otT N (Yv (2 ^ N.length) N) P g q),∀v∈r,v=g\/v=q:=fun r hr v hv=>by
  obtain ⟨s,_,rfl⟩:=Qa2.mp hr;obtain ⟨c,_,rfl⟩:=Qa2.mp hv
  split
  ·exact .inr rfl
  ·exact .inl rfl
 refine ⟨S.n3,R.pos,by rw [xF];exact S.len B,R.ol,R.nr,R.nl,R.or,fun r hr v hv=>?_,fun r hr v hv=>?_⟩
 ·rcases h with ⟨rfl,rfl,rfl⟩ | ⟨rfl,rfl,rfl⟩ <;> rcases ho r hr v hv with e | e <;> rw [e]
  ·exact .inr ⟨rfl,_,rfl⟩
  ·exact .inr ⟨rfl,_,rfl⟩
  ·exact .inl ⟨rfl,_,rfl⟩
  ·exact .inl ⟨rfl,_,rfl⟩
 ·rcases h with ⟨rfl,rfl,rfl⟩ | ⟨rfl,rfl,rfl⟩ <;> rcases ho r hr v hv with e | e <;> rw [e]
  ·exact .inl rfl
  ·exact .inr rfl
  ·exact .inl rfl
  ·exact .inr rfl
theorem SmB.symm{u v:List V}(h:SmB u v):SmB v u:=fun W ρ g=>(h W ρ g).symm
theorem Zcf{Q:List V}{t:Tr}(C:N.length<=3)(q:N.Nodup)(hk:∀y∈N,y∉YB)(J:Prt N P)(E:Prt N Q)(I:Prt N G)(D:t.ok=true)(hs:t.sz<=100)(hr:t.rs<=15):POk N false (t.flat P Q G):=by
 obtain ⟨g,l,m⟩:=Tr.seg hk J E I D;exact ⟨C,q,hk,by lia,g,by lia⟩
theorem Zcg{Q:List V}{t:CT}(C:N.length<=3)(q:N.Nodup)(hk:∀y∈N,y∉YB)(J:Prt N P)(E:Prt N Q)(I:Prt N G)(D:t.ok=true)(hs:t.sz<=100)(hr:t.rs<=15):POk N true (t.flat P Q G):=by
 obtain ⟨g,l,m⟩:=CT.seg hk J E I D;exact ⟨C,q,hk,by lia,g,by lia⟩
theorem Zii  {Q:List V} {t:Tr}  (hk:∀y∈N,y∉YB) (E:Prt N P) (C:Prt N Q) (D:Prt N G) (J:t.ok=true) (L:1<=z) (h1:z < 1000):∃k:Nat,∀ρ:Str->Int,bt ((Y0 (k + 1) ρ ((Tr.two "odd" t (.num z)).flat P Q G)).getD 0 0) k≠bt ((Y0 (k + 1) ρ (t.flat P Q G)).getD 0 0) k:=by
 obtain ⟨k,I,hb⟩:=Zig L (Qgo h1 (by decide));refine ⟨k,fun ρ=>?_⟩;have q:(Tr.two "odd" t (.num z)).ok=true:=Qat.mpr ⟨Qaj (by decide +kernel),Qat.mpr ⟨J,Qaj ⟨by lia,h1⟩⟩⟩;have a:=YW E.g (k + 1) ρ;have b:=YW C.g (k + 1) ρ;have c:=YW D.g (k + 1) ρ;rw [Tr.run hk E C D a b c q,Tr.run hk E C D a b c J];show bt (Builtin.bitXor (t.ev _ _ _ _) (z % 2 ^ (k + 1)) % 2 ^ (k + 1)) k≠bt (t.ev _ _ _ _) k;rw [Xl _ _ _ (by lia),Xx,Xl _ _ _ (by lia),hb];rcases Yp (t.ev (2 ^ (k + 1)) ((Y0 (k + 1) ρ P).getD 0 0) ((Y0 (k + 1) ρ Q).getD 0 0) ((Y0 (k + 1) ρ G).getD 0 0)) k with e | e <;> rw [e] <;> decide
theorem Zch{Q:List V}{t:CT}(hk:∀y∈N,y∉YB)(D:Prt N P)(q:Prt N Q)(C:Prt N G)(E:t.ok=true)(ρ:Str->Int):bt ((Y0 (0 + 1) ρ ((CT.nev t).flat P Q G)).getD 0 0) 0≠bt ((Y0 (0 + 1) ρ (t.flat P Q G)).getD 0 0) 0:=by
 have a:=YW D.g (0 + 1) ρ;have b:=YW q.g (0 + 1) ρ;have c:=YW C.g (0 + 1) ρ;have h1:=CT.run (by decide) hk D q C a b c (t:=CT.nev t) E;have h2:=CT.run (by decide) hk D q C a b c E;intro e;have e:bt ((Y0 (0 + 1) ρ ((CT.nev t).flat P Q G)).getD 0 0) (0 + 1 - 1)=bt ((Y0 (0 + 1) ρ (t.flat P Q G)).getD 0 0) (0 + 1 - 1):=e;rw [e,h2] at h1;have h1:t.tv (2 ^ (0 + 1)) ((Y0 (0 + 1) ρ P).getD 0 0) ((Y0 (0 + 1) ρ Q).getD 0 0) ((Y0 (0 + 1) ρ G).getD 0 0)=!t.tv (2 ^ (0 + 1)) ((Y0 (0 + 1) ρ P).getD 0 0) ((Y0 (0 + 1) ρ Q).getD 0 0) ((Y0 (0 + 1) ρ G).getD 0 0):=h1;cases hh:t.tv (2 ^ (0 + 1)) ((Y0 (0 + 1) ρ P).getD 0 0) ((Y0 (0 + 1) ρ Q).getD 0 0) ((Y0 (0 + 1) ρ G).getD 0 0) <;> rw [hh] at h1 <;> cases h1
set_option genInjectivity false in
set_option genSizeOfSpec false in
structure Adr where
 eu:Addr
 fe:FuncData
 ma:Addr
 md:FuncData
 dh:Addr
 di:FuncData
 ka:Addr
 kd:FuncData
 me:Addr
 mf:FuncData
 kv:Addr
 lb:FuncData
 fx:Addr
 fy:FuncData
 du:Addr
 dw:FuncData
 eg:Addr
 eh:FuncData
 fj:Addr
 fk:FuncData
 gb:Addr
 gi:FuncData
 dj:Addr
 dm:FuncData
 mr:Addr
 mw:FuncData
 gj:Addr
 ia:FuncData
 bq:Addr
 br:FuncData
 mh:Addr
 mi:FuncData
 mj:Addr
 ml:FuncData
 ib:Addr
 ic:FuncData
 ff:Addr
 fg:FuncData
 il:Addr
 ip:FuncData
 lg:Addr
 lj:FuncData
 dy:Addr
 dz:FuncData
 mm:Addr
 mn:FuncData
 fh:Addr
 fi:FuncData
 lq:Addr
 lx:FuncData
 ie:Addr
 ig:FuncData
 ly:Addr
 lz:FuncData
 iq:Addr
 ir:FuncData
 ij:Addr
 ik:FuncData
 cx:Addr
 cy:FuncData
 dn:Addr
 dt:FuncData
 mz:Addr
 nc:FuncData
 bz:Addr
 cb:FuncData
 nj:Addr
 mq:FuncData
 bp:Addr
 au:FuncData
 iu:Addr
 iw:FuncData
 ea:Addr
 ee:FuncData
 ny:Addr
 nz:FuncData
 nq:Addr
 cg:Addr
 dg:Addr
 ae:Addr
 cu:Addr
 bf:Addr
 aw:Addr
 bu:Addr
structure Kg(K:PySem.W.Frag)(w:World)(mg:Str->Option Value)(x:Str)(a:Addr)(l:List (Str × Int)):Prop where
 m:mg x=some (.ref a)
 d:KD K w a l
structure Kt(K:PySem.W.Frag)(mg:Str->Option Value)(x:Str)(a:Addr)(l:List Str):Prop where
 m:mg x=some (.ref a)
 d:∀H,SqT K H a (l.map V.str)
structure Df(K:PySem.W.Frag)(mg:Str->Option Value)(x:Str)(st:Stmt)(ps:List Str)(f:Addr)(fd:FuncData):Prop where
 F:Fun K x x st f fd
 m:mg x=some (.ref f)
 b:Binds K fd ps []
set_option genInjectivity false in
set_option genSizeOfSpec false in
structure Txt(K:PySem.W.Frag)(w:World)(mg:Str->Option Value)(t:Adr):Prop where
 cu:Kg K w mg "SUM_PARTS" t.cu [("not",1),("neg",1),("twice",1),("low",1),("and",2),("or",2),("odd",2),("add",2),("sub",2),("pick",3)]
 bf:Kg K w mg "SUMS_IN_CLAIM" t.bf [("same",2),("under",2),("beneath",2),("sign",1),("nought",1)]
 aw:Kg K w mg "CLAIMS_IN_CLAIM" t.aw [("both",2),("either",2),("so",2),("never",1),("yes",0)]
 bu:Kt K mg "REMEMBERING" t.bu ["neg","twice","low","add","sub","same","under","beneath","nought"]
 cj:Df K mg "state_number" Wn ["state","states","numbers"] t.eu t.fe
 bh:Df K mg "numbered" J6 ["marks"] t.ma t.md
 ax:Df K mg "classes_of" XZ ["states","classes"] t.dh t.di
 ei:Df K mg "firsts_of" JW ["classes"] t.ka t.kd
 fq:Df K mg "words_at" qa ["width"] t.me t.mf
 ek:Df K mg "number_of" JX ["bits"] t.kv t.lb
 cz:Df K mg "sums_behind" WH ["word"] t.fx t.fy
 cc:Df K mg "claims_behind" XN ["word"] t.du t.dw
 bb:Df K mg "remembers" JY ["word"] t.eg t.eh
 bj:Df K mg "borrowed" qb ["one","other","held"] t.fj t.fk
 da:Df K mg "out_at_once" WI ["word","parts"] t.gb t.gi
 bw:Df K mg "longest_number" YU ["words"] t.dj t.dm
 ix:Df K mg "bits_at" G6 ["columns","letter"] t.mr t.mw
 aa:Df K mg "_law_cell_at" WJ ["script","k"] t.gj t.ia
 ai:Df K mg "_law_numbers" WK ["cell","many","most"] t.bq t.br
 ft:Df K mg "_law_atom" qc ["number","names"] t.mh t.mi
 fu:Df K mg "_law_word" qd ["number","left"] t.mj t.ml
 dc:Df K mg "_law_carries" X5 ["words"] t.ib t.ic
 ck:Df K mg "_law_writings" Wo ["pick","p","q","r"] t.ff t.fg
 ay:Df K mg "_law_within" Jp ["number","words","r"] t.il t.ip
 bc:Df K mg "_law_alike" JZ ["one","other"] t.lg t.lj
 cf:Df K mg "alike_classes" Xc ["steps","out"] t.dy t.dz
 fw:Df K mg "parts_of" qe ["word"] t.mm t.mn
 cm:Df K mg "name_columns" Xn ["names","letters"] t.fh t.fi
 eo:Df K mg "kept_then" Ga ["word","parts","held"] t.lq t.lx
 de:Df K mg "out_by_kept" WL ["word","parts","held","then"] t.ie t.ig
 et:Df K mg "_law_names" XO ["cell","many"] t.ly t.lz
 ag:Df K mg "_law_sum" xx ["numbers","names","most"] t.iq t.ir
 df:Df K mg "parts_taken" X6 ["stack","word"] t.ij t.ik
 bg:Df K mg "_law_two_writings" Xd ["cell","names"] t.cx t.cy
 bx:Df K mg "_law_two_claims" Xv ["cell","names"] t.dn t.dt
 iy:Df K mg "stepped" xy ["words","columns","place","kept"] t.mz t.nc
 aq:Df K mg "machine_found" Xe ["names","begin","step_of"] t.bz t.cb
 ah:Df K mg "least" qf ["machine"] t.nj t.mq
 ak:Df K mg "machine_telling" Yd ["words","names","told"] t.bp t.au
 aj:Df K mg "machine_of" Jq ["words","names"] t.iu t.iw
 af:Df K mg "claim_machine" XQ ["claim","names"] t.ea t.ee
 oq:Df K mg "law" vj ["script"] t.ny t.nz
 oj:t.mq.code=.ref t.nq
 nu:t.au.code=.ref t.dg
 ng:t.cg≠t.ae
 og:mg "abs" = none
 ni:mg "enumerate" = none
 oh:mg "int" = none
 nh:mg "isinstance" = none
 ao:mg "len" = none
 om:mg "list" = none
 nv:mg "max" = none
 ou:mg "min" = none
 cq:mg "range" = none
 nt:mg "reversed" = none
 oi:mg "sorted" = none
 az:mg "tuple" = none
 ov:mg "zip" = none
set_option genInjectivity false in
set_option genSizeOfSpec false in
structure Tbs(mg:Str->Option Value)(base:Heap)(t:Adr):Prop where
 nq:PySem.W.CodeHd base t.nq t.cg
 dg:PySem.W.CodeHd base t.dg t.ae
 B:xu mg base
theorem xN:ZQ ["state","states","numbers"] ["state","states","numbers"] (Zk Wn):=⟨rfl,rfl,rfl,by decide +kernel,rfl,by decide +kernel,by decide +kernel⟩
theorem xO:ZQ ["marks","numbers"] ["marks"] (Zk J6):=⟨rfl,rfl,rfl,by decide +kernel,rfl,by decide +kernel,by decide +kernel⟩
theorem jI:ZQ ["states","classes"] ["states","classes"] (Zk XZ):=⟨rfl,rfl,rfl,by decide +kernel,rfl,by decide +kernel,by decide +kernel⟩
theorem We:ZQ ["classes","firsts","state","number"] ["classes"] (Zk JW):=⟨rfl,rfl,rfl,by decide +kernel,rfl,by decide +kernel,by decide +kernel⟩
theorem WR:ZQ ["width","many","bit_number"] ["width"] (Zk qa):=⟨rfl,rfl,rfl,by decide +kernel,rfl,by decide +kernel,by decide +kernel⟩
theorem Wg:ZQ ["bits","number","bit"] ["bits"] (Zk JX):=⟨rfl,rfl,rfl,by decide +kernel,rfl,by decide +kernel,by decide +kernel⟩
theorem zh:ZQ ["word"] ["word"] (Zk WH):=⟨rfl,rfl,rfl,by decide +kernel,rfl,by decide +kernel,by decide +kernel⟩
theorem qM:ZQ ["word"] ["word"] (Zk XN):=⟨rfl,rfl,rfl,by decide +kernel,rfl,by decide +kernel,by decide +kernel⟩
theorem yE:ZQ ["word"] ["word"] (Zk JY):=⟨rfl,rfl,rfl,by decide +kernel,rfl,by decide +kernel,by decide +kernel⟩
theorem vK:ZQ ["one","other","held"] ["one","other","held"] (Zk qb):=⟨rfl,rfl,rfl,by decide +kernel,rfl,by decide +kernel,by decide +kernel⟩
theorem zi:ZQ ["word","parts"] ["word","parts"] (Zk WI):=⟨rfl,rfl,rfl,by decide +kernel,rfl,by decide +kernel,by decide +kernel⟩
theorem qm:ZQ ["words"] ["words"] (Zk YU):=⟨rfl,rfl,rfl,by decide +kernel,rfl,by decide +kernel,by decide +kernel⟩
theorem gw:ZQ ["columns","letter"] ["columns","letter"] (Zk G6):=⟨rfl,rfl,rfl,by decide +kernel,rfl,by decide +kernel,by decide +kernel⟩
theorem zj:ZQ ["script","k"] ["script","k"] (Zk WJ):=⟨rfl,rfl,rfl,by decide +kernel,rfl,by decide +kernel,by decide +kernel⟩
theorem ZV:ZQ ["cell","many","most","found","rest","k","one","two"] ["cell","many","most"] (Zk WK):=⟨rfl,rfl,rfl,by decide +kernel,rfl,by decide +kernel,by decide +kernel⟩
theorem vL:ZQ ["number","names"] ["number","names"] (Zk qc):=⟨rfl,rfl,rfl,by decide +kernel,rfl,by decide +kernel,by decide +kernel⟩
theorem WS:ZQ ["number","left","words","word"] ["number","left"] (Zk qd):=⟨rfl,rfl,rfl,by decide +kernel,rfl,by decide +kernel,by decide +kernel⟩
theorem zk:ZQ ["words"] ["words"] (Zk X5):=⟨rfl,rfl,rfl,by decide +kernel,rfl,by decide +kernel,by decide +kernel⟩
theorem Jt:ZQ ["pick","p","q","r","pairs"] ["pick","p","q","r"] (Zk Wo):=⟨rfl,rfl,rfl,by decide +kernel,rfl,by decide +kernel,by decide +kernel⟩
theorem jJ:ZQ ["number","words","r"] ["number","words","r"] (Zk Jp):=⟨rfl,rfl,rfl,by decide +kernel,rfl,by decide +kernel,by decide +kernel⟩
theorem Yw:ZQ ["one","other","pairs","seen","k","left","right","letter","behind"] ["one","other"] (Zk JZ):=⟨rfl,rfl,rfl,by decide +kernel,rfl,by decide +kernel,by decide +kernel⟩
theorem Y7:ZQ ["steps","out","classes","many"] ["steps","out"] (Zk Xc):=⟨rfl,rfl,rfl,by decide +kernel,rfl,by decide +kernel,by decide +kernel⟩
theorem vM:ZQ ["word"] ["word"] (Zk qe):=⟨rfl,rfl,rfl,by decide +kernel,rfl,by decide +kernel,by decide +kernel⟩
theorem Xi:ZQ ["names","letters","columns","place","name"] ["names","letters"] (Zk Xn):=⟨rfl,rfl,rfl,by decide +kernel,rfl,by decide +kernel,by decide +kernel⟩
theorem qA:ZQ ["word","parts","held","one"] ["word","parts","held"] (Zk Ga):=⟨rfl,rfl,rfl,by decide +kernel,rfl,by decide +kernel,by decide +kernel⟩
theorem zm:ZQ ["word","parts","held","then"] ["word","parts","held","then"] (Zk WL):=⟨rfl,rfl,rfl,by decide +kernel,rfl,by decide +kernel,by decide +kernel⟩
theorem Yx:ZQ ["cell","many","xs","menu","some","base","at","turn"] ["cell","many"] (Zk XO):=⟨rfl,rfl,rfl,by decide +kernel,rfl,by decide +kernel,by decide +kernel⟩
theorem Yh:ZQ ["numbers","names","most","some","left","number","word","wants","built","part"] ["numbers","names","most"] (Zk xx):=⟨rfl,rfl,rfl,by decide +kernel,rfl,by decide +kernel,by decide +kernel⟩
theorem zo:ZQ ["stack","word"] ["stack","word"] (Zk X6):=⟨rfl,rfl,rfl,by decide +kernel,rfl,by decide +kernel,by decide +kernel⟩
theorem ZS:ZQ ["cell","names","xs","most","p","q","r","one","other"] ["cell","names"] (Zk Xd):=⟨rfl,rfl,rfl,by decide +kernel,rfl,by decide +kernel,by decide +kernel⟩
theorem Ye:ZQ ["cell","names","xs","p","q","under","pairs","some"] ["cell","names"] (Zk Xv):=⟨rfl,rfl,rfl,by decide +kernel,rfl,by decide +kernel,by decide +kernel⟩
theorem XA:ZQ ["words","columns","place","kept","stack","later","word","parts","held"] ["words","columns","place","kept"] (Zk xy):=⟨rfl,rfl,rfl,by decide +kernel,rfl,by decide +kernel,by decide +kernel⟩
theorem Yq:ZQ ["names","begin","step_of","states","numbers","steps","out","told"] ["names","begin","step_of"] (Zk Xe):=⟨rfl,rfl,rfl,by decide +kernel,rfl,by decide +kernel,by decide +kernel⟩
theorem Wh:ZQ ["machine","found","steps","out","classes","firsts","least_steps","least_out"] ["machine"] (Zk qf):=⟨rfl,rfl,rfl,by decide +kernel,rfl,by decide +kernel,by decide +kernel⟩
theorem Yi:ZQ ["words","names","told","letters","columns","last_place","step_of","begin"] ["words","names","told"] (Zk Yd):=⟨rfl,rfl,rfl,by decide +kernel,rfl,by decide +kernel,by decide +kernel⟩
theorem jK:ZQ ["words","names"] ["words","names"] (Zk Jq):=⟨rfl,rfl,rfl,by decide +kernel,rfl,by decide +kernel,by decide +kernel⟩
theorem qN:ZQ ["claim","names"] ["claim","names"] (Zk XQ):=⟨rfl,rfl,rfl,by decide +kernel,rfl,by decide +kernel,by decide +kernel⟩
theorem Ju:ZQ ["script","names","one","other","machine","found","number"] ["script"] (Zk vj):=⟨rfl,rfl,rfl,by decide +kernel,rfl,by decide +kernel,by decide +kernel⟩
theorem JA:Zhc (Zk Xf) ["state"] ["step","place","reached"] ["words","columns","last_place","letters","told"]:=⟨by rfl,by rfl,by rfl,by decide +kernel,by decide +kernel,by decide +kernel,by decide +kernel⟩
section
variable {P:Program}{w:World}{K:PySem.W.Frag}{mg:Str->Option Value}{base:Heap}{t:Adr}
inductive W6(vs:List V)(H:Hp)(Q:VK):Prop
 | mk (κ:Type) (dq:DecidableEq κ) (sk:SK κ) (v:V) (st nd:Addr) (k:κ) (l:List κ) (ws:List V):(vs=[v,.ref st,.ref nd])->(H st=some (.lst ws))->(ws.length=l.length)->(sk.dic H nd l)->(sk.at_ H k v)->(l.Nodup)->(l.length < 10000000)->(∀H' ws',H' st=some (.lst ws')->((k∈l/\ws'=ws)\/(k∉l/\ws'=ws++[v]))->sk.dic H' nd (Y8 l k)->(∀b o,H b=some o->b≠st->b≠nd->H' b=some o)->(∀b,H b=none->H' b=none)->Q (.int ((Y8 l k).idxOf k:Int)) H')->W6 vs H Q
def Jv(K:PySem.W.Frag):Sp:=fun vs H Q _=>W6 vs H Q
theorem xP (T:Txt K w mg t) (TB:Tbs mg base t):Ym P w K mg base CX0 1 t.eu t.fe ["state","states","numbers"] (Jv K):=by
 refine T.cj.F.ok xN (fun vs H Q E h=>?_) (fun cdv A outer s H vs Q E hr h=>?_)
 ·obtain ⟨κ,_,sk,v,st,C,k0,l,G,rfl,q,L,n,hk,D,hl,k⟩:=h
  rfl
 ·obtain ⟨κ,_,sk,v,st,C,k0,l,G,rfl,q,L,n,hk,D,hl,k⟩:=h
  have hu:=Y6 hr;refine ⟨_,@QSs.out _ _ _ (Zb (Yo (Zv (OpR.or (Zan (yk hr)) (Gw hu)) (qv 0) (qv 2) (by with_unfolding_all rfl))
    (Zb (QS.or (Zha (yk hr) (qv 2) (qv 0) (ZH Z0 (by rfl) T.ao YN (Zg (qv 1) Za)) rfl) (yX hu (qv 2) (qv 0) (ZH Z0 (by rfl) T.ao YN (Zg (qv 1) Za)) rfl))
    (Zj (ZU (Yj Qap Qaq Qar Zy (qv 1) (Zg (qv 0) Za))))) ZR)
    (Zj (Zu (QE.or (Zg9 (yk hr) (qv 2) (qv 0) (fun _ _=>rfl)) (uV hu (qv 2) (qv 0) (fun _ _=>rfl)))))),?_⟩
  clear hu hr
  try dsimp only [L2.cxK,L2.cxK2]
  refine L2.let2 ?_;intro U1;have N:st≠C:=fun z=>by
   obtain ⟨o,e,_,h⟩:=SK.ne n;rw [<-z,q] at e;cases e;exact h _ rfl
  cases sk with
  | int f inj =>
   have n:H C=some (.dK (nk (l.map f))):=n;have hk:v=.int (f k0):=hk;subst hk;have hm:f k0∈l.map f↔k0∈l:=⟨fun z=>let ⟨a,ha,e⟩:=Qa2.mp z;inj _ _ e ▸ ha,fun z=>Qbw z⟩;have M:(l.map f).Nodup:=by
    unfold List.Nodup;rw [Qfl];exact List.Pairwise.imp (fun S e=>S (inj _ _ e)) D
   have R:=Zai f k0 (Y8 l k0) fun a _ e=>inj _ _ e;have em:=ko f l k0 fun a _ e=>inj _ _ e;refine ⟨_,rfl,_,rfl,.inr ⟨C,YX (nk (l.map f)) (.inl (f k0)),rfl,.inl ⟨nk (l.map f),.inl (f k0),.inl n,rfl,rfl⟩,_,rfl,?_⟩⟩
   by_cases hs:k0∈l
   ·have e1:Y8 l k0=l:=Qa4 hs
    rw [e1] at k R;rw [Zbc (hm.mpr hs) M];refine X9 (.inr ⟨_,rfl,_,rfl,C,_,rfl,.inl ⟨nk (l.map f),.inl (f k0),.inl n,rfl,(Zbc (hm.mpr hs) M).symm⟩,?_⟩);rw [R];exact k H G q (.inl ⟨hs,rfl⟩) n (fun _ _ e _ _=>e) fun _ e=>e
   ·have e1:Y8 l k0=l++[k0]:=Qax hs
    have O:f k0∉l.map f:=fun z=>hs (hm.mp z);rw [e1] at k R em;rw [Zht O];have J:((l++[k0]).map f).Nodup:=by
     rw [<-em];exact Ww M _
    refine WC (.inr ⟨_,rfl,st,_,rfl,.inl (SqL.of q),_,rfl,_,rfl,C,_,rfl,Zc2.k (k:=.inl (f k0)) n (by rw [nk_len,Qad];exact X0 (by lia)),?_⟩);rw [L,show (l.length:Int)=((l.map f).length:Int) by rw [Qad],nk_put O];have e2:l.map f++[f k0]=(l++[k0]).map f:=by rw [Qbm];rfl
    rw [e2];have g:upd H C (.dK (nk ((l++[k0]).map f))) st=some (.lst G):=by rw [Zp N];exact q
    refine ⟨_,rfl,.inl ⟨rfl,_,SqL.of g⟩,_,rfl,st,_,_,rfl,rfl,g,X0 (by lia),?_⟩;have I:upd (upd H C (.dK (nk ((l++[k0]).map f)))) st (.lst (G++[.int (f k0)])) C=some (.dK (nk ((l++[k0]).map f))):=by rw [Zp N.symm];exact Zc
    refine .inr ⟨_,rfl,_,rfl,C,_,rfl,.inl ⟨_,.inl (f k0),.inl I,rfl,(Zbc (Qbw (by simp)) J).symm⟩,?_⟩;rw [R];refine k _ (G++[.int (f k0)]) Zc (.inr ⟨hs,rfl⟩) I (fun b o e h1 h2=>?_) fun b e=>?_
    ·rw [Zp h1,Zp h2]
     exact e
    ·rw [Zp (fun z=>by rw [z,q] at e;cases e),Zp (fun z=>by rw [z,n] at e;cases e)]
     exact e
  | key kn =>
   have n:GK kn H C (X4 l):=n;obtain ⟨a,rfl,hk⟩:=hk;refine ⟨_,rfl,_,rfl,.inl ⟨κ,_,kn,C,a,k0,_,rfl,rfl,n,hk,_,rfl,?_⟩⟩
   by_cases hm:k0∈l
   ·have e1:Y8 l k0=l:=Qa4 hm
    have hv:=Jo l k0 hm D;rw [e1] at k;rw [hv];exact X9 (.inl ⟨_,rfl,_,rfl,κ,_,kn,C,a,k0,_,_,rfl,rfl,n,hk,hv,k H G q (.inl ⟨hm,rfl⟩) n (fun _ _ e _ _=>e) fun _ e=>e⟩)
   ·have e1:Y8 l k0=l++[k0]:=Qax hm
    have hv:=GX l k0 hm;have J:(l++[k0]).Nodup:=e1 ▸ Ww D k0;rw [e1] at k;rw [hv];refine WC (.inl ⟨_,rfl,st,_,rfl,.inl (SqL.of q),_,rfl,_,rfl,κ,_,kn,C,a,k0,_,rfl,rfl,n,hk,hv,?_,fun H2 Y o2 hx=>?_⟩)
    ·rw [Jn]
     exact X0 (by lia)
    rw [L] at Y;rw [<-GW] at Y;have g:=o2 _ _ q N;refine ⟨_,rfl,.inl ⟨rfl,_,SqL.of g⟩,_,rfl,st,_,_,rfl,rfl,g,X0 (by lia),?_⟩;have n3:GK kn (upd H2 st (.lst (G++[.ref a]))) C (X4 (l++[k0])):=SK.off (sk:=.key kn) Y g;have Z:kn.at_ H2 k0 a:=kn.keep _ _ _ _ (fun b xs e=>o2 b _ e fun z=>by
     obtain ⟨o,e3,h3,_⟩:=Zbf n;rw [z,e3] at e;cases e;exact h3 _ rfl) hk
    have hk3:kn.at_ (upd H2 st (.lst (G++[.ref a]))) k0 a:=kn.keep _ _ _ _ (fun b xs e=>by rw [Zp (XW e g fun z=>nomatch z)];exact e) Z;refine .inl ⟨_,rfl,_,rfl,κ,_,kn,C,a,k0,_,_,rfl,rfl,n3,hk3,Jo _ _ (by simp) J,k _ (G++[.ref a]) Zc (.inr ⟨hm,rfl⟩) n3 (fun b o e h1 h2=>?_) fun b e=>?_⟩
    ·rw [Zp h1]
     exact o2 b o e h2
    ·obtain ⟨oo,rfl⟩:=hx
     rw [Zp (fun z=>by rw [z,q] at e;cases e),Zp (fun z=>by
      obtain ⟨o,e3,_⟩:=Zbf n;rw [z,e3] at e;cases e)]
     exact e
inductive GA(vs:List V)(H:Hp)(Q:VK):Prop
 | mk (Kk:Type) (dq:DecidableEq Kk) (kn:KN Kk) (a:Addr) (as:List Addr) (ks:List Kk):(vs=[.ref a])->((H a=some (.lst (as.map V.ref))\/H a=some (.tup (as.map V.ref))))->(as.length=ks.length)->((∀(i:Nat) (b:Addr) (k:Kk),as[i]?=some b->ks[i]?=some k->kn.at_ H k b))->(ks.length<=1000000)->(∀p H',H p=none->H' p=some (.lst ((ks.map fun k=>((ZN ks).idxOf k:Int)).map V.int))->Yb H H'->Q (.ref p) H')->GA vs H Q
def xQ(K:PySem.W.Frag):Sp:=fun vs H Q _=>GA vs H Q
theorem vN (T:Txt K w mg t) (TB:Tbs mg base t):Ym P w K mg base CX0 1 t.ma t.md ["marks"] (xQ K):=by
 refine T.bh.F.ok xO (fun vs H Q E h=>?_) (fun cdv A outer s H vs Q E hr h=>?_)
 ·obtain ⟨Kk,_,kn,a,as,ks,rfl,ha,hl,D,hz,k⟩:=h
  rfl
 ·obtain ⟨Kk,_,kn,a,as,ks,rfl,ha,hl,D,hz,k⟩:=h
  have hu:=Y6 hr;refine ⟨_,@QSs.out _ _ _ (Zb (Zr (i:=1) xO.nd rfl (Or.inr rfl) uW)
    (Zj (Zu (XE (⟨by rfl,by decide +kernel,by decide +kernel,by rfl,by decide +kernel,by decide +kernel,by rfl,by decide +kernel⟩:Ys (Zk J6) _ ["marks","numbers"] "mark" ["numbers"] [1]) (show QI _ _ _ (Zjf K _) from Zg7 (qv 0)) (fun _ _ _ _=>Wu) (fun _ _ _ _=>(Zg4 (yk hr) (qv 1) (Zg (qv 0) (Zg (ZH Zaf (by rfl) T.ao YN (Zg (qv 1) Za)) Za)))))))),?_⟩
  clear hu hr
  try dsimp only [L2.cxK,L2.cxK2]
  refine L2.let2 ?_;intro U1;refine fun d hd=>?_;have hda:a≠d:=by rcases ha with h | h <;> exact Zn h hd
  have I:=Zd (o:=.dK []) hd;refine Zo ?_;have S:GK kn (upd H d (.dK [])) d (X4 (ZN (ks.take 0))):=⟨Qc2,(show 0 < sizeLine by decide),.inl ⟨rfl,Zc⟩⟩;have step:∀(i:Nat) (b:Addr) (g:Kk) (H1:Hp) (R:VK),as[i]?=some b->ks[i]?=some g->GK kn H1 d (X4 (ZN (ks.take i)))->(∀b o,H b=some o->H1 b=some o)->(∀H2,GK kn H2 d (X4 (ZN (ks.take (i + 1))))->(∀b o,H b=some o->H2 b=some o)->R (V.int ((ZN ks).idxOf g:Int)) H2)->tBMN (JC 1) (Y1 (JC 0) (Y1 (tCB Zjd (Y1 (JC 1) qS)) qS)) (qw [1] [some (.ref a),some (.ref d)] (some (.ref b))) H1 R:=by
   intro i b g H1 R hb hk J C q;have hi:i < ks.length:=(Qac.mp hk).1;have e1:ZN (ks.take (i + 1))=Y8 (ZN (ks.take i)) g:=by rw [take_snoc hk,zI]
   obtain ⟨r,Z⟩:=zJ ks (i + 1);have hsl:(ZN (ks.take i)).length<=1000000:=by
    have:=ju (ks.take i);rw [Qa1] at this;lia
   have N:kn.at_ H1 g b:=kn.keep _ _ _ _ (fun b xs e=>C b _ e) (D i b g hb hk);refine ⟨_,rfl,⟨Kk,_,kn,d,_,rfl,J⟩,_,rfl,_,rfl,Kk,_,kn,d,_,rfl,J,Kk,_,kn,d,b,g,_,_,rfl,rfl,J,N,?_,fun y G=>?_,fun hn H' n' o' _=>?_⟩
   ·rw [Jn]
    exact X0 (by have:=ju (ks.take i);rw [Qa1] at this;lia)
   ·by_cases hm:g∈ZN (ks.take i)
    ·rw [Jo _ _ hm (XM _)] at G
     cases G;have e2:ZN (ks.take (i + 1))=ZN (ks.take i):=by rw [e1];exact Qa4 hm
     have:=q H1 (by rw [e2];exact J) C;rw [Z,e2,GU hm] at this;exact this
    ·rw [GX _ _ hm] at G
     cases G
   ·have hm:g∉ZN (ks.take i):=fun z=>by
     rw [Jo _ _ z (XM _)] at hn;cases hn
    have e2:ZN (ks.take (i + 1))=ZN (ks.take i)++[g]:=by rw [e1];exact Qax hm
    have:=q H' (by rw [e2,GW];rw [Jn] at n';exact n') (fun c o e=>o' c o (C c o e) (Zn e hd));rw [Z,e2,GU (by simp),List.idxOf_append,Qax hm,List.idxOf_cons_self,Nat.zero_add] at this;rw [Jn];exact this
  have fin:∀(zs:List V) (H1:Hp),zs=(ks.take as.length).map (fun k=>V.int ((ZN ks).idxOf k:Int))->(∀b o,H b=some o->H1 b=some o)->∀p,H1 p=none->Q (.ref p) (upd H1 p (.lst zs)):=by
   intro zs H1 ez C p hp;have O:Yb H H1:=C;refine k p _ (O.free hp) ?_ (O.trans (Zd hp));rw [Zc,ez,hl,Qb2,Qbj]
   rfl
  have Y:∀i,((ks.take i).map (fun k=>V.int ((ZN ks).idxOf k:Int))).length<=sizeLine:=fun i=>by
   rw [Qad,Qa1];exact Qa5 (X0 (by lia))
  have item:∀(i:Nat) (x:V),(as.map V.ref)[i]?=some x->∃b g,x=.ref b/\as[i]?=some b/\ks[i]?=some g:=fun i x hx=>by
   rw [Qah] at hx;obtain ⟨b,hb,rfl⟩:=Qbh.mp hx;have hi:=(Qac.mp hb).1;exact ⟨b,ks[i]'(by lia),rfl,hb,Qab (by lia)⟩
  rcases ha with ha | ha
  ·refine ⟨a,rfl,.inl ⟨⟨_,SqL.of (I _ _ ha)⟩,XG (K:=K) (a:=a) (xs:=as.map V.ref) (fun i zs H'=>zs=(ks.take i).map (fun k=>V.int ((ZN ks).idxOf k:Int))/\GK kn H' d (X4 (ZN (ks.take i)))/\∀b o,H b=some o->H' b=some o) ⟨rfl,S,I⟩ (fun i zs H' h=>by rw [h.1];exact Y i) (fun i zs H' h=>SqL.of (h.2.2 _ _ ha)) (fun i x zs H1 R q hx h=>?_) (fun zs H1 h=>?_)⟩⟩
   ·obtain ⟨b,g,rfl,hb,hk⟩:=item i x hx
    unfold uA
    try dsimp only
    rw [Qa4 rfl];refine step i b g H1 _ hb hk h.2.1 h.2.2 fun H2 L M=>q _ _ ⟨?_,L,M⟩;rw [h.1,take_snoc hk,Qbm]
    rfl
   ·rw [Qad] at h
    exact fin zs H1 h.1 h.2.2
  ·refine ⟨a,rfl,.inr ⟨⟨_,SqT.of (I _ _ ha)⟩,J2 (K:=K) (a:=a) (xs:=as.map V.ref) (fun i zs H'=>zs=(ks.take i).map (fun k=>V.int ((ZN ks).idxOf k:Int))/\GK kn H' d (X4 (ZN (ks.take i)))/\∀b o,H b=some o->H' b=some o) ⟨rfl,S,I⟩ (fun i zs H' h=>by rw [h.1];exact Y i) (fun i zs H' h=>SqT.of (h.2.2 _ _ ha)) (fun i x zs H1 R q hx h=>?_) (fun zs H1 h=>?_)⟩⟩
   ·obtain ⟨b,g,rfl,hb,hk⟩:=item i x hx
    unfold uA
    try dsimp only
    rw [Qa4 rfl];refine step i b g H1 _ hb hk h.2.1 h.2.2 fun H2 L M=>q _ _ ⟨?_,L,M⟩;rw [h.1,take_snoc hk,Qbm]
    rfl
   ·rw [Qad] at h
    exact fin zs H1 h.1 h.2.2
inductive Jw(vs:List V)(H:Hp)(Q:VK):Prop
 | mk (a b:Addr) (ss:List Nat) (cs:List Int):(vs=[.ref a,.ref b])->(H a=some (.tup (ss.map fun s:Nat=>V.int (s:Int))))->(H b=some (.lst (cs.map V.int)))->((∀s∈ss,s < cs.length))->(ss.length<=1000000)->(cs.length<=1000000)->(∀p H',H p=none->H' p=some (.tup ((ss.map fun s=>cs.getD s 0).map V.int))->Yb H H'->Q (.ref p) H')->Jw vs H Q
def WT(K:PySem.W.Frag):Sp:=fun vs H Q _=>Jw vs H Q
theorem GB (T:Txt K w mg t) (L:Tbs mg base t):Ym P w K mg base CX0 1 t.dh t.di ["states","classes"] (WT K):=by
 refine T.ax.F.ok jI (fun vs H Q E h=>?_) (fun J A outer s H vs Q E hr h=>?_)
 ·obtain ⟨a,b,q,cs,rfl,ha,hb,hs,hl,hc,k⟩:=h
  rfl
 ·obtain ⟨a,b,q,cs,rfl,ha,hb,hs,hl,hc,k⟩:=h
  have hu:=Y6 hr;refine ⟨_,@QSs.out _ _ _ (Zj (Zu (Yr ZW (by rfl) T.az YT (Zg (XE (⟨by rfl,by decide +kernel,by decide +kernel,by rfl,by decide +kernel,by decide +kernel,by rfl,by decide +kernel⟩:Ys (Zk XZ) _ ["states","classes"] "state" ["classes"] [1]) (z6 (qv 0)) (fun _ _ _ _=>Wu) (fun _ _ _ _=>(Zx (show IxR _ (Zin K) from Zt) (qv 1) (qv 0) (fun _ _=>rfl)))) Za)))),?_⟩;clear hu hr
  try dsimp only [L2.cxK,L2.cxK2]
  refine ⟨_,rfl,a,rfl,⟨_,SqT.of ha⟩,uL (xs:=q.map fun s:Nat=>V.int (s:Int)) (fI fun z=>V.int (cs.getD z.toNat 0)) (SqT.of ha) (by rw [Qad];exact Qa5 (X0 (by lia))) (fun v hv R I=>?_) (fun l C=>?_)⟩
  ·obtain ⟨s,D,rfl⟩:=Qa2.mp hv
   have g:=hs s D;exact ⟨_,rfl,_,rfl,b,_,_,_,rfl,rfl,SqL.of hb,YI (by rw [Qah,Qab g];rfl),by
    have e:fI (fun z=>V.int (cs.getD z.toNat 0)) (V.int (s:Int))=V.int cs[s]:=by
     show V.int (cs.getD (s:Int).toNat 0)=_;rw [Qa9,Qag,Qab g]
     rfl
    rw [e] at I;exact I⟩
  ·refine ⟨l,_,rfl,.inl ⟨SqL.of Zc,fun p hp=>?_⟩⟩
   have G:=(Zd (o:=.lst ((q.map fun s:Nat=>V.int (s:Int)).map (fI fun z=>V.int (cs.getD z.toNat 0)))) C);refine k p _ (G.free hp) ?_ (G.trans (Zd hp));rw [Zc,Qbj,Qbj]
   rfl
inductive JF(vs:List V)(H:Hp)(Q:VK):Prop
 | mk (a:Addr) (cs:List Int):(vs=[.ref a])->(H a=some (.lst (cs.map V.int)))->(cs.length<=1000000)->(∀p H',H p=none->H' p=some (.lst ((xK cs 0 []).map fun i:Nat=>V.int (i:Int)))->Yb H H'->Q (.ref p) H')->JF vs H Q
def qB(K:PySem.W.Frag):Sp:=fun vs H Q _=>JF vs H Q
theorem yF (T:Txt K w mg t) (TB:Tbs mg base t):Ym P w K mg base CX0 1 t.ka t.kd ["classes"] (qB K):=by
 refine T.ei.F.ok We (fun vs H Q E h=>?_) (fun Z A outer s H vs Q E hr h=>?_)
 ·obtain ⟨a,cs,rfl,ha,hl,k⟩:=h
  rfl
 ·obtain ⟨a,cs,rfl,ha,hl,k⟩:=h
  have hu:=Y6 hr;refine ⟨_,@QSs.out _ _ _ (Zb (Zr (i:=1) We.nd rfl (Or.inl rfl) (YQ Za))
    (Zb (JE Qb8 rfl (Zdh rfl T.ni (qv 0)) (GP rfl (Y3 (i:=2) We.nd rfl (Or.inl rfl)) (Y3 (i:=3) We.nd rfl (Or.inl rfl)))
    (Zj (Yo (Zv Xp (qv 3) (ZH Z0 (by rfl) T.ao YN (Zg (qv 1) Za)) (ZZ _))
    (Zj (ZU (Yj Qap Qaq Qar Zy (qv 1) (Zg (qv 2) Za)))) ZR)))
    (Zj (Zu (qv 1))))),?_⟩
  clear hu hr
  try dsimp only [L2.cxK,L2.cxK2]
  refine L2.let3 ?_;intro U2 U1;refine ⟨by show 0<=sizeLine;decide,fun p hp=>?_⟩;have Y:=Zd (o:=.lst []) hp;refine Zo ?_;refine ⟨_,rfl,a,_,rfl,SqL.of (Y _ _ ha),Zah (K:=K) (a:=a) (xs:=cs.map V.int) (fun i σ H'=>∃(acc:List Nat) (S R:Option V),σ=[some (.ref a),some (.ref p),S,R]/\H' p=some (.lst (acc.map fun i:Nat=>V.int (i:Int)))/\xK cs 0 []=xK (cs.drop i) i acc/\acc.length<=i/\i<=cs.length/\Yb H H') ⟨[],none,none,rfl,Zc,rfl,Qai _,Qbp _,Y⟩ (fun i σ H' _ ⟨_,_,_,_,_,_,_,_,s⟩=>SqL.of (s _ _ ha)) ?_ ?_⟩
  ·rintro i x σ H1 q hx hq I
   refine ZT fun M g=>?_;obtain ⟨acc,S,R,rfl,J,hf,N,hi,L⟩:=I;refine g ?_;clear g M;rw [Qah] at hx;obtain ⟨c,hc,rfl⟩:=Qbh.mp hx;have G:i < cs.length:=(Qac.mp hc).1;have O:=Zd (o:=.tup [.int i,.int c]) hq;have D:=O _ _ J;have C:xK cs 0 []=xK (cs.drop (i + 1)) (i + 1) (if c=(acc.length:Int) then acc++[i] else acc):=by
    rw [hf,Qcw G,(Qac.mp hc).2]
    rfl
   refine ⟨_,rfl,_,rfl,p,_,rfl,.inl (SqL.of D),rfl,_,rfl,?_⟩;rw [Qad]
   by_cases h:c=(acc.length:Int)
   ·rw [Qa4 h] at C
    rw [Qaj (by rw [h])];refine WC ⟨_,rfl,.inl ⟨rfl,_,SqL.of D⟩,_,rfl,p,_,_,rfl,rfl,D,by rw [Qad];exact X0 (by lia),acc++[i],_,_,rfl,?_,C,by rw [Qaf];show _ + 1<=_;lia,G,YM (L.trans O) hp⟩;rw [Zc,Qbm]
    rfl
   ·rw [Qax h] at C
    rw [Qak (fun z=>h (by injection z))];exact X9 ⟨acc,_,_,rfl,D,C,by lia,G,L.trans O⟩
  ·rintro σ H1 I
   refine ZT fun M g=>?_;obtain ⟨acc,S,R,rfl,J,hf,N,hi,L⟩:=I;refine g ?_;clear g M;rw [Qad,Qea] at hf;exact ⟨_,rfl,k p H1 hp (by rw [J,hf];rfl) L⟩
inductive GC(vs:List V)(H:Hp)(Q:VK):Prop
 | mk (w:Nat):(vs=[.int w])->(w<=1000)->(Q (.int (2 ^ w)) H)->GC vs H Q
def xR(K:PySem.W.Frag):Sp:=fun vs H Q _=>GC vs H Q
theorem vO (T:Txt K w mg t) (G:Tbs mg base t):Ym P w K mg base CX0 1 t.me t.mf ["width"] (xR K):=by
 refine T.fq.F.ok WR (fun vs H Q E h=>?_) (fun D A outer s H vs Q E hr h=>?_)
 ·obtain ⟨w,rfl,hw,k⟩:=h
  rfl
 ·obtain ⟨w,rfl,hw,k⟩:=h
  have hu:=Y6 hr;refine ⟨_,@QSs.out _ _ _ (Zb (Zr (i:=1) WR.nd rfl (Or.inl rfl) Ze)
    (Zb (JE Qb8 rfl (XD rfl T.cq (Zg (qv 0) Za)) (Y3 (i:=2) WR.nd rfl (Or.inl rfl))
    (Zj (Zr (i:=1) WR.nd rfl (Or.inl rfl) (Zi JT (qv 1) Ze))))
    (Zj (Zu (qv 1))))),?_⟩
  clear hu hr
  try dsimp only [L2.cxK,L2.cxK2]
  refine L2.let3 ?_;intro J I;refine ⟨_,rfl,(w:Int),rfl,by lia,by lia,Gp (fun i σ H2=>∃v,σ=[some (.int w),some (.int (2 ^ i)),v]/\H2=H) ⟨none,rfl,rfl⟩ ?_ ?_⟩
  ·rintro i σ H2 hi q
   refine ZT fun C g=>?_;obtain ⟨v,rfl,rfl⟩:=q;refine g ?_;clear g C;refine ⟨_,rfl,_,_,rfl,rfl,.inr (.inr ⟨by decide,by decide⟩),some (.int (0 + (i:Int))),?_,rfl⟩;rw [pow_succ']
   rfl
  ·rintro σ H2 q
   refine ZT fun C g=>?_;obtain ⟨v,rfl,rfl⟩:=q;refine g ?_;clear g C;refine ⟨_,rfl,?_⟩;rw [Qa9];exact k
theorem Zec{x:V}(h:(y.map V.int)[i]?=some x):∃b,x=V.int b/\y[i]?=some b:=by
 rw [Qah] at h;cases e:y[i]? with
 | none=>rw [e] at h;cases h
 | some b=>rw [e] at h;exact ⟨b,(Option.some.inj h).symm,rfl⟩
inductive JG(K:PySem.W.Frag)(vs:List V)(H:Hp)(Q:VK):Prop
 | mk (p:Addr) (ns:List Int):(vs=[.ref p])->(SqT K H p (ns.map V.int))->(Q (.int (hor ns.reverse)) H)->JG K vs H Q
def qC(K:PySem.W.Frag):Sp:=fun vs H Q _=>JG K vs H Q
theorem yG (T:Txt K w mg t) (I:Tbs mg base t):Ym P w K mg base CX0 1 t.kv t.lb ["bits"] (qC K):=by
 refine T.ek.F.ok Wg (fun vs H Q E h=>?_) (fun G A outer s H vs Q E hr h=>?_)
 ·obtain ⟨p,D,rfl,hp,k⟩:=h
  rfl
 ·obtain ⟨p,D,rfl,hp,k⟩:=h
  have hu:=Y6 hr;refine ⟨_,@QSs.out _ _ _ (Zb (Zr (i:=1) Wg.nd rfl (Or.inl rfl) Ze)
    (Zb (JE Qb8 rfl (uH rfl T.nt (qv 0)) (Y3 (i:=2) Wg.nd rfl (Or.inl rfl))
    (Zj (Zr (i:=1) Wg.nd rfl (Or.inl rfl) (Zi YY (Zi JT (qv 1) Ze) (qv 2)))))
    (Zj (Zu (qv 1))))),?_⟩
  clear hu hr
  try dsimp only [L2.cxK,L2.cxK2]
  refine L2.let3 ?_;intro L J;refine ⟨_,rfl,p,_,rfl,hp,uI (K:=K) (a:=p) (xs:=D.map V.int) (fun i σ H2=>∃v,σ=[some (.ref p),some (.int (hor (D.reverse.take i))),v]/\H2=H) ⟨none,rfl,rfl⟩ (fun i σ H2 _ ⟨_,_,e⟩=>by rw [e];exact hp) ?_ ?_⟩
  ·rintro i x σ H2 hx q
   refine ZT fun C g=>?_;obtain ⟨v,rfl,rfl⟩:=q;refine g ?_;clear g C;rw [<-List.map_reverse] at hx;obtain ⟨b,rfl,hb⟩:=Zec hx;refine ⟨_,rfl,_,_,rfl,rfl,.inr (.inr ⟨by decide,by decide⟩),_,rfl,_,_,rfl,rfl,some (.int b),?_,rfl⟩;rw [Zds hb]
   rfl
  ·rintro σ H2 q
   refine ZT fun C g=>?_;obtain ⟨v,rfl,rfl⟩:=q;refine g ?_;clear g C;refine ⟨_,rfl,?_⟩;rw [Qbz (by rw [Qd6,Qad];exact Qai _)];exact k
inductive WW(vs:List V)(H:Hp)(Q:VK):Prop
 | mk (k:Key):(vs=[kV k])->(Q (.int (Gb T1 k + Gb T2 k)) H)->WW vs H Q
def JH(K:PySem.W.Frag):Sp:=fun vs H Q _=>WW vs H Q
theorem zp (T:Txt K w mg t) (C:Tbs mg base t):Ym P w K mg base CX0 1 t.fx t.fy ["word"] (JH K):=by
 refine T.cz.F.ok zh (fun vs H Q E h=>?_) (fun q A outer s H vs Q E hr h=>?_)
 ·obtain ⟨g,rfl,k⟩:=h
  rfl
 ·obtain ⟨g,rfl,k⟩:=h
  have hu:=Y6 hr;refine ⟨_,@QSs.out _ _ _ (Zj (Zu (Zi YY (yY (jj (v:=.ref t.cu) rfl T.cu.m rfl) (qv 0) Ze) (yY (jj (v:=.ref t.bf) rfl T.bf.m rfl) (qv 0) Ze)))),?_⟩;clear hu hr
  try dsimp only [L2.cxK,L2.cxK2]
  refine ⟨t.cu,T1,rfl,T.cu.d,_,rfl,g,rfl,t.bf,T2,rfl,T.bf.d,_,rfl,g,rfl,?_⟩;rw [kget,kget];exact ⟨_,_,rfl,rfl,k⟩
inductive Wi(vs:List V)(H:Hp)(Q:VK):Prop
 | mk (k:Key):(vs=[kV k])->(Q (.int (Gb T3 k)) H)->Wi vs H Q
def WX(K:PySem.W.Frag):Sp:=fun vs H Q _=>Wi vs H Q
theorem qO (T:Txt K w mg t) (C:Tbs mg base t):Ym P w K mg base CX0 1 t.du t.dw ["word"] (WX K):=by
 refine T.cc.F.ok qM (fun vs H Q E h=>?_) (fun q A outer s H vs Q E hr h=>?_)
 ·obtain ⟨g,rfl,k⟩:=h
  rfl
 ·obtain ⟨g,rfl,k⟩:=h
  have hu:=Y6 hr;refine ⟨_,@QSs.out _ _ _ (Zj (Zu (yY (jj (v:=.ref t.aw) rfl T.aw.m rfl) (qv 0) Ze))),?_⟩;clear hu hr
  try dsimp only [L2.cxK,L2.cxK2]
  refine ⟨t.aw,T3,rfl,T.aw.d,_,rfl,g,rfl,?_⟩;rw [kget];exact k
inductive JI(vs:List V)(H:Hp)(Q:VK):Prop
 | mk (x:V):(vs=[x])->(XX x=true)->(Q (.bl (inV x (allR.map V.str))) H)->JI vs H Q
def Jx(K:PySem.W.Frag):Sp:=fun vs H Q _=>JI vs H Q
theorem qD (T:Txt K w mg t) (q:Tbs mg base t):Ym P w K mg base CX0 1 t.eg t.eh ["word"] (Jx K):=by
 refine T.bb.F.ok yE (fun vs H Q E h=>?_) (fun g A outer s H vs Q E hr h=>?_)
 ·obtain ⟨x,rfl,hx,k⟩:=h
  rfl
 ·obtain ⟨x,rfl,hx,k⟩:=h
  have hu:=Y6 hr;refine ⟨_,@QSs.out _ _ _ (Zj (Zu (uw YJ (qv 0) (jj (v:=.ref t.bu) rfl T.bu.m rfl) (by with_unfolding_all rfl)))),?_⟩;clear hu hr
  try dsimp only [L2.cxK,L2.cxK2]
  exact ⟨_,rfl,t.bu,_,rfl,.inr (T.bu.d H),hx,Zau _,k⟩
inductive GD(vs:List V)(H:Hp)(Q:VK):Prop
 | mk (a b h:Int):(vs=[.int a,.int b,.int h])->(Q (.int (Zjp a b h)) H)->GD vs H Q
def Gj(K:PySem.W.Frag):Sp:=fun vs H Q _=>GD vs H Q
theorem xS (T:Txt K w mg t) (q:Tbs mg base t):Ym P w K mg base CX0 1 t.fj t.fk ["one","other","held"] (Gj K):=by
 refine T.bj.F.ok vK (fun vs H Q E h=>?_) (fun g A outer s H vs Q E hr h=>?_)
 ·obtain ⟨a,b,h,rfl,k⟩:=h
  rfl
 ·obtain ⟨a,b,h,rfl,k⟩:=h
  have hu:=Y6 hr;refine ⟨_,@QSs.out _ _ _ (Zj (Zu (Zi jP (Zi WU (Gr xo (qv 0)) (qv 1)) (Zi WU (qv 2) (Gr xo (Zi zx (qv 0) (qv 1))))))),?_⟩;clear hu hr
  try dsimp only [L2.cxK,L2.cxK2]
  exact ⟨_,rfl,_,rfl,_,rfl,_,_,rfl,rfl,_,rfl,_,rfl,_,rfl,_,_,rfl,rfl,_,rfl,_,_,rfl,rfl,_,_,rfl,rfl,k⟩
inductive WY(vs:List V)(H:Hp)(Q:VK):Prop
 | mk (y:Str) (p:Addr) (is:List Int):(vs=[.str y,.ref p])->(H p=some (.lst (is.map V.int)))->(y∈Za5)->(is.length=Za3 y)->(∀H',Yb H H'->Q (.int (oaI y is)) H')->WY vs H Q
def JJ(K:PySem.W.Frag):Sp:=fun vs H Q _=>WY vs H Q
theorem zq (T:Txt K w mg t) (TB:Tbs mg base t):Ym P w K mg base CX0 1 t.gb t.gi ["word","parts"] (JJ K):=by
 refine T.da.F.ok zi (fun vs H Q E h=>?_) (fun cdv A outer s H vs Q E hr h=>?_)
 ·obtain ⟨y,p,is,rfl,hp,Z,hl,k⟩:=h
  rfl
 ·obtain ⟨y,p,is,rfl,hp,Z,hl,k⟩:=h
  have hu:=Y6 hr;refine ⟨_,@QSs.out _ _ _ (Zb (Yo (Zv Xp (qv 0) Zf (ZZ _))
    (Zj (Zu (Gr xm Ze))) ZR)
    (Zb (Yo (Zv Xp (qv 0) Zf (ZZ _))
    (Zj (Zu (Zx Zt (qv 1) Ze (fun _ _=>rfl)))) ZR)
    (Zb (Yo (Zv YJ (qv 0) (Zl (Zg Zf (Zg Zf Za))) (by with_unfolding_all rfl))
    (Zj (Zu (Gr xo (Zx Zt (qv 1) Ze (fun _ _=>rfl))))) ZR)
    (Zb (Yo (Zv YJ (qv 0) (Zl (Zg Zf (Zg Zf Za))) (by with_unfolding_all rfl))
    (Zj (Zu (Zi WU (Zx Zt (qv 1) Ze (fun _ _=>rfl)) (Zx Zt (qv 1) Ze (fun _ _=>rfl))))) ZR)
    (Zb (Yo (Zv YJ (qv 0) (Zl (Zg Zf (Zg Zf Za))) (by with_unfolding_all rfl))
    (Zj (Zu (Zi jP (Zx Zt (qv 1) Ze (fun _ _=>rfl)) (Zx Zt (qv 1) Ze (fun _ _=>rfl))))) ZR)
    (Zb (Yo (Zv Xp (qv 0) Zf (ZZ _))
    (Zj (Zu (Zi zx (Zx Zt (qv 1) Ze (fun _ _=>rfl)) (Zx Zt (qv 1) Ze (fun _ _=>rfl))))) ZR)
    (Zb (Yo (Zv Xp (qv 0) Zf (ZZ _))
    (Zj (Zu (Zi jP (Gr xo (Zx Zt (qv 1) Ze (fun _ _=>rfl))) (Zx Zt (qv 1) Ze (fun _ _=>rfl))))) ZR)
    (Zj (Zu (Zi jP (Zi WU (Zx Zt (qv 1) Ze (fun _ _=>rfl)) (Zx Zt (qv 1) Ze (fun _ _=>rfl))) (Zi WU (Gr xo (Zx Zt (qv 1) Ze (fun _ _=>rfl))) (Zx Zt (qv 1) Ze (fun _ _=>rfl))))))))))))),?_⟩
  clear hu
  try dsimp only [L2.cxK,L2.cxK2]
  refine L2.let8 ?_;intro U7 U6 U5 U4 U3 U2 U1;unfold oaI at k;refine ⟨_,rfl,rfl,_,rfl,?_⟩
  by_cases h1:y = "yes"
  ·rw [Qaj (congrArg V.str h1)]
   rw [Qa4 h1] at k;refine WC ?_;exact ⟨_,rfl,k H (Yb.refl _)⟩
  rw [Qak (fun z=>h1 (by injection z))];rw [Qax h1] at k;refine X9 ⟨_,rfl,rfl,_,rfl,?_⟩
  by_cases h2:y = "sign"
  ·rw [Qaj (congrArg V.str h2)]
   rw [Qa4 h2] at k;refine WC ?_;exact ⟨_,rfl,p,_,0,_,rfl,rfl,SqL.of hp,ZO 0 rfl (xA hl (by rw [h2];decide +kernel)),k H (Yb.refl _)⟩
  rw [Qak (fun z=>h2 (by injection z))];rw [Qax h2] at k;refine X9 ⟨_,rfl,by show 2<=sizeLine;decide,fun q hq=>⟨q,_,rfl,.inr (SqT.of Zc),rfl,rfl,_,rfl,?_⟩⟩;show if inV (.str y) ((["not","never"]:List Str).map V.str)=true then _ else _;rw [Ya];have D:=Zd (o:=.tup [.str "not",.str "never"]) hq;have pq:=D _ _ hp;generalize upd H q (.tup [.str "not",.str "never"])=H1 at *
  by_cases N:y = "not" \/ y = "never"
  ·rw [Qaj (by simp only [Qas,Qa6,Qc1];exact N)]
   rw [Qa4 N] at k;refine WC ?_;exact ⟨_,rfl,p,_,0,_,rfl,rfl,SqL.of pq,ZO 0 rfl (xA hl (by rcases N with h | h <;> rw [h] <;> decide +kernel)),_,rfl,k H1 D⟩
  rw [Qak (by simp only [Qas,Qa6,Qc1];exact N)];rw [Qax N] at k;refine X9 ⟨_,rfl,by show 2<=sizeLine;decide,fun r hr=>⟨r,_,rfl,.inr (SqT.of Zc),rfl,rfl,_,rfl,?_⟩⟩;show if inV (.str y) ((["and","both"]:List Str).map V.str)=true then _ else _;rw [Ya];have J:=Zd (o:=.tup [.str "and",.str "both"]) hr;have S:=J _ _ pq;generalize upd H1 r (.tup [.str "and",.str "both"])=H2 at *
  by_cases G:y = "and" \/ y = "both"
  ·rw [Qaj (by simp only [Qas,Qa6,Qc1];exact G)]
   rw [Qa4 G] at k;refine WC ?_;have l2:2<=is.length:=xA hl (by rcases G with h | h <;> rw [h] <;> decide +kernel);exact ⟨_,rfl,p,_,0,_,rfl,rfl,SqL.of S,ZO 0 rfl (by lia),_,rfl,p,_,1,_,rfl,rfl,SqL.of S,ZO 1 rfl l2,_,_,rfl,rfl,k H2 (D.trans J)⟩
  rw [Qak (by simp only [Qas,Qa6,Qc1];exact G)];rw [Qax G] at k;refine X9 ⟨_,rfl,by show 2<=sizeLine;decide,fun Y R=>⟨Y,_,rfl,.inr (SqT.of Zc),rfl,rfl,_,rfl,?_⟩⟩;show if inV (.str y) ((["or","either"]:List Str).map V.str)=true then _ else _;rw [Ya];have C:=Zd (o:=.tup [.str "or",.str "either"]) R;have g:=C _ _ S;generalize upd H2 Y (.tup [.str "or",.str "either"])=O at *
  by_cases L:y = "or" \/ y = "either"
  ·rw [Qaj (by simp only [Qas,Qa6,Qc1];exact L)]
   rw [Qa4 L] at k;refine WC ?_;have l2:2<=is.length:=xA hl (by rcases L with h | h <;> rw [h] <;> decide +kernel);exact ⟨_,rfl,p,_,0,_,rfl,rfl,SqL.of g,ZO 0 rfl (by lia),_,rfl,p,_,1,_,rfl,rfl,SqL.of g,ZO 1 rfl l2,_,_,rfl,rfl,k O ((D.trans J).trans C)⟩
  rw [Qak (by simp only [Qas,Qa6,Qc1];exact L)];rw [Qax L] at k;refine X9 ⟨_,rfl,rfl,_,rfl,?_⟩
  by_cases M:y = "odd"
  ·rw [Qaj (congrArg V.str M)]
   rw [Qa4 M] at k;refine WC ?_;have l2:2<=is.length:=xA hl (by rw [M];decide +kernel);exact ⟨_,rfl,p,_,0,_,rfl,rfl,SqL.of g,ZO 0 rfl (by lia),_,rfl,p,_,1,_,rfl,rfl,SqL.of g,ZO 1 rfl l2,_,_,rfl,rfl,k O ((D.trans J).trans C)⟩
  rw [Qak (fun z=>M (by injection z))];rw [Qax M] at k;refine X9 ⟨_,rfl,rfl,_,rfl,?_⟩
  by_cases I:y = "so"
  ·rw [Qaj (congrArg V.str I)]
   rw [Qa4 I] at k;refine WC ?_;have l2:2<=is.length:=xA hl (by rw [I];decide +kernel);exact ⟨_,rfl,p,_,0,_,rfl,rfl,SqL.of g,ZO 0 rfl (by lia),_,rfl,_,rfl,p,_,1,_,rfl,rfl,SqL.of g,ZO 1 rfl l2,_,_,rfl,rfl,k O ((D.trans J).trans C)⟩
  rw [Qak (fun z=>I (by injection z))];rw [Qax I] at k;have l3:3<=is.length:=xA hl (wY y Z h1 h2 N G L M I);exact X9 ⟨_,rfl,p,_,0,_,rfl,rfl,SqL.of g,ZO 0 rfl (by lia),_,rfl,p,_,1,_,rfl,rfl,SqL.of g,ZO 1 rfl (by lia),_,_,rfl,rfl,_,rfl,p,_,0,_,rfl,rfl,SqL.of g,ZO 0 rfl (by lia),_,rfl,_,rfl,p,_,2,_,rfl,rfl,SqL.of g,ZO 2 rfl l3,_,_,rfl,rfl,_,_,rfl,rfl,k O ((D.trans J).trans C)⟩
inductive XS(vs:List V)(H:Hp)(Q:VK):Prop
 | mk (tw:Addr) (ws:List V):(vs=[.ref tw])->(H tw=some (.tup ws))->(ws.length<=1000)->((∀w∈ws,(∃y,w=.str y)\/∃z:Int,w=.int z))->(∀(L:Nat) H',(∀z:Int,V.int z∈ws->Builtin.Int.intBits z<=L)->(L=0\/∃z:Int,V.int z∈ws/\L=Builtin.Int.intBits z)->Yb H H'->Q (.int (L:Int)) H')->XS vs H Q
def W7(K:PySem.W.Frag):Sp:=fun vs H Q _=>XS vs H Q
theorem qp (T:Txt K w mg t) (J:Tbs mg base t):Ym P w K mg base CX0 1 t.dj t.dm ["words"] (W7 K):=by
 refine T.bw.F.ok qm (fun vs H Q E h=>?_) (fun I A outer s H vs Q E hr h=>?_)
 ·obtain ⟨tw,g,rfl,q,hl,hw,k⟩:=h
  rfl
 ·obtain ⟨tw,g,rfl,q,hl,hw,k⟩:=h
  have hu:=Y6 hr;refine ⟨_,@QSs.out _ _ _ (Zj (Zu (Zhf rfl rfl T.nv (XE (⟨by rfl,by decide +kernel,by decide +kernel,by rfl,by decide +kernel,by decide +kernel,by rfl,by decide +kernel⟩:Ys (Zk YU) _ ["words"] "word" [] []) (z6 (qv 0)) (fun _ _ _ _=>(uB (z5 (ZH (show Jh _ (.builtin "isinstance") (rIsi K) from vX) (by rfl) T.nh Gq (Zg (qv 0) (Zg (uv (v:=.ty "int") (by rfl) T.oh Ze2 rfl) Za)))))) (fun _ _ _ _=>(show QE _ _ (Zjv K "int" Zji (JC 0)) from (uz PySem.F.plainAttrs_int PySem.F.slot_int_bit_length PySem.F.type_int_bit_length Zhg (qv 0))))) Ze))),?_⟩;clear hu hr
  try dsimp only [L2.cxK,L2.cxK2]
  refine ⟨_,rfl,tw,rfl,⟨_,SqT.of q⟩,J2 (K:=K) (a:=tw) (xs:=g) (fun i zs H'=>zs=(Gf (g.take i)).map V.int/\H'=H) ⟨rfl,rfl⟩ (fun i zs H' h=>?_) (fun i zs H' h=>by rw [h.2];exact SqT.of q) (fun i x zs H1 R D hx h=>?_) (fun zs H1 h p hp=>?_)⟩
  ·rw [h.1,Qad]
   have:=yw (g.take i);rw [Qa1] at this;exact Qa5 (Zs (by lia))
  ·obtain ⟨rfl,rfl⟩:=h
   rcases hw x (Qao hx) with ⟨y,rfl⟩ | ⟨z,rfl⟩
   ·refine ⟨_,rfl,_,_,_,_,rfl,.str y,JU,_,rfl,X9 (D _ _ ⟨?_,rfl⟩)⟩
    rw [take_snoc hx,xG];exact congrArg (List.map V.int) (Qbl _).symm
   ·refine ⟨_,rfl,_,_,_,_,rfl,.int z,xr,_,rfl,WC ⟨_,rfl,rfl,z,rfl,rfl,D _ _ ⟨?_,rfl⟩⟩⟩
    rw [take_snoc hx,xG,Qbm]
    rfl
  ·obtain ⟨rfl,rfl⟩:=h
   have sp:=Zd (o:=.lst ((Gf (g.take g.length)).map V.int)) hp;refine ⟨p,Gf (g.take g.length),rfl,SqL.of Zc,fun e=>?_,fun m hm hx=>?_⟩
   ·rw [Qb2] at e
    refine k 0 _ (fun z C=>?_) (.inl rfl) sp;have:=xH C;rw [e] at this;cases this
   ·rw [Qb2] at hm hx
    obtain ⟨z,C,rfl⟩:=kS hm;exact k _ _ (fun y G=>Int.ofNat_le.mp (hx _ (xH G))) (.inr ⟨z,C,rfl⟩) sp
inductive qE(vs:List V)(H:Hp)(Q:VK):Prop
 | mk (p:Addr) (cs:List Int) (l:Nat):(vs=[.ref p,.int (l:Int)])->(H p=some (.lst (cs.map V.int)))->(cs.length<=1000)->(l<=100)->(∀t H',H t=none->H' t=some (.tup ((cs.map fun c=>bt c l).map V.int))->Yb H H'->Q (.ref t) H')->qE vs H Q
def zX(K:PySem.W.Frag):Sp:=fun vs H Q _=>qE vs H Q
theorem gx (T:Txt K w mg t) (L:Tbs mg base t):Ym P w K mg base CX0 1 t.mr t.mw ["columns","letter"] (zX K):=by
 refine T.ix.F.ok gw (fun vs H Q E h=>?_) (fun I A outer s H vs Q E hr h=>?_)
 ·obtain ⟨p,cs,l,rfl,hp,hl,g,k⟩:=h
  rfl
 ·obtain ⟨p,cs,l,rfl,hp,hl,g,k⟩:=h
  have hu:=Y6 hr;refine ⟨_,@QSs.out _ _ _ (Zj (Zu (Yr ZW (by rfl) T.az YT (Zg (XE (⟨by rfl,by decide +kernel,by decide +kernel,by rfl,by decide +kernel,by decide +kernel,by rfl,by decide +kernel⟩:Ys (Zk G6) _ ["columns","letter"] "column" ["letter"] [1]) (XC (qv 0)) (fun _ _ _ _=>Wu) (fun _ _ _ _=>(Zi WU (Zi vU (qv 0) (qv 1)) Ze))) Za)))),?_⟩;clear hu hr
  try dsimp only [L2.cxK,L2.cxK2]
  refine ⟨_,rfl,p,rfl,⟨_,SqL.of hp⟩,comp_map (xs:=cs.map V.int) (fI fun c=>V.int (bt c l)) (SqL.of hp) (by rw [Qad];exact Qa5 (Zs (by lia))) (fun v hv R G=>?_) (fun q J=>?_)⟩
  ·obtain ⟨c,_,rfl⟩:=Qa2.mp hv
   refine ⟨_,rfl,_,rfl,_,_,rfl,rfl,Qcr l,_,_,rfl,rfl,?_⟩;have e:fI (fun c=>V.int (bt c l)) (V.int c)=V.int (Builtin.bitAnd (c / 2 ^ (l:Int).toNat) 1):=by
    show V.int (bt c l)=_;rw [and_1,Qa9]
    rfl
   rw [e] at G;exact G
  ·refine ⟨q,_,rfl,.inl ⟨SqL.of Zc,fun t D=>?_⟩⟩
   have C:=Zd (o:=.lst ((cs.map V.int).map (fI fun c=>V.int (bt c l)))) J;refine k t _ (C.free D) ?_ (C.trans (Zd D));rw [Zc,Qbj,Qbj]
   rfl
inductive WZ(K:PySem.W.Frag)(vs:List V)(H:Hp)(Q:VK):Prop
 | mk (a:Addr) (ns:List Int) (j:Nat):(vs=[.ref a,.int (j:Int)])->(SqL K H a (ns.map V.int))->(∀v:Int,Q (.int v) H)->WZ K vs H Q
def JK(K:PySem.W.Frag):Sp:=fun vs H Q _=>WZ K vs H Q
theorem zr (T:Txt K w mg t) (G:Tbs mg base t):Ym P w K mg base CX0 1 t.gj t.ia ["script","k"] (JK K):=by
 refine T.aa.F.ok zj (fun vs H Q E h=>?_) (fun C A outer s H vs Q E hr h=>?_)
 ·obtain ⟨a,q,j,rfl,g,k⟩:=h
  rfl
 ·obtain ⟨a,q,j,rfl,g,k⟩:=h
  have hu:=Y6 hr;refine ⟨_,@QSs.out _ _ _ (Zb (Yo (Zv gT (qv 1) (ZH Z0 (by rfl) T.ao YN (Zg (qv 0) Za)) (ZZ _))
    (Zj (Zu (Zx Zt (qv 0) (qv 1) (fun _ _=>rfl)))) ZR)
    (Zj (Zu Ze))),?_⟩
  clear hu hr
  try dsimp only [L2.cxK,L2.cxK2]
  refine L2.let2 ?_;intro I;refine ⟨_,rfl,_,rfl,a,_,rfl,.inl g,_,_,rfl,rfl,_,rfl,vW (fun h=>?_) (fun h=>?_)⟩
  ·have D:j < q.length:=by
    have:=Qba h;rw [Qad] at this;lia
   exact ⟨_,rfl,_,rfl,a,_,_,_,rfl,rfl,g,YI (by rw [Qah,Qab D];rfl),k _⟩
  ·exact k 0
inductive Ja(vs:List V)(H:Hp)(Q:VK):Prop
 | mk (cell:Int) (many most:Nat):(vs=[.int cell,.int (many:Int),.int (most:Int)])->(many<=1000)->(1<=most)->(most<=1000003)->(∀p (ns:List Int) H',H p=none->H' p=some (.lst (ns.map V.int))->ns.length=many->(∀x∈ns,0<=x/\x < (most:Int))->Yb H H'->Q (.ref p) H')->Ja vs H Q
def Xo(K:PySem.W.Frag):Sp:=fun vs H Q _=>Ja vs H Q
theorem Wr (T:Txt K w mg t) (TB:Tbs mg base t):Ym P w K mg base CX0 1 t.bq t.br ["cell","many","most"] (Xo K):=by
 refine T.ai.F.ok ZV (fun vs H Q E h=>?_) (fun cdv A outer s H vs Q E hr h=>?_)
 ·obtain ⟨L,C,g,rfl,O,S,Y,k⟩:=h
  rfl
 ·obtain ⟨L,C,g,rfl,O,S,Y,k⟩:=h
  have hu:=Y6 hr;refine ⟨_,@QSs.out _ _ _ (Zb (Zr (i:=3) ZV.nd rfl (Or.inl rfl) (YQ Za))
    (Zb (Zr (i:=4) ZV.nd rfl (Or.inl rfl) (ZH vV (by rfl) T.og Ze6 (Zg (qv 0) Za)))
    (Zb (Yo (Zv op_ge (qv 4) (Zi Zem Ze Ze) (ZZ _))
    (Zb (Zr (i:=4) ZV.nd rfl (Or.inl rfl) (Zi jO (qv 4) (Zi Zem Ze Ze)))
    (Zb (JE Qb8 rfl (XD rfl T.cq (Zg (qv 1) Za)) (Y3 (i:=5) ZV.nd rfl (Or.inl rfl))
    (Zb (ZU (Yj Qap Qaq Qar Zy (qv 3) (Zg (Zi Yg (qv 4) (qv 2)) Za)))
    (Zj (Zr (i:=4) ZV.nd rfl (Or.inl rfl) (Zi YZ (qv 4) (qv 2))))))
    (Zj (Zu (qv 3))))) ZR)
    (Zb (Zr (i:=6) ZV.nd rfl (Or.inl rfl) (Zi Yg (Zi YY (Zi JT (qv 0) Ze) Ze) Ze))
    (Zb (Zr (i:=7) ZV.nd rfl (Or.inl rfl) (Zi Yg (Zi YY (Zi JT (qv 0) Ze) Ze) Ze))
    (Zb (JE Qb8 rfl (XD rfl T.cq (Zg (qv 1) Za)) (Y3 (i:=5) ZV.nd rfl (Or.inl rfl))
    (Zb (Zr (i:=6) ZV.nd rfl (Or.inl rfl) (Zi Yg (Zi YY (Zi YY (Zi JT (qv 6) Ze) (qv 7)) (qv 5)) Ze))
    (Zb (Zr (i:=7) ZV.nd rfl (Or.inl rfl) (Zi Yg (Zi YY (Zi JT (qv 7) (qv 7)) (qv 6)) Ze))
    (Zj (ZU (Yj Qap Qaq Qar Zy (qv 3) (Zg (Zi Yg (Zi YZ (Zi YY (qv 6) (qv 7)) Ze) (qv 2)) Za)))))))
    (Zj (Zu (qv 3))))))))),?_⟩
  clear hu hr
  try dsimp only [L2.cxK,L2.cxK2]
  refine L2.let7 ?_;intro U6 U5 U4 U3 U2 U1;refine ⟨by show 0<=sizeLine;decide,fun p hp=>?_⟩;refine ⟨_,rfl,_,rfl,?_⟩;refine ⟨_,rfl,_,_,rfl,rfl,⟨by decide,by decide,by decide⟩,_,_,rfl,rfl,_,rfl,vW (fun _=>?_) (fun _=>?_)⟩
  ·refine ⟨_,rfl,_,_,rfl,rfl,⟨by decide,by decide,by decide⟩,_,_,rfl,rfl,?_⟩
   refine ⟨_,rfl,(C:Int),rfl,by lia,by lia,Gp (fun i σ H2=>∃(r:Int) (u:Option V) (I:List Int),σ=[some (.int L),some (.int C),some (.int g),some (.ref p),some (.int r),u,none,none]/\H2 p=some (.lst (I.map V.int))/\I.length=i/\(∀x∈I,0<=x/\x < (g:Int))/\Yb H H2/\i<=C) ⟨_,none,[],rfl,Zc,rfl,(fun _ h=>nomatch h),Zd hp,Qbp _⟩ ?_ ?_⟩
   ·rintro i σ H2 hi G
    refine ZT fun N q=>?_;obtain ⟨r,u,I,rfl,h2,hl,hb,M,R⟩:=G;refine q ?_;clear q N;rw [Qa9] at hi;refine ⟨_,rfl,.inl ⟨rfl,_,SqL.of h2⟩,_,rfl,_,rfl,_,_,rfl,rfl,(by show (0:Int) < g;lia),p,_,_,rfl,rfl,h2,?_,?_⟩
    ·rw [Qad,hl]
     exact Zs (by lia)
    ·refine ⟨_,rfl,_,rfl,_,_,rfl,rfl,.of (by lia) (by lia),_,_,I++[r % g],rfl,?_,?_,?_,?_,hi⟩
     ·rw [Zc,Qbm]
      rfl
     ·rw [Qaf,hl]
      rfl
     ·exact kx hb ⟨Qbi _ (by lia),Qbb _ (by lia)⟩
     ·exact YM M hp
   ·rintro σ H2 G
    refine ZT fun N q=>?_;obtain ⟨r,u,I,rfl,h2,hl,hb,M,R⟩:=G;refine q ?_;clear q N;rw [Qa9] at hl;exact ⟨_,rfl,k p I H2 hp h2 hl hb M⟩
  ·refine ⟨_,rfl,_,_,rfl,rfl,.inr (.inr ⟨by decide,by decide⟩),_,_,rfl,rfl,_,_,rfl,rfl,(by show (0:Int) < 2147483629;decide),?_⟩
   refine ⟨_,rfl,_,_,rfl,rfl,.inr (.inr ⟨by decide,by decide⟩),_,_,rfl,rfl,_,_,rfl,rfl,(by show (0:Int) < 1000000007;decide),?_⟩;refine ⟨_,rfl,(C:Int),rfl,by lia,by lia,Gp (fun i σ H2=>∃(r one two:Int) (u:Option V) (I:List Int),σ=[some (.int L),some (.int C),some (.int g),some (.ref p),some (.int r),u,some (.int one),some (.int two)]/\0<=one/\one < 2147483629/\0<=two/\two < 1000000007/\H2 p=some (.lst (I.map V.int))/\I.length=i/\(∀x∈I,0<=x/\x < (g:Int))/\Yb H H2/\i<=C) ⟨_,_,_,none,[],rfl,Qbi _ (by decide),Qbb _ (by decide),Qbi _ (by decide),Qbb _ (by decide),Zc,rfl,(fun _ h=>nomatch h),Zd hp,Qbp _⟩ ?_ ?_⟩
   ·rintro i σ H2 hi G
    refine ZT fun N q=>?_;obtain ⟨r,one,two,u,I,rfl,o0,o1,t0,t1,h2,hl,hb,M,R⟩:=G;refine q ?_;clear q N;rw [Qa9] at hi;refine ⟨_,rfl,_,_,rfl,rfl,.inr (.inr ⟨by decide,by decide⟩),_,rfl,_,_,rfl,rfl,_,rfl,_,_,rfl,rfl,_,_,rfl,rfl,(by show (0:Int) < 2147483629;decide),?_⟩
    try dsimp only
    generalize h1e:(one * 69069 + two + (0 + (i:Int))) % 2147483629=D;have p0:0<=D:=by lia
    have p1:D < 2147483629:=by lia
    refine ⟨_,rfl,_,rfl,_,_,rfl,rfl,.inr (.inl ⟨by lia,by lia⟩),_,rfl,_,_,rfl,rfl,_,_,rfl,rfl,(by show (0:Int) < 1000000007;decide),?_⟩
    try dsimp only
    generalize h2e:(two * two + D) % 1000000007=J;have Z:0<=J:=by lia
    have q1:J < 1000000007:=by lia
    refine ⟨_,rfl,.inl ⟨rfl,_,SqL.of h2⟩,_,rfl,_,rfl,_,_,rfl,rfl,_,_,rfl,rfl,.of (by decide) (by decide),_,rfl,_,_,rfl,rfl,(by show (0:Int) < g;lia),p,_,_,rfl,rfl,h2,?_,?_⟩
    ·rw [Qad,hl]
     exact Zs (by lia)
    ·refine ⟨_,D,J,_,I++[(D + J) / 16 % g],rfl,p0,p1,Z,q1,?_,?_,?_,?_,hi⟩
     ·rw [Zc,Qbm]
      rfl
     ·rw [Qaf,hl]
      rfl
     ·exact kx hb ⟨Qbi _ (by lia),Qbb _ (by lia)⟩
     ·exact YM M hp
   ·rintro σ H2 G
    refine ZT fun N q=>?_;obtain ⟨r,one,two,u,I,rfl,o0,o1,t0,t1,h2,hl,hb,M,R⟩:=G;refine q ?_;clear q N;rw [Qa9] at hl;exact ⟨_,rfl,k p I H2 hp h2 hl hb M⟩
inductive GF(vs:List V)(H:Hp)(Q:VK):Prop
 | mk (n:Int) (tn:Addr) (ys:List Str):(vs=[.int n,.ref tn])->(0<=n)->(H tn=some (.tup (ys.map V.str)))->(ys.length<=1000)->(∀p w H',H p=none->H' p=some (.tup [w])->Zav ys w->Yb H H'->Q (.ref p) H')->GF vs H Q
def Gk(K:PySem.W.Frag):Sp:=fun vs H Q _=>GF vs H Q
theorem vP (T:Txt K w mg t) (L:Tbs mg base t):Ym P w K mg base CX0 1 t.mh t.mi ["number","names"] (Gk K):=by
 refine T.ft.F.ok vL (fun vs H Q E h=>?_) (fun D A outer s H vs Q E hr h=>?_)
 ·obtain ⟨n,g,ys,rfl,hn,q,hl,k⟩:=h
  rfl
 ·obtain ⟨n,g,ys,rfl,hn,q,hl,k⟩:=h
  have hu:=Y6 hr;refine ⟨_,@QSs.out _ _ _ (Zb (Yo (wK (uy (Zv gT (Zi Yg (qv 0) Ze) Ze (ZZ _)) (yR (Zv Zf7 (ZH Z0 (by rfl) T.ao YN (Zg (qv 1) Za)) Ze (ZZ _)))))
    (Zj (Zu (Zl (Zg (Zx ZX (qv 1) (Zi Yg (Zi YZ (qv 0) Ze) (ZH Z0 (by rfl) T.ao YN (Zg (qv 1) Za))) (fun _ _=>rfl)) Za)))) ZR)
    (Zb (Yo (Zv Xp (Zi Yg (qv 0) Ze) Ze (ZZ _))
    (Zj (Zu (Zl (Zg (Zi Yg (Zi YZ (qv 0) Ze) Ze) Za)))) ZR)
    (Zj (Zu (Zl (Zg (Zi Yg (Zi YZ (qv 0) Ze) Ze) Za)))))),?_⟩
  clear hu hr
  try dsimp only [L2.cxK,L2.cxK2]
  refine L2.let3 ?_;intro M I;have fin:∀z:Int,0<=z->z < 1000->∀p,H p=none->Q (.ref p) (upd H p (.tup [.int z])):=fun z J h1 p hp=>k p _ _ hp Zc (.inr ⟨z,rfl,J,h1⟩) (Zd hp);have rest:I { nx:=fun _ H'=>Q .non H',rt:=Q } [some (.int n),some (.ref g)] H:=by
   refine ⟨_,rfl,_,_,rfl,rfl,(by show (0:Int) < 20;decide),rfl,_,rfl,vW (fun _=>?_) (fun _=>?_)⟩
   ·refine ⟨_,rfl,_,_,rfl,rfl,.of (by decide) (by decide),_,_,rfl,rfl,(by show (0:Int) < 3;decide),by show 1<=sizeLine;decide,fun p hp=>?_⟩
    exact fin _ (Qbi _ (by decide)) (by have:=Qbb (n / 20) (show (0:Int) < 3 by decide);lia) p hp
   ·refine ⟨_,rfl,_,_,rfl,rfl,.of (by decide) (by decide),_,_,rfl,rfl,(by show (0:Int) < 1000;decide),by show 1<=sizeLine;decide,fun p hp=>?_⟩
    exact fin _ (Qbi _ (by decide)) (Qbb _ (by decide)) p hp
  refine ⟨_,rfl,_,_,rfl,rfl,(by show (0:Int) < 20;decide),_,_,rfl,rfl,_,rfl,vW (fun _=>?_) (fun _=>?_)⟩
  ·refine ⟨_,rfl,g,_,rfl,.inr (SqT.of q),_,_,rfl,rfl,_,rfl,vW (fun hg=>?_) (fun _=>rest)⟩
   have hpos:0 < ys.length:=by
    have:=Qba hg;rw [Qad] at this;lia
   have hp:(0:Int) < ((ys.map V.str).length:Int):=by rw [Qad];lia
   obtain ⟨y,C,G⟩:=xc (ys:=ys) (i:=n / 20 % ((ys.map V.str).length:Int)) (Qbi _ (by lia)) (by have:=Qbb (n / 20) hp;rw [Qad] at this ⊢;exact this);exact ⟨_,rfl,_,rfl,_,_,rfl,rfl,.of (by decide) (by decide),_,rfl,g,_,rfl,.inr (SqT.of q),_,_,rfl,rfl,hp,g,_,_,_,rfl,rfl,SqT.of q,G,by show 1<=sizeLine;decide,fun p hp=>k p _ _ hp Zc (.inl ⟨y,C,rfl⟩) (Zd hp)⟩
  ·exact X9 rest
inductive GG(vs:List V)(H:Hp)(Q:VK):Prop
 | mk (n l:Int):(vs=[.int n,.int l])->(0<=n)->(∀(y:Str) H',(y = "" \/ y∈Ji)->(l=0->y∉qz)->Yb H H'->Q (.str y) H')->GG vs H Q
def xT(K:PySem.W.Frag):Sp:=fun vs H Q _=>GG vs H Q
def wdA:List Str:=["","","","","","","not","neg","twice","low","and","or","odd","add","sub"]
def wdB:List Str:=["add","sub","pick","pick","odd"]
def Zfx:List Str:=["","","","","","","not","neg","twice","low","and","or","odd","add","sub","add","sub","pick","pick","odd"]
theorem wrd_ok:∀y∈Zfx,y = "" \/ y∈Ji:=by decide +kernel
theorem vQ (T:Txt K w mg t) (TB:Tbs mg base t):Ym P w K mg base CX0 1 t.mj t.ml ["number","left"] (xT K):=by
 refine T.fu.F.ok WS (fun vs H Q E h=>?_) (fun cdv A outer s H vs Q E hr h=>?_)
 ·obtain ⟨n,l,rfl,hn,k⟩:=h
  rfl
 ·obtain ⟨n,l,rfl,hn,k⟩:=h
  have hu:=Y6 hr;refine ⟨_,@QSs.out _ _ _ (Zb (Zr (i:=2) WS.nd rfl (Or.inl rfl) (YQ (Zg Zf (Zg Zf (Zg Zf (Zg Zf (Zg Zf (Zg Zf (Zg Zf (Zg Zf (Zg Zf (Zg Zf (Zg Zf (Zg Zf (Zg Zf (Zg Zf (Zg Zf Za)))))))))))))))))
    (Zb (Zr (i:=2) WS.nd rfl (Or.inl rfl) (Zi jX (qv 2) (YQ (Zg Zf (Zg Zf (Zg Zf (Zg Zf (Zg Zf Za))))))))
    (Zb (Zr (i:=3) WS.nd rfl (Or.inl rfl) (Zx Zt (qv 2) (Zi Yg (qv 0) Ze) (fun _ _=>rfl)))
    (Zb (Yo (wK (uy (Zv Xp (qv 1) Ze (ZZ _)) (yR (Zv YJ (qv 3) (Zl (Zg Zf (Zg Zf (Zg Zf Za)))) (by with_unfolding_all rfl)))))
    (Zj (Zu Zf)) ZR)
    (Zb (Yo (wK (uy (Zv Xp (qv 1) Ze (ZZ _)) (yR (Zv YJ (qv 3) (Zl (Zg Zf (Zg Zf Za))) (by with_unfolding_all rfl)))))
    (Zj (Zu (Zx Zt (YQ (Zg Zf (Zg Zf (Zg Zf Za)))) (Zi Yg (Zi YZ (qv 0) Ze) Ze) (fun _ _=>rfl)))) ZR)
    (Zj (Zu (qv 3)))))))),?_⟩
  clear hu hr
  try dsimp only [L2.cxK,L2.cxK2]
  refine L2.let6 ?_;intro U5 U4 U3 U2 U1;have M:0<=n % 20/\n % 20 < 20:=⟨Qbi _ (by decide),Qbb _ (by decide)⟩;refine ⟨by show 15<=sizeLine;decide,fun L S=>Zo ⟨_,rfl,by show 5<=sizeLine;decide,fun D I=>⟨L,D,_,_,rfl,rfl,Zd I _ _ Zc,Zc,by show 20<=sizeLine;decide,fun m hm=>Zo ?_⟩⟩⟩;have Z:Yb H (upd (upd (upd H L (.lst (wdA.map V.str))) D (.lst (wdB.map V.str))) m (.lst (Zfx.map V.str))):=(Zd (o:=.lst (wdA.map V.str)) S).trans ((Zd (o:=.lst (wdB.map V.str)) I).trans (Zd (o:=.lst (Zfx.map V.str)) hm));have O:upd (upd (upd H L (.lst (wdA.map V.str))) D (.lst (wdB.map V.str))) m (.lst (Zfx.map V.str)) m=some (.lst (Zfx.map V.str)):=Zc;show U2 _ _ (upd (upd (upd H L (.lst (wdA.map V.str))) D (.lst (wdB.map V.str))) m (.lst (Zfx.map V.str)));generalize upd (upd (upd H L (.lst (wdA.map V.str))) D (.lst (wdB.map V.str))) m (.lst (Zfx.map V.str))=H1 at *;obtain ⟨y,hy,ey⟩:=xc (ys:=Zfx) (i:=n % 20) M.1 M.2;have R:=wrd_ok y hy;refine ⟨_,rfl,_,rfl,_,_,rfl,rfl,(by show (0:Int) < 20;decide),m,_,_,_,rfl,rfl,SqL.of O,ey,Zo ?_⟩;have C:∀(H2:Hp),Yb H H2->(l=0->y∉qz)->U5 { nx:=fun _ H'=>Q .non H',rt:=Q } [some (.int n),some (.int l),some (.ref m),some (.str y)] H2:=fun H2 N h=>⟨_,rfl,k y H2 R h N⟩;have r1:∀z:Str,z∈qz↔(z∈(["neg","twice","low"]:List Str)\/z∈(["add","sub"]:List Str)):=fun z=>by
   unfold qz;simp only [Qas,Qa6,Qc1]
   constructor
   ·rintro (h | h | h | h | h) <;> simp [h]
   ·rintro ((h | h | h) | (h | h)) <;> simp [h]
  have two:∀(H2:Hp),Yb H H2->(l=0->y∉(["neg","twice","low"]:List Str))->U4 { nx:=fun _ H'=>Q .non H',rt:=Q } [some (.int n),some (.int l),some (.ref m),some (.str y)] H2:=fun H2 N h=>by
   refine ⟨_,rfl,rfl,_,rfl,?_⟩
   by_cases hl:l=0
   ·rw [Qaj (congrArg V.int hl)]
    refine WC ⟨_,rfl,by show 2<=sizeLine;decide,fun q Y=>⟨q,_,rfl,.inr (SqT.of Zc),rfl,rfl,_,rfl,?_⟩⟩;show if inV (.str y) ((["add","sub"]:List Str).map V.str)=true then _ else _;rw [Ya];have G:=N.trans (Zd (o:=.tup [.str "add",.str "sub"]) Y)
    by_cases h2:y∈(["add","sub"]:List Str)
    ·rw [Qaj h2]
     obtain ⟨z,hz,ez⟩:=xc (ys:=["and","or","odd"]) (i:=n / 20 % 3) (Qbi _ (by decide)) (Qbb _ (by decide));refine WC ⟨by show 3<=sizeLine;decide,fun g hg=>⟨_,rfl,_,_,rfl,rfl,.of (by decide) (by decide),_,_,rfl,rfl,(by show (0:Int) < 3;decide),g,_,_,_,rfl,rfl,SqL.of Zc,ez,?_⟩⟩;obtain ⟨g1,g2⟩:=(by decide +kernel:∀z∈(["and","or","odd"]:List Str),z∈Ji/\z∉qz) z hz;exact k z _ (.inr g1) (fun _=>g2) (G.trans (Zd hg))
    ·rw [Qak h2]
     exact X9 (C _ G fun J z=>((r1 y).mp z).elim (h J) h2)
   ·rw [Qak fun z=>hl (by injection z)]
    exact X9 (C _ N fun J=>absurd J hl)
  refine ⟨_,rfl,rfl,_,rfl,?_⟩
  by_cases hl:l=0
  ·rw [Qaj (congrArg V.int hl)]
   refine WC ⟨_,rfl,by show 3<=sizeLine;decide,fun q Y=>⟨q,_,rfl,.inr (SqT.of Zc),rfl,rfl,_,rfl,?_⟩⟩;show if inV (.str y) ((["neg","twice","low"]:List Str).map V.str)=true then _ else _;rw [Ya];have G:=Z.trans (Zd (o:=.tup [.str "neg",.str "twice",.str "low"]) Y)
   by_cases h2:y∈(["neg","twice","low"]:List Str)
   ·rw [Qaj h2]
    exact WC (k "not" _ (.inr (by decide +kernel)) (fun _=>by decide +kernel) G)
   ·rw [Qak h2]
    exact X9 (two _ G fun _=>h2)
  ·rw [Qak fun z=>hl (by injection z)]
   exact X9 (two _ Z fun J=>absurd J hl)
inductive Jb(vs:List V)(H:Hp)(Q:VK):Prop
 | mk (p:Addr) (ws:List V):(vs=[.ref p])->((H p=some (.lst ws)\/H p=some (.tup ws)))->((∀w∈ws,(∃y,w=.str y)\/∃z,w=.int z))->(ws.length<=100)->(∀H',Yb H H'->Q (.int (ws.filter vt).length) H')->Jb vs H Q
def JL(K:PySem.W.Frag):Sp:=fun vs H Q _=>Jb vs H Q
theorem zt (T:Txt K w mg t) (TB:Tbs mg base t):Ym P w K mg base CX0 1 t.ib t.ic ["words"] (JL K):=by
 refine T.dc.F.ok zk (fun vs H Q E h=>?_) (fun cdv A outer s H vs Q E hr h=>?_)
 ·obtain ⟨p,C,rfl,hp,hw,hl,k⟩:=h
  rfl
 ·obtain ⟨p,C,rfl,hp,hw,hl,k⟩:=h
  have hu:=Y6 hr;refine ⟨_,@QSs.out _ _ _ (Zj (Zu (ZH Z0 (by rfl) T.ao YN (Zg (XE (⟨by rfl,by decide +kernel,by decide +kernel,by rfl,by decide +kernel,by decide +kernel,by rfl,by decide +kernel⟩:Ys (Zk X5) _ ["words"] "word" [] []) (QI.or (XC (qv 0)) (z6 (qv 0))) (fun _ _ _ _=>(uB (Zv (show OpR _ (compareOp .In) (rIn K false) from YJ) (qv 0) (Zl (Zg Zf (Zg Zf (Zg Zf (Zg Zf (Zg Zf Za)))))) (by with_unfolding_all rfl)))) (fun _ _ _ _=>(qv 0))) Za)))),?_⟩;clear hu
  try dsimp only [L2.cxK,L2.cxK2]
  have J:∀x∈C,XX x=true/\inV x ((["add","sub","neg","twice","low"]:List Str).map V.str)=vt x:=fun x hx=>by
   rcases hw x hx with ⟨y,rfl⟩ | ⟨z,rfl⟩
   ·refine ⟨rfl,?_⟩
    rw [Ya];show decide _=decide _;refine Qdh.mpr ?_;unfold qz;simp only [Qas,Qa6,Qc1]
    constructor
    ·rintro (h | h | h | h | h) <;> simp [h]
    ·rintro (h | h | h | h | h) <;> simp [h]
   ·exact ⟨rfl,qg z _⟩
  have fin:∀(zs:List V) (H1:Hp),zs=(C.take C.length).filter vt/\Yb H H1->∀q,H1 q=none->(tCB (fun xs H Q=>∃p ys,xs=[V.ref p]/\(SqL K H p ys\/SqT K H p ys)/\Q (V.int ys.length) H) (fun _ H Q=>Q [.ref q] H)) [] (upd H1 q (.lst zs)) Q:=by
   rintro zs H1 Z q D;refine ZT fun Gz M=>?_;obtain ⟨rfl,N⟩:=Z;refine M ?_;clear M Gz;refine ⟨q,_,rfl,.inl (SqL.of Zc),?_⟩;rw [Qb2];exact k _ (N.trans (Zd D))
  have G:∀i,((C.take i).filter vt).length<=sizeLine:=fun i=>Qa5 (Zs (Qbg (Qek _ _) (by rw [Qa1];lia)));have I:∀(i:Nat) (x:V),C[i]?=some x->((C.take (i + 1)).filter vt)=if vt x=true then (C.take i).filter vt++[x] else (C.take i).filter vt:=fun i x hx=>by
   rw [take_snoc hx,Qef,Qdf]
   split
   ·rfl
   ·rw [List.filter_nil,Qbl]
  rcases hp with hp | hp
  ·refine .inl ⟨_,rfl,p,rfl,⟨_,SqL.of hp⟩,XG (K:=K) (a:=p) (xs:=C) (fun i zs H'=>zs=(C.take i).filter vt/\Yb H H') ⟨rfl,Yb.refl _⟩ (fun i zs H' h=>by rw [h.1];exact G i) (fun i zs H' h=>SqL.of (h.2 _ _ hp)) (fun i x zs H1 R O hx h=>?_) (fun zs H1 h q D=>fin zs H1 h q D)⟩
   obtain ⟨rfl,N⟩:=h;obtain ⟨Y,S⟩:=J x (Qao hx);refine ⟨_,rfl,by show 5<=sizeLine;decide,fun q D=>⟨q,_,rfl,.inr (SqT.of Zc),Y,rfl,_,rfl,?_⟩⟩;show if inV x ((["add","sub","neg","twice","low"]:List Str).map V.str)=true then _ else _;rw [S];have L:=N.trans (Zd (o:=.tup [.str "add",.str "sub",.str "neg",.str "twice",.str "low"]) D);have g:=I i x hx
   by_cases hr:vt x=true
   ·rw [Qa4 hr] at g ⊢
    exact ⟨_,rfl,O _ _ ⟨g.symm,L⟩⟩
   ·rw [Qax hr] at g ⊢
    exact O _ _ ⟨g.symm,L⟩
  ·refine .inr ⟨_,rfl,p,rfl,⟨_,SqT.of hp⟩,J2 (K:=K) (a:=p) (xs:=C) (fun i zs H'=>zs=(C.take i).filter vt/\Yb H H') ⟨rfl,Yb.refl _⟩ (fun i zs H' h=>by rw [h.1];exact G i) (fun i zs H' h=>SqT.of (h.2 _ _ hp)) (fun i x zs H1 R O hx h=>?_) (fun zs H1 h q D=>fin zs H1 h q D)⟩
   obtain ⟨rfl,N⟩:=h;obtain ⟨Y,S⟩:=J x (Qao hx);refine ⟨_,rfl,by show 5<=sizeLine;decide,fun q D=>⟨q,_,rfl,.inr (SqT.of Zc),Y,rfl,_,rfl,?_⟩⟩;show if inV x ((["add","sub","neg","twice","low"]:List Str).map V.str)=true then _ else _;rw [S];have L:=N.trans (Zd (o:=.tup [.str "add",.str "sub",.str "neg",.str "twice",.str "low"]) D);have g:=I i x hx
   by_cases hr:vt x=true
   ·rw [Qa4 hr] at g ⊢
    exact ⟨_,rfl,O _ _ ⟨g.symm,L⟩⟩
   ·rw [Qax hr] at g ⊢
    exact O _ _ ⟨g.symm,L⟩
inductive W8(vs:List V)(H:Hp)(Q:VK):Prop
 | mk (pick:Int) (a b c:Addr) (P X R:List V):(vs=[.int pick,.ref a,.ref b,.ref c])->(H a=some (.tup P))->(H b=some (.tup X))->(H c=some (.tup R))->(P.length<=7)->(X.length<=7)->(R.length<=7)->(∀p u v (w:Tr × Tr) H',w∈Zfv->H' p=some (.tup [.ref u,.ref v])->H' u=some (.tup (w.1.flat P X R))->H' v=some (.tup (w.2.flat P X R))->Yb H H'->Q (.ref p) H')->W8 vs H Q
def Jy(K:PySem.W.Frag):Sp:=fun vs H Q _=>W8 vs H Q
theorem xU (T:Txt K w mg t) (TB:Tbs mg base t):Ym P w K mg base CX0 1 t.ff t.fg ["pick","p","q","r"] (Jy K):=by
 refine T.ck.F.ok Jt (fun vs H Q E h=>?_) (fun cdv A outer s H vs Q E hr h=>?_)
 ·obtain ⟨C,a,b,c,P,X,R,rfl,ha,hb,hc,lP,lX,lR,k⟩:=h
  rfl
 ·obtain ⟨C,a,b,c,P,X,R,rfl,ha,hb,hc,lP,lX,lR,k⟩:=h
  have hu:=Y6 hr;refine ⟨_,@QSs.out _ _ _ (Zb (Zr (i:=4) Jt.nd rfl (Or.inl rfl) (YQ (Zg (Zl (Zg (Zi Zh (Zi Zh (Zl (Zg Zf Za)) (qv 1)) (qv 2)) (Zg (Zi Zh (Zi Zh (Zi Zh (Zi Zh (Zi Zh (Zl (Zg Zf (Zg Zf Za))) (qv 1)) (qv 2)) (Zl (Zg Zf Za))) (qv 1)) (qv 2)) Za))) Za)))
    (Zb (ZU (Yj Qap Qaq Qar Zy (qv 4) (Zg (Zl (Zg (Zi Zh (Zi Zh (Zl (Zg Zf Za)) (qv 1)) (qv 2)) (Zg (Zi Zh (Zi Zh (Zl (Zg Zf Za)) (qv 2)) (qv 1)) Za))) Za)))
    (Zb (ZU (Yj Qap Qaq Qar Zy (qv 4) (Zg (Zl (Zg (Zi Zh (Zi Zh (Zl (Zg Zf Za)) (qv 1)) (qv 2)) (Zg (Zi Zh (Zi Zh (Zi Zh (Zl (Zg Zf Za)) (qv 1)) (Zl (Zg Zf Za))) (qv 2)) Za))) Za)))
    (Zb (ZU (Yj Qap Qaq Qar Zy (qv 4) (Zg (Zl (Zg (Zi Zh (Zi Zh (Zl (Zg Zf Za)) (qv 1)) (qv 2)) (Zg (Zi Zh (Zi Zh (Zi Zh (Zi Zh (Zi Zh (Zl (Zg Zf (Zg Zf Za))) (qv 1)) (qv 2)) (Zl (Zg Zf Za))) (qv 1)) (qv 2)) Za))) Za)))
    (Zb (ZU (Yj Qap Qaq Qar Zy (qv 4) (Zg (Zl (Zg (Zi Zh (Zl (Zg Zf Za)) (qv 1)) (Zg (Zi Zh (Zi Zh (Zl (Zg Zf (Zg Zf Za))) (qv 1)) (Zl (Zg Ze Za))) Za))) Za)))
    (Zb (ZU (Yj Qap Qaq Qar Zy (qv 4) (Zg (Zl (Zg (Zi Zh (Zl (Zg Zf Za)) (qv 1)) (Zg (Zi Zh (Zi Zh (Zl (Zg Zf Za)) (qv 1)) (qv 1)) Za))) Za)))
    (Zb (ZU (Yj Qap Qaq Qar Zy (qv 4) (Zg (Zl (Zg (Zi Zh (Zl (Zg Zf Za)) (qv 1)) (Zg (Zi Zh (Zi Zh (Zi Zh (Zl (Zg Zf Za)) (qv 1)) (Zl (Zg Zf Za))) (qv 1)) Za))) Za)))
    (Zb (ZU (Yj Qap Qaq Qar Zy (qv 4) (Zg (Zl (Zg (Zi Zh (Zi Zh (Zi Zh (Zl (Zg Zf Za)) (qv 1)) (qv 2)) (qv 3)) (Zg (Zi Zh (Zi Zh (Zi Zh (Zi Zh (Zi Zh (Zi Zh (Zl (Zg Zf Za)) (qv 3)) (Zl (Zg Zf Za))) (qv 1)) (Zl (Zg Zf Za))) (qv 2)) (qv 3)) Za))) Za)))
    (Zb (ZU (Yj Qap Qaq Qar Zy (qv 4) (Zg (Zl (Zg (Zi Zh (Zi Zh (Zl (Zg Zf (Zg Zf Za))) (qv 1)) (qv 2)) (Zg (Zi Zh (Zi Zh (Zi Zh (Zl (Zg Zf (Zg Zf Za))) (qv 1)) (Zl (Zg Zf Za))) (qv 2)) Za))) Za)))
    (Zb (ZU (Yj Qap Qaq Qar Zy (qv 4) (Zg (Zl (Zg (Zi Zh (Zi Zh (Zl (Zg Zf Za)) (qv 1)) (qv 2)) (Zg (Zi Zh (Zi Zh (Zi Zh (Zi Zh (Zi Zh (Zl (Zg Zf (Zg Zf Za))) (qv 1)) (qv 2)) (Zl (Zg Zf (Zg Zf Za)))) (qv 1)) (qv 2)) Za))) Za)))
    (Zb (ZU (Yj Qap Qaq Qar Zy (qv 4) (Zg (Zl (Zg (Zi Zh (Zi Zh (Zl (Zg Zf Za)) (qv 1)) (qv 2)) (Zg (Zi Zh (Zi Zh (Zl (Zg Zf (Zg Zf (Zg Zf Za)))) (qv 1)) (qv 2)) Za))) Za)))
    (Zb (ZU (Yj Qap Qaq Qar Zy (qv 4) (Zg (Zl (Zg (Zi Zh (Zi Zh (Zl (Zg Zf Za)) (qv 1)) (qv 2)) (Zg (Zi Zh (Zi Zh (Zi Zh (Zl (Zg Zf (Zg Zf (Zg Zf Za)))) (qv 1)) (Zl (Zg Zf Za))) (qv 2)) Za))) Za)))
    (Zb (ZU (Yj Qap Qaq Qar Zy (qv 4) (Zg (Zl (Zg (qv 1) (Zg (Zi Zh (Zl (Zg Zf (Zg Zf Za))) (qv 1)) Za))) Za)))
    (Zb (ZU (Yj Qap Qaq Qar Zy (qv 4) (Zg (Zl (Zg (Zi Zh (Zi Zh (Zl (Zg Zf Za)) (qv 1)) (qv 2)) (Zg (Zi Zh (Zi Zh (Zi Zh (Zi Zh (Zi Zh (Zl (Zg Zf (Zg Zf Za))) (qv 1)) (qv 2)) (Zl (Zg Zf Za))) (qv 1)) (qv 2)) Za))) Za)))
    (Zb (ZU (Yj Qap Qaq Qar Zy (qv 4) (Zg (Zl (Zg (Zi Zh (Zi Zh (Zl (Zg Zf Za)) (qv 1)) (qv 1)) (Zg (Zl (Zg Ze Za)) Za))) Za)))
    (Zb (ZU (Yj Qap Qaq Qar Zy (qv 4) (Zg (Zl (Zg (qv 1) (Zg (Zi Zh (Zi Zh (Zi Zh (Zi Zh (Zl (Zg Zf Za)) (qv 2)) (Zl (Zg Zf Za))) (qv 1)) (qv 2)) Za))) Za)))
    (Zj (Zu (Zx Zt (qv 4) (Zi Yg (qv 0) Ze) (fun _ _=>rfl)))))))))))))))))))),?_⟩
  clear hu hr
  try dsimp only [L2.cxK,L2.cxK2]
  show Yy (Zek (Ziy _) (JS 4)) _ _ [some (.int C),some (.ref a),some (.ref b),some (.ref c),none] H;have m1:∀v,Gives (jf (Y1 (tC v) qS)) [some (.int C),some (.ref a),some (.ref b),some (.ref c),none] H [v] 1:=fun v=>Wd 1 (fun _ _ h=>h) (Qai _) (by decide);have m2:∀v u,Gives (jf (Y1 (tC v) (Y1 (tC u) qS))) [some (.int C),some (.ref a),some (.ref b),some (.ref c),none] H [v,u] 2:=fun v u=>Wd 2 (fun _ _ h=>h) (Qai _) (by decide);have m3:∀v u w,Gives (jf (Y1 (tC v) (Y1 (tC u) (Y1 (tC w) qS)))) [some (.int C),some (.ref a),some (.ref b),some (.ref c),none] H [v,u,w] 3:=fun v u w=>Wd 3 (fun _ _ h=>h) (Qai _) (by decide);have p':Gives (JC 1) [some (.int C),some (.ref a),some (.ref b),some (.ref c),none] H P 7:=X1 rfl ha lP;have q':Gives (JC 2) [some (.int C),some (.ref a),some (.ref b),some (.ref c),none] H X 7:=X1 rfl hb lX;have r':Gives (JC 3) [some (.int C),some (.ref a),some (.ref b),some (.ref c),none] H R 7:=X1 rfl hc lR;refine Zce ?_;have D:=(Zm (Zm (m1 (.str "add")) p') q');have G:=(Zm (Zm (Zm (Zm (Zm (m2 (.str "add") (.str "or")) p') q') (m1 (.str "and"))) p') q');refine Zcd D G fun ps zs1 H1 J h1 P1 s1=>Zo ?_;clear D G;show Yy (wC _) _ _ [some (.int C),some (.ref a),some (.ref b),some (.ref c),some (.ref ps)] H1;have l1:∀v,Gives (jf (Y1 (tC v) qS)) [some (.int C),some (.ref a),some (.ref b),some (.ref c),some (.ref ps)] H [v] 1:=fun v=>Wd 1 (fun _ _ h=>h) (Qai _) (by decide);have l2:∀v u,Gives (jf (Y1 (tC v) (Y1 (tC u) qS))) [some (.int C),some (.ref a),some (.ref b),some (.ref c),some (.ref ps)] H [v,u] 2:=fun v u=>Wd 2 (fun _ _ h=>h) (Qai _) (by decide);have l3:∀v u w,Gives (jf (Y1 (tC v) (Y1 (tC u) (Y1 (tC w) qS)))) [some (.int C),some (.ref a),some (.ref b),some (.ref c),some (.ref ps)] H [v,u,w] 3:=fun v u w=>Wd 3 (fun _ _ h=>h) (Qai _) (by decide);have p:Gives (JC 1) [some (.int C),some (.ref a),some (.ref b),some (.ref c),some (.ref ps)] H P 7:=X1 rfl ha lP;have q:Gives (JC 2) [some (.int C),some (.ref a),some (.ref b),some (.ref c),some (.ref ps)] H X 7:=X1 rfl hb lX;have r:Gives (JC 3) [some (.int C),some (.ref a),some (.ref b),some (.ref c),some (.ref ps)] H R 7:=X1 rfl hc lR;have n1:zs1.length<=1:=by rw [P1.l];exact Qai _
  have I:([some (.int C),some (.ref a),some (.ref b),some (.ref c),some (.ref ps)]:St)[4]?=some (some (.ref ps)):=rfl;refine Xh ?_;have D:=(Zm (Zm (l1 (.str "add")) p) q);have G:=(Zm (Zm (l1 (.str "add")) q) p);refine Y5 I J h1 P1 n1 s1 D G (by decide) fun zs2 H2 h2 P2 n2 s2=>?_;clear D G;refine Xh ?_;have D:=(Zm (Zm (l1 (.str "sub")) p) q);have G:=(Zm (Zm (Zm (l1 (.str "add")) p) (l1 (.str "neg"))) q);refine Y5 I J h2 P2 n2 s2 D G (by decide) fun zs3 H3 h3 P3 n3 s3=>?_;clear D G;refine Xh ?_;have D:=(Zm (Zm (l1 (.str "odd")) p) q);have G:=(Zm (Zm (Zm (Zm (Zm (l2 (.str "sub") (.str "or")) p) q) (l1 (.str "and"))) p) q);refine Y5 I J h3 P3 n3 s3 D G (by decide) fun zs4 H4 h4 P4 n4 s4=>?_;clear D G;refine Xh ?_;have D:=(Zm (l1 (.str "neg")) p);have G:=(Zm (Zm (l2 (.str "not") (.str "sub")) p) (l1 (.int 1)));refine Y5 I J h4 P4 n4 s4 D G (by decide) fun zs5 H5 h5 P5 n5 s5=>?_;clear D G;refine Xh ?_;have D:=(Zm (l1 (.str "twice")) p);have G:=(Zm (Zm (l1 (.str "add")) p) p);refine Y5 I J h5 P5 n5 s5 D G (by decide) fun zs6 H6 h6 P6 n6 s6=>?_;clear D G;refine Xh ?_;have D:=(Zm (l1 (.str "low")) p);have G:=(Zm (Zm (Zm (l1 (.str "and")) p) (l1 (.str "neg"))) p);refine Y5 I J h6 P6 n6 s6 D G (by decide) fun zs7 H7 h7 P7 n7 s7=>?_;clear D G;refine Xh ?_;have D:=(Zm (Zm (Zm (l1 (.str "pick")) p) q) r);have G:=(Zm (Zm (Zm (Zm (Zm (Zm (l1 (.str "odd")) r) (l1 (.str "and"))) p) (l1 (.str "odd"))) q) r);refine Y5 I J h7 P7 n7 s7 D G (by decide) fun zs8 H8 h8 P8 n8 s8=>?_;clear D G;refine Xh ?_;have D:=(Zm (Zm (l2 (.str "not") (.str "and")) p) q);have G:=(Zm (Zm (Zm (l2 (.str "or") (.str "not")) p) (l1 (.str "not"))) q);refine Y5 I J h8 P8 n8 s8 D G (by decide) fun zs9 H9 h9 P9 n9 s9=>?_;clear D G;refine Xh ?_;have D:=(Zm (Zm (l1 (.str "add")) p) q);have G:=(Zm (Zm (Zm (Zm (Zm (l2 (.str "add") (.str "odd")) p) q) (l2 (.str "twice") (.str "and"))) p) q);refine Y5 I J h9 P9 n9 s9 D G (by decide) fun zs10 H10 h10 P10 n10 s10=>?_;clear D G;refine Xh ?_;have D:=(Zm (Zm (l1 (.str "sub")) p) q);have G:=(Zm (Zm (l3 (.str "not") (.str "add") (.str "not")) p) q);refine Y5 I J h10 P10 n10 s10 D G (by decide) fun zs11 H11 h11 P11 n11 s11=>?_;clear D G;refine Xh ?_;have D:=(Zm (Zm (l1 (.str "or")) p) q);have G:=(Zm (Zm (Zm (l3 (.str "not") (.str "and") (.str "not")) p) (l1 (.str "not"))) q);refine Y5 I J h11 P11 n11 s11 D G (by decide) fun zs12 H12 Z P12 S s12=>?_;clear D G;refine Xh ?_;have D:=p;have G:=(Zm (l2 (.str "neg") (.str "neg")) p);refine Y5 I J Z P12 S s12 D G (by decide) fun zs13 H13 h13 P13 n13 s13=>?_;clear D G;refine Xh ?_;have D:=(Zm (Zm (l1 (.str "and")) p) q);have G:=(Zm (Zm (Zm (Zm (Zm (l2 (.str "sub") (.str "add")) p) q) (l1 (.str "or"))) p) q);refine Y5 I J h13 P13 n13 s13 D G (by decide) fun zs14 H14 h14 Y n14 s14=>?_;clear D G;refine Xh ?_;have D:=(Zm (Zm (l1 (.str "odd")) p) p);have G:=(l1 (.int 0));refine Y5 I J h14 Y n14 s14 D G (by decide) fun zs15 H15 h15 P15 n15 s15=>?_;clear D G;refine Xh ?_;have D:=p;have G:=(Zm (Zm (Zm (Zm (l1 (.str "odd")) q) (l1 (.str "odd"))) p) q)
  refine Y5 I J h15 P15 n15 s15 D G (by decide) fun O N h16 P16 n16 s16=>?_;clear D G;have PW:Prw N O (Zfv.map fun w=>(w.1.flat P X R,w.2.flat P X R)):=by
   simpa [Zfv,Tr.flat] using P16
  have b16:0<=C % 16/\C % 16 < 16:=⟨Qbi _ (by decide),Qbb _ (by decide)⟩;obtain ⟨j,hj⟩:∃j:Nat,C % 16=(j:Int):=⟨(C % 16).toNat,by lia⟩;have L:j < Zfv.length:=by show j < 16;lia
  refine ZT fun Gz M=>?_;obtain ⟨tt,u,v,g1,g2,g3,g4⟩:=PW.g j _ (by rw [Qah,Qab L];rfl);refine M ?_;clear M Gz;exact ⟨_,rfl,_,rfl,_,_,rfl,rfl,(by show (0:Int) < 16;decide),ps,_,_,_,rfl,rfl,SqL.of h16,by rw [hj];exact YI g1,k tt u v Zfv[j] N (Qb1 L) g2 g3 g4 s16⟩
inductive Jz(vs:List V)(H:Hp)(Q:VK):Prop
 | mk (n:Int) (a c:Addr) (ws R:List V):(vs=[.int n,.ref a,.ref c])->(H a=some (.tup ws))->(H c=some (.tup R))->(ws.length<=100)->(R.length<=7)->(∀p H',H' p=some (.tup (xM n ws R))->Yb H H'->Q (.ref p) H')->Jz vs H Q
def GH(K:PySem.W.Frag):Sp:=fun vs H Q _=>Jz vs H Q
theorem jL (T:Txt K w mg t) (N:Tbs mg base t):Ym P w K mg base CX0 1 t.il t.ip ["number","words","r"] (GH K):=by
 refine T.ay.F.ok jJ (fun vs H Q E h=>?_) (fun M A outer s H vs Q E hr h=>?_)
 ·obtain ⟨n,a,c,I,R,rfl,ha,hc,hl,L,k⟩:=h
  rfl
 ·obtain ⟨n,a,c,I,R,rfl,ha,hc,hl,L,k⟩:=h
  have hu:=Y6 hr;refine ⟨_,@QSs.out _ _ _ (Zb (Yo (Zv Xp (Zi Yg (qv 0) Ze) Ze (ZZ _))
    (Zj (Zu (Zi Zh (Zl (Zg Zf Za)) (qv 1)))) ZR)
    (Zb (Yo (Zv Xp (Zi Yg (qv 0) Ze) Ze (ZZ _))
    (Zj (Zu (Zi Zh (Zi Zh (Zl (Zg Zf Za)) (qv 1)) (qv 2)))) ZR)
    (Zb (Yo (Zv Xp (Zi Yg (qv 0) Ze) Ze (ZZ _))
    (Zj (Zu (Zi Zh (Zi Zh (Zl (Zg Zf Za)) (qv 2)) (qv 1)))) ZR)
    (Zb (Yo (Zv Xp (Zi Yg (qv 0) Ze) Ze (ZZ _))
    (Zj (Zu (Zi Zh (Zi Zh (Zl (Zg Zf Za)) (qv 1)) (qv 2)))) ZR)
    (Zb (Yo (Zv Xp (Zi Yg (qv 0) Ze) Ze (ZZ _))
    (Zj (Zu (Zi Zh (Zl (Zg Zf Za)) (qv 1)))) ZR)
    (Zb (Yo (Zv Xp (Zi Yg (qv 0) Ze) Ze (ZZ _))
    (Zj (Zu (Zi Zh (Zi Zh (Zl (Zg Zf Za)) (qv 2)) (qv 1)))) ZR)
    (Zj (Zu (qv 1))))))))),?_⟩
  clear hu hr
  try dsimp only [L2.cxK,L2.cxK2]
  refine L2.let7 ?_;intro Z U5 S O U2 Y;have ret:∀{te:TE} {J:List V} {m:Nat},Gives te [some (.int n),some (.ref a),some (.ref c)] H J m->J=xM n I R->te [some (.int n),some (.ref a),some (.ref c)] H Q:=fun g e=>g.g H _ (Yb.refl _) fun p H' s h=>k p H' (by rw [h,e]) s;have l1:∀v,Gives (jf (Y1 (tC v) qS)) [some (.int n),some (.ref a),some (.ref c)] H [v] 1:=fun v=>Wd 1 (fun _ _ h=>h) (Qai _) (by decide);have w:Gives (JC 1) [some (.int n),some (.ref a),some (.ref c)] H I 100:=X1 rfl ha hl;have r:Gives (JC 2) [some (.int n),some (.ref a),some (.ref c)] H R 7:=X1 rfl hc L;refine ⟨_,rfl,_,_,rfl,rfl,(by show (0:Int) < 8;decide),rfl,_,rfl,?_⟩
  by_cases h1:n % 8=1
  ·rw [Qaj (congrArg V.int h1)]
   exact WC (ret (Zm (l1 _) w) (by unfold xM;rw [Qa4 h1];rfl))
  rw [Qak fun z=>h1 (by injection z)];refine X9 ?_;refine ⟨_,rfl,_,_,rfl,rfl,(by show (0:Int) < 8;decide),rfl,_,rfl,?_⟩
  by_cases h2:n % 8=2
  ·rw [Qaj (congrArg V.int h2)]
   exact WC (ret (Zm (Zm (l1 _) w) r) (by unfold xM;rw [Qax h1,Qa4 h2];rfl))
  rw [Qak fun z=>h2 (by injection z)];refine X9 ?_;refine ⟨_,rfl,_,_,rfl,rfl,(by show (0:Int) < 8;decide),rfl,_,rfl,?_⟩
  by_cases q:n % 8=3
  ·rw [Qaj (congrArg V.int q)]
   exact WC (ret (Zm (Zm (l1 _) r) w) (by unfold xM;rw [Qax h1,Qax h2,Qa4 q];rfl))
  rw [Qak fun z=>q (by injection z)];refine X9 ?_;refine ⟨_,rfl,_,_,rfl,rfl,(by show (0:Int) < 8;decide),rfl,_,rfl,?_⟩
  by_cases C:n % 8=4
  ·rw [Qaj (congrArg V.int C)]
   exact WC (ret (Zm (Zm (l1 _) w) r) (by unfold xM;rw [Qax h1,Qax h2,Qax q,Qa4 C];rfl))
  rw [Qak fun z=>C (by injection z)];refine X9 ?_;refine ⟨_,rfl,_,_,rfl,rfl,(by show (0:Int) < 8;decide),rfl,_,rfl,?_⟩
  by_cases D:n % 8=5
  ·rw [Qaj (congrArg V.int D)]
   exact WC (ret (Zm (l1 _) w) (by unfold xM;rw [Qax h1,Qax h2,Qax q,Qax C,Qa4 D];rfl))
  rw [Qak fun z=>D (by injection z)];refine X9 ?_;refine ⟨_,rfl,_,_,rfl,rfl,(by show (0:Int) < 8;decide),rfl,_,rfl,?_⟩
  by_cases G:n % 8=6
  ·rw [Qaj (congrArg V.int G)]
   exact WC (ret (Zm (Zm (l1 _) r) w) (by unfold xM;rw [Qax h1,Qax h2,Qax q,Qax C,Qax D,Qa4 G];rfl))
  rw [Qak fun z=>G (by injection z)];refine X9 ?_;exact ret w (by unfold xM;rw [Qax h1,Qax h2,Qax q,Qax C,Qax D,Qax G])
inductive JM(vs:List V)(H:Hp)(Q:VK):Prop
 | mk (m1 m2:Addr) (nm1 nm2:List Str) (b1 b2:Nat) (nx1 nx2:List (List Nat)) (ot1 ot2:List (List V)) (tr:Bool) (A:Nat->Nat->Prop):(vs=[.ref m1,.ref m2])->(M4 H m1 nm1 b1 nx1 ot1)->(M4 H m2 nm2 b2 nx2 ot2)->(Wf nm1 b1 nx1 ot1 tr)->(Wf nm2 b2 nx2 ot2 tr)->(nm1.length=nm2.length)->(AlR nx1 nx2 ot1 ot2 b1 b2 A)->(∀H',Yb H H'->Q (.bl true) H')->JM vs H Q
def qF(K:PySem.W.Frag):Sp:=fun vs H Q _=>JM vs H Q
theorem yH (T:Txt K w mg t) (TB:Tbs mg base t):Ym P w K mg base CX0 1 t.lg t.lj ["one","other"] (qF K):=by
 refine T.bc.F.ok Yw (fun vs H Q E h=>?_) (fun cdv A outer s H vs Q E hr h=>?_)
 ·obtain ⟨m1,m2,nm1,nm2,b1,b2,G,nx2,ot1,ot2,tr,A,rfl,M1,M2,W1,W2,hnn,R,k⟩:=h
  rfl
 ·obtain ⟨m1,m2,nm1,nm2,b1,b2,G,nx2,ot1,ot2,tr,A,rfl,M1,M2,W1,W2,hnn,R,k⟩:=h
  have hu:=Y6 hr;refine ⟨_,@QSs.out _ _ _ (Zb (Zr (i:=2) Yw.nd rfl (Or.inl rfl) (YQ (Zg (Zl (Zg (Zx ZX (qv 0) Ze (fun _ _=>rfl)) (Zg (Zx ZX (qv 1) Ze (fun _ _=>rfl)) Za))) Za)))
    (Zb (Zr (i:=3) Yw.nd rfl (Or.inl rfl) (Zac hu (Zx Zt (qv 2) Ze (fun _ _=>rfl)) ji))
    (Zb (Zr (i:=4) Yw.nd rfl (Or.inl rfl) Ze)
    (Zb (qU Qb8 (Zv gT (qv 4) (ZH Z0 (by rfl) T.ao YN (Zg (qv 2) Za)) (ZZ _))
    (Zb (vY (Zx Zt (qv 2) (qv 4) (fun _ _=>rfl)) (GP rfl (Y3 (i:=5) Yw.nd rfl (Or.inl rfl)) (Y3 (i:=6) Yw.nd rfl (Or.inl rfl))))
    (Zb (JE Qb8 rfl (XD rfl T.cq (Zg (ZH Z0 (by rfl) T.ao YN (Zg (Zx ZX (Zx ZX (qv 0) Ze (fun _ _=>rfl)) (qv 5) (fun _ _=>rfl)) Za)) Za)) (Y3 (i:=7) Yw.nd rfl (Or.inl rfl))
    (Zb (Yo (Zv op_ne (Zx ZX (Zx ZX (Zx ZX (qv 0) Ze (fun _ _=>rfl)) (qv 5) (fun _ _=>rfl)) (qv 7) (fun _ _=>rfl)) (Zx ZX (Zx ZX (Zx ZX (qv 1) Ze (fun _ _=>rfl)) (qv 6) (fun _ _=>rfl)) (qv 7) (fun _ _=>rfl)) (ZZ _))
    (Zj (Zu ji)) ZR)
    (Zb (Zr (i:=8) Yw.nd rfl (Or.inl rfl) (Zl (Zg (Zx ZX (Zx ZX (Zx ZX (qv 0) Ze (fun _ _=>rfl)) (qv 5) (fun _ _=>rfl)) (qv 7) (fun _ _=>rfl)) (Zg (Zx ZX (Zx ZX (Zx ZX (qv 1) Ze (fun _ _=>rfl)) (qv 6) (fun _ _=>rfl)) (qv 7) (fun _ _=>rfl)) Za))))
    (Zj (Yo (Zv (Gw hu) (qv 8) (qv 3) (by with_unfolding_all rfl))
    (Zb (yX hu (qv 3) (qv 8) ji rfl)
    (Zj (ZU (Yj Qap Qaq Qar Zy (qv 2) (Zg (qv 8) Za))))) ZR)))))
    (Zj (Zr (i:=4) Yw.nd rfl (Or.inl rfl) (Zi YY (qv 4) Ze))))))
    (Zj (Zu ji)))))),?_⟩
  clear hu hr
  try dsimp only [L2.cxK,L2.cxK2]
  refine L2.let5 ?_;intro U4 U3 U2 U1;refine ZT fun q g=>?_;obtain ⟨pn1,ps1,po1,h1,n1,_,_⟩:=M1.ex;refine g ?_;clear g q;refine ZT fun q g=>?_;obtain ⟨pn2,ps2,po2,h2,n2,_,_⟩:=M2.ex;refine g ?_;clear g q;refine ⟨_,rfl,m1,_,1,_,rfl,rfl,SqT.of h1,rfl,_,rfl,m2,_,1,_,rfl,rfl,SqT.of h2,rfl,by show 2<=sizeLine;decide,fun a ha=>⟨by show 1<=sizeLine;decide,fun l hl=>?_⟩⟩;have s1:=Zd (o:=.tup [.int (b1:Int),.int (b2:Int)]) ha;have s2:=Zd (o:=.lst [.ref a]) hl;have hl0:H l=none:=s1.free hl;have ha2:(upd (upd H a (.tup [.int (b1:Int),.int (b2:Int)])) l (.lst [.ref a])) a=some (.tup [.int (b1:Int),.int (b2:Int)]):=s2 _ _ Zc;have hl2:(upd (upd H a (.tup [.int (b1:Int),.int (b2:Int)])) l (.lst [.ref a])) l=some (.lst [.ref a]):=Zc;have s12:=s1.trans s2;generalize upd (upd H a (.tup [.int (b1:Int),.int (b2:Int)])) l (.lst [.ref a])=H2 at *;intro d hd;have s3:=Zd (o:=.dT []) hd;refine ⟨_,rfl,l,_,0,_,rfl,rfl,SqL.of (s3 _ _ hl2),rfl,Zc,a,pk ((b1:Int),(b2:Int)),rfl,s3 _ _ ha2,?_⟩;have hd0:H d=none:=s12.free hd;have hld:l≠d:=Zn hl2 hd;refine Zo ?_;refine jz (fun σ H5=>∃(kn:Nat) (u5 u6 L Z:Option V) (ps:List (Int × Int)) (zs:List V),σ=[some (.ref m1),some (.ref m2),some (.ref l),some (.ref d),some (.int (kn:Int)),u5,u6,L,Z]/\H5 l=some (.lst zs)/\Prs H5 ps zs/\H5 d=some (.dT (dk ps))/\ps.Nodup/\InA A ps/\kn<=ps.length/\Yb H H5) (fun σ _=>match σ with | [_,_,_,_,some (.int m),_,_,_,_]=>G.length - m.toNat | _=>0) ⟨0,none,none,none,none,[((b1:Int),(b2:Int))],[.ref a],rfl,?_,?_,Zc,?_,?_,Qbp _,?_⟩ ?_
  ·rw [Zp hld,Zp hld]
   exact hl2
  ·exact ((Prs.one (H:=H2) ha2).same s3).put fun xs e=>by rw [Zc] at e;cases e
  ·simp
  ·intro p hp
   have:p=((b1:Int),(b2:Int)):=by simpa using hp
   exact ⟨b1,b2,this,R.b⟩
  ·exact YM (s12.trans s3) hd0
  rintro σ H5 I;refine ZT fun q g=>?_;obtain ⟨kn,u5,u6,L,Z,ps,zs,rfl,hl5,hp5,hd5,nd,C,hk,s5⟩:=I;refine g ?_;clear g q;have hlen:=vF R nd C;refine ⟨_,rfl,_,rfl,l,_,rfl,.inl (SqL.of hl5),_,_,rfl,rfl,_,rfl,?_⟩;rw [hp5.1];refine vW (fun D=>?_) (fun _=>k H5 s5);have D:kn < ps.length:=by
   have:=Qba D;lia
  refine ⟨fun σ' H'=>∃(u5 u6 L Z:Option V) (ps:List (Int × Int)) (zs:List V),σ'=[some (.ref m1),some (.ref m2),some (.ref l),some (.ref d),some (.int ((kn + 1:Nat):Int)),u5,u6,L,Z]/\H' l=some (.lst zs)/\Prs H' ps zs/\H' d=some (.dT (dk ps))/\ps.Nodup/\InA A ps/\kn < ps.length/\Yb H H',?_,?_⟩
  ·rintro σ' H' I
   refine ZT fun q g=>?_;obtain ⟨u5,u6,L,Z,ps',zs',rfl,g1,g2,g3,g4,g5,g6,g7⟩:=I;refine g ?_;clear g q;have:=vF R g4 g5;refine ⟨G.length - (kn + 1),?_,?_,kn + 1,u5,u6,L,Z,ps',zs',rfl,g1,g2,g3,g4,g5,g6,g7⟩
   ·show G.length - (kn + 1) < G.length - (kn:Int).toNat
    rw [Qa9];lia
   ·show _=G.length - ((kn + 1:Nat):Int).toNat
    rw [Qa9]
  obtain ⟨i,j,epk,hA⟩:=C ps[kn] (Qb1 D);have hat:ps[kn]?=some ((i:Int),(j:Int)):=by rw [Qab D,epk]
  obtain ⟨hi,hj⟩:=R.lt _ _ hA;obtain ⟨c,hc1,hc2⟩:=hp5.2 kn _ hat;refine ⟨_,rfl,_,rfl,l,_,_,_,rfl,rfl,SqL.of hl5,YI hc1,c,_,rfl,SqT.of hc2,rfl,_,_,rfl,_,_,rfl,rfl,?_⟩;refine ZT fun q g=>?_;obtain ⟨_,J,po1',Y,_,R1,_⟩:=(M1.same s5).ex;refine g ?_;clear g q;refine ZT fun q g=>?_;obtain ⟨cs3,a3,p1,p2,p3⟩:=WM R1 (i:=i) (by rw [Qad];exact hi);refine g ?_;clear g q;rw [G7] at p3;have e8:=p8 W1.n3;have hr1:=W1.nr _ (getD_mem hi);have hr2:=W2.nr _ (getD_mem hj);rw [<-hnn] at hr2;have hi':i < ot1.length:=by rw [W1.ol];exact hi
  have hj':j < ot2.length:=by rw [W2.ol];exact hj
  have ho1:=W1.or _ (getD_mem hi');have hk1:=W1.ok _ (getD_mem hi');have hoe:=R.out _ _ hA;refine ⟨_,rfl,m1,_,2,_,rfl,rfl,SqT.of Y,rfl,_,rfl,J,_,_,_,rfl,rfl,SqT.of p1,p2,a3,_,rfl,.inr (SqT.of p3),((GN (G.getD i [])).length:Int),rfl,by lia,by rw [kO];lia,Gp (fun n σ H6=>∃(L Z:Option V) (ps:List (Int × Int)) (zs:List V),σ=[some (.ref m1),some (.ref m2),some (.ref l),some (.ref d),some (.int (kn:Int)),some (.int (i:Int)),some (.int (j:Int)),L,Z]/\H6 l=some (.lst zs)/\Prs H6 ps zs/\H6 d=some (.dT (dk ps))/\ps.Nodup/\InA A ps/\kn < ps.length/\Yb H H6) ⟨L,Z,ps,zs,rfl,hl5,hp5,hd5,nd,C,D,s5⟩ ?_ ?_⟩
  ·rintro n σ H6 hn I
   refine ZT fun q g=>?_;obtain ⟨v7,v8,ps,zs,rfl,hl6,hp6,hd6,nd,C,D,s6⟩:=I;refine g ?_;clear g q;rw [Qa9,kO] at hn;rw [Qgn];refine Zo ?_;have hlen:=vF R nd C;have hle1:=W1.le;refine ZT fun q g=>?_;obtain ⟨_,J,po1',Y,_,R1,O1⟩:=(M1.same s6).ex;refine g ?_;clear g q;refine ZT fun q g=>?_;obtain ⟨_,ps2',po2',h2',_,R2,O2⟩:=(M2.same s6).ex;refine g ?_;clear g q;refine ZT fun q g=>?_;obtain ⟨cs3,a3,p1,p2,p3⟩:=WM R1 (i:=i) (by rw [Qad];exact hi);refine g ?_;clear g q;refine ZT fun q g=>?_;obtain ⟨cs4,a4,q1,q2,q3⟩:=WM R2 (i:=j) (by rw [Qad];exact hj);refine g ?_;clear g q;refine ZT fun q g=>?_;obtain ⟨cs1,a1,e1,e2,e3⟩:=WM O1 hi';refine g ?_;clear g q;refine ZT fun q g=>?_;obtain ⟨cs2,a2,f1,f2,f3⟩:=WM O2 hj';refine g ?_;clear g q;rw [G7] at p3 q3;rw [hoe] at f3;obtain ⟨v,hv⟩:∃v,(ot1.getD i [])[n]?=some v:=⟨_,Qab (by lia)⟩;obtain ⟨S,mx⟩:∃x,(G.getD i [])[n]?=some x:=⟨_,Qab hn⟩;obtain ⟨M,my⟩:∃x,(nx2.getD j [])[n]?=some x:=⟨_,Qab (by lia)⟩;have hkv:=hk1 v (Qao hv);refine ⟨_,rfl,m1,_,3,_,rfl,rfl,SqT.of Y,rfl,_,rfl,po1',_,_,_,rfl,rfl,SqT.of e1,e2,_,rfl,a1,_,_,v,rfl,rfl,SqT.of e3,YI hv,_,rfl,m2,_,3,_,rfl,rfl,SqT.of h2',rfl,_,rfl,po2',_,_,_,rfl,rfl,SqT.of f1,f2,_,rfl,a2,_,_,v,rfl,rfl,SqT.of f3,YI hv,Zb7 hkv hkv,_,rfl,?_⟩;rw [Qaj rfl];refine X9 ?_;refine ⟨_,rfl,m1,_,2,_,rfl,rfl,SqT.of Y,rfl,_,rfl,J,_,_,_,rfl,rfl,SqT.of p1,p2,_,rfl,a3,_,_,_,rfl,rfl,SqT.of p3,YI (kP mx),_,rfl,m2,_,2,_,rfl,rfl,SqT.of h2',rfl,_,rfl,ps2',_,_,_,rfl,rfl,SqT.of q1,q2,_,rfl,a4,_,_,_,rfl,rfl,SqT.of q3,YI (kP my),by show 2<=sizeLine;decide,fun p hpn=>Zo ?_⟩;have s7:=Zd (o:=.tup [.int (S:Int),.int (M:Int)]) hpn;have hp7:(upd H6 p (.tup [.int (S:Int),.int (M:Int)])) p=some (.tup [.int (S:Int),.int (M:Int)]):=Zc;have N:=s7 _ _ hl6;have O:=s7 _ _ hd6;have hP7:=hp6.same s7;have s67:=s6.trans s7
   try dsimp only
   generalize upd H6 p (.tup [.int (S:Int),.int (M:Int)])=H7 at *;refine ⟨_,rfl,_,rfl,d,_,rfl,Zhr (x:=S) (y:=M) (.inl O) hp7,_,rfl,?_⟩;show if (!(YX (dk ps) (pk ((S:Int),(M:Int)))).isSome)=true then _ else _;rw [dk_val]
   by_cases em:((S:Int),(M:Int))∈ps
   ·rw [Qaj em]
    exact X9 ⟨_,_,ps,zs,rfl,N,hP7,O,nd,C,D,s67⟩
   ·rw [Qak em]
    refine WC ⟨_,rfl,_,rfl,d,_,rfl,Zc2.t (k:=pk ((S:Int),(M:Int))) O hp7 ?_,_,rfl,.inl ⟨rfl,_,SqL.of (by rw [Zp hld];exact N)⟩,_,rfl,l,_,_,rfl,rfl,by rw [Zp hld];exact N,?_,_,_,ps++[((S:Int),(M:Int))],zs++[.ref p],rfl,Zc,?_,?_,wZ nd em,Zd5 C (R.next _ _ n _ _ hA mx my),?_,YM (YM s67 hd0) hl0⟩
    ·have:=dk_len ps
     exact X0 (by lia)
    ·rw [hP7.1]
     exact X0 (by lia)
    ·refine Prs.put (Prs.put (hP7.app (Prs.one hp7)) ?_) ?_
     ·intro xs e
      rw [O] at e;cases e
     ·intro xs e
      rw [Zp hld,N] at e;cases e
    ·rw [Zp hld.symm,Zc,vx]
    ·rw [Qaf]
     lia
  ·rintro σ H6 I
   refine ZT fun q g=>?_;obtain ⟨v7,v8,ps,zs,rfl,hl6,hp6,hd6,nd,C,D,s6⟩:=I;refine g ?_;clear g q;exact ⟨_,rfl,_,_,rfl,rfl,_,_,v7,v8,ps,zs,rfl,hl6,hp6,hd6,nd,C,D,s6⟩
inductive Wj(vs:List V)(H:Hp)(Q:VK):Prop
 | mk (ps po:Addr) (nx:List (List Nat)) (ot:List (List V)) (kos:List (List Int)):(vs=[.ref ps,.ref po])->(JB H ps (nx.map GN))->(JB H po ot)->(ot.map (fun r=>r.map vB)=kos.map (fun k=>k.map some))->(ot.length=nx.length)->((∀row∈nx,row.length<=8/\∀s∈row,s < nx.length))->(1<=nx.length)->(nx.length<=1000000)->(∀p (cs:List Nat) H',H p=none->H' p=some (.lst (cs.map Ge))->cs.length=nx.length->Ws (qK nx cs)=cs->Ws cs=cs->gv kos cs->cs=jN nx kos nx.length->Yb H H'->Q (.ref p) H')->Wj vs H Q
def Jc(K:PySem.W.Frag):Sp:=fun vs H Q _=>Wj vs H Q
theorem qP (T:Txt K w mg t) (TB:Tbs mg base t):Ym P w K mg base CX0 2 t.dy t.dz ["steps","out"] (Jc K):=by
 have D:Ym P w K mg base CX0 1 t.ma t.md ["marks"] (xQ K):=vN T TB;have I:Ym P w K mg base CX0 1 t.dh t.di ["states","classes"] (WT K):=GB T TB;refine T.cf.F.ok Y7 (fun vs H Q E h=>?_) (fun cdv A outer s H vs Q E hr h=>?_)
 ·obtain ⟨ps,po,nx,ot,J,rfl,Rs,Ro,hk,hlo,hnx,h1,h2,k⟩:=h
  rfl
 ·obtain ⟨ps,po,nx,ot,J,rfl,Rs,Ro,hk,hlo,hnx,h1,h2,k⟩:=h
  have hu:=Y6 hr;refine ⟨_,@QSs.out _ _ _ (Zb (Zr (i:=2) Y7.nd rfl (Or.inr rfl) (Zq D (hr.mono (by decide)) rfl T.bh.m T.bh.F.kp T.bh.b .nil ZY (Zg (qv 1) Za)))
    (Zb (Zr (i:=3) Y7.nd rfl (Or.inl rfl) Ze)
    (Zb (qU Qb8 (Zv Zf7 (Zi YY (ZH (yj rfl) (by rfl) T.nv uK (Zg (qv 2) Za)) Ze) (qv 3) (ZZ _))
    (Zb (Zr (i:=3) Y7.nd rfl (Or.inl rfl) (Zi YY (ZH (yj rfl) (by rfl) T.nv uK (Zg (qv 2) Za)) Ze))
    (Zj (Zr (i:=2) Y7.nd rfl (Or.inr rfl) (Zq D (hr.mono (by decide)) rfl T.bh.m T.bh.F.kp T.bh.b .nil ZY (Zg (Zde (⟨by rfl,by decide +kernel,by decide +kernel,by rfl,by decide +kernel,by decide +kernel,by rfl,by decide +kernel⟩:Ys (Zk Xc) _ ["steps","out","classes","many"] "mark" ["classes"] [2]) (⟨by rfl,by decide +kernel⟩:Two _ "mark" "row" ["classes"]) (qi_zip (b1:=false) (b2:=true) rfl T.ov (Zg (qv 2) (Zg (qv 0) Za))) (fun _ _ _ _=>Wu) (fun _ _ _ _=>(Zl (Zg (qv 0) (Zg (Zq I (hr.mono (by decide)) rfl T.ax.m T.ax.F.kp T.ax.b .nil ZY (Zg (qv 1) (Zg (qv 2) Za))) Za))))) Za))))))
    (Zj (Zu (qv 2)))))),?_⟩
  clear hu hr
  try dsimp only [L2.cxK,L2.cxK2]
  refine L2.let4 ?_;intro U3 U2 U1;obtain ⟨bo,hpo,hbo,hob⟩:=yt Ro;obtain ⟨bs,hps,hbs,hsb⟩:=yt Rs;have hkl:J.length=nx.length:=by
   have:=congrArg List.length hk;rw [Qad,Qad] at this;lia
  refine ⟨_,rfl,List Int,_,knT,po,bo,J,rfl,.inr hpo,by lia,fun i b kk hb N=>?_,by lia,fun p0 H1 hp0 hp1 s1=>?_⟩
  ·have hi:i < ot.length:=by have:=(Qac.mp hb).1;lia
   refine ⟨_,hob i _ b (Qab hi) hb,?_⟩;have e:=congrArg (fun l=>l[i]?) hk;simp only [Qah,Qab hi,N] at e;exact Option.some.inj e
  rw [yu] at hp1;refine Zo ?_;have cls0:gv J (Ws J):=fun i j a b ha hb e=>(G1 ha hb).mp e;refine jz (fun σ H2=>∃(p:Addr) (cs:List Nat) (g n:Nat),σ=[some (.ref ps),some (.ref po),some (.ref p),some (.int (g:Int))]/\H2 p=some (.lst (cs.map Ge))/\H p=none/\cs.length=nx.length/\Ws cs=cs/\gv J cs/\cs=jN nx J n/\n<=g/\g<=nx.length/\(g=0\/((ZN cs).length<=g->Ws (qK nx cs)=cs))/\Yb H H2) (fun σ _=>match σ with | [_,_,_,some (.int m)]=>nx.length - m.toNat | _=>0) ⟨p0,Ws J,0,0,rfl,hp1,hp0,by rw [qY];exact hkl,xw J,cls0,rfl,Qai _,Qbp _,.inl rfl,s1⟩ ?_;rintro σ H2 L;refine ZT fun Gz C=>?_;obtain ⟨p,cs,g,n,rfl,hp2,hpH,G,Y,hcls,hcn,hnm,hmy,hst,s2⟩:=L;refine C ?_;clear C Gz;have hne:cs≠[]:=fun z=>by rw [z] at G;have:(0:Nat)=nx.length:=G;lia
  have mx:∀m∈(cs.map fun c:Nat=>(c:Int)),(∀n∈(cs.map fun c:Nat=>(c:Int)),n<=m)->m + 1=((ZN cs).length:Int):=by
   intro m hm hx;obtain ⟨c,hc,rfl⟩:=Qa2.mp hm;have h3:c∈Ws cs:=by rw [Y];exact hc
   have:=Zdi h3 fun n hn=>by
    rw [Y] at hn;have:=hx _ (Qbw hn);lia
   lia
  have M:H2 p=some (.lst ((cs.map fun c:Nat=>(c:Int)).map V.int)):=by rw [hp2,Qbj];rfl
  have hsl:(ZN cs).length<=nx.length:=by have:=ju cs;lia
  have hne':(cs.map fun c:Nat=>(c:Int))≠[]:=fun z=>hne (List.map_eq_nil_iff.mp z);refine ⟨_,rfl,p,_,rfl,SqL.of M,hne',fun m hm hx=>⟨_,_,rfl,rfl,_,rfl,_,_,rfl,rfl,_,rfl,?_⟩⟩;have em:=mx m hm hx;refine vW (fun hgt=>?_) (fun hgt=>?_)
  ·have hlt:g < (ZN cs).length:=by
    have:=Qba hgt;lia
   refine ⟨fun σ' H'=>∃(p':Addr),σ'=[some (.ref ps),some (.ref po),some (.ref p'),some (.int ((ZN cs).length:Int))]/\H' p'=some (.lst ((Ws (qK nx cs)).map Ge))/\H p'=none/\Yb H H',?_,?_⟩
   ·rintro σ' H' L
    refine ZT fun Gz C=>?_;obtain ⟨p',rfl,hp',hpn,s'⟩:=L;refine C ?_;clear C Gz;refine ⟨nx.length - (ZN cs).length,?_,?_,p',Ws (qK nx cs),(ZN cs).length,n + 1,rfl,hp',hpn,?_,xw _,Zhu G hkl hcls,by rw [hcn];rfl,by lia,hsl,.inr fun Z=>?_,s'⟩
    ·show nx.length - (ZN cs).length < nx.length - (g:Int).toNat
     rw [Qa9];lia
    ·show _=nx.length - ((ZN cs).length:Int).toNat
     rw [Qa9]
    ·rw [qY,xg G,G]
    ·rw [Zak] at Z
     have:=gc G Y Z;rw [this,this]
   ·refine ⟨_,rfl,p,_,rfl,SqL.of M,hne',fun m2 hm2 hx2=>⟨_,_,rfl,rfl,?_⟩⟩
    have em2:=mx m2 hm2 hx2
    try dsimp only
    rw [em2];have hps2:=s2 _ _ hps;refine ⟨_,rfl,_,rfl,p,ps,_,_,rfl,SqB.l M,SqB.t hps2,?_⟩;refine wU (xs:=(cs.map fun c:Nat=>(c:Int)).map V.int) (ys:=bs.map V.ref) (fun i zs H'=>∃ds:List Addr,zs=ds.map V.ref/\ds.length=i/\i<=nx.length/\(∀(j:Nat) (d:Addr) (kk:Int × List Int),ds[j]?=some d->(qK nx cs)[j]?=some kk->Zae H' kk d)/\Yb H2 H') ⟨[],rfl,rfl,Qbp _,(fun j d kk hd=>by cases hd),Yb.refl _⟩ ?_ ?_ ?_ ?_
    ·rintro i zs H' L
     refine ZT fun Gz C=>?_;obtain ⟨ds,rfl,hd,hi,_⟩:=L;refine C ?_;clear C Gz;rw [Qad,hd];exact Qa5 (X0 (by lia))
    ·rintro i zs H' ⟨ds,_,_,_,_,s'⟩
     exact ⟨SqB.l (s' _ _ M),SqB.t (s' _ _ hps2)⟩
    ·rintro i x y q zs H3 R hR O hy' L hq
     refine ZT fun Gz C=>?_;obtain ⟨ds,rfl,hdl,hi,hpa,s3⟩:=L;refine C ?_;clear C Gz;rw [Qah,Qah] at O;cases hc:cs[i]? with
     | none=>rw [hc] at O;cases O
     | some c =>
     rw [hc] at O;cases O;rw [Qah] at hy';obtain ⟨b,hb,rfl⟩:=Qbh.mp hy';have hil:i < nx.length:=by have:=(Qac.mp hc).1;lia
     have hrow:nx[i]?=some nx[i]:=Qab hil;have hbr:H b=some (.tup (GN nx[i])):=hsb i _ b (by rw [Qah,hrow];rfl) hb;obtain ⟨r8,rlt⟩:=hnx nx[i] (Qb1 hil);have sq:=Zd (o:=.tup [.int (c:Int),.ref b]) hq;have s4:=(s2.trans s3).trans sq;unfold uA
     try dsimp only
     rw [Qa4 rfl];refine ⟨_,rfl,_,rfl,_,rfl,b,p,nx[i],cs.map fun c:Nat=>(c:Int),rfl,s4 _ _ hbr,(s3.trans sq) _ _ M,fun s hs=>by rw [Qad,G];exact rlt s hs,by lia,by rw [Qad];lia,fun t H5 ht0 ht s5=>⟨by show 2<=sizeLine;decide,fun d hd=>hR _ _ ⟨ds++[d],by rw [Qbm];rfl,by rw [Qaf,hdl];rfl,hil,fun j d' kk hj N=>?_,((s3.trans sq).trans s5).trans (Zd hd)⟩⟩⟩;have sd:=Zd (o:=.tup [.int (c:Int),.ref t]) hd;rw [List.getElem?_append] at hj
     split at hj
     ·have:=hpa j d' kk hj N
      exact knP.keep _ _ _ _ (fun b xs e=>((sq.trans s5).trans sd) _ _ e) this
     ·rename_i hnl
      have hji:j=i:=by
       have:=(Qac.mp hj).1;rw [List.length_singleton] at this;lia
      subst hji;rw [hdl,Qdd] at hj;cases hj;rw [WN hc hrow] at N;cases N;refine ⟨t,Zc,_,sd _ _ ht,?_⟩;rw [Qbj,Qbj,Qbj];refine Qcn fun s _=>?_;show some ((cs.map fun c:Nat=>(c:Int)).getD s 0)=some ((cs.getD s 0:Nat):Int);rw [Qag,Qag,Qah];cases cs[s]? <;> rfl
    ·rintro zs H3 L l hl3
     refine ZT fun Gz C=>?_;obtain ⟨ds,rfl,hdl,hi,hpa,s3⟩:=L;refine C ?_;clear C Gz;have hzl:(((cs.map fun c:Nat=>(c:Int)).map V.int).zip (bs.map V.ref)).length=nx.length:=by
      rw [Qd0,Qad,Qad,Qad,G,hbs,Qad,Nat.min_self]
     rw [hzl] at hdl;have sl:=Zd (o:=.lst (ds.map V.ref)) hl3;refine ⟨Int × List Int,_,knP,l,ds,qK nx cs,rfl,.inl Zc,by rw [xg G];lia,fun i b kk hb N=>knP.keep _ _ _ _ (fun b xs e=>sl _ _ e) (hpa i b kk hb N),by rw [xg G];lia,fun p' H6 hp6 hq6 s6=>?_⟩;rw [yu] at hq6;have s26:=(s2.trans s3).trans (sl.trans s6);exact ⟨p',rfl,hq6,(s2.trans s3).free (sl.free hp6),s26⟩
  ·have Z:(ZN cs).length<=g:=by
    have:¬(g:Int) < m + 1:=fun z=>hgt (Qaj z);lia
   have S:=hst.resolve_left (fun z=>by
    have:(0:Int) < m + 1:=by
     obtain ⟨c,_,rfl⟩:=Qa2.mp hm;lia
    lia) Z
   exact ⟨_,rfl,k p cs H2 hpH hp2 G S Y hcls (by rw [hcn] at S ⊢;exact (Zd4 S (by lia)).symm) s2⟩
inductive GI(vs:List V)(H:Hp)(Q:VK):Prop
 | mk (k:Key):(vs=[kV k])->(Q (.int (X7 k)) H)->GI vs H Q
def xV(K:PySem.W.Frag):Sp:=fun vs H Q _=>GI vs H Q
theorem vR (T:Txt K w mg t) (D:Tbs mg base t):Ym P w K mg base CX0 2 t.mm t.mn ["word"] (xV K):=by
 have q:Ym P w K mg base CX0 1 t.fx t.fy ["word"] (JH K):=zp T D;have g:Ym P w K mg base CX0 1 t.du t.dw ["word"] (WX K):=qO T D;refine T.fw.F.ok vM (fun vs H Q E h=>?_) (fun G A outer s H vs Q E hr h=>?_)
 ·obtain ⟨C,rfl,k⟩:=h
  rfl
 ·obtain ⟨C,rfl,k⟩:=h
  have hu:=Y6 hr;refine ⟨_,@QSs.out _ _ _ (Zj (Zu (Zi YY (Zq q (hr.mono (by decide)) rfl T.cz.m T.cz.F.kp T.cz.b .nil ZY (Zg (qv 0) Za)) (Zq g (hr.mono (by decide)) rfl T.cc.m T.cc.F.kp T.cc.b .nil ZY (Zg (qv 0) Za))))),?_⟩;clear hu hr
  try dsimp only [L2.cxK,L2.cxK2]
  exact ⟨_,rfl,C,rfl,_,rfl,C,rfl,_,_,rfl,rfl,k⟩
inductive W9(vs:List V)(H:Hp)(Q:VK):Prop
 | mk (tn tl:Addr) (ys:List Str) (L:Nat):(vs=[.ref tn,.ref tl])->(H tn=some (.tup (ys.map V.str)))->(ys.Nodup)->(ys.length<=10)->(H tl=some (.lst ((List.range L).map fun i:Nat=>V.int (i:Int))))->(L<=100)->(∀dv kvs H',H dv=none->H' dv=some (.dK kvs)->Zhq kvs ys (Yv L ys)->Yb H H'->Q (.ref dv) H')->W9 vs H Q
def J0(K:PySem.W.Frag):Sp:=fun vs H Q _=>W9 vs H Q
theorem xW (T:Txt K w mg t) (TB:Tbs mg base t):Ym P w K mg base CX0 2 t.fh t.fi ["names","letters"] (J0 K):=by
 have g:Ym P w K mg base CX0 1 t.kv t.lb ["bits"] (qC K):=yG T TB;refine T.cm.F.ok Xi (fun vs H Q E h=>?_) (fun cdv A outer s H vs Q E hr h=>?_)
 ·obtain ⟨S,tl,ys,L,rfl,hn,M,hn3,hl,hL,k⟩:=h
  rfl
 ·obtain ⟨S,tl,ys,L,rfl,hn,M,hn3,hl,hL,k⟩:=h
  have hu:=Y6 hr;refine ⟨_,@QSs.out _ _ _ (Zb (Zr (i:=2) Xi.nd rfl (Or.inl rfl) uW)
    (Zb (JE Qb8 rfl (Zc6 rfl T.ni (qv 0)) (GP rfl (Y3 (i:=3) Xi.nd rfl (Or.inr rfl)) (Y3 (i:=4) Xi.nd rfl (Or.inl rfl)))
    (Zj (yX hu (qv 2) (qv 4) (Zq g (hr.mono (by decide)) rfl T.ek.m T.ek.F.kp T.ek.b .nil ZY (Zg (Yr ZW (by rfl) T.az YT (Zg (XE (⟨by rfl,by decide +kernel,by decide +kernel,by rfl,by decide +kernel,by decide +kernel,by rfl,by decide +kernel⟩:Ys (Zk Xn) _ ["names","letters","columns","place","name"] "letter" ["place"] [3]) (XC (qv 1)) (fun _ _ _ _=>Wu) (fun _ _ _ _=>(Zi WU (Zi vU (qv 0) (qv 1)) Ze))) Za)) Za)) rfl)))
    (Zj (Zu (qv 2))))),?_⟩
  clear hu hr
  try dsimp only [L2.cxK,L2.cxK2]
  refine L2.let3 ?_;intro U2 U1;refine fun O I=>Zo ?_;have s1:=Zd (o:=.dK []) I;refine ⟨_,rfl,S,_,rfl,SqT.of (s1 _ _ hn),Zc7 (K:=K) (a:=S) (xs:=ys.map V.str) (fun i σ H2=>∃(kvs:List (Key × V)) (u3 u4:Option V),σ=[some (.ref S),some (.ref tl),some (.ref O),u3,u4]/\H2 O=some (.dK kvs)/\Zhq kvs (ys.take i) (Yv L ys)/\kvs.length<=i/\i<=ys.length/\Yb H H2) ⟨[],none,none,rfl,Zc,⟨fun y h=>(by cases h),fun y _=>rfl⟩,Qai _,Qbp _,s1⟩ (fun i σ H2 _ ⟨_,_,_,_,_,_,_,_,s⟩=>SqT.of (s _ _ hn)) ?_ ?_⟩
  ·rintro i x σ H2 p hx hp G
   refine ZT fun Gz C=>?_;obtain ⟨kvs,u3,u4,rfl,h2,hc,hkl,_,Z⟩:=G;refine C ?_;clear C Gz;rw [Qah] at hx;obtain ⟨y,Y,rfl⟩:=Qbh.mp hx;have hi:=(Qac.mp Y).1;have s3:=Z.trans (Zd (o:=.tup [.int (i:Int),.str y]) hp);have h3:=Zd (o:=.tup [.int (i:Int),.str y]) hp _ _ h2;generalize upd H2 p (.tup [.int (i:Int),.str y])=H3 at *;have N:=s3 _ _ hl;refine ⟨_,rfl,tl,rfl,⟨_,SqL.of N⟩,comp_map (xs:=(List.range L).map fun i:Nat=>V.int (i:Int)) (fI fun c=>V.int (bt c i)) (SqL.of N) (by rw [Qad,Qbr];exact Qa5 (Zs (by lia))) (fun v hv R hR=>?_) (fun q hq=>?_)⟩
   ·obtain ⟨c,_,rfl⟩:=Qa2.mp hv
    refine ⟨_,rfl,_,rfl,_,_,rfl,rfl,Qcr i,_,_,rfl,rfl,?_⟩;have e:fI (fun c=>V.int (bt c i)) (V.int (c:Int))=V.int (Builtin.bitAnd ((c:Int) / 2 ^ (i:Int).toNat) 1):=by
     show V.int (bt (c:Int) i)=_;rw [and_1,Qa9]
     rfl
    rw [e] at hR;exact hR
   have ex:((List.range L).map fun i:Nat=>V.int (i:Int)).map (fI fun c=>V.int (bt c i))=((List.range L).map fun l:Nat=>bt (l:Int) i).map V.int:=by
    rw [Qbj,Qbj]
    rfl
   rw [ex];have s4:=Zd (o:=.lst (((List.range L).map fun l:Nat=>bt (l:Int) i).map V.int)) hq;refine ⟨q,_,rfl,.inl ⟨SqL.of Zc,fun t ht=>?_⟩⟩;have s5:=s4.trans (Zd (o:=.tup (((List.range L).map fun l:Nat=>bt (l:Int) i).map V.int)) ht);have h5:=s5 _ _ h3;refine ⟨t,(List.range L).map fun l:Nat=>bt (l:Int) i,rfl,SqT.of Zc,?_⟩;generalize upd (upd H3 q (.lst (((List.range L).map fun l:Nat=>bt (l:Int) i).map V.int))) t (.tup (((List.range L).map fun l:Nat=>bt (l:Int) i).map V.int))=H5 at *;have hv:hor ((List.range L).map fun l:Nat=>bt (l:Int) i).reverse=Yv L ys y:=by
    unfold Yv;rw [WV M Y]
   rw [hv];have lp:=XH kvs (.inr y) (.int (Yv L ys y));refine ⟨_,rfl,_,rfl,O,_,rfl,Zc2.k (k:=.inr y) h5 (Zs (by lia)),putK kvs (.inr y) (.int (Yv L ys y)),_,_,rfl,Zc,⟨fun z J=>?_,fun z J=>?_⟩,by lia,hi,YM (s3.trans s5) I⟩
   ·rw [take_snoc Y] at J
    rw [Gu]
    by_cases D:z=y
    ·rw [Qa4 (by rw [D]),D]
    ·rw [Qax (fun e=>D (Sum.inr.inj e))]
     rcases Qbk.mp J with h | h
     ·exact hc.1 z h
     ·exact absurd (Qay.mp h) D
   ·rw [take_snoc Y] at J
    rw [Gu,Qax (fun e=>J (Qbk.mpr (.inr (Qay.mpr (Sum.inr.inj e)))))];exact hc.2 z fun h=>J (Qbk.mpr (.inl h))
  ·rintro σ H2 G
   refine ZT fun Gz C=>?_;obtain ⟨kvs,u3,u4,rfl,h2,hc,hkl,_,Z⟩:=G;refine C ?_;clear C Gz;rw [Qad,Qb2] at hc;exact ⟨_,rfl,k O kvs H2 I h2 hc Z⟩
inductive JN(vs:List V)(H:Hp)(Q:VK):Prop
 | mk (y:Str) (p:Addr) (is:List Int) (h:Int):(vs=[.str y,.ref p,.int h])->(H p=some (.lst (is.map V.int)))->(1<=is.length)->(y∈allR)->((y∈Zhp->2<=is.length))->(∀H',Yb H H'->Q (.int (ktI y is h)) H')->JN vs H Q
def qG(K:PySem.W.Frag):Sp:=fun vs H Q _=>JN vs H Q
theorem yI (T:Txt K w mg t) (M:Tbs mg base t):Ym P w K mg base CX0 2 t.lq t.lx ["word","parts","held"] (qG K):=by
 have g:Ym P w K mg base CX0 1 t.fj t.fk ["one","other","held"] (Gj K):=xS T M;refine T.eo.F.ok qA (fun vs H Q E h=>?_) (fun N A outer s H vs Q E hr h=>?_)
 ·obtain ⟨y,p,is,h,rfl,hp,l1,J,l2,k⟩:=h
  rfl
 ·obtain ⟨y,p,is,h,rfl,hp,l1,J,l2,k⟩:=h
  have hu:=Y6 hr;refine ⟨_,@QSs.out _ _ _ (Zb (Zr (i:=3) qA.nd rfl (Or.inl rfl) (Zx Zt (qv 1) Ze (fun _ _=>rfl)))
    (Zb (Yo (Zv Xp (qv 0) Zf (ZZ _))
    (Zj (Zu (qv 3))) ZR)
    (Zb (Yo (Zv YJ (qv 0) (Zl (Zg Zf (Zg Zf (Zg Zf Za)))) (by with_unfolding_all rfl))
    (Zj (Zu (Zi jP (qv 3) (qv 2)))) ZR)
    (Zb (Yo (Zv Xp (qv 0) Zf (ZZ _))
    (Zj (Zu (Zi jP (Zi zx (qv 3) (Zx Zt (qv 1) Ze (fun _ _=>rfl))) (qv 2)))) ZR)
    (Zb (Yo (Zv Xp (qv 0) Zf (ZZ _))
    (Zj (Zu (Zi jP (Zi WU (qv 3) (Zx Zt (qv 1) Ze (fun _ _=>rfl))) (Zi WU (qv 2) (Zi jP (qv 3) (Zx Zt (qv 1) Ze (fun _ _=>rfl))))))) ZR)
    (Zj (Zu (Zq g (hr.mono (by decide)) rfl T.bj.m T.bj.F.kp T.bj.b .nil ZY (Zg (qv 3) (Zg (Zx Zt (qv 1) Ze (fun _ _=>rfl)) (Zg (qv 2) Za))))))))))),?_⟩
  clear hu hr
  try dsimp only [L2.cxK,L2.cxK2]
  refine L2.let6 ?_;intro U5 S R Z Y;have I:¬y = "twice" -> ¬(y = "neg" \/ y = "low" \/ y = "nought")->y∈Zhp:=Za4 y J;unfold ktI at k;refine ⟨_,rfl,p,_,0,_,rfl,rfl,SqL.of hp,ZO 0 rfl l1,Zo ⟨_,rfl,rfl,_,rfl,?_⟩⟩
  by_cases h1:y = "twice"
  ·rw [Qaj (congrArg V.str h1)]
   rw [Qa4 h1] at k;refine WC ?_;exact ⟨_,rfl,k H (Yb.refl _)⟩
  rw [Qak (fun z=>h1 (by injection z))];rw [Qax h1] at k;refine X9 ⟨_,rfl,by show 3<=sizeLine;decide,fun q O=>⟨q,_,rfl,.inr (SqT.of Zc),rfl,rfl,_,rfl,?_⟩⟩;show if inV (.str y) ((["neg","low","nought"]:List Str).map V.str)=true then _ else _;rw [Ya];have D:=Zd (o:=.tup [.str "neg",.str "low",.str "nought"]) O;have pq:=D _ _ hp;generalize upd H q (.tup [.str "neg",.str "low",.str "nought"])=H1 at *
  by_cases h2:y = "neg" \/ y = "low" \/ y = "nought"
  ·rw [Qaj (by simp only [Qas,Qa6,Qc1];exact h2)]
   rw [Qa4 h2] at k;refine WC ?_;exact ⟨_,rfl,_,rfl,_,_,rfl,rfl,k H1 D⟩
  rw [Qak (by simp only [Qas,Qa6,Qc1];exact h2)];rw [Qax h2] at k;refine X9 ⟨_,rfl,rfl,_,rfl,?_⟩
  by_cases G:y = "same"
  ·rw [Qaj (congrArg V.str G)]
   rw [Qa4 G] at k;refine WC ?_;exact ⟨_,rfl,_,rfl,p,_,1,_,rfl,rfl,SqL.of pq,ZO 1 rfl (l2 (by rw [G];decide +kernel)),_,_,rfl,rfl,_,rfl,_,_,rfl,rfl,k H1 D⟩
  rw [Qak (fun z=>G (by injection z))];rw [Qax G] at k;refine X9 ⟨_,rfl,rfl,_,rfl,?_⟩
  by_cases C:y = "add"
  ·rw [Qaj (congrArg V.str C)]
   rw [Qa4 C] at k;refine WC ?_;have L:=l2 (by rw [C];decide +kernel);exact ⟨_,rfl,_,rfl,p,_,1,_,rfl,rfl,SqL.of pq,ZO 1 rfl L,_,_,rfl,rfl,_,rfl,_,rfl,_,rfl,p,_,1,_,rfl,rfl,SqL.of pq,ZO 1 rfl L,_,_,rfl,rfl,_,_,rfl,rfl,_,_,rfl,rfl,k H1 D⟩
  rw [Qak (fun z=>C (by injection z))];rw [Qax C] at k;exact X9 ⟨_,rfl,_,rfl,p,_,1,_,rfl,rfl,SqL.of pq,ZO 1 rfl (l2 (I h1 h2)),_,rfl,_,_,_,rfl,k H1 D⟩
inductive Jd(vs:List V)(H:Hp)(Q:VK):Prop
 | mk (y:Str) (p:Addr) (is:List Int) (h n:Int):(vs=[.str y,.ref p,.int h,.int n])->(H p=some (.lst (is.map V.int)))->(1<=is.length)->(y∈allR)->((y∈Zhp->2<=is.length))->(∀H',Yb H H'->Q (.int (okI y is h n)) H')->Jd vs H Q
def JO(K:PySem.W.Frag):Sp:=fun vs H Q _=>Jd vs H Q
theorem zu (T:Txt K w mg t) (O:Tbs mg base t):Ym P w K mg base CX0 2 t.ie t.ig ["word","parts","held","then"] (JO K):=by
 have g:Ym P w K mg base CX0 1 t.fj t.fk ["one","other","held"] (Gj K):=xS T O;refine T.de.F.ok zm (fun vs H Q E h=>?_) (fun R A outer s H vs Q E hr h=>?_)
 ·obtain ⟨y,p,is,h,n,rfl,hp,l1,M,l2,k⟩:=h
  rfl
 ·obtain ⟨y,p,is,h,n,rfl,hp,l1,M,l2,k⟩:=h
  have hu:=Y6 hr;refine ⟨_,@QSs.out _ _ _ (Zb (Yo (Zv YJ (qv 0) (Zl (Zg Zf (Zg Zf Za))) (by with_unfolding_all rfl))
    (Zj (Zu (Zi zx (Zi zx (Zx Zt (qv 1) Ze (fun _ _=>rfl)) (Zx Zt (qv 1) Ze (fun _ _=>rfl))) (qv 2)))) ZR)
    (Zb (Yo (Zv Xp (qv 0) Zf (ZZ _))
    (Zj (Zu (Zi zx (Zx Zt (qv 1) Ze (fun _ _=>rfl)) (qv 2)))) ZR)
    (Zb (Yo (Zv Xp (qv 0) Zf (ZZ _))
    (Zj (Zu (qv 2))) ZR)
    (Zb (Yo (Zv Xp (qv 0) Zf (ZZ _))
    (Zj (Zu (Zi WU (Zx Zt (qv 1) Ze (fun _ _=>rfl)) (Gr xo (qv 2))))) ZR)
    (Zb (Yo (Zv YJ (qv 0) (Zl (Zg Zf (Zg Zf Za))) (by with_unfolding_all rfl))
    (Zj (Zu (Gr xo (qv 3)))) ZR)
    (Zb (Yo (Zv Xp (qv 0) Zf (ZZ _))
    (Zj (Zu (qv 3))) ZR)
    (Zj (Zu (Zq g (hr.mono (by decide)) rfl T.bj.m T.bj.F.kp T.bj.b .nil ZY (Zg (Zx Zt (qv 1) Ze (fun _ _=>rfl)) (Zg (Zx Zt (qv 1) Ze (fun _ _=>rfl)) (Zg (qv 2) Za)))))))))))),?_⟩
  clear hu
  try dsimp only [L2.cxK,L2.cxK2]
  refine L2.let7 ?_;intro U6 U5 U4 Z U2 U1;unfold okI at k;refine ⟨_,rfl,by show 2<=sizeLine;decide,fun q S=>⟨q,_,rfl,.inr (SqT.of Zc),rfl,rfl,_,rfl,?_⟩⟩;show if inV (.str y) ((["add","sub"]:List Str).map V.str)=true then _ else _;rw [Ya];have C:=Zd (o:=.tup [.str "add",.str "sub"]) S;have pq:=C _ _ hp;generalize upd H q (.tup [.str "add",.str "sub"])=H1 at *
  by_cases h1:y = "add" \/ y = "sub"
  ·rw [Qaj (by simp only [Qas,Qa6,Qc1];exact h1)]
   rw [Qa4 h1] at k;refine WC ?_;have Y:2<=is.length:=l2 (by rcases h1 with h | h <;> rw [h] <;> decide +kernel);exact ⟨_,rfl,p,_,0,_,rfl,rfl,SqL.of pq,ZO 0 rfl l1,_,rfl,p,_,1,_,rfl,rfl,SqL.of pq,ZO 1 rfl Y,_,_,rfl,rfl,_,rfl,_,_,rfl,rfl,k H1 C⟩
  rw [Qak (by simp only [Qas,Qa6,Qc1];exact h1)];rw [Qax h1] at k;refine X9 ⟨_,rfl,rfl,_,rfl,?_⟩
  by_cases h2:y = "neg"
  ·rw [Qaj (congrArg V.str h2)]
   rw [Qa4 h2] at k;refine WC ?_;exact ⟨_,rfl,p,_,0,_,rfl,rfl,SqL.of pq,ZO 0 rfl l1,_,rfl,_,_,rfl,rfl,k H1 C⟩
  rw [Qak (fun z=>h2 (by injection z))];rw [Qax h2] at k;refine X9 ⟨_,rfl,rfl,_,rfl,?_⟩
  by_cases I:y = "twice"
  ·rw [Qaj (congrArg V.str I)]
   rw [Qa4 I] at k;refine WC ?_;exact ⟨_,rfl,k H1 C⟩
  rw [Qak (fun z=>I (by injection z))];rw [Qax I] at k;refine X9 ⟨_,rfl,rfl,_,rfl,?_⟩
  by_cases D:y = "low"
  ·rw [Qaj (congrArg V.str D)]
   rw [Qa4 D] at k;refine WC ?_;exact ⟨_,rfl,p,_,0,_,rfl,rfl,SqL.of pq,ZO 0 rfl l1,_,rfl,_,rfl,_,_,rfl,rfl,k H1 C⟩
  rw [Qak (fun z=>D (by injection z))];rw [Qax D] at k;refine X9 ⟨_,rfl,by show 2<=sizeLine;decide,fun r hr=>⟨r,_,rfl,.inr (SqT.of Zc),rfl,rfl,_,rfl,?_⟩⟩;show if inV (.str y) ((["same","nought"]:List Str).map V.str)=true then _ else _;rw [Ya];have J:=Zd (o:=.tup [.str "same",.str "nought"]) hr;have N:=J _ _ pq;generalize upd H1 r (.tup [.str "same",.str "nought"])=H2 at *
  by_cases G:y = "same" \/ y = "nought"
  ·rw [Qaj (by simp only [Qas,Qa6,Qc1];exact G)]
   rw [Qa4 G] at k;refine WC ?_;exact ⟨_,rfl,_,rfl,k H2 (C.trans J)⟩
  rw [Qak (by simp only [Qas,Qa6,Qc1];exact G)];rw [Qax G] at k;refine X9 ⟨_,rfl,rfl,_,rfl,?_⟩
  by_cases L:y = "under"
  ·rw [Qaj (congrArg V.str L)]
   rw [Qa4 L] at k;refine WC ?_;exact ⟨_,rfl,k H2 (C.trans J)⟩
  rw [Qak (fun z=>L (by injection z))];rw [Qax L] at k;exact X9 ⟨_,rfl,p,_,1,_,rfl,rfl,SqL.of N,ZO 1 rfl (l2 (Za4 y M I (fun z=>by rcases z with z | z | z;exact h2 z;exact D z;exact G (.inr z)))),_,rfl,p,_,0,_,rfl,rfl,SqL.of N,ZO 0 rfl l1,_,rfl,_,_,_,rfl,k H2 (C.trans J)⟩
def xX:List Str:=["x","y","ab","aba","nots","adda","lowly","z","orb","xx","samer","pickaxes","yesx","subx","a","ba"]
def vow:List Nat:=[97,101,105,111,117]
def cns:List Nat:=("bcdfghjkmpqrtvxz" : Str).cps.toList
theorem Zij:∀y∈xX,y∉YB:=by decide +kernel
theorem Zci:xX.Nodup:=by decide +kernel
theorem zY:∀c∈cns,c∉vow/\c∉("lnsw" : Str).cps.toList:=by decide +kernel
theorem Zik:∀c∈("lnsw" : Str).cps.toList,c∉vow:=by decide +kernel
theorem Zed:∀y∈YB,∃c∈y.cps.toList,c∈vow:=by decide +kernel
theorem Zcj{y:Str}(h:∀c∈y.cps.toList,c∉vow):y∉YB:=fun z=>let ⟨c,h1,h2⟩:=Zed y z;h c h1 h2
inductive JP(vs:List V)(H:Hp)(Q:VK):Prop
 | mk (cell:Int) (many:Nat):(vs=[.int cell,.int (many:Int)])->(many<=3)->(∀p (ys:List Str) H',H p=none->H' p=some (.tup (ys.map V.str))->ys.length<=3->ys.Nodup->(∀y∈ys,y∉YB)->Yb H H'->Q (.ref p) H')->JP vs H Q
def qH(K:PySem.W.Frag):Sp:=fun vs H Q _=>JP vs H Q
theorem Zil{ys:List Str}{x s:Int}(J:0<=x)(G:1<=s)(I:s<=5)(hl:ys.length=3)(h:∀(i:Nat) (y:Str),ys[i]?=some y->xX[((x + (i:Int) * s) % 16).toNat]?=some y):ys.Nodup:=by
 match ys,hl with
 | [a,b,c],_ =>
  have ha:=h 0 a rfl;have hb:=h 1 b rfl;have hc:=h 2 c rfl;have ne:∀{i j:Int} {u v:Str},0<=i->i < 16->0<=j->j < 16->i≠j->xX[i.toNat]?=some u->xX[j.toNat]?=some v->u≠v:=fun {i j u v} M i1 L j1 E hu hv e=>by
   subst e;have e1:=WV Zci hu;have e2:=WV Zci hv;lia
  have g:∀z:Int,0<=z % 16/\z % 16 < 16:=fun z=>⟨Qbi _ (by decide),Qbb _ (by decide)⟩;have D:=ne (g _).1 (g _).2 (g _).1 (g _).2 (by lia) ha hb;have q:=ne (g _).1 (g _).2 (g _).1 (g _).2 (by lia) ha hc;have C:=ne (g _).1 (g _).2 (g _).1 (g _).2 (by lia) hb hc;simp [D,q,C]
theorem yJ (T:Txt K w mg t) (TB:Tbs mg base t):Ym P w K mg base CX0 2 t.ly t.lz ["cell","many"] (qH K):=by
 have D:Ym P w K mg base CX0 1 t.bq t.br ["cell","many","most"] (Xo K):=Wr T TB;refine T.et.F.ok Yx (fun vs H Q E h=>?_) (fun cdv A outer s H vs Q E hr h=>?_)
 ·obtain ⟨J,L,rfl,hmany,k⟩:=h
  rfl
 ·obtain ⟨J,L,rfl,hmany,k⟩:=h
  have hu:=Y6 hr;refine ⟨_,@QSs.out _ _ _ (Zb (Zr (i:=2) Yx.nd rfl (Or.inr rfl) (Zq D (hr.mono (by decide)) rfl T.ai.m T.ai.F.kp T.ai.b .nil ZY (Zg (qv 0) (Zg Ze (Zg Ze Za)))))
    (Zb (Zr (i:=3) Yx.nd rfl (Or.inr rfl) (YQ (Zg Zf (Zg Zf (Zg Zf (Zg Zf (Zg Zf (Zg Zf (Zg Zf (Zg Zf (Zg Zf (Zg Zf (Zg Zf (Zg Zf Za))))))))))))))
    (Zb (Zr (i:=3) Yx.nd rfl (Or.inr rfl) (Zi jX (qv 3) (YQ (Zg Zf (Zg Zf (Zg Zf (Zg Zf Za)))))))
    (Zb (jk (i:=4) Yx.nd rfl rfl (⟨by rfl,by decide +kernel,by decide +kernel,by rfl,by decide +kernel,by decide +kernel,by rfl,by decide +kernel⟩:Ys (Zk XO) _ ["cell","many","xs","menu","some","base","at","turn"] "k" ["menu","xs"] [3,2]) (XD rfl T.cq (Zg Ze Za)) (fun _ _ _ _=>Wu) (fun _ _ _ _=>(Zx (show IxR _ (Zin K) from Zt) (qv 1) (Zi Yg (Zi YY (Zx (show IxR _ (Zin K) from Zt) (qv 2) Ze (fun _ _=>rfl)) (Zi JT (qv 0) (Zi YY Ze (Zi Yg (Zx (show IxR _ (Zin K) from Zt) (qv 2) Ze (fun _ _=>rfl)) Ze)))) Ze) (fun _ _=>rfl))))
    (Zb (Yo (Zv Xp (Zi Yg (Zx Zt (qv 2) Ze (fun _ _=>rfl)) Ze) Ze (ZZ _))
    (Zb (Zr (i:=5) Yx.nd rfl (Or.inl rfl) (Yj PySem.F.plainAttrs_str PySem.F.slot_str_join PySem.F.type_str_join Zgm Zf (Zg (XE (⟨by rfl,by decide +kernel,by decide +kernel,by rfl,by decide +kernel,by decide +kernel,by rfl,by decide +kernel⟩:Ys (Zk XO) _ ["cell","many","xs","menu","some","base","at","turn"] "k" ["xs"] [2]) (XD rfl T.cq (Zg (Zi YY Ze (Zi Yg (Zx Zt (qv 2) Ze (fun _ _=>rfl)) Ze)) Za)) (fun _ _ _ _=>Wu) (fun _ _ _ _=>(Zx uf Zf (Zi Yg (Zx (show IxR _ (Zin K) from Zt) (qv 1) (Zi YY Ze (qv 0)) (fun _ _=>rfl)) Ze) (fun _ _=>rfl)))) Za)))
    (Zb (Zr (i:=6) Yx.nd rfl (Or.inl rfl) (Zi Yg (Zx Zt (qv 2) Ze (fun _ _=>rfl)) (ZH jV (by rfl) T.ao YN (Zg (qv 5) Za))))
    (Zj (Zr (i:=4) Yx.nd rfl (Or.inl rfl) (YQ (Zg (qv 5) (Zg (Zi GO (qv 5) (Zx uf Zf (Zi Yg (Zx Zt (qv 2) Ze (fun _ _=>rfl)) Ze) (fun _ _=>rfl))) (Zg (Zi GO (Zi GO (YL Ze5 (qv 5) Jj (Y9 (qv 6))) (Zx uf Zf (Zi Yg (Zx Zt (qv 2) Ze (fun _ _=>rfl)) Ze) (fun _ _=>rfl))) (YL Ze5 (qv 5) (Y9 (Zi YY (qv 6) Ze)) Jj)) Za)))))))) ZR)
    (Zb (Zr (i:=7) Yx.nd rfl (Or.inl rfl) (Zi Yg (Zi YZ (Zx Zt (qv 2) Ze (fun _ _=>rfl)) Ze) Ze))
    (Zj (Zu (Yr ZW (by rfl) T.az YT (Zg (ZH yd (by rfl) T.oi ur (Zg (YL XB (Zi jX (YL XB (qv 4) (Y9 (qv 7)) Jj) (YL XB (qv 4) Jj (Y9 (qv 7)))) Jj (Y9 (qv 1))) Za)) Za)))))))))),?_⟩
  clear hu hr
  try dsimp only [L2.cxK,L2.cxK2]
  refine L2.let7 ?_;intro U6 U5 U4 U3 U2 U1;refine ⟨_,rfl,J,12,400,rfl,by decide,by decide,by decide,fun p C H1 hp h1 hl hb s1=>?_⟩;have hx:∀j,j < 12->0<=C.getD j 0/\C.getD j 0 < 400:=fun j hj=>Zhh hb j (by lia);refine ⟨by show 12<=sizeLine;decide,fun m1 hm1=>?_⟩;refine ⟨_,rfl,by show 4<=sizeLine;decide,fun m2 hm2=>⟨m1,m2,_,_,rfl,rfl,Zd hm2 _ _ Zc,Zc,by show 16<=sizeLine;decide,fun m hm=>?_⟩⟩;have s4:=((Zd (o:=.lst [.str "x",.str "y",.str "ab",.str "aba",.str "nots",.str "adda",.str "lowly",.str "z",.str "orb",.str "xx",.str "samer",.str "pickaxes"]) hm1).trans (Zd (o:=.lst [.str "yesx",.str "subx",.str "a",.str "ba"]) hm2)).trans (Zd (o:=.lst (xX.map V.str)) hm);refine ⟨3,rfl,by decide,by decide,yo (n:=3) (fun i v=>∃y,v=.str y/\xX[((C.getD 1 0 + (i:Int) * (1 + C.getD 2 0 % 5)) % 16).toNat]?=some y) (by decide) (fun i hi R hR=>?_) (fun vs I S q hq=>?_)⟩
  ·have e0:0<=(C.getD 1 0 + (0 + (i:Int)) * (1 + C.getD 2 0 % 5)) % 16:=Qbi _ (by decide)
   have e1:(C.getD 1 0 + (0 + (i:Int)) * (1 + C.getD 2 0 % 5)) % 16 < 16:=Qbb _ (by decide);rw [Qgn] at e0 e1;obtain ⟨y,G⟩:∃y,xX[((C.getD 1 0 + (i:Int) * (1 + C.getD 2 0 % 5)) % 16).toNat]?=some y:=⟨_,Qab (by show _ < 16;lia)⟩;have ey:atI (xX.map V.str) ((C.getD 1 0 + (0 + (i:Int)) * (1 + C.getD 2 0 % 5)) % 16)=some (.str y):=by
    rw [Qgn];obtain ⟨j,hj⟩:∃j:Nat,(C.getD 1 0 + (i:Int) * (1 + C.getD 2 0 % 5)) % 16=(j:Int):=⟨_,(Int.toNat_of_nonneg e0).symm⟩;rw [hj,Qa9] at G;rw [hj];exact YI (by rw [Qah,G];rfl)
   exact ⟨_,rfl,_,rfl,p,_,_,_,rfl,rfl,SqL.of (s4 _ _ h1),ZO 1 rfl (by lia),_,rfl,_,rfl,p,_,_,_,rfl,rfl,SqL.of (s4 _ _ h1),ZO 2 rfl (by lia),_,_,rfl,rfl,(by show (0:Int) < 5;decide),_,_,rfl,rfl,_,_,rfl,rfl,.inr (.inl ⟨by lia,by lia⟩),_,_,rfl,rfl,_,_,rfl,rfl,(by show (0:Int) < 16;decide),m,xX.map V.str,_,_,rfl,rfl,SqL.of Zc,ey,hR _ ⟨y,rfl,G⟩⟩
  obtain ⟨ys,rfl,_⟩:=vn (P:=fun _=>True) (fun v hv=>by
   obtain ⟨i,hi⟩:=Qb5.mp hv;obtain ⟨y,e,_⟩:=S i v hi;exact ⟨y,e,trivial⟩)
  rw [Qad] at I;have hyi:∀(i:Nat) (y:Str),ys[i]?=some y->xX[((C.getD 1 0 + (i:Int) * (1 + C.getD 2 0 % 5)) % 16).toNat]?=some y:=fun i y G=>by
   obtain ⟨z,e,h⟩:=S i (.str y) (by rw [Qah,G];rfl);injection e with e;rw [e];exact h
  have O:∀y∈ys,y∉YB:=fun y G=>by
   obtain ⟨i,hi⟩:=Qb5.mp G;exact Zij y (Qao (hyi i y hi))
  have b2:=hx 2 (by decide);have hyd:ys.Nodup:=Zil (x:=C.getD 1 0) (s:=1 + C.getD 2 0 % 5) (hx 1 (by decide)).1 (by lia) (by lia) I hyi;have s5:=s4.trans (Zd (o:=.lst (ys.map V.str)) hq);refine Zo ?_;refine Zas (fun σ H'=>∃(q:Addr) (ys:List Str) (b a:Option V),σ=[some (.int J),some (.int L),some (.ref p),some (.ref m),some (.ref q),b,a,none]/\H' q=some (.lst (ys.map V.str))/\ys.length=3/\ys.Nodup/\(∀y∈ys,y∉YB)/\Yb H1 H') (fun N hN=>?_) ?_
  ·refine ⟨_,rfl,p,_,_,_,rfl,rfl,SqL.of (s5 _ _ h1),ZO 0 rfl (by lia),_,_,rfl,rfl,(by show (0:Int) < 2;decide),rfl,_,rfl,vW (fun _=>?_) (fun _=>?_)⟩
   ·have b1:=hx 1 (by decide)
    refine ⟨rfl,_,rfl,p,_,_,_,rfl,rfl,SqL.of (s5 _ _ h1),ZO 1 rfl (by lia),_,_,rfl,rfl,(by show (0:Int) < 7;decide),_,_,rfl,rfl,_,rfl,?_,?_,yo (n:=(1 + C.getD 1 0 % 7).toNat) (fun _ v=>∃y,v=.str y/\∃c,y=⟨#[c]⟩/\c∈cns) ?_ (fun i hi R hR=>?_) (fun vs I S l hl2=>?_)⟩
    ·lia
    ·lia
    ·exact Qa5 (Zs (by lia))
    ·obtain ⟨c,hc,ec⟩:=vm (z:=("bcdfghjkmpqrtvxz" : Str)) (i:=C.getD (3 + i) 0 % 16) 16 (by decide +kernel) (Qbi _ (by decide)) (Qbb _ (by decide))
     exact ⟨_,rfl,_,rfl,_,_,rfl,rfl,p,_,_,_,rfl,rfl,SqL.of (s5 _ _ h1),ZO (3 + i) (by lia) (by lia),_,_,rfl,rfl,(by show (0:Int) < 16;decide),_,_,c,rfl,rfl,by decide +kernel,ec,hR _ ⟨_,rfl,c,rfl,hc⟩⟩
    obtain ⟨zs,rfl,hzs⟩:=vn (P:=fun y=>∃c,y=⟨#[c]⟩/\c∈cns) (mem_at S);rw [Qad] at I;obtain ⟨f1,f2,f3⟩:=Zat hzs;have s6:=s5.trans (Zd (o:=.lst (zs.map V.str)) hl2);refine ⟨_,l,zs,rfl,rfl,SqL.of Zc,?_,?_⟩
    ·rw [f3]
     show zs.length + zs.length * 0<=_;lia
    have js:=wX ("" : Str) (by decide +kernel) zs;rw [<-js] at f1 f2;generalize Txt.join ("" : Str) zs=B at *;have hB:B.length=zs.length:=by rw [len_signs];exact f1
    refine ⟨_,rfl,p,_,_,_,rfl,rfl,SqL.of (s6 _ _ h1),ZO 2 rfl (by lia),_,rfl,B,rfl,Qa5 (Zs (by lia)),_,_,rfl,rfl,(by show (0:Int) < B.length;lia),?_⟩
    try dsimp only
    have a0:0<=C.getD 2 0 % (B.length:Int):=Qbi _ (by lia);have a1:C.getD 2 0 % (B.length:Int) < B.length:=Qbb _ (by lia);generalize C.getD 2 0 % (B.length:Int)=a at *;obtain ⟨j,rfl⟩:∃j:Nat,a=(j:Int):=⟨a.toNat,by lia⟩;obtain ⟨c1,hc1,ec1⟩:=vm (z:=("bcdfghjkmpqrtvxz" : Str)) (i:=C.getD 10 0 % 16) 16 (by decide +kernel) (Qbi _ (by decide)) (Qbb _ (by decide));obtain ⟨M,hc2,ec2⟩:=vm (z:=("lnsw" : Str)) (i:=C.getD 11 0 % 4) 4 (by decide +kernel) (Qbi _ (by decide)) (Qbb _ (by decide));have hs1:(Txt.slice B none (some (j:Int))).cps.toList=B.cps.toList.take j:=Zdn (by lia);have hs2:(Txt.slice B (some ((j:Int) + 1)) none).cps.toList=B.cps.toList.drop (j + 1):=wW (i:=j + 1) (by lia);have l1:=Qfp B none (some (j:Int));have l2:=Qfp B (some ((j:Int) + 1)) none;have one:∀c:Nat,(⟨#[c]⟩:Str).length=1:=fun _=>rfl;refine ⟨_,rfl,_,rfl,_,rfl,p,_,_,_,rfl,rfl,SqL.of (s6 _ _ h1),ZO 10 rfl (by lia),_,_,rfl,rfl,(by show (0:Int) < 16;decide),_,_,c1,rfl,rfl,by decide +kernel,ec1,_,_,rfl,rfl,?_,?_⟩
    ·rw [one]
     exact Qa5 (Zs (by lia))
    refine ⟨_,rfl,_,rfl,_,rfl,_,rfl,Qa5 (Zs (by lia)),_,rfl,p,_,_,_,rfl,rfl,SqL.of (s6 _ _ h1),ZO 11 rfl (by lia),_,_,rfl,rfl,(by show (0:Int) < 4;decide),_,_,M,rfl,rfl,by decide +kernel,ec2,_,_,rfl,rfl,?_,?_⟩
    ·rw [one]
     exact Qa5 (Zs (by lia))
    refine ⟨_,rfl,_,rfl,_,_,rfl,rfl,_,rfl,_,rfl,Qa5 (Zs (by lia)),_,_,rfl,rfl,?_,by show 3<=sizeLine;decide,fun g hg=>?_⟩
    ·rw [Str.length_append,one]
     exact Qa5 (Zs (by lia))
    refine hN _ _ ⟨g,[B,B++⟨#[c1]⟩,Txt.slice B none (some (j:Int))++⟨#[M]⟩++Txt.slice B (some ((j:Int) + 1)) none],_,_,rfl,Zc,rfl,?_,?_,s6.trans (Zd hg)⟩
    ·have e1:(B++⟨#[c1]⟩:Str).cps.toList=B.cps.toList++[c1]:=Xr _ _
     have e2:(Txt.slice B none (some (j:Int))++⟨#[M]⟩++Txt.slice B (some ((j:Int) + 1)) none).cps.toList=B.cps.toList.take j++[M]++B.cps.toList.drop (j + 1):=by rw [Xr,Xr,hs1,hs2]
     have lB:=len_signs B;have jl:j < B.cps.toList.length:=by lia
     have Y:(B.cps.toList.take j++[M]++B.cps.toList.drop (j + 1))[j]?=some M:=by
      rw [Qbu,Qau (by rw [Qa1];lia),Qa1,Qem (by lia),Qdd]
      rfl
     have nc2:∀c,B.cps.toList[j]?=some c->c≠M:=fun c hc e=>(zY c (f2 c (Qao hc))).2 (by rw [e];exact hc2);have d12:B≠B++⟨#[c1]⟩:=fun e=>by
      have:=congrArg (fun s:Str=>s.cps.toList.length) e;simp only [e1,Qaf,Qbc,Qdc] at this;lia
     have d13:B≠Txt.slice B none (some (j:Int))++⟨#[M]⟩++Txt.slice B (some ((j:Int) + 1)) none:=fun e=>by
      have e3:=congrArg (fun s:Str=>s.cps.toList) e;simp only [e2] at e3;rw [<-e3] at Y;exact nc2 _ Y rfl
     have d23:B++⟨#[c1]⟩≠Txt.slice B none (some (j:Int))++⟨#[M]⟩++Txt.slice B (some ((j:Int) + 1)) none:=fun e=>by
      have e3:=congrArg (fun s:Str=>s.cps.toList) e;simp only [e1,e2] at e3;rw [<-e3,Qaw jl] at Y;exact nc2 _ Y rfl
     simp [d12,d13,d23]
    ·intro y G
     simp only [Qas,Qa6,Qc1] at G;rcases G with rfl | rfl | rfl
     ·exact Zcj fun c hc=>(zY c (f2 c hc)).1
     ·refine Zcj fun c hc=>?_
      rw [Xr] at hc;rcases Qbk.mp hc with h | h
      ·exact (zY c (f2 c h)).1
      ·rw [Qay.mp h]
       exact (zY c1 hc1).1
     ·refine Zcj fun c hc=>?_
      rw [Xr,Xr,hs1,hs2] at hc;rcases Qbk.mp hc with h | h
      ·rcases Qbk.mp h with h | h
       ·exact (zY c (f2 c (Qdj h))).1
       ·rw [Qay.mp h]
        exact Zik M hc2
      ·exact (zY c (f2 c (Qc7 h))).1
   ·exact hN _ _ ⟨q,ys,none,none,rfl,Zc,I,hyd,O,s5⟩
  rintro σ H' hz_;refine ZT fun Gz hGz=>?_;obtain ⟨q,ys,b,a,rfl,hq,hl3,hyd,O,s6⟩:=hz_;refine hGz ?_;clear hGz Gz;refine ⟨_,rfl,p,_,_,_,rfl,rfl,SqL.of (s6 _ _ h1),ZO 0 rfl (by lia),_,_,rfl,rfl,.of (by decide) (by decide),_,_,rfl,rfl,(by show (0:Int) < 3;decide),?_⟩
  try dsimp only
  have t0:0<=C.getD 0 0 / 2 % 3:=by lia
  generalize C.getD 0 0 / 2 % 3=t at *;obtain ⟨t,rfl⟩:∃j:Nat,t=(j:Int):=⟨t.toNat,by lia⟩;refine ⟨_,rfl,_,rfl,_,rfl,q,_,rfl,SqL.of hq,fun l1 hl1=>?_⟩;rw [Wa,ym];have u1:=Zd (o:=.lst ((ys.drop t).map V.str)) hl1;refine ⟨_,rfl,_,rfl,_,rfl,q,_,rfl,SqL.of (u1 _ _ hq),fun l2 hl2=>?_⟩;rw [Wa,x4];have u2:=Zd (o:=.lst ((ys.take t).map V.str)) hl2;refine ⟨l1,l2,_,_,rfl,rfl,u2 _ _ Zc,Zc,?_,fun l3 hl3'=>?_⟩
  ·rw [Qad,Qad,Qbn,Qa1]
   exact Qa5 (Zs (by lia))
  rw [<-Qbm];have u3:=Zd (o:=.lst ((ys.drop t++ys.take t).map V.str)) hl3';refine ⟨_,rfl,_,rfl,l3,_,rfl,SqL.of Zc,fun l4 hl4=>?_⟩;rw [Wa,x4];have u4:=Zd (o:=.lst (((ys.drop t++ys.take t).take L).map V.str)) hl4;refine ⟨l4,_,rfl,SqL.of Zc,?_,fun l5 ms hl5 Z hsr=>⟨l5,_,rfl,.inl ⟨SqL.of Zc,fun l6 hl6=>?_⟩⟩⟩
  ·rw [Qa1]
   lia
  have u5:=Zd (o:=.lst (ms.map V.str)) hl5;have u:=s1.trans (s6.trans (((u1.trans u2).trans (u3.trans u4)).trans u5));refine k l6 ms _ (u.free hl6) Zc ?_ ?_ ?_ (u.trans (Zd hl6))
  ·rw [Z.length_eq,Qa1]
   lia
  ·refine Z.nodup_iff.mpr (List.Nodup.sublist (List.take_sublist _ _) ?_)
   exact (List.perm_append_comm.nodup_iff).mpr (by rw [Qcc];exact hyd)
  ·intro y G
   have:=Qdj (Z.mem_iff.mp G);rcases Qbk.mp this with z | z
   ·exact O y (Qc7 z)
   ·exact O y (Qdj z)
inductive qI(vs:List V)(H:Hp)(Q:VK):Prop
 | mk (pn tn:Addr) (ns:List Int) (ys:List Str) (most:Nat):(vs=[.ref pn,.ref tn,.int (most:Int)])->(H pn=some (.lst (ns.map V.int)))->(1<=ns.length)->(ns.length<=20)->((∀x∈ns,0<=x))->(H tn=some (.tup (ys.map V.str)))->(ys.length<=3)->((∀y∈ys,y∉YB))->(∀p ws H',H' p=some (.tup ws)->ws.length < 2 * ns.length->(∀w∈ws,zd ys 10 w)->YS ws->GL ws=1->YV ws<=most->Yb H H'->Q (.ref p) H')->qI vs H Q
def qr(K:PySem.W.Frag):Sp:=fun vs H Q _=>qI vs H Q
def YD (y:Str):Nat:=if y = "pick" then 3 else if y∈(["not","neg","twice","low"]:List Str) then 1 else 2
theorem gy:∀y∈Ji,Yk y=YD y:=by decide +kernel
theorem Zim(y:Str):1<=YD y/\YD y<=3:=by
 unfold YD
 split
 ·lia
 ·split <;> lia
theorem zZ (T:Txt K w mg t) (TB:Tbs mg base t):Ym P w K mg base CX0 2 t.iq t.ir ["numbers","names","most"] (qr K):=by
 have G_law_atom:Ym P w K mg base CX0 1 t.mh t.mi ["number","names"] (Gk K):=vP T TB;have R:Ym P w K mg base CX0 1 t.ib t.ic ["words"] (JL K):=zt T TB;have Z:Ym P w K mg base CX0 1 t.mj t.ml ["number","left"] (xT K):=vQ T TB;refine T.ag.F.ok Yh (fun vs H Q E h=>?_) (fun cdv A outer s H vs Q E hr h=>?_)
 ·obtain ⟨pn,tn,ns,ys,I,rfl,hpn,h1,h20,hns,htn,hy3,hyk,k⟩:=h
  rfl
 ·obtain ⟨pn,tn,ns,ys,I,rfl,hpn,h1,h20,hns,htn,hy3,hyk,k⟩:=h
  have hu:=Y6 hr;refine ⟨_,@QSs.out _ _ _ (Zb (Zr (i:=3) Yh.nd rfl (Or.inl rfl) (YQ Za))
    (Zb (Zr (i:=4) Yh.nd rfl (Or.inl rfl) (qv 2))
    (Zb (JE Qb8 rfl (XC (qv 0)) (Y3 (i:=5) Yh.nd rfl (Or.inl rfl))
    (Zb (Zr (i:=6) Yh.nd rfl (Or.inl rfl) (Zq Z (hr.mono (by decide)) rfl T.fu.m T.fu.F.kp T.fu.b .nil ZY (Zg (qv 5) (Zg (qv 4) Za))))
    (Zb (Zr (i:=7) Yh.nd rfl (Or.inl rfl) Ze)
    (Zb (Yo (Zv YJ (qv 6) (Zl (Zg Zf (Zg Zf (Zg Zf (Zg Zf Za))))) (by with_unfolding_all rfl))
    (Zj (Zr (i:=7) Yh.nd rfl (Or.inl rfl) Ze)) ZR)
    (Zb (Yo (Zv Xp (qv 6) Zf (ZZ _))
    (Zj (Zr (i:=7) Yh.nd rfl (Or.inl rfl) Ze)) ZR)
    (Zj (Yo (wK (Zgk (Zv Xp (qv 6) Zf (ZZ _)) (ux (Zv gT (ZH Z0 (by rfl) T.ao YN (Zg (qv 3) Za)) (qv 7) (ZZ _)))))
    (Zj (ZU (Yj Qap Qaq Qar Zy (qv 3) (Zg (Zq G_law_atom (hr.mono (by decide)) rfl T.ft.m T.ft.F.kp T.ft.b .nil ZY (Zg (qv 5) (Zg (qv 1) Za))) Za)))) (Zb (Zr (i:=4) Yh.nd rfl (Or.inl rfl) (Zi jO (qv 4) (Zq R (hr.mono (by decide)) rfl T.dc.m T.dc.F.kp T.dc.b .nil ZY (Zg (YQ (Zg (qv 6) Za)) Za))))
    (Zb (Zr (i:=8) Yh.nd rfl (Or.inl rfl) (Zl (Zg (qv 6) Za)))
    (Zb (JE Qb8 rfl (XC (YL XB (qv 3) (Y9 (Zi jO (ZH Z0 (by rfl) T.ao YN (Zg (qv 3) Za)) (qv 7))) Jj)) (Y3 (i:=9) Yh.nd rfl (Or.inl rfl))
    (Zj (Zr (i:=8) Yh.nd rfl (Or.inl rfl) (Zi Zh (qv 8) (qv 9)))))
    (Zj (Zr (i:=3) Yh.nd rfl (Or.inl rfl) (Zi jX (YL XB (qv 3) Jj (Y9 (Zi jO (ZH Z0 (by rfl) T.ao YN (Zg (qv 3) Za)) (qv 7)))) (YQ (Zg (qv 8) Za)))))))))))))))
    (Zb (qU Qb8 (Zv Zf7 (ZH Z0 (by rfl) T.ao YN (Zg (qv 3) Za)) Ze (ZZ _))
    (Zj (Zr (i:=3) Yh.nd rfl (Or.inl rfl) (Zi jX (YL XB (qv 3) Jj (Y9 (Gr xm Ze))) (YQ (Zg (Zi Zh (Zi Zh (Zl (Zg (Zx Zt (YQ (Zg Zf (Zg Zf (Zg Zf Za)))) (Zi Yg (ZH Z0 (by rfl) T.ao YN (Zg (qv 3) Za)) Ze) (fun _ _=>rfl)) Za)) (Zx Zt (qv 3) (Gr xm Ze) (fun _ _=>rfl))) (Zx Zt (qv 3) (Gr xm Ze) (fun _ _=>rfl))) Za))))))
    (Zj (Zu (Zx Zt (qv 3) Ze (fun _ _=>rfl)))))))),?_⟩
  clear hu
  try dsimp only [L2.cxK,L2.cxK2]
  refine L2.let5 ?_;intro U4 U3 U2 U1;refine ⟨by show 0<=sizeLine;decide,fun J hso=>Zo ⟨_,rfl,Zo ?_⟩⟩;have s0:=Zd (o:=.lst []) hso;refine ⟨_,rfl,pn,rfl,⟨_,SqL.of (s0 _ _ hpn)⟩,vT (K:=K) (a:=pn) (xs:=ns.map V.int) (fun i σ H2=>∃(J:Addr) (left:Nat) (u5 u6 u7 u8 u9:Option V) (zs:List V) (C:List (List V)),σ=[some (.ref pn),some (.ref tn),some (.int (I:Int)),some (.ref J),some (.int (left:Int)),u5,u6,u7,u8,u9]/\H2 J=some (.lst zs)/\H J=none/\YC H2 zs C/\vD ys C/\YV C.flatten + left=I/\C.flatten.length<=i/\C.length<=i/\(1<=i->1<=C.length)/\i<=ns.length/\Yb H H2) ⟨J,I,none,none,none,none,none,[],[],rfl,Zc,hso,YC.nil,(fun ps hp=>by cases hp),Nat.zero_add _,Qai _,Qai _,(fun h=>absurd h (Nat.not_succ_le_zero _)),Qbp _,s0⟩ (fun i σ H2 _ ⟨_,_,_,_,_,_,_,_,_,_,_,_,_,_,_,_,_,_,_,s⟩=>SqL.of (s _ _ hpn)) ?_ ?_⟩
  ·rintro i x σ H2 hx L
   refine ZT fun Y G=>?_;obtain ⟨J,left,u5,u6,u7,u8,u9,zs,C,rfl,h2,hso0,R2,G2,M,hfl,hpl,hp1,_,s2⟩:=L;refine G ?_;clear G Y;rw [Qah] at hx;obtain ⟨n,hn,rfl⟩:=Qbh.mp hx;have hi:i < ns.length:=(Qac.mp hn).1;have hn0:=hns n (Qao hn);have hzl:=R2.1;refine ⟨_,rfl,_,rfl,n,(left:Int),rfl,hn0,fun y H3 hy hyr s3=>Zo ?_⟩;have s23:=s2.trans s3;have h3:=s3 _ _ h2;have R3:=R2.same s3;refine Zas (fun σ H'=>σ=[some (.ref pn),some (.ref tn),some (.int (I:Int)),some (.ref J),some (.int (left:Int)),some (.int n),some (.str y),some (.int 2),u8,u9]/\H'=H3) (fun N hN=>hN _ _ ⟨rfl,rfl⟩) ?_;rintro σ H3 L;refine ZT fun Y G=>?_;obtain ⟨rfl,rfl⟩:=L;refine G ?_;clear G Y;refine vZ (fun σ H'=>σ=[some (.ref pn),some (.ref tn),some (.int (I:Int)),some (.ref J),some (.int (left:Int)),some (.int n),some (.str y),some (.int (if y∈(["not","neg","twice","low"]:List Str) then 1 else 2)),u8,u9]/\Yb H3 H') (fun N hN=>?_) ?_
   ·refine ⟨_,rfl,by show 4<=sizeLine;decide,fun q hq=>⟨q,_,rfl,.inr (SqT.of Zc),rfl,rfl,_,rfl,?_⟩⟩
    show if inV (.str y) ((["not","neg","twice","low"]:List Str).map V.str)=true then _ else _;rw [Ya];have sq:=Zd (o:=.tup [.str "not",.str "neg",.str "twice",.str "low"]) hq
    by_cases h:y∈(["not","neg","twice","low"]:List Str)
    ·rw [Qa4 h] at hN
     rw [Qaj h];exact WC (hN _ _ ⟨rfl,sq⟩)
    ·rw [Qax h] at hN
     rw [Qak h];exact X9 (hN _ _ ⟨rfl,sq⟩)
   rintro σ H4 L;refine ZT fun Y G=>?_;obtain ⟨rfl,s4⟩:=L;refine G ?_;clear G Y;refine vZ (fun σ H'=>σ=[some (.ref pn),some (.ref tn),some (.int (I:Int)),some (.ref J),some (.int (left:Int)),some (.int n),some (.str y),some (.int (YD y:Int)),u8,u9]/\H'=H4) (fun N hN=>?_) ?_
   ·refine ⟨_,rfl,rfl,_,rfl,?_⟩
    unfold YD at hN
    by_cases h:y = "pick"
    ·rw [Qa4 h] at hN
     rw [Qaj (congrArg V.str h)];exact WC (hN _ _ ⟨rfl,rfl⟩)
    ·rw [Qax h] at hN
     rw [Qak fun z=>h (by injection z)];refine X9 (hN _ _ ⟨?_,rfl⟩)
     split <;> rfl
   rintro σ H5 L;refine ZT fun Y G=>?_;obtain ⟨rfl,rfl⟩:=L;refine G ?_;clear G Y;have s24:=s23.trans s4;have h4:=s4 _ _ h3;have R4:=R3.same s4;have hbw:=Zim y;have atom:∀(D:Ends),(∀σ' H',(∃(J:Addr) (left:Nat) (u5 u6 u7 u8 u9:Option V) (zs:List V) (C:List (List V)),σ'=[some (.ref pn),some (.ref tn),some (.int (I:Int)),some (.ref J),some (.int (left:Int)),u5,u6,u7,u8,u9]/\H' J=some (.lst zs)/\H J=none/\YC H' zs C/\vD ys C/\YV C.flatten + left=I/\C.flatten.length<=i + 1/\C.length<=i + 1/\(1<=i + 1->1<=C.length)/\i + 1<=ns.length/\Yb H H')->D.nx σ' H')->wC (tBM K "list" yP (JC 3) (Y1 (Zcu (Gk K) [] E0 (Y1 (JC 5) (Y1 (JC 1) qS))) qS)) D [some (.ref pn),some (.ref tn),some (.int (I:Int)),some (.ref J),some (.int (left:Int)),some (.int n),some (.str y),some (.int (YD y:Int)),u8,u9] H5:=by
    intro D hD;refine ⟨_,rfl,.inl ⟨rfl,_,SqL.of h4⟩,_,rfl,_,rfl,n,tn,ys,rfl,hn0,s24 _ _ htn,by lia,fun p w H6 hp0 hp hleaf s6=>?_⟩;have h6:=s6 _ _ h4;obtain ⟨w1,w2,w3⟩:=Zbp hyk hleaf;refine ⟨J,_,_,rfl,rfl,h6,Zs (by lia),hD _ _ ⟨J,left,_,_,_,_,_,zs++[.ref p],C++[[w]],rfl,Zc,hso0,?_,?_,?_,?_,?_,?_,hi,YM (s24.trans s6) hso0⟩⟩
    ·exact (qh (fun b xs e=>by rw [Zp (XW e h6 fun z=>nomatch z)];exact e) (R4.same s6)).snoc (by rw [Zp (XW hp h6 fun z=>nomatch z)];exact hp)
    ·intro ps hps
     rcases Qbk.mp hps with hps | hps
     ·exact G2 ps hps
     ·rw [Qay.mp hps]
      exact ⟨gn w2,fun v hv=>by rw [Qay.mp hv];exact w1⟩
    ·rw [Qcp,Wc]
     show YV C.flatten + YV [w] + left=I;rw [W5,w3];exact M
    ·rw [Qcp,Qaf]
     show _ + 1<=_;lia
    ·rw [Qaf]
     show _ + 1<=_;lia
    ·intro _
     rw [Qaf];show 1<=_ + 1;lia
   refine ⟨_,rfl,rfl,_,rfl,?_⟩
   by_cases hye:y = ""
   ·rw [Qaj (congrArg V.str hye)]
    exact WC (WC (atom _ fun _ _ z=>z))
   rw [Qak fun z=>hye (by injection z)];refine X9 ⟨_,rfl,J,_,rfl,.inl (SqL.of h4),_,rfl,_,_,rfl,rfl,_,rfl,vW (fun _=>atom _ fun _ _ z=>z) (fun hlt=>?_)⟩;have hw:YD y<=zs.length:=by
    have:¬((zs.length:Int) < (YD y:Int)):=fun z=>hlt (Qaj z);lia
   have hys:y∈Ji:=hy.resolve_left hye;obtain ⟨w1,w2,w3⟩:=J8 hyk hys;refine ⟨_,rfl,_,rfl,by show 1<=sizeLine;decide,fun q hq=>⟨q,[.str y],rfl,.inl Zc,(fun v hv=>.inl ⟨y,Qay.mp hv⟩),by show 1<=100;decide,fun H6 s6=>⟨_,_,rfl,rfl,Zo ?_⟩⟩⟩;have s56:=(Zd (o:=.lst [.str y]) hq).trans s6;obtain ⟨S,hl'⟩:∃S:Nat,(left:Int) - (([V.str y].filter vt).length:Int)=(S:Int)/\left=S + if y∈qz then 1 else 0:=by
    by_cases hr:y∈qz
    ·have h0:left≠0:=fun z=>hyr (by rw [z];rfl) hr
     have e:[V.str y].filter vt=[.str y]:=List.filter_cons_of_pos (Qaj hr);exact ⟨left - 1,by rw [e];show (left:Int) - 1=_;lia,by rw [Qa4 hr];lia⟩
    ·have e:[V.str y].filter vt=[]:=List.filter_cons_of_neg fun z=>hr (Qba z)
     exact ⟨left,by rw [e];show (left:Int) - 0=_;lia,by rw [Qax hr];lia⟩
   try dsimp only
   rw [hl'.1];refine ⟨_,rfl,by show 1<=sizeLine;decide,fun b0 hb0=>Zo ?_⟩;have s57:=s56.trans (Zd (o:=.tup [.str y]) hb0);have h7:=s57 _ _ h4;have R7:=R4.same s57;have hb7:=Zc (H:=H6) (a:=b0) (o:=.tup [.str y])
   try dsimp only
   generalize upd H6 b0 (.tup [.str y])=H7 at *;have ecut:zy zs (some ((zs.length:Int) - (YD y:Int))) none=zs.drop (zs.length - YD y):=by
    rw [show ((zs.length:Int) - (YD y:Int))=((zs.length - YD y:Nat):Int) by lia];exact Zba zs _
   have ecut2:zy zs none (some ((zs.length:Int) - (YD y:Int)))=zs.take (zs.length - YD y):=by
    rw [show ((zs.length:Int) - (YD y:Int))=((zs.length - YD y:Nat):Int) by lia];exact Za9 zs _
   refine ⟨_,rfl,_,rfl,J,_,rfl,.inl (SqL.of h7),_,rfl,_,_,rfl,rfl,_,rfl,J,_,rfl,SqL.of h7,fun l1 hl1=>⟨l1,rfl,⟨_,SqL.of Zc⟩,?_⟩⟩;have s78:=Zd (o:=.lst (zy zs (some ((zs.length:Int) - (YD y:Int))) none)) hl1;have h8:=s78 _ _ h7;have R8:=R7.same s78;have hb8:=s78 _ _ hb7;have hl18:=Zc (H:=H7) (a:=l1) (o:=.lst (zy zs (some ((zs.length:Int) - (YD y:Int))) none));have s28:=s24.trans (s57.trans s78);refine vT (K:=K) (a:=l1) (xs:=zy zs (some ((zs.length:Int) - (YD y:Int))) none) (fun j σ H'=>∃(bt9:Addr) (u9:Option V),σ=[some (.ref pn),some (.ref tn),some (.int (I:Int)),some (.ref J),some (.int (S:Int)),some (.int n),some (.str y),some (.int (YD y:Int)),some (.ref bt9),u9]/\H' bt9=some (.tup (.str y::((C.drop (C.length - YD y)).take j).flatten))/\Yb (upd H7 l1 (.lst (zy zs (some ((zs.length:Int) - (YD y:Int))) none))) H') ⟨b0,_,rfl,hb8,Yb.refl _⟩ (fun j σ H' _ ⟨_,_,_,_,s⟩=>SqL.of (s _ _ hl18)) ?_ ?_
   ·rintro j x σ H9 hx L
    refine ZT fun Y G=>?_;obtain ⟨bt9,u9,rfl,hb9,s9⟩:=L;refine G ?_;clear G Y;rw [ecut,hzl] at hx;refine ZT fun Y G=>?_;obtain ⟨a,r,rfl,hr,ha⟩:=(R8.drop (C.length - YD y)).at hx;refine G ?_;clear G Y;have hlen:((C.drop (C.length - YD y)).take j).flatten.length + r.length<=100:=by
     have e1:((C.drop (C.length - YD y)).take (j + 1)).flatten.length<=C.flatten.length:=by
      have e2:C.flatten=(C.take (C.length - YD y)).flatten++(((C.drop (C.length - YD y)).take (j + 1)).flatten++((C.drop (C.length - YD y)).drop (j + 1)).flatten):=by rw [<-Qcp,Qcc,<-Qcp,Qcc]
      rw [e2,Qaf,Qaf];lia
     rw [take_snoc hr,Qcp,Qaf,Qdo,Qfs,Qbl] at e1;lia
    refine ⟨_,rfl,_,rfl,bt9,a,_,_,rfl,rfl,hb9,s9 _ _ ha,?_,fun p9 H10 hp9 s10=>⟨p9,_,rfl,?_,s9.trans s10⟩⟩
    ·rw [Qbc]
     exact Qa5 (Zs (by lia))
    ·rw [hp9,take_snoc hr,Qcp,Qdo,Qfs,Qbl,Qey]
   ·rintro σ H9 L
    refine ZT fun Y G=>?_;obtain ⟨bt9,u9,rfl,hb9,s9⟩:=L;refine G ?_;clear G Y;rw [ecut,Qbn,hzl,Qbz (by rw [Qbn];lia)] at hb9;have h9:=s9 _ _ h8;refine ⟨_,rfl,_,rfl,J,_,rfl,.inl (SqL.of h9),_,rfl,_,_,rfl,rfl,_,rfl,J,_,rfl,SqL.of h9,fun l2 hl2=>⟨_,rfl,by show 1<=sizeLine;decide,fun l3 hl3=>?_⟩⟩;rw [ecut2] at hl3 ⊢;have s10:=Zd (o:=.lst (zs.take (zs.length - YD y))) hl2;have s11:=s10.trans (Zd (o:=.lst [.ref bt9]) hl3);refine ⟨l2,l3,_,_,rfl,rfl,Zd hl3 _ _ Zc,Zc,?_,fun l4 hl4=>?_⟩
    ·rw [Qa1]
     exact Qa5 (Zs (by show _ + 1<=_;lia))
    have s12:=s11.trans (Zd (o:=.lst (zs.take (zs.length - YD y)++[.ref bt9])) hl4);have s2z:=s28.trans (s9.trans s12);obtain ⟨f1,f2⟩:=yy C (.str y) (C.length - YD y);refine ⟨l4,S,_,_,_,_,_,zs.take (zs.length - YD y)++[.ref bt9],C.take (C.length - YD y)++[.str y::(C.drop (C.length - YD y)).flatten],rfl,Zc,(s28.trans (s9.trans s11)).free hl4,?_,G2.word hyk hys (gy y hys) (by lia),?_,by lia,?_,?_,hi,s2z⟩
    ·have e9:C.length - YD y=zs.length - YD y:=by lia
     rw [e9] at hb9 ⊢;exact ((R8.same (s9.trans s12)).take _).snoc (s12 _ _ hb9)
    ·rw [f2,w3]
     have:=hl'.2
     by_cases hr:y∈qz
     ·rw [Qa4 hr] at this
      rw [Qa4 (Qaj hr)];lia
     ·rw [Qax hr] at this
      rw [Qax (fun z=>hr (Qba z))];lia
    ·rw [Qaf,Qa1]
     show _ + 1<=_;lia
    ·intro _
     rw [Qaf];show 1<=_ + 1;lia
  ·rintro σ H2 L
   refine ZT fun Y G=>?_;obtain ⟨J,left,u5,u6,u7,u8,u9,zs,C,rfl,h2,hso0,R2,G2,M,hfl,hpl,hp1,_,s2⟩:=L;refine G ?_;clear G Y;rw [Qad] at hfl hpl hp1;have hp1:=hp1 h1;refine jz (fun σ H2=>∃(J:Addr) (zs:List V) (C:List (List V)),σ=[some (.ref pn),some (.ref tn),some (.int (I:Int)),some (.ref J),some (.int (left:Int)),u5,u6,u7,u8,u9]/\H2 J=some (.lst zs)/\YC H2 zs C/\vD ys C/\YV C.flatten<=I/\C.flatten.length + C.length<=2 * ns.length/\1<=C.length/\Yb H H2) (fun σ H=>match σ with | [_,_,_,some (.ref J),_,_,_,_,_,_]=>(match H J with | some (.lst zs)=>zs.length | _=>0) | _=>0) ⟨J,zs,C,rfl,h2,R2,G2,by lia,by lia,hp1,s2⟩ ?_;rintro σ H2 L;refine ZT fun Y G=>?_;obtain ⟨J,zs,C,rfl,h2,R2,G2,M,hfl,hp1,s2⟩:=L;refine G ?_;clear G Y;have hzl:=R2.1;refine ⟨_,rfl,J,_,rfl,.inl (SqL.of h2),_,_,rfl,rfl,_,rfl,vW (fun hgt=>?_) (fun hng=>?_)⟩
   ·have hz2:2<=zs.length:=by
     have:=Qba hgt;lia
    refine ⟨fun σ' H'=>∃(J:Addr) (zs':List V) (O:List (List V)),σ'=[some (.ref pn),some (.ref tn),some (.int (I:Int)),some (.ref J),some (.int (left:Int)),u5,u6,u7,u8,u9]/\H' J=some (.lst zs')/\YC H' zs' O/\vD ys O/\YV O.flatten<=I/\O.flatten.length + O.length<=2 * ns.length/\1<=O.length/\zs'.length < zs.length/\Yb H H',?_,?_⟩
    ·rintro σ' H' L
     refine ZT fun Y G=>?_;obtain ⟨so',zs',O,rfl,g1,g2,g3,g4,g5,g6,g7,g8⟩:=L;refine G ?_;clear G Y;refine ⟨zs'.length,?_,?_,so',zs',O,rfl,g1,g2,g3,g4,g5,g6,g8⟩
     ·show zs'.length < (match H2 J with | some (.lst zs)=>zs.length | _=>0)
      rw [h2];exact g7
     ·show _=(match H' so' with | some (.lst zs)=>zs.length | _=>0)
      rw [g1]
    ·have pl:C.length=zs.length:=hzl.symm
     obtain ⟨a,ha1,ha⟩:=R2.2 (zs.length - 2) _ (Qab (by lia));obtain ⟨b,hb1,hb⟩:=R2.2 (zs.length - 1) _ (Qab (by lia));have at2:=kX (n:=2) ha1 (by lia) (by decide);have at1:=kX (n:=1) hb1 (by lia) (by decide);have ecut:zy zs none (some (-2))=zs.take (zs.length - 2):=Zbq (xs:=zs) (n:=2) hz2 (by decide);have e2:C.drop (zs.length - 2)=[C[zs.length - 2]'(by lia),C[zs.length - 1]'(by lia)]:=by
      rw [Qcw (by lia),Qcw (by lia),List.drop_of_length_le (by lia)];congr 2;congr 1;lia
     generalize C[zs.length - 2]'(by lia)=pa at *;generalize C[zs.length - 1]'(by lia)=pb at *;have hpab:pa.length + pb.length<=C.flatten.length:=by
      have e3:C.flatten=(C.take (zs.length - 2)).flatten++(C.drop (zs.length - 2)).flatten:=by rw [<-Qcp,Qcc]
      rw [e3,e2,Qaf];show _<=_ + (pa++(pb++[])).length;rw [Qbl,Qaf];lia
     obtain ⟨y,hy,ey⟩:=xc (ys:=["and","or","odd"]) (i:=(zs.length:Int) % 3) (Qbi _ (by decide)) (Qbb _ (by decide));obtain ⟨y1,y2,y3⟩:=(by decide +kernel:∀z∈(["and","or","odd"]:List Str),z∈Ji/\z∉qz/\Yk z=2) y hy;obtain ⟨w1,w2,w3⟩:=J8 hyk y1;refine ⟨_,rfl,_,rfl,_,rfl,J,_,rfl,SqL.of h2,fun l1 hl1=>⟨by show 3<=sizeLine;decide,fun g hg=>?_⟩⟩;have s3:=Zd (o:=.lst (zy zs none (some (-2)))) hl1;have s4:=s3.trans (Zd (o:=.lst [.str "and",.str "or",.str "odd"]) hg);refine ⟨_,rfl,J,_,rfl,.inl (SqL.of (s4 _ _ h2)),_,_,rfl,rfl,(by show (0:Int) < 3;decide),g,_,_,_,rfl,rfl,SqL.of Zc,ey,by show 1<=sizeLine;decide,fun q1 hq1=>?_⟩;have s5:=s4.trans (Zd (o:=.tup [.str y]) hq1);refine ⟨_,rfl,_,rfl,J,_,-2,.ref a,rfl,rfl,SqL.of (s5 _ _ h2),at2,q1,a,_,_,rfl,rfl,Zc,s5 _ _ ha,?_,fun q2 H6 hq2 s6=>?_⟩
     ·exact Qa5 (Zs (by show 1 + _<=_;lia))
     have s26:=s5.trans s6;refine ⟨_,rfl,_,rfl,J,_,-1,.ref b,rfl,rfl,SqL.of (s26 _ _ h2),at1,q2,b,_,_,rfl,rfl,hq2,s26 _ _ hb,?_,fun q3 H7 hq3 s7=>⟨by show 1<=sizeLine;decide,fun l3 hl3=>⟨l1,l3,zy zs none (some (-2)),[.ref q3],rfl,rfl,?_,Zc,?_,fun l4 hl4=>?_⟩⟩⟩
     ·exact Qa5 (Zs (by rw [Qaf];show 1 + _ + _<=_;lia))
     ·exact ((Zd hg).trans ((Zd hq1).trans (s6.trans (s7.trans (Zd hl3))))) _ _ Zc
     ·rw [ecut,Qa1]
      exact Qa5 (Zs (by show _ + 1<=_;lia))
     have s8:=s26.trans (s7.trans (Zd (o:=.lst [.ref q3]) hl3));have s9:=s8.trans (Zd (o:=.lst (zy zs none (some (-2))++[.ref q3])) hl4);obtain ⟨f1,f2⟩:=yy C (.str y) (zs.length - 2);have G3:=G2.word hyk y1 y3 (by lia);rw [show C.length - 2=zs.length - 2 by lia] at G3;rw [e2] at f1 f2 G3;have efl:[pa,pb].flatten=pa++pb:=by simp
     rw [efl] at f1 f2 G3;have hq3':H7 q3=some (.tup (.str y::(pa++pb))):=by rw [hq3];rfl
     refine Zo ⟨l4,zs.take (zs.length - 2)++[.ref q3],C.take (zs.length - 2)++[.str y::(pa++pb)],rfl,?_,?_,G3,?_,?_,?_,?_,s2.trans s9⟩
     ·rw [Zc,ecut]
     ·exact ((R2.same s9).take _).snoc (((Zd hl3).trans (Zd hl4)) _ _ hq3')
     ·rw [f2,w3,Qax (fun z=>y2 (Qba z))]
      exact M
     ·rw [f1,Qaf,Qa1]
      show _ + 1 + (_ + 1)<=2 * ns.length;lia
     ·rw [Qaf]
      show 1<=_ + 1;lia
     ·rw [Qaf,Qa1]
      show _ + 1 < _;lia
   ·have hz1:zs.length=1:=by
     have:¬((1:Int) < (zs.length:Int)):=fun z=>hng (Qaj z);lia
    match zs,C,hz1,hzl,R2,G2,M,hfl,h2 with
    | [z],[ps],_,_,R2,G2,M,hfl,h2 =>
     refine ZT fun Y G=>?_;obtain ⟨a,r,rfl,hr,ha⟩:=R2.at (i:=0) rfl;refine G ?_;clear G Y;cases hr;obtain ⟨g1,g2⟩:=G2 ps Qal;obtain ⟨e1,e2⟩:=g1.one;rw [Qdo,Qfs,Qbl] at M hfl;exact ⟨_,rfl,J,_,0,_,rfl,rfl,SqL.of h2,rfl,k a ps H2 ha (by lia) g2 e1 e2 M s2⟩
inductive Je(vs:List V)(H:Hp)(Q:VK):Prop
 | mk (s:Addr) (stk:List V) (w:V):(vs=[.ref s,w])->(H s=some (.lst stk.reverse))->(w=kV (keyOf w))->(npw w<=stk.length)->(stk.length<=100)->(∀pl H',H pl=none->H' pl=some (.lst (stk.take (npw w)))->H' s=some (.lst (stk.drop (npw w)).reverse)->(∀b o,H b=some o->b≠s->H' b=some o)->Q (.ref pl) H')->Je vs H Q
def JQ(K:PySem.W.Frag):Sp:=fun vs H Q _=>Je vs H Q
theorem zv (T:Txt K w mg t) (Z:Tbs mg base t):Ym P w K mg base CX0 3 t.ij t.ik ["stack","word"] (JQ K):=by
 have g:Ym P w K mg base CX0 2 t.mm t.mn ["word"] (xV K):=vR T Z;refine T.df.F.ok zo (fun vs H Q E h=>?_) (fun cdv A outer s H vs Q E hr h=>?_)
 ·obtain ⟨st,I,x,rfl,hs,hx,hn,hl,k⟩:=h
  rfl
 ·obtain ⟨st,I,x,rfl,hs,hx,hn,hl,k⟩:=h
  have hu:=Y6 hr;refine ⟨_,@QSs.out _ _ _ (Zj (Zu (XE (⟨by rfl,by decide +kernel,by decide +kernel,by rfl,by decide +kernel,by decide +kernel,by rfl,by decide +kernel⟩:Ys (Zk X6) _ ["stack","word"] "part" ["stack"] [0]) (XD rfl T.cq (Zg (Zq g (hr.mono (by decide)) rfl T.fw.m T.fw.F.kp T.fw.b .nil ZY (Zg (qv 1) Za)) Za)) (fun _ _ _ _=>Wu) (fun _ _ _ _=>(show QE _ _ (Zjv K "list" rPop (JC 1)) from (uz Qap PySem.F.slot_list_pop PySem.F.type_list_pop Zey (qv 1))))))),?_⟩;clear hu hr
  try dsimp only [L2.cxK,L2.cxK2]
  refine ⟨_,rfl,keyOf x,congrArg (fun z=>[z]) hx,X7 (keyOf x),rfl,?_,?_,z9 (n:=(X7 (keyOf x)).toNat) (fun i zs H2=>i<=npw x/\zs=I.take i/\H2 st=some (.lst (I.drop i).reverse)/\∀b o,H b=some o->b≠st->H2 b=some o) ⟨Qbp _,rfl,hs,fun b o e _=>e⟩ ?_ ?_ ?_⟩
  ·have:=x6 (keyOf x)
   lia
  ·have:=x6 (keyOf x)
   lia
  ·rintro i zs H2 D
   refine ZT fun M C=>?_;obtain ⟨_,rfl,_,_⟩:=D;refine C ?_;clear C M;rw [Qa1];exact Qa5 (Zs (by lia))
  ·rintro i zs H2 R hR hi D
   refine ZT fun M C=>?_;obtain ⟨O,rfl,h2,N⟩:=D;refine C ?_;clear C M;have S:i < npw x:=hi;have L:i < I.length:=by lia
   rw [Zhj L] at h2;unfold uA
   try dsimp only
   rw [Qa4 rfl];refine ⟨_,rfl,.inl ⟨rfl,_,SqL.of h2⟩,st,_,I[i],rfl,rfl,h2,Zaw _ _,hR _ _ ⟨S,?_,?_,fun b o e hb=>?_⟩⟩
   ·rw [take_snoc (Qab L)]
   ·rw [Zc,List.dropLast_concat]
   ·rw [Zp hb]
    exact N b o e hb
  ·rintro zs H2 D l G
   refine ZT fun M C=>?_;obtain ⟨O,rfl,h2,N⟩:=D;refine C ?_;clear C M;have J:H l=none:=by
    cases q:H l with
    | none=>rfl
    | some o =>
     by_cases hb:l=st
     ·rw [hb,h2] at G
      cases G
     ·rw [N l o q hb] at G
      cases G
   have Y:st≠l:=Zn h2 G;refine k l _ J Zc ?_ fun b o e hb=>?_
   ·rw [Zp Y]
    exact h2
   ·rw [Zp (Zn e J)]
    exact N b o e hb
inductive Xt(vs:List V)(H:Hp)(Q:VK):Prop
 | mk (cell:Int) (tn:Addr) (nm:List Str):(vs=[.int cell,.ref tn])->(H tn=some (.tup (nm.map V.str)))->(nm.length<=3)->((∀y∈nm,y∉YB))->(∀p u v (P X R:List V) (t1 t2:Tr) H',Prt nm P->Prt nm X->Prt nm R->t1.ok=true->t2.ok=true->t1.sz<=48->t2.sz<=48->t1.rs<=12->t2.rs<=12->EqT t1 t2->H' p=some (.tup [.ref u,.ref v])->H' u=some (.tup (t1.flat P X R))->H' v=some (.tup (t2.flat P X R))->Yb H H'->Q (.ref p) H')->Xt vs H Q
def XT(K:PySem.W.Frag):Sp:=fun vs H Q _=>Xt vs H Q
theorem Gm (T:Txt K w mg t) (TB:Tbs mg base t):Ym P w K mg base CX0 3 t.cx t.cy ["cell","names"] (XT K):=by
 have g:Ym P w K mg base CX0 1 t.il t.ip ["number","words","r"] (GH K):=jL T TB;have C:Ym P w K mg base CX0 1 t.ff t.fg ["pick","p","q","r"] (Jy K):=xU T TB;have q:Ym P w K mg base CX0 2 t.iq t.ir ["numbers","names","most"] (qr K):=zZ T TB;have D:Ym P w K mg base CX0 1 t.bq t.br ["cell","many","most"] (Xo K):=Wr T TB;refine T.bg.F.ok ZS (fun vs H Q E h=>?_) (fun cdv A outer s H vs Q E hr h=>?_)
 ·obtain ⟨G,S,nm,rfl,htn,N,J,k⟩:=h
  rfl
 ·obtain ⟨G,S,nm,rfl,htn,N,J,k⟩:=h
  have hu:=Y6 hr;refine ⟨_,@QSs.out _ _ _ (Zb (Zr (i:=2) ZS.nd rfl (Or.inl rfl) (Zq D (hr.mono (by decide)) rfl T.ai.m T.ai.F.kp T.ai.b .nil ZY (Zg (qv 0) (Zg Ze (Zg Ze Za)))))
    (Zb (Zr (i:=3) ZS.nd rfl (Or.inl rfl) (Zi jO Ze (Zi YZ (ZH Z0 (by rfl) T.ao YN (Zg (qv 1) Za)) Ze)))
    (Zb (Zr (i:=4) ZS.nd rfl (Or.inl rfl) (Zq q (hr.mono (by decide)) rfl T.ag.m T.ag.F.kp T.ag.b .nil ZY (Zg (YL XB (qv 2) (Y9 Ze) (Y9 Ze)) (Zg (qv 1) (Zg (qv 3) Za)))))
    (Zb (Zr (i:=5) ZS.nd rfl (Or.inl rfl) (Zq q (hr.mono (by decide)) rfl T.ag.m T.ag.F.kp T.ag.b .nil ZY (Zg (YL XB (qv 2) (Y9 Ze) (Y9 Ze)) (Zg (qv 1) (Zg Ze Za)))))
    (Zb (Zr (i:=6) ZS.nd rfl (Or.inl rfl) (Zq q (hr.mono (by decide)) rfl T.ag.m T.ag.F.kp T.ag.b .nil ZY (Zg (YL XB (qv 2) (Y9 Ze) (Y9 Ze)) (Zg (qv 1) (Zg Ze Za)))))
    (Zb (vY (Zq C (hr.mono (by decide)) rfl T.ck.m T.ck.F.kp T.ck.b .nil ZY (Zg (Zx Zt (qv 2) Ze (fun _ _=>rfl)) (Zg (qv 4) (Zg (qv 5) (Zg (qv 6) Za))))) (GP rfl (Y3 (i:=7) ZS.nd rfl (Or.inl rfl)) (Y3 (i:=8) ZS.nd rfl (Or.inl rfl))))
    (Zb (Yo (Zv Xp (Zi Yg (Zi YZ (Zx Zt (qv 2) Ze (fun _ _=>rfl)) Ze) Ze) Ze (ZZ _))
    (Zj (qs_par (i:=7) (j:=8) rfl ZS.nd rfl rfl (by decide) rfl rfl (Zg (qv 8) (Zg (qv 7) Za)) rfl)) ZR)
    (Zj (Zu (Zl (Zg (Zq g (hr.mono (by decide)) rfl T.ay.m T.ay.F.kp T.ay.b .nil ZY (Zg (Zx Zt (qv 2) Ze (fun _ _=>rfl)) (Zg (qv 7) (Zg (qv 6) Za)))) (Zg (Zq g (hr.mono (by decide)) rfl T.ay.m T.ay.F.kp T.ay.b .nil ZY (Zg (Zx Zt (qv 2) Ze (fun _ _=>rfl)) (Zg (qv 8) (Zg (qv 6) Za)))) Za)))))))))))),?_⟩
  try dsimp only [L2.cxK,L2.cxK2]
  refine L2.let8 ?_;intro U7 U6 U5 U4 U3 U2 U1;refine ⟨_,rfl,G,9,20000,rfl,by lia,by decide,by decide,fun pl ks H1 hpl0 O hkl hkb s1=>Zo ?_⟩;have I:=s1 _ _ htn;have hpos:∀(j k:Nat) (x:Int),x∈(ks.drop j).take k->0<=x:=fun j k x hx=>(hkb x (Qc7 (Qdj hx))).1;obtain ⟨Z,hmo,hmo1⟩:∃Z:Nat,1 - ((nm.map V.str).length:Int) / 3=(Z:Int)/\Z<=1:=⟨(1 - ((nm.map V.str).length:Int) / 3).toNat,by rw [Qad];lia,by lia⟩;refine ⟨_,rfl,S,_,rfl,.inr (SqT.of I),_,_,rfl,rfl,.of (by decide) (by decide),_,_,rfl,rfl,Zo ?_⟩;show U2 _ [some (.int G),some (.ref S),some (.ref pl),some (.int (1 - ((nm.map V.str).length:Int) / 3)),none,none,none,none,none] H1;rw [hmo];refine ⟨_,rfl,1,rfl,4,rfl,pl,_,rfl,SqL.of O,fun x1 hx1=>?_⟩;rw [Wa,show wV ks (some 1) (some 4)=(ks.drop 1).take (4 - 1) from Jr ks 1 4 (by lia)];have n1:((ks.drop 1).take (4 - 1)).length=3:=by rw [Qa1,Qbn];lia
  have w1:=Zd (o:=.lst (((ks.drop 1).take (4 - 1)).map V.int)) hx1;refine ⟨_,rfl,_,rfl,x1,S,_,nm,Z,rfl,Zc,by lia,by lia,hpos 1 _,w1 _ _ I,N,J,fun a0 P H3 h3 l3 wd3 en3 st3 rm3 s3=>Zo ?_⟩;have v3:=w1.trans s3;refine ⟨_,rfl,4,rfl,6,rfl,pl,_,rfl,SqL.of (v3 _ _ O),fun x2 hx2=>?_⟩;rw [Wa,show wV ks (some 4) (some 6)=(ks.drop 4).take (6 - 4) from Jr ks 4 6 (by lia)];have n2:((ks.drop 4).take (6 - 4)).length=2:=by rw [Qa1,Qbn];lia
  have w2:=Zd (o:=.lst (((ks.drop 4).take (6 - 4)).map V.int)) hx2;refine ⟨_,rfl,x2,S,_,nm,0,rfl,Zc,by lia,by lia,hpos 4 _,(v3.trans w2) _ _ I,N,J,fun a1 X H4 h4 l4 wd4 en4 st4 rm4 s4=>Zo ?_⟩;have v4:=v3.trans (w2.trans s4);refine ⟨_,rfl,6,rfl,7,rfl,pl,_,rfl,SqL.of (v4 _ _ O),fun x3 hx3=>?_⟩;rw [Wa,show wV ks (some 6) (some 7)=(ks.drop 6).take (7 - 6) from Jr ks 6 7 (by lia)];have n3:((ks.drop 6).take (7 - 6)).length=1:=by rw [Qa1,Qbn];lia
  have w3:=Zd (o:=.lst (((ks.drop 6).take (7 - 6)).map V.int)) hx3;refine ⟨_,rfl,x3,S,_,nm,0,rfl,Zc,by lia,by lia,hpos 6 _,(v4.trans w3) _ _ I,N,J,fun a2 R H5 h5 l5 wd5 en5 st5 rm5 s5=>Zo ?_⟩;have v5:=v4.trans (w3.trans s5);have h53:=((w2.trans s4).trans (w3.trans s5)) _ _ h3;have h54:=(w3.trans s5) _ _ h4;have PP:Prt nm P:=⟨Seg.sum wd3 en3 st3,by lia,by lia⟩;have PX:Prt nm X:=⟨Seg.sum wd4 en4 st4,by lia,by lia⟩;have PR:Prt nm R:=⟨Seg.sum wd5 en5 st5,by lia,by lia⟩;have Y:=v5 _ _ O;have at_:∀j:Nat,j < 9->atI (ks.map V.int) (j:Int)=some (.int (ks.getD j 0)):=fun j hj=>YI (by rw [Qah,getD_at (by lia)];rfl);refine ⟨_,rfl,pl,_,0,_,rfl,rfl,SqL.of Y,at_ 0 (by decide),_,rfl,_,rfl,_,rfl,ks.getD 0 0,a0,a1,a2,P,X,R,rfl,h53,h54,h5,PP.l,PX.l,PR.l,fun tp u v w H6 hw htp hu hv s6=>?_⟩;have L:=Zie w hw;have E6:=Zif w hw;have a26:=s6 _ _ h5;have M:=s6 _ _ Y;refine ⟨tp,_,rfl,SqT.of htp,rfl,_,_,rfl,Zo ⟨_,_,rfl,Zo ⟨rfl,?_⟩⟩⟩;show U6 _ [some (.int G),some (.ref S),some (.ref pl),some (.int (Z:Int)),some (.ref a0),some (.ref a1),some (.ref a2),some (.ref u),some (.ref v)] H6;have fin:∀(t1 t2:Tr) (u v:Addr),t1.ok=true->t2.ok=true->t1.sz<=40->t2.sz<=40->t1.rs<=10->t2.rs<=10->EqT t1 t2->H6 u=some (.tup (t1.flat P X R))->H6 v=some (.tup (t2.flat P X R))->U7 { nx:=fun _ H'=>Q .non H',rt:=Q } [some (.int G),some (.ref S),some (.ref pl),some (.int (Z:Int)),some (.ref a0),some (.ref a1),some (.ref a2),some (.ref u),some (.ref v)] H6:=fun t1 t2 u v o1 o2 z1 z2 r1 r2 e hu hv=>by
   have f1:=(Tr.seg J PP PX PR o1).2.1;have f2:=(Tr.seg J PP PX PR o2).2.1;refine ⟨_,rfl,pl,_,8,_,rfl,rfl,SqL.of M,at_ 8 (by decide),_,rfl,_,rfl,ks.getD 8 0,u,a2,_,R,rfl,hu,a26,by lia,PR.l,fun q1 H7 h7 s7=>?_⟩;refine ⟨_,rfl,pl,_,8,_,rfl,rfl,SqL.of (s7 _ _ M),at_ 8 (by decide),_,rfl,_,rfl,ks.getD 8 0,v,a2,_,R,rfl,s7 _ _ hv,s7 _ _ a26,by lia,PR.l,fun q2 H8 h8 s8=>⟨by show 2<=sizeLine;decide,fun q3 hq3=>?_⟩⟩;have s9:=Zd (o:=.tup [.ref q1,.ref q2]) hq3;rw [<-Zcb] at h7 h8;have w1:=Zcc (ks.getD 8 0) o1;have w2:=Zcc (ks.getD 8 0) o2;exact k q3 q1 q2 P X R _ _ _ PP PX PR w1.1 w2.1 (by lia) (by lia) (by lia) (by lia) (Zih _ e) Zc (s9 _ _ (s8 _ _ h7)) (s9 _ _ h8) (s1.trans (v5.trans (s6.trans (s7.trans (s8.trans s9)))))
  refine ⟨_,rfl,pl,_,8,_,rfl,rfl,SqL.of M,at_ 8 (by decide),_,_,rfl,rfl,.of (by decide) (by decide),_,_,rfl,rfl,(by show (0:Int) < 2;decide),rfl,_,rfl,vW (fun _=>?_) (fun _=>?_)⟩
  ·refine ⟨_,rfl,_,rfl,_,_,rfl,?_⟩
   exact fin _ _ v u L.2.1 L.1 L.2.2.2.1 L.2.2.1 L.2.2.2.2.2 L.2.2.2.2.1 E6.symm hv hu
  ·exact fin _ _ u v L.1 L.2.1 L.2.2.1 L.2.2.2.1 L.2.2.2.2.1 L.2.2.2.2.2 E6 hu hv
inductive XU(vs:List V)(H:Hp)(Q:VK):Prop
 | mk (cell:Int) (tn:Addr) (nm:List Str):(vs=[.int cell,.ref tn])->(H tn=some (.tup (nm.map V.str)))->(nm.length<=3)->((∀y∈nm,y∉YB))->(∀p u v (P X:List V) (t1 t2:CT) H',Prt nm P->Prt nm X->t1.ok=true->t2.ok=true->t1.sz<=48->t2.sz<=48->t1.rs<=12->t2.rs<=12->EqC t1 t2->H' p=some (.tup [.ref u,.ref v])->H' u=some (.tup (t1.flat P X P))->H' v=some (.tup (t2.flat P X P))->Yb H H'->Q (.ref p) H')->XU vs H Q
def WA(K:PySem.W.Frag):Sp:=fun vs H Q _=>XU vs H Q
theorem qt (T:Txt K w mg t) (TB:Tbs mg base t):Ym P w K mg base CX0 3 t.dn t.dt ["cell","names"] (WA K):=by
 have D:Ym P w K mg base CX0 2 t.iq t.ir ["numbers","names","most"] (qr K):=zZ T TB;have G:Ym P w K mg base CX0 1 t.bq t.br ["cell","many","most"] (Xo K):=Wr T TB;refine T.bx.F.ok Ye (fun vs H Q E h=>?_) (fun cdv A outer s H vs Q E hr h=>?_)
 ·obtain ⟨C,I,nm,rfl,htn,hn3,S,k⟩:=h
  rfl
 ·obtain ⟨C,I,nm,rfl,htn,hn3,S,k⟩:=h
  have hu:=Y6 hr;refine ⟨_,@QSs.out _ _ _ (Zb (Zr (i:=2) Ye.nd rfl (Or.inl rfl) (Zq G (hr.mono (by decide)) rfl T.ai.m T.ai.F.kp T.ai.b .nil ZY (Zg (qv 0) (Zg Ze (Zg Ze Za)))))
    (Zb (Zr (i:=3) Ye.nd rfl (Or.inl rfl) (Zq D (hr.mono (by decide)) rfl T.ag.m T.ag.F.kp T.ag.b .nil ZY (Zg (YL XB (qv 2) (Y9 Ze) (Y9 Ze)) (Zg (qv 1) (Zg Ze Za)))))
    (Zb (Zr (i:=4) Ye.nd rfl (Or.inl rfl) (Zq D (hr.mono (by decide)) rfl T.ag.m T.ag.F.kp T.ag.b .nil ZY (Zg (YL XB (qv 2) (Y9 Ze) (Y9 Ze)) (Zg (qv 1) (Zg Ze Za)))))
    (Zb (Zr (i:=5) Ye.nd rfl (Or.inl rfl) (Zi Zh (Zi Zh (Zl (Zg Zf Za)) (qv 3)) (qv 4)))
    (Zb (Zr (i:=6) Ye.nd rfl (Or.inl rfl) (YQ (Zg (Zl (Zg (Zi Zh (Zi Zh (Zl (Zg Zf Za)) (qv 3)) (qv 4)) (Zg (Zi Zh (Zi Zh (Zl (Zg Zf (Zg Zf Za))) (qv 3)) (qv 4)) Za))) Za)))
    (Zb (ZU (Yj Qap Qaq Qar Zy (qv 6) (Zg (Zl (Zg (qv 5) (Zg (Zi Zh (Zi Zh (Zi Zh (Zi Zh (Zi Zh (Zl (Zg Zf (Zg Zf (Zg Zf Za)))) (qv 4)) (qv 3)) (Zl (Zg Zf (Zg Zf Za)))) (qv 3)) (qv 4)) Za))) Za)))
    (Zb (ZU (Yj Qap Qaq Qar Zy (qv 6) (Zg (Zl (Zg (Zi Zh (Zl (Zg Zf Za)) (qv 3)) (Zg (Zi Zh (Zi Zh (Zl (Zg Zf Za)) (qv 3)) (Zl (Zg Ze Za))) Za))) Za)))
    (Zb (ZU (Yj Qap Qaq Qar Zy (qv 6) (Zg (Zl (Zg (Zi Zh (Zl (Zg Zf Za)) (qv 3)) (Zg (Zi Zh (Zl (Zg Zf (Zg Zf (Zg Ze Za)))) (qv 3)) Za))) Za)))
    (Zb (ZU (Yj Qap Qaq Qar Zy (qv 6) (Zg (Zl (Zg (Zi Zh (Zi Zh (Zi Zh (Zl (Zg Zf Za)) (qv 5)) (Zl (Zg Zf Za))) (qv 3)) (Zg (Zi Zh (Zi Zh (Zi Zh (Zl (Zg Zf (Zg Zf Za))) (qv 5)) (Zl (Zg Zf Za))) (qv 3)) Za))) Za)))
    (Zb (Zr (i:=7) Ye.nd rfl (Or.inl rfl) (Zx Zt (qv 6) (Zi Yg (Zx Zt (qv 2) Ze (fun _ _=>rfl)) Ze) (fun _ _=>rfl)))
    (Zb (Yo (Zv Xp (Zi Yg (Zi YZ (Zx Zt (qv 2) Ze (fun _ _=>rfl)) Ze) Ze) Ze (ZZ _))
    (Zj (Zu (Zl (Zg (Zi Zh (Zl (Zg Zf Za)) (Zx ZX (qv 7) Ze (fun _ _=>rfl))) (Zg (Zi Zh (Zl (Zg Zf Za)) (Zx ZX (qv 7) Ze (fun _ _=>rfl))) Za))))) ZR)
    (Zj (Zu (qv 7)))))))))))))),?_⟩
  try dsimp only [L2.cxK,L2.cxK2]
  refine L2.let12 ?_;intro U11 U10 U9 U8 U7 U6 U5 U4 U3 U2 U1;refine ⟨_,rfl,C,6,20000,rfl,by lia,by decide,by decide,fun pl ks H1 hpl0 O hkl hkb s1=>Zo ?_⟩;have R:=s1 _ _ htn;have hpos:∀(j k:Nat) (x:Int),x∈(ks.drop j).take k->0<=x:=fun j k x hx=>(hkb x (Qc7 (Qdj hx))).1;refine ⟨_,rfl,1,rfl,3,rfl,pl,_,rfl,SqL.of O,fun x1 hx1=>?_⟩;rw [Wa,show wV ks (some 1) (some 3)=(ks.drop 1).take (3 - 1) from Jr ks 1 3 (by lia)];have n1:((ks.drop 1).take (3 - 1)).length=2:=by rw [Qa1,Qbn];lia
  have w1:=Zd (o:=.lst (((ks.drop 1).take (3 - 1)).map V.int)) hx1;refine ⟨_,rfl,x1,I,_,nm,1,rfl,Zc,by lia,by lia,hpos 1 _,w1 _ _ R,hn3,S,fun J P H3 h3 l3 wd3 en3 st3 rm3 s3=>Zo ?_⟩;have v3:=w1.trans s3;refine ⟨_,rfl,3,rfl,6,rfl,pl,_,rfl,SqL.of (v3 _ _ O),fun x2 hx2=>?_⟩;rw [Wa,show wV ks (some 3) (some 6)=(ks.drop 3).take (6 - 3) from Jr ks 3 6 (by lia)];have n2:((ks.drop 3).take (6 - 3)).length=3:=by rw [Qa1,Qbn];lia
  have w2:=Zd (o:=.lst (((ks.drop 3).take (6 - 3)).map V.int)) hx2;refine ⟨_,rfl,x2,I,_,nm,1,rfl,Zc,by lia,by lia,hpos 3 _,(v3.trans w2) _ _ R,hn3,S,fun a1 X H4 h4 l4 wd4 en4 st4 rm4 s4=>Zo ?_⟩;have v4:=v3.trans (w2.trans s4);have ha:=(w2.trans s4) _ _ h3;have Z:Prt nm P:=⟨Seg.sum wd3 en3 st3,by lia,by lia⟩;have PX:Prt nm X:=⟨Seg.sum wd4 en4 st4,by lia,by lia⟩;have s14:=s1.trans v4;have hpl4:=v4 _ _ O;have at0:atI (ks.map V.int) ((0:Nat):Int)=some (.int (ks.getD 0 0)):=YI (by rw [Qah,getD_at (by lia)];rfl);clear s1 v4 v3 w1 w2 s3 s4 hx1 hx2 n1 n2 O R h3;show U3 _ [some (.int C),some (.ref I),some (.ref pl),some (.ref J),some (.ref a1),none,none,none] H4;have m1:∀v,Gives (jf (Y1 (tC v) qS)) [some (.int C),some (.ref I),some (.ref pl),some (.ref J),some (.ref a1),none,none,none] H4 [v] 1:=fun v=>Wd 1 (fun _ _ h=>h) (Qai _) (by decide);have p0:Gives (JC 3) [some (.int C),some (.ref I),some (.ref pl),some (.ref J),some (.ref a1),none,none,none] H4 P 7:=X1 rfl ha Z.l;have q0:Gives (JC 4) [some (.int C),some (.ref I),some (.ref pl),some (.ref J),some (.ref a1),none,none,none] H4 X 7:=X1 rfl h4 PX.l;have gU:=Zm (Zm (m1 (.str "under")) p0) q0;refine Zce (gU.g H4 _ (Yb.refl _) fun L H hs hu=>Zo ?_);have ha:=hs _ _ ha;have hb:=hs _ _ h4;have O:=hs _ _ hpl4;have lu:=gU.l;clear gU p0 q0 m1;have s14:=s14.trans hs;show Yy (Zek (Ziy _) (JS 6)) _ _ [some (.int C),some (.ref I),some (.ref pl),some (.ref J),some (.ref a1),some (.ref L),none,none] H;have m1:∀v,Gives (jf (Y1 (tC v) qS)) [some (.int C),some (.ref I),some (.ref pl),some (.ref J),some (.ref a1),some (.ref L),none,none] H [v] 1:=fun v=>Wd 1 (fun _ _ h=>h) (Qai _) (by decide);have m2:∀v u,Gives (jf (Y1 (tC v) (Y1 (tC u) qS))) [some (.int C),some (.ref I),some (.ref pl),some (.ref J),some (.ref a1),some (.ref L),none,none] H [v,u] 2:=fun v u=>Wd 2 (fun _ _ h=>h) (Qai _) (by decide);have m3:∀v u w,Gives (jf (Y1 (tC v) (Y1 (tC u) (Y1 (tC w) qS)))) [some (.int C),some (.ref I),some (.ref pl),some (.ref J),some (.ref a1),some (.ref L),none,none] H [v,u,w] 3:=fun v u w=>Wd 3 (fun _ _ h=>h) (Qai _) (by decide);have p':Gives (JC 3) [some (.int C),some (.ref I),some (.ref pl),some (.ref J),some (.ref a1),some (.ref L),none,none] H P 7:=X1 rfl ha Z.l;have q':Gives (JC 4) [some (.int C),some (.ref I),some (.ref pl),some (.ref J),some (.ref a1),some (.ref L),none,none] H X 7:=X1 rfl hb PX.l;have un':Gives (JC 5) [some (.int C),some (.ref I),some (.ref pl),some (.ref J),some (.ref a1),some (.ref L),none,none] H ([V.str "under"]++P++X) (1 + 7 + 7):=X1 rfl hu lu;refine Zce ?_;have M:=(Zm (Zm (m1 (.str "same")) p') q');have N:=(Zm (Zm (m2 (.str "nought") (.str "odd")) p') q');refine Zcd M N fun ps zs1 H1 h0 h1 P1 s1=>Zo ?_;clear M N;show Yy (wC _) _ _ [some (.int C),some (.ref I),some (.ref pl),some (.ref J),some (.ref a1),some (.ref L),some (.ref ps),none] H1;have l1:∀v,Gives (jf (Y1 (tC v) qS)) [some (.int C),some (.ref I),some (.ref pl),some (.ref J),some (.ref a1),some (.ref L),some (.ref ps),none] H [v] 1:=fun v=>Wd 1 (fun _ _ h=>h) (Qai _) (by decide)
  have l2:∀v u,Gives (jf (Y1 (tC v) (Y1 (tC u) qS))) [some (.int C),some (.ref I),some (.ref pl),some (.ref J),some (.ref a1),some (.ref L),some (.ref ps),none] H [v,u] 2:=fun v u=>Wd 2 (fun _ _ h=>h) (Qai _) (by decide);have l3:∀v u w,Gives (jf (Y1 (tC v) (Y1 (tC u) (Y1 (tC w) qS)))) [some (.int C),some (.ref I),some (.ref pl),some (.ref J),some (.ref a1),some (.ref L),some (.ref ps),none] H [v,u,w] 3:=fun v u w=>Wd 3 (fun _ _ h=>h) (Qai _) (by decide);have p:Gives (JC 3) [some (.int C),some (.ref I),some (.ref pl),some (.ref J),some (.ref a1),some (.ref L),some (.ref ps),none] H P 7:=X1 rfl ha Z.l;have q:Gives (JC 4) [some (.int C),some (.ref I),some (.ref pl),some (.ref J),some (.ref a1),some (.ref L),some (.ref ps),none] H X 7:=X1 rfl hb PX.l;have un:Gives (JC 5) [some (.int C),some (.ref I),some (.ref pl),some (.ref J),some (.ref a1),some (.ref L),some (.ref ps),none] H ([V.str "under"]++P++X) (1 + 7 + 7):=X1 rfl hu lu;have n1:zs1.length<=1:=by rw [P1.l];exact Qai _
  have Y:([some (.int C),some (.ref I),some (.ref pl),some (.ref J),some (.ref a1),some (.ref L),some (.ref ps),none]:St)[6]?=some (some (.ref ps)):=rfl;refine Xh ?_;have M:=un;have N:=(Zm (Zm (Zm (Zm (Zm (l3 (.str "both") (.str "never") (.str "under")) q) p) (l2 (.str "never") (.str "same"))) p) q);refine Y5 Y h0 h1 P1 n1 s1 M N (by decide) fun zs2 H2 h2 P2 n2 s2=>?_;clear M N;refine Xh ?_;have M:=(Zm (l1 (.str "sign")) p);have N:=(Zm (Zm (l1 (.str "beneath")) p) (l1 (.int 0)));refine Y5 Y h0 h2 P2 n2 s2 M N (by decide) fun zs3 H3 h3 P3 n3 s3=>?_;clear M N;refine Xh ?_;have M:=(Zm (l1 (.str "nought")) p);have N:=(Zm (l3 (.str "never") (.str "under") (.int 0)) p);refine Y5 Y h0 h3 P3 n3 s3 M N (by decide) fun zs4 H4 h4 P4 n4 s4=>?_;clear M N;refine Xh ?_;have M:=(Zm (Zm (Zm (l1 (.str "so")) un) (l1 (.str "sign"))) p);have N:=(Zm (Zm (Zm (l2 (.str "either") (.str "never")) un) (l1 (.str "sign"))) p);refine Y5 Y h0 h4 P4 n4 s4 M N (by decide) fun zs5 H5 h5 P5 n5 s5=>?_;clear M N;have PW:Prw H5 zs5 (vI.map fun w=>(w.1.flat P X P,w.2.flat P X P)):=by
   simpa [vI,CT.flat,Tr.flat] using P5
  have b5:0<=ks.getD 0 0 % 5/\ks.getD 0 0 % 5 < 5:=⟨Qbi _ (by decide),Qbb _ (by decide)⟩;obtain ⟨j,hj⟩:∃j:Nat,ks.getD 0 0 % 5=(j:Int):=⟨(ks.getD 0 0 % 5).toNat,by lia⟩;have hj5:j < vI.length:=by show j < 5;lia
  refine ZT fun Gz hGz=>?_;obtain ⟨tt,u,v,g1,g2,g3,g4⟩:=PW.g j _ (by rw [Qah,Qab hj5];rfl);refine hGz ?_;clear hGz Gz;have hw:=Qb1 hj5;have P6:=Zea _ hw;have E6:=Zeb _ hw;have hpl5:=s5 _ _ O;have s15:=s14.trans s5;generalize vI[j]=w at *;refine ⟨_,rfl,_,rfl,pl,_,0,_,rfl,rfl,SqL.of hpl5,at0,_,_,rfl,rfl,(by show (0:Int) < 5;decide),ps,_,_,_,rfl,rfl,SqL.of h5,by rw [hj];exact YI g1,Zo ?_⟩;refine ⟨_,rfl,pl,_,0,_,rfl,rfl,SqL.of hpl5,at0,_,_,rfl,rfl,.of (by decide) (by decide),_,_,rfl,rfl,(by show (0:Int) < 3;decide),rfl,_,rfl,vW (fun _=>?_) (fun _=>?_)⟩
  ·have f1:=(CT.seg S Z PX Z P6.1).2.1
   have f2:=(CT.seg S Z PX Z P6.2.1).2.1;refine ⟨by show 1<=sizeLine;decide,fun q1 hq1=>?_⟩;have e1:=Zd (o:=.tup [V.str "never"]) hq1;refine ⟨_,rfl,tt,_,0,_,rfl,rfl,SqT.of (e1 _ _ g2),rfl,q1,u,_,_,rfl,rfl,Zc,e1 _ _ g3,Qa5 (Zs (by show 1 + (w.1.flat P X P).length<=1000;lia)),fun q2 HA hA sA=>⟨by show 1<=sizeLine;decide,fun q3 hq3=>?_⟩⟩;have e2:=Zd (o:=.tup [V.str "never"]) hq3;have e12:=(e1.trans sA).trans e2;refine ⟨_,rfl,tt,_,1,_,rfl,rfl,SqT.of (e12 _ _ g2),rfl,q3,v,_,_,rfl,rfl,Zc,e12 _ _ g4,Qa5 (Zs (by show 1 + (w.2.flat P X P).length<=1000;lia)),fun q4 HB hB sB=>⟨by show 2<=sizeLine;decide,fun q5 hq5=>?_⟩⟩;have e3:=Zd (o:=.tup [.ref q2,.ref q4]) hq5;exact k q5 q2 q4 P X (.nev w.1) (.nev w.2) _ Z PX P6.1 P6.2.1 (by show w.1.sz + 1<=_;lia) (by show w.2.sz + 1<=_;lia) (by show w.1.rs + 1<=_;lia) (by show w.2.rs + 1<=_;lia) E6.nev Zc (e3 _ _ (sB _ _ (e2 _ _ hA))) (e3 _ _ hB) (s15.trans (e12.trans (sB.trans e3)))
  ·exact ⟨_,rfl,k tt u v P X w.1 w.2 _ Z PX P6.1 P6.2.1 (by lia) (by lia) (by lia) (by lia) E6 g2 g3 g4 s15⟩
inductive qJ(vs:List V)(H:Hp)(Q:VK):Prop
 | mk (tw dv kt:Addr) (ys:List Str) (ws:List V) (kvs:List (Key × V)) (cols:Str->Int) (pl:Nat) (kp:List Int) (o:Int) (lt:List Int):(vs=[.ref tw,.ref dv,.int (pl:Int),.ref kt])->(H tw=some (.tup ws))->(ws.length<=100)->(H dv=some (.dK kvs))->(Zhq kvs ys cols)->(H kt=some (.tup (kp.map V.int)))->((∀w∈ws,ze ys w))->(YS ws)->(Wb ys cols pl kp ws=([o],lt))->(lt.length<=kp.length)->(∀t l H',H t=none->H' t=some (.tup [.int o,.ref l])->H' l=some (.lst (lt.map V.int))->Yb H H'->Q (.ref t) H')->qJ vs H Q
def ja(K:PySem.W.Frag):Sp:=fun vs H Q _=>qJ vs H Q
theorem gz (T:Txt K w mg t) (TB:Tbs mg base t):Ym P w K mg base CX0 4 t.mz t.nc ["words","columns","place","kept"] (ja K):=by
 have I:Ym P w K mg base CX0 1 t.eg t.eh ["word"] (Jx K):=qD T TB;have C:Ym P w K mg base CX0 2 t.ie t.ig ["word","parts","held","then"] (JO K):=zu T TB;have J:Ym P w K mg base CX0 2 t.lq t.lx ["word","parts","held"] (qG K):=yI T TB;have G:Ym P w K mg base CX0 1 t.gb t.gi ["word","parts"] (JJ K):=zq T TB;have D:Ym P w K mg base CX0 3 t.ij t.ik ["stack","word"] (JQ K):=zv T TB;refine T.iy.F.ok XA (fun vs H Q E h=>?_) (fun cdv A outer s H vs Q E hr h=>?_)
 ·obtain ⟨tw,dv,kt,ys,q,kvs,cols,pl,kp,o,lt,rfl,ht,hl,hd,hc,hk,hw,he,hst,hkl,k⟩:=h
  rfl
 ·obtain ⟨tw,dv,kt,ys,q,kvs,cols,pl,kp,o,lt,rfl,ht,hl,hd,hc,hk,hw,he,hst,hkl,k⟩:=h
  have hu:=Y6 hr;refine ⟨_,@QSs.out _ _ _ (Zb (Zr (i:=4) XA.nd rfl (Or.inl rfl) (YQ Za))
    (Zb (Zr (i:=5) XA.nd rfl (Or.inl rfl) (YQ Za))
    (Zb (JE Qb8 rfl (uH rfl T.nt (qv 0)) (Y3 (i:=6) XA.nd rfl (Or.inl rfl))
    (Zb (Zr (i:=7) XA.nd rfl (Or.inl rfl) (Zq D (hr.mono (by decide)) rfl T.df.m T.df.F.kp T.df.b .nil ZY (Zg (qv 4) (Zg (qv 6) Za))))
    (Zj (Yo (z5 (Zq I (hr.mono (by decide)) rfl T.bb.m T.bb.F.kp T.bb.b .nil ZY (Zg (qv 6) Za)))
    (Zb (Zr (i:=8) XA.nd rfl (Or.inl rfl) (Gr xm (Zx ZX (qv 3) (ZH Z0 (by rfl) T.ao YN (Zg (qv 5) Za)) (fun _ _=>rfl))))
    (Zb (ZU (Yj Qap Qaq Qar Zy (qv 5) (Zg (Zq J (hr.mono (by decide)) rfl T.eo.m T.eo.F.kp T.eo.b .nil ZY (Zg (qv 6) (Zg (qv 7) (Zg (qv 8) Za)))) Za)))
    (Zj (ZU (Yj Qap Qaq Qar Zy (qv 4) (Zg (Zq C (hr.mono (by decide)) rfl T.de.m T.de.F.kp T.de.b .nil ZY (Zg (qv 6) (Zg (qv 7) (Zg (qv 8) (Zg (Zx Zt (qv 5) (Gr xm Ze) (fun _ _=>rfl)) Za))))) Za)))))) (Zj (Yo (z5 (ZH vX (by rfl) T.nh Gq (Zg (qv 6) (Zg (uv (v:=.ty "int") (by rfl) T.oh Ze2 rfl) Za))))
    (Zj (ZU (Yj Qap Qaq Qar Zy (qv 4) (Zg (Gr xm (Zi WU (Zi vU (qv 6) (qv 2)) Ze)) Za)))) (Zj (Yo (Zv (wM hu) (qv 6) (qv 1) (by with_unfolding_all rfl))
    (Zj (ZU (Yj Qap Qaq Qar Zy (qv 4) (Zg (uV hu (qv 1) (qv 6) (fun _ _=>rfl)) Za)))) (Zj (ZU (Yj Qap Qaq Qar Zy (qv 4) (Zg (Zq G (hr.mono (by decide)) rfl T.da.m T.da.F.kp T.da.b .nil ZY (Zg (qv 6) (Zg (qv 7) Za))) Za))))))))))))
    (Zj (Zu (Zl (Zg (uz Qap PySem.F.slot_list_pop PySem.F.type_list_pop Zey (qv 4)) (Zg (qv 5) Za)))))))),?_⟩
  clear hu hr
  try dsimp only [L2.cxK,L2.cxK2]
  refine L2.let4 ?_;intro U3 U2 U1;refine ⟨by show 0<=sizeLine;decide,fun st N=>Zo ⟨by show 0<=sizeLine;decide,fun M hla0=>Zo ?_⟩⟩;have s1:=Zd (o:=.lst []) N;have s2:=s1.trans (Zd (o:=.lst []) hla0);have R:st≠M:=Zn (Zc (H:=H) (a:=st) (o:=.lst [])) hla0;have hlaH:H M=none:=s1.free hla0;refine ⟨_,rfl,tw,_,rfl,SqT.of (s2 _ _ ht),uI (K:=K) (a:=tw) (xs:=q) (fun i σ H2=>∃u6 u7 u8,σ=[some (.ref tw),some (.ref dv),some (.int (pl:Int)),some (.ref kt),some (.ref st),some (.ref M),u6,u7,u8]/\i<=q.length/\H2 st=some (.lst ((Wb ys cols pl kp (q.drop (q.length - i))).1.map V.int).reverse)/\H2 M=some (.lst ((Wb ys cols pl kp (q.drop (q.length - i))).2.map V.int))/\Yb H H2) ⟨none,none,none,rfl,Qbp _,?_,?_,s2⟩ (fun i σ H2 _ ⟨_,_,_,_,_,_,_,s⟩=>SqT.of (s _ _ ht)) ?_ ?_⟩
  ·rw [Nat.sub_zero,Qea,Zp R]
   exact Zc
  ·rw [Nat.sub_zero,Qea]
   exact Zc
  ·rintro i x σ H2 hx hz_
   refine ZT fun Gz Z=>?_;obtain ⟨u6,u7,u8,rfl,hi0,S,h2l,s3⟩:=hz_;refine Z ?_;clear Z Gz;obtain ⟨hi,hx⟩:=rev_at hx;have ed:q.drop (q.length - (i + 1))=x::q.drop (q.length - i):=by
    rw [show q.length - (i + 1)=q.length - 1 - i by lia,Qcw (by lia),show q.length - 1 - i + 1=q.length - i by lia];congr 1;exact (Qac.mp hx).2
   have hwx:=hw x (Qao hx);have hen:=xB q (q.length - (i + 1)) he;have hmo:=yr ys cols pl kp q (q.length - (i + 1));rw [hst] at hmo;rw [ed] at hen hmo ⊢;have hln:=j6 (ys:=ys) (cols:=cols) (pl:=pl) (kp:=kp) (q.drop (q.length - i)) fun w h=>hw w (Qc7 h);have hle2:=Za6 (q.drop (q.length - i));rw [Qbn] at hle2;have hmo2:=yq ys cols pl kp x (q.drop (q.length - i));have hlb:=kK ys cols pl kp (q.drop (q.length - i));rw [Qbn] at hlb;generalize q.drop (q.length - i)=r at *;have hn:=hen.1;have eC:∀z:V,Wb ys cols pl kp (z::r)=match z with
    | .str y =>
     if y∈allR then (okI y ((Wb ys cols pl kp r).1.take (npw z)) (-(kp.getD (Wb ys cols pl kp r).2.length 0)) (ktI y ((Wb ys cols pl kp r).1.take (npw z)) (-(kp.getD (Wb ys cols pl kp r).2.length 0)))::(Wb ys cols pl kp r).1.drop (npw z),(Wb ys cols pl kp r).2++[ktI y ((Wb ys cols pl kp r).1.take (npw z)) (-(kp.getD (Wb ys cols pl kp r).2.length 0))])
     else if y∈ys then (cols y::(Wb ys cols pl kp r).1.drop (npw z),(Wb ys cols pl kp r).2)
     else (oaI y ((Wb ys cols pl kp r).1.take (npw z))::(Wb ys cols pl kp r).1.drop (npw z),(Wb ys cols pl kp r).2)
    | .int z'=>(-(bt z' pl)::(Wb ys cols pl kp r).1.drop (npw z),(Wb ys cols pl kp r).2)
    | _=>Wb ys cols pl kp r:=fun z=>by cases z <;> rfl
   have Y:=eC x;clear eC;generalize Wb ys cols pl kp r=P at *;obtain ⟨g,l2⟩:=P
   try dsimp only at *
   have hkx:x=kV (keyOf x)/\XX x=true:=by
    rcases hwx with ⟨y,rfl,_⟩ | ⟨y,rfl,_⟩ | ⟨y,rfl,_⟩ | ⟨z,rfl,_⟩ <;> exact ⟨rfl,rfl⟩
   refine ⟨_,rfl,_,rfl,st,g.map V.int,x,rfl,S,hkx.1,by rw [Qad];lia,by rw [Qad];lia,fun pp H3 O hpp L o3=>Zo ?_⟩;rw [<-Qdv] at hpp;rw [<-Qd9] at L;have h3l:=o3 _ _ h2l R.symm;have s4:Yb H H3:=fun b o e=>o3 b o (s3 b o e) (Zn e N);have hln3:(g.take (npw x)).length=npw x:=by rw [Qa1];lia
   have hps:pp≠st:=fun z=>by rw [z,S] at O;cases O
   have hpl2:pp≠M:=fun z=>by rw [z,h2l] at O;cases O
   refine ⟨_,rfl,x,rfl,hkx.2,_,rfl,?_⟩;have sml:((g.drop (npw x)).map V.int).reverse.length < sizeLine:=by
    rw [Qd6,Qad,Qbn];exact Zs (by lia)
   have fin:∀(v:Int) (Hx:Hp),Wb ys cols pl kp (x::r)=(v::g.drop (npw x),l2)->Yb H3 Hx->upd Hx st (.lst (((g.drop (npw x)).map V.int).reverse++[.int v])) st=some (.lst ((Wb ys cols pl kp (x::r)).1.map V.int).reverse)/\upd Hx st (.lst (((g.drop (npw x)).map V.int).reverse++[.int v])) M=some (.lst ((Wb ys cols pl kp (x::r)).2.map V.int))/\Yb H (upd Hx st (.lst (((g.drop (npw x)).map V.int).reverse++[.int v]))):=fun v Hx e sx=>by
    rw [e];refine ⟨by rw [Zc,Qa7,Qer],by rw [Zp R.symm];exact sx _ _ h3l,YM (s4.trans sx) N⟩
   rcases hwx with ⟨y,rfl,hy,hny,hn1,hn2⟩ | ⟨y,rfl,hy,hna,hny,hnp⟩ | ⟨y,rfl,hy,hna,hnp⟩ | ⟨z,rfl,hz,hnp⟩
   ·show if inV (.str y) (allR.map V.str)=true then _ else _
    rw [Ya,Qaj hy];have Y:Wb ys cols pl kp (.str y::r)=(okI y (g.take (npw (.str y))) (-(kp.getD l2.length 0)) (ktI y (g.take (npw (.str y))) (-(kp.getD l2.length 0)))::g.drop (npw (.str y)),l2++[ktI y (g.take (npw (.str y))) (-(kp.getD l2.length 0))]):=by
     rw [Y];exact Qa4 hy
    have hkk:l2.length < kp.length:=by
     rw [Y] at hmo;simp only [Qaf,Qbc,Qdc] at hmo;lia
    refine WC ⟨_,rfl,_,rfl,M,_,rfl,.inl (SqL.of h3l),kt,_,_,.int (kp.getD l2.length 0),rfl,rfl,SqT.of (s4 _ _ hk),?_,_,rfl,?_⟩
    ·rw [Qad]
     exact ZO _ rfl hkk
    try dsimp only
    generalize -(kp.getD l2.length 0)=hh at *;refine Zo ?_;refine ⟨_,rfl,.inl ⟨rfl,_,SqL.of h3l⟩,_,rfl,_,rfl,_,rfl,y,pp,g.take (npw (.str y)),hh,rfl,hpp,by lia,hy,(fun h=>by have:=hn2 h;lia),fun H4 s5=>⟨M,_,_,rfl,rfl,s5 _ _ h3l,?_,?_⟩⟩
    ·rw [Qad]
     exact Zs (by lia)
    have h5s:upd H4 M (.lst (l2.map V.int++[.int (ktI y (g.take (npw (.str y))) hh)])) st=some (.lst ((g.drop (npw (.str y))).map V.int).reverse):=by rw [Zp R];exact s5 _ _ L
    have h5p:upd H4 M (.lst (l2.map V.int++[.int (ktI y (g.take (npw (.str y))) hh)])) pp=some (.lst ((g.take (npw (.str y))).map V.int)):=by rw [Zp hpl2];exact s5 _ _ hpp
    have h5l:upd H4 M (.lst (l2.map V.int++[.int (ktI y (g.take (npw (.str y))) hh)])) M=some (.lst (l2.map V.int++[.int (ktI y (g.take (npw (.str y))) hh)])):=Zc;have s6:Yb H (upd H4 M (.lst (l2.map V.int++[.int (ktI y (g.take (npw (.str y))) hh)]))):=YM (s4.trans s5) hlaH;generalize upd H4 M (.lst (l2.map V.int++[.int (ktI y (g.take (npw (.str y))) hh)]))=H5 at *;refine ⟨_,rfl,.inl ⟨rfl,_,SqL.of h5s⟩,_,rfl,_,rfl,_,rfl,_,rfl,1,rfl,M,_,-1,.int (ktI y (g.take (npw (.str y))) hh),rfl,rfl,SqL.of h5l,Zcy _ _,y,pp,g.take (npw (.str y)),hh,_,rfl,h5p,by lia,hy,(fun h=>by have:=hn2 h;lia),fun H6 s7=>⟨st,_,_,rfl,rfl,s7 _ _ h5s,sml,_,_,_,rfl,hi,?_,?_,YM (s6.trans s7) N⟩⟩
    ·rw [Zc,Y,Qa7,Qer]
    ·rw [Zp R.symm,Y,Qbm]
     exact s7 _ _ h5l
   ·show if inV (.str y) (allR.map V.str)=true then _ else _
    rw [Ya,Qak hna];have Y:Wb ys cols pl kp (.str y::r)=(oaI y (g.take (npw (.str y)))::g.drop (npw (.str y)),l2):=by
     rw [Y];show (if y∈allR then _ else if y∈ys then _ else _)=_;rw [Qax hna,Qax hny]
    refine X9 ⟨_,rfl,_,_,_,_,rfl,.str y,JU,_,rfl,X9 ⟨_,rfl,_,rfl,dv,YX kvs (.inr y),rfl,.inl ⟨kvs,.inr y,.inl (s4 _ _ hd),rfl,rfl⟩,_,rfl,?_⟩⟩;show if (YX kvs (.inr y)).isSome=true then _ else _;rw [hc.2 y hny];refine X9 ⟨_,rfl,.inl ⟨rfl,_,SqL.of L⟩,_,rfl,_,rfl,y,pp,g.take (npw (.str y)),rfl,hpp,hy,by rw [hln3,hnp],fun H4 s5=>?_⟩;obtain ⟨f1,f2,f3⟩:=fin _ H4 Y s5;exact ⟨st,_,_,rfl,rfl,s5 _ _ L,sml,_,_,_,rfl,hi,f1,f2,f3⟩
   ·show if inV (.str y) (allR.map V.str)=true then _ else _
    rw [Ya,Qak hna];have Y:Wb ys cols pl kp (.str y::r)=(cols y::g.drop (npw (.str y)),l2):=by
     rw [Y];show (if y∈allR then _ else if y∈ys then _ else _)=_;rw [Qax hna,Qa4 hy]
    refine X9 ⟨_,rfl,_,_,_,_,rfl,.str y,JU,_,rfl,X9 ⟨_,rfl,_,rfl,dv,YX kvs (.inr y),rfl,.inl ⟨kvs,.inr y,.inl (s4 _ _ hd),rfl,rfl⟩,_,rfl,?_⟩⟩;show if (YX kvs (.inr y)).isSome=true then _ else _;rw [hc.1 y hy];obtain ⟨f1,f2,f3⟩:=fin _ H3 Y (Yb.refl _);exact WC ⟨_,rfl,.inl ⟨rfl,_,SqL.of L⟩,_,rfl,_,rfl,dv,_,rfl,.inl ⟨kvs,.inr y,.inl (s4 _ _ hd),rfl,(hc.1 y hy).symm⟩,st,_,_,rfl,rfl,L,sml,_,_,_,rfl,hi,f1,f2,f3⟩
   ·show if inV (.int z) (allR.map V.str)=true then _ else _
    rw [qg];refine X9 ⟨_,rfl,_,_,_,_,rfl,.int z,xr,_,rfl,WC ⟨_,rfl,.inl ⟨rfl,_,SqL.of L⟩,_,rfl,_,rfl,_,_,rfl,rfl,Qcr pl,_,_,rfl,rfl,_,rfl,?_⟩⟩;have ev:-(Builtin.bitAnd (z / 2 ^ (pl:Int).toNat) 1)=-(bt z pl):=by
     rw [and_1,Qa9]
     rfl
    try dsimp only
    rw [ev];obtain ⟨f1,f2,f3⟩:=fin _ H3 Y (Yb.refl _);exact ⟨st,_,_,rfl,rfl,L,sml,_,_,_,rfl,hi,f1,f2,f3⟩
  ·rintro σ H2 hz_
   refine ZT fun Gz Z=>?_;obtain ⟨u6,u7,u8,rfl,hi0,S,h2l,s3⟩:=hz_;refine Z ?_;clear Z Gz;rw [Qdd,Qew,hst] at S h2l;refine ⟨_,rfl,.inl ⟨rfl,_,SqL.of S⟩,st,_,.int o,rfl,rfl,S,rfl,_,rfl,by show 2<=sizeLine;decide,fun tt htt=>?_⟩;have hlt:upd H2 st (.lst []) M=some (.lst (lt.map V.int)):=by rw [Zp R.symm];exact h2l
   have s5:Yb H (upd H2 st (.lst [])):=YM s3 N;exact k tt M _ (s5.free htt) Zc (Zd htt _ _ hlt) (s5.trans (Zd htt))
inductive Wk(P:Program)(w:World)(K:PySem.W.Frag)(mg:Str->Option Value)(base:Heap)(vs:List V)(H:Hp)(Q:VK):Prop
 | mk (κ:Type) (dq:DecidableEq κ) (sk:SK κ) (pn f:Addr) (nm:List Str) (b:κ) (bv:V) (nx:κ->List κ) (ot:κ->List V) (U:List κ) (τ:Sp):(vs=[.ref pn,bv,.ref f])->(H pn=some (.tup (nm.map V.str)))->(sk.at_ H b bv)->(b∈U)->((∀s∈U,(nx s).length<=8/\(ot s).length<=8/\∀x∈nx s,x∈U))->(U.length<=1000000)->(nm.length<=3)->(Xa P w K mg base 12 f H τ)->((∀(s:κ) (sv:V) (H1:Hp) (Q':VK),s∈U->sk.at_ H1 s sv->Yb H H1->(∀t r1 r2 ws H2,H2 t=some (.tup [.ref r1,.ref r2])->SqF H1 H2 r1 ws->StA sk H2 (nx s) ws->SqF H1 H2 r2 (ot s)->Yb H1 H2->Q' (.ref t) H2)->τ [sv] H1 Q' E0))->(∀p sts m (l:List κ) ws H',BfE nx b l->H' p=some (.tup [.ref sts,.ref m])->H sts=none->H' sts=some (.lst ws)->StA sk H' l ws->M4 H' m nm 0 (rnG nx l) (l.map ot)->Yb H H'->Q (.ref p) H')->Wk P w K mg base vs H Q
def Xw(P:Program)(w:World)(K:PySem.W.Frag)(mg:Str->Option Value)(base:Heap):Sp:=fun vs H Q _=>Wk P w K mg base vs H Q
theorem Jf (T:Txt K w mg t) (TB:Tbs mg base t):Ym P w K mg base CX0 13 t.bz t.cb ["names","begin","step_of"] (Xw P w K mg base):=by
 have J:Ym P w K mg base CX0 1 t.eu t.fe ["state","states","numbers"] (Jv K):=xP T TB;refine T.aq.F.ok Yq (fun vs H Q E h=>?_) (fun cdv A outer s H vs Q E hr h=>?_)
 ·obtain ⟨κ,_,sk,pn,f,nm,b,bv,nx,ot,U,τ,rfl,hpn,hbv,hb,hU,h2,hn3,hc,hτ,k⟩:=h
  rfl
 ·obtain ⟨κ,_,sk,pn,f,nm,b,bv,nx,ot,U,τ,rfl,hpn,hbv,hb,hU,h2,hn3,hc,hτ,k⟩:=h
  have hu:=Y6 hr;refine ⟨_,@QSs.out _ _ _ (Zb (Zr (i:=3) Yq.nd rfl (Or.inr rfl) (YQ (Zg (qv 1) Za)))
    (Zb (Zr (i:=4) Yq.nd rfl (Or.inr rfl) (QE.or (Zaq (yk hr) (qv 1) Ze) (Zgx (Zda (qv 1) Ze Zgw) rfl rfl (fun z=>nomatch z) (by decide))))
    (Zb (Zr (i:=5) Yq.nd rfl (Or.inl rfl) (YQ Za))
    (Zb (Zr (i:=6) Yq.nd rfl (Or.inl rfl) (YQ Za))
    (Zb (qU Qb8 (Zv gT (ZH Z0 (by rfl) T.ao YN (Zg (qv 5) Za)) (ZH Z0 (by rfl) T.ao YN (Zg (qv 3) Za)) (ZZ _))
    (Zb (Zr (i:=7) Yq.nd rfl (Or.inl rfl) (Zc8 (k:=12) 2 (hr.mono (by decide)) (Zg (Zx Zt (qv 3) (ZH Z0 (by rfl) T.ao YN (Zg (qv 5) Za)) (fun _ _=>rfl)) Za)))
    (Zb (ZU (Yj Qap Qaq Qar Zy (qv 5) (Zg (Yr ZW (by rfl) T.az YT (Zg (XE (⟨by rfl,by decide +kernel,by decide +kernel,by rfl,by decide +kernel,by decide +kernel,by rfl,by decide +kernel⟩:Ys (Zk Xe) _ ["names","begin","step_of","states","numbers","steps","out","told"] "state" ["states","numbers"] [3,4]) (QI.or (XC (Zx ZX (qv 7) Ze (fun _ _=>rfl))) (z6 (Zx ZX (qv 7) Ze (fun _ _=>rfl)))) (fun _ _ _ _=>Wu) (fun _ _ _ _=>(Zq J (hr.mono (by decide)) rfl T.cj.m T.cj.F.kp T.cj.b .nil ZY (Zg (qv 0) (Zg (qv 1) (Zg (qv 2) Za)))))) Za)) Za)))
    (Zj (ZU (Yj Qap Qaq Qar Zy (qv 6) (Zg (Yr ZW (by rfl) T.az YT (Zg (Zx ZX (qv 7) Ze (fun _ _=>rfl)) Za)) Za)))))))
    (Zj (Zu (Zl (Zg (qv 3) (Zg (Zl (Zg (Yr ZW (by rfl) T.az YT (Zg (qv 0) Za)) (Zg Ze (Zg (Yr ZW (by rfl) T.az YT (Zg (qv 5) Za)) (Zg (Yr ZW (by rfl) T.az YT (Zg (qv 6) Za)) Za))))) Za)))))))))),?_⟩
  clear hu
  try dsimp only [L2.cxK,L2.cxK2]
  refine L2.let6 ?_;intro U5 U4 U3 U2 U1;have hr:∀s∈U,∀x∈nx s,x∈U:=fun s h=>(hU s h).2.2;refine ⟨_,rfl,by show 1<=sizeLine;decide,fun st hst=>?_⟩;have s1:=Zd (o:=.lst [bv]) hst;refine Zo ?_;have begun:∀(C:Addr) (H3:Hp),H C=none->H3 st=some (.lst [bv])->sk.dic H3 C [b]->sk.at_ H3 b bv->Yb H H3->U2 { nx:=fun _ H'=>Q .non H',rt:=Q } [some (.ref pn),some bv,some (.ref f),some (.ref st),some (.ref C),none,none,none] H3:=by
   intro C H3 hndH hst3 hnd3 hbv3 s3;obtain ⟨ond,hond,ndT,ndL⟩:=SK.ne hnd3;refine ⟨by show 0<=sizeLine;decide,fun pp hpp=>Zo ⟨by show 0<=sizeLine;decide,fun I hpo=>Zo ?_⟩⟩;have sp:=Zd (o:=.lst []) hpp;have so:=sp.trans (Zd (o:=.lst []) hpo);have hppH:H pp=none:=s3.free hpp;have hpoH:H I=none:=s3.free (sp.free hpo);have pst:pp≠st:=(Zn hst3 hpp).symm;have pnd:pp≠C:=(Zn hond hpp).symm;have ppo:pp≠I:=Zn Zc hpo;have ost:I≠st:=(Zn (sp _ _ hst3) hpo).symm;have oNd:I≠C:=(Zn (sp _ _ hond) hpo).symm;have rl:∀{H:Hp} {zs:List V} {i:Nat},YC H zs (zf nx b i)->zs.length=i:=fun z=>by
    have:=z.1;unfold zf at this;rw [Qad,Qbr] at this;exact this
   have ol:∀{H:Hp} {zs:List V} {i:Nat},YC H zs (zg nx ot b i)->zs.length=i:=fun z=>by
    have:=z.1;unfold zg at this;rw [Qad,Qbr] at this;exact this
   have L:∀{Ha Hb:Hp},Yb Ha Hb->∀b xs,Ha b=some (.tup xs)->Hb b=some (.tup xs):=fun s b xs e=>s _ _ e;refine jz (fun σ H2=>∃(i:Nat) (u7:Option V) (zs os ws:List V),σ=[some (.ref pn),some bv,some (.ref f),some (.ref st),some (.ref C),some (.ref pp),some (.ref I),u7]/\H2 st=some (.lst ws)/\StA sk H2 (bfN nx b i) ws/\sk.dic H2 C (bfN nx b i)/\H2 pp=some (.lst zs)/\H2 I=some (.lst os)/\YC H2 zs (zf nx b i)/\YC H2 os (zg nx ot b i)/\(∀j,j < i->j < (bfN nx b j).length)/\i<=(bfN nx b i).length/\Yb H H2) (fun _ H2=>match H2 pp with | some (.lst zs)=>U.length - zs.length | _=>0) ⟨0,none,[],[],[bv],rfl,so _ _ hst3,StA.one (SK.keep hbv3 (L so)),SK.stay hnd3 (fun o e=>so _ _ e) (L so),Zd hpo _ _ Zc,Zc,YC.nil,YC.nil,(fun j hj=>absurd hj (Qd3 _)),Qbp _,s3.trans so⟩ ?_;rintro σ H4 O;refine ZT fun Gz D=>?_;obtain ⟨i,u7,zs,os,ws,rfl,Y,hA4,hnd4,M,hpo4,Rz,Ro,hgo,hil,s4⟩:=O;refine D ?_;clear D Gz;have hzl:=rl Rz;have hol:=ol Ro;have hlen:=Zbi hb hr i;have hnod:=G8 (nx:=nx) (b:=b) i;have hinU:=Zbh hb hr i;refine ⟨_,rfl,pp,_,rfl,.inl (SqL.of M),_,rfl,st,_,rfl,.inl (SqL.of Y),_,_,rfl,rfl,_,rfl,?_⟩;rw [hzl,hA4.1];refine vW (fun hlt=>?_) (fun hlt=>?_)
   ·have hlt':i < (bfN nx b i).length:=by
     have:=Qba hlt;lia
    obtain ⟨g,hsi⟩:∃g,(bfN nx b i)[i]?=some g:=⟨_,Qab hlt'⟩;have hsU:g∈U:=hinU _ (Qao hsi);obtain ⟨r8,o8,rU⟩:=hU g hsU;obtain ⟨sv,hsv,hat⟩:=hA4.2 i g hsi;have eR:=gh (nx:=nx) (b:=b) hsi;have eO:=gk (nx:=nx) (ot:=ot) (b:=b) hsi;have eS:=j9 (nx:=nx) (b:=b) hsi;refine ⟨fun σ' H'=>∃(u7:Option V) (zs' os' G:List V),σ'=[some (.ref pn),some bv,some (.ref f),some (.ref st),some (.ref C),some (.ref pp),some (.ref I),u7]/\H' st=some (.lst G)/\StA sk H' (bfN nx b (i + 1)) G/\sk.dic H' C (bfN nx b (i + 1))/\H' pp=some (.lst zs')/\H' I=some (.lst os')/\YC H' zs' (zf nx b (i + 1))/\YC H' os' (zg nx ot b (i + 1))/\Yb H H',?_,?_⟩
    ·rintro σ' H' O
     refine ZT fun Gz D=>?_;obtain ⟨u8,zs',os',G,rfl,g1,gA,g2,g3,g4,g5,g6,s5⟩:=O;refine D ?_;clear D Gz;have hpre:(bfN nx b i).length<=(bfN nx b (i + 1)).length:=by
      obtain ⟨r,e⟩:=J4 (nx g) (bfN nx b i);rw [eS,e,Qaf];lia
     refine ⟨U.length - (i + 1),?_,?_,i + 1,u8,zs',os',G,rfl,g1,gA,g2,g3,g4,g5,g6,fun j hj=>?_,by lia,s5⟩
     ·rw [M]
      show U.length - (i + 1) < U.length - zs.length;lia
     ·rw [g3]
      show _=U.length - zs'.length;rw [rl g5]
     ·by_cases hji:j=i
      ·rw [hji]
       exact hlt'
      ·exact hgo j (by lia)
    ·refine ⟨f,τ,rfl,hc.frz s4.frz,_,rfl,_,rfl,pp,_,rfl,.inl (SqL.of M),st,_,_,sv,rfl,rfl,SqL.of Y,by rw [hzl];exact YI hsv,GQ.refl _,hτ g sv H4 _ hsU hat s4 fun tt r1 r2 ws0 H5 htt hr1 hA5 hr2 s5=>?_⟩
     refine Zo ?_;generalize hl0:bfN nx b i=l0 at *;have hst5:=s5 _ _ Y;have hnd5:sk.dic H5 C l0:=SK.stay hnd4 (fun o e=>s5 _ _ e) (L s5);have hpp5:=s5 _ _ M;have hpo5:=s5 _ _ hpo4;obtain ⟨ond4,hond4,nd4T,nd4L⟩:=SK.ne hnd4;have ndn:∀{r:Addr} {ys:List V},SqF H4 H5 r ys->r≠st/\r≠C/\r≠pp/\r≠I:=fun {r ys} z=>by
      have lst:∀{q:Addr} {o:HO},H4 q=some o->(∀xs,o≠.tup xs)->r≠q:=fun {q o} e ht e2=>by
       subst e2;rcases z with z | ⟨_,z⟩
       ·rw [s5 _ _ e] at z
        exact ht ys (Option.some.inj z)
       ·rw [e] at z;cases z
      exact ⟨lst Y (fun _ z=>nomatch z),lst hond4 nd4T,lst M (fun _ z=>nomatch z),lst hpo4 fun _ z=>nomatch z⟩
     obtain ⟨rst,rnd,_,_⟩:=ndn hr1;refine ⟨_,rfl,.inl ⟨rfl,_,SqL.of hpp5⟩,?_⟩;have hr1':H5 r1=some (.tup ws0)\/H5 r1=some (.lst ws0):=hr1.imp id (fun z=>z.1);have w8:ws0.length<=8:=by rw [hA5.1];exact r8
     refine Zdv (a:=r1) (xs:=ws0) (fun R hR=>⟨_,rfl,tt,_,0,_,rfl,rfl,SqT.of htt,rfl,hR⟩) hr1' (fun j zs H'=>zs=((nx g).take j).map (fun x=>Ge ((bfN nx b (i + 1)).idxOf x))/\(∃G,H' st=some (.lst G)/\StA sk H' (((nx g).take j).foldl Y8 l0) G)/\sk.dic H' C (((nx g).take j).foldl Y8 l0)/\(∀b o,H5 b=some o->b≠st->b≠C->H' b=some o)/\∀b,H5 b=none->H' b=none) ⟨rfl,⟨ws,hst5,hA4.keep (L s5)⟩,hnd5,(fun _ _ e _ _=>e),fun _ e=>e⟩ ?_ ?_ ?_ ?_
     ·rintro j zs Z O
      refine ZT fun Gz D=>?_;obtain ⟨rfl,_⟩:=O;refine D ?_;clear D Gz;rw [Qad,Qa1];exact Qa5 (Zs (by lia))
     ·rintro j zs Z ⟨_,_,_,g3,_⟩ o e
      exact g3 _ _ e rst rnd
     ·rintro j x zs Z R hR hx O
      refine ZT fun Gz D=>?_;obtain ⟨rfl,⟨G,g1,gA⟩,g2,g3,g4⟩:=O;refine D ?_;clear D Gz;have hj:j < (nx g).length:=by rw [<-hA5.1];exact (Qac.mp hx).1
      obtain ⟨s',hs'⟩:∃s',(nx g)[j]?=some s':=⟨_,Qab hj⟩;have tp6:∀b xs,H5 b=some (.tup xs)->Z b=some (.tup xs):=fun b xs e=>g3 _ _ e (XW e hst5 (fun z=>nomatch z)) (fun z=>by rw [z,s5 _ _ hond4] at e;exact nd4T xs (Option.some.inj e));obtain ⟨v',hv',hat'⟩:=hA5.2 j s' hs';rw [hx] at hv';cases hv';have hat6:=SK.keep hat' tp6;have e1:((nx g).take (j + 1)).foldl Y8 l0=Y8 (((nx g).take j).foldl Y8 l0) s':=by
       rw [take_snoc hs',Qcy]
       rfl
      have e2:(bfN nx b (i + 1)).idxOf s'=(Y8 (((nx g).take j).foldl Y8 l0) s').idxOf s':=by
       have e3:(nx g).foldl Y8 l0=((nx g).drop (j + 1)).foldl Y8 (((nx g).take (j + 1)).foldl Y8 l0):=by rw [<-Qcy,Qcc]
       obtain ⟨r,e4⟩:=J4 ((nx g).drop (j + 1)) (((nx g).take (j + 1)).foldl Y8 l0);rw [eS,e3,e4,e1,GU (XY.mpr (.inr rfl))]
      have hnj:(((nx g).take j).foldl Y8 l0).Nodup:=xD _ _ hnod;have hlj:(((nx g).take j).foldl Y8 l0).length < 10000000:=by
       have:=Zbg ((nx g).take j) l0;rw [Qa1] at this;lia
      have ew:((nx g).take (j + 1)).map (fun x=>Ge ((bfN nx b (i + 1)).idxOf x))=((nx g).take j).map (fun x=>Ge ((bfN nx b (i + 1)).idxOf x))++[Ge ((bfN nx b (i + 1)).idxOf s')]:=by
       rw [take_snoc hs',Qbm]
       rfl
      rw [ew,e1] at hR;rw [e2] at hR;generalize ((nx g).take j).foldl Y8 l0=l' at *;refine Zjz ⟨_,rfl,_,rfl,_,rfl,κ,_,sk,x,st,C,s',l',G,rfl,g1,gA.1,g2,hat6,hnj,hlj,fun H7 ws7 q1 q0 q2 q3 q4=>hR _ _ ⟨rfl,⟨ws7,q1,?_⟩,q2,(fun b o e h1 h2=>q3 _ _ (g3 b o e h1 h2) h1 h2),fun b e=>q4 _ (g4 b e)⟩⟩;have tp7:∀b xs,Z b=some (.tup xs)->H7 b=some (.tup xs):=fun b xs e=>q3 _ _ e (XW e g1 (fun z=>nomatch z)) fun z=>by
       obtain ⟨o,e7,h7,_⟩:=SK.ne g2;rw [z,e7] at e;exact h7 xs (Option.some.inj e)
      rcases q0 with ⟨hm,rfl⟩ | ⟨hm,rfl⟩
      ·rw [show Y8 l' s'=l' from Qa4 hm]
       exact gA.keep tp7
      ·rw [show Y8 l' s'=l'++[s'] from Qax hm]
       exact (gA.keep tp7).snoc (SK.keep hat6 tp7)
     ·rintro zs1 Z O l hl
      refine ZT fun Gz D=>?_;obtain ⟨rfl,⟨G,g1,gA⟩,g2,g3,g4⟩:=O;refine D ?_;clear D Gz;rw [hA5.1,Qb2] at g2 gA ⊢;rw [<-eS] at g2 gA;have tp6:∀{c:Addr} {ys:List V},H5 c=some (.tup ys)->Z c=some (.tup ys):=fun {c ys} e=>g3 _ _ e (XW e hst5 (fun z=>nomatch z)) (fun z=>by rw [z,s5 _ _ hond4] at e;exact nd4T ys (Option.some.inj e));have hpp6:=g3 _ _ hpp5 pst pnd;have hpo6:=g3 _ _ hpo5 ost oNd;have htt6:=tp6 htt;have N:Z r2=some (.tup (ot g))\/Z r2=some (.lst (ot g)):=by
       obtain ⟨z1,z2,_⟩:=ndn hr2;rcases hr2 with z | ⟨z,_⟩
       ·exact .inl (g3 _ _ z z1 z2)
       ·exact .inr (g3 _ _ z z1 z2)
      have ndr2:=ndn hr2;refine ⟨l,_,rfl,.inl ⟨SqL.of Zc,fun q hq=>?_⟩⟩;have sl:=Zd (o:=.lst ((nx g).map fun x=>Ge ((bfN nx b (i + 1)).idxOf x))) hl;have sq:=sl.trans (Zd (o:=.tup ((nx g).map fun x=>Ge ((bfN nx b (i + 1)).idxOf x))) hq);have hqp:q≠pp:=(Zn (sl _ _ hpp6) hq).symm;have hqo:q≠I:=(Zn (sl _ _ hpo6) hq).symm;refine ⟨pp,_,_,rfl,rfl,sq _ _ hpp6,X0 (by lia),?_⟩;have k8:∀c o,Z c=some o->c≠pp->upd (upd (upd Z l (.lst ((nx g).map fun x=>Ge ((bfN nx b (i + 1)).idxOf x)))) q (.tup ((nx g).map fun x=>Ge ((bfN nx b (i + 1)).idxOf x)))) pp (.lst (zs++[.ref q])) c=some o:=fun c o e hc=>by
       rw [Zp hc];exact sq _ _ e
      have hq8:upd (upd (upd Z l (.lst ((nx g).map fun x=>Ge ((bfN nx b (i + 1)).idxOf x)))) q (.tup ((nx g).map fun x=>Ge ((bfN nx b (i + 1)).idxOf x)))) pp (.lst (zs++[.ref q])) q=some (.tup ((nx g).map fun x=>Ge ((bfN nx b (i + 1)).idxOf x))):=by
       rw [Zp hqp];exact Zc
      have hp8:=Zc (H:=upd (upd Z l (.lst ((nx g).map fun x=>Ge ((bfN nx b (i + 1)).idxOf x)))) q (.tup ((nx g).map fun x=>Ge ((bfN nx b (i + 1)).idxOf x)))) (a:=pp) (o:=.lst (zs++[.ref q]));have d8:sk.dic (upd (upd (upd Z l (.lst ((nx g).map fun x=>Ge ((bfN nx b (i + 1)).idxOf x)))) q (.tup ((nx g).map fun x=>Ge ((bfN nx b (i + 1)).idxOf x)))) pp (.lst (zs++[.ref q]))) C (bfN nx b (i + 1)):=SK.off (SK.stay g2 (fun o e=>sq _ _ e) (L sq)) (sq _ _ hpp6);generalize upd (upd (upd Z l (.lst ((nx g).map fun x=>Ge ((bfN nx b (i + 1)).idxOf x)))) q (.tup ((nx g).map fun x=>Ge ((bfN nx b (i + 1)).idxOf x)))) pp (.lst (zs++[.ref q]))=H8 at *;have tp8:∀{c:Addr} {ys:List V},Z c=some (.tup ys)->H8 c=some (.tup ys):=fun {c ys} e=>k8 _ _ e (XW e hpp6 (fun z=>nomatch z));have hpo8:=k8 _ _ hpo6 ppo.symm;have last:∀(S:Addr) (H9:Hp),H9 S=some (.tup (ot g))->Yb H8 H9->H9 I=some (.lst os)/\(upd H9 I (.lst (os++[.ref S])) st=some (.lst G)/\StA sk (upd H9 I (.lst (os++[.ref S]))) (bfN nx b (i + 1)) G/\sk.dic (upd H9 I (.lst (os++[.ref S]))) C (bfN nx b (i + 1))/\upd H9 I (.lst (os++[.ref S])) pp=some (.lst (zs++[.ref q]))/\upd H9 I (.lst (os++[.ref S])) I=some (.lst (os++[.ref S]))/\YC (upd H9 I (.lst (os++[.ref S]))) (zs++[.ref q]) (zf nx b (i + 1))/\YC (upd H9 I (.lst (os++[.ref S]))) (os++[.ref S]) (zg nx ot b (i + 1))/\Yb H (upd H9 I (.lst (os++[.ref S])))):=by
       intro S H9 ha9 s9;have hpo9:=s9 _ _ hpo8;have tp9:∀{c:Addr} {ys:List V},H9 c=some (.tup ys)->upd H9 I (.lst (os++[.ref S])) c=some (.tup ys):=fun {c ys} e=>by rw [Zp (XW e hpo9 (fun z=>nomatch z))];exact e
       have tp59:∀b xs,H5 b=some (.tup xs)->upd H9 I (.lst (os++[.ref S])) b=some (.tup xs):=fun b xs e=>tp9 (s9 _ _ (tp8 (tp6 e)));refine ⟨hpo9,?_,gA.keep (fun b xs e=>tp9 (s9 _ _ (tp8 e))),SK.off (SK.stay d8 (fun o e=>s9 _ _ e) (L s9)) hpo9,?_,Zc,?_,?_,fun c o' e=>?_⟩
       ·rw [Zp ost.symm]
        exact s9 _ _ (k8 _ _ g1 pst.symm)
       ·rw [Zp ppo]
        exact s9 _ _ hp8
       ·rw [eR]
        exact (qh (fun b xs e=>tp59 b xs (s5 _ _ e)) Rz).snoc (tp9 (s9 _ _ hq8))
       ·rw [eO]
        exact (qh (fun b xs e=>tp59 b xs (s5 _ _ e)) Ro).snoc (tp9 ha9)
       ·have cp:c≠pp:=Zn e hppH
        have co:c≠I:=Zn e hpoH;rw [Zp co];exact s9 _ _ (k8 _ _ (g3 _ _ (s5 _ _ (s4 _ _ e)) (Zn e hst) (Zn e hndH)) cp)
      refine ⟨_,rfl,.inl ⟨rfl,_,SqL.of hpo8⟩,_,rfl,tt,_,1,_,rfl,rfl,SqT.of (tp8 htt6),rfl,r2,ot g,rfl,?_⟩;rcases N with N | N
      ·obtain ⟨l1,l2⟩:=last r2 H8 (tp8 N) (Yb.refl _)
       exact .inr ⟨SqT.of (tp8 N),I,_,_,rfl,rfl,l1,X0 (by lia),_,zs++[.ref q],os++[.ref r2],G,rfl,l2⟩
      ·refine .inl ⟨SqL.of (k8 _ _ N ndr2.2.2.1),fun S ha9=>?_⟩
       obtain ⟨l1,l2⟩:=last S (upd H8 S (.tup (ot g))) Zc (Zd ha9);exact ⟨I,_,_,rfl,rfl,l1,X0 (by lia),_,zs++[.ref q],os++[.ref S],G,rfl,l2⟩
   ·have hle:(bfN nx b i).length=i:=by
     have:¬(i:Int) < ((bfN nx b i).length:Int):=fun z=>hlt (Qaj z);lia
    refine ⟨_,rfl,_,rfl,pn,_,rfl,.inr ⟨SqT.of (s4 _ _ hpn),_,rfl,pp,_,rfl,.inl ⟨SqL.of M,fun a1 ha1=>⟨_,rfl,I,_,rfl,.inl ⟨SqL.of (Zd ha1 _ _ hpo4),fun a2 ha2=>⟨by show 4<=sizeLine;decide,fun m hm=>⟨by show 2<=sizeLine;decide,fun p hp=>?_⟩⟩⟩⟩⟩⟩⟩;have q1:=Zd (o:=.tup zs) ha1;have q2:=Zd (o:=.tup os) ha2;have q3:=Zd (o:=.tup [.ref pn,.int 0,.ref a1,.ref a2]) hm;have q4:=Zd (o:=.tup [.ref st,.ref m]) hp;have qq:=q1.trans (q2.trans (q3.trans q4));refine k p st m (bfN nx b i) ws _ ⟨by rw [hle],fun j hj=>hgo j (by lia)⟩ Zc hst (qq _ _ Y) (hA4.keep (L qq)) ⟨⟨pn,a1,a2,q4 _ _ Zc,qq _ _ (s4 _ _ hpn),⟨zs,(q2.trans (q3.trans q4)) _ _ Zc,?_,fun j r hj=>?_⟩,⟨os,(q3.trans q4) _ _ Zc,?_,fun j r hj=>?_⟩⟩⟩ (s4.trans qq)
    ·rw [hzl,Qad,xF,hle]
    ·rw [<-Zbj hle hgo] at hj
     obtain ⟨a,g1,g2⟩:=Rz.2 j r hj;exact ⟨a,g1,qq _ _ g2⟩
    ·rw [hol,Qad,hle]
    ·rw [<-Zbk hle hgo] at hj
     obtain ⟨a,g1,g2⟩:=Ro.2 j r hj;exact ⟨a,g1,qq _ _ g2⟩
  have fin:∀(C:Addr) (H3:Hp),H C=none->C≠st->(∃o,H3=upd (upd H st (.lst [bv])) C o)->sk.dic H3 C [b]->U2 { nx:=fun _ H'=>Q .non H',rt:=Q } [some (.ref pn),some bv,some (.ref f),some (.ref st),some (.ref C),none,none,none] H3:=by
   intro C H3 hndH hne ho hd3;obtain ⟨o,rfl⟩:=ho;have hnd1:upd H st (.lst [bv]) C=none:=by rw [Zp hne];exact hndH
   have s3:=s1.trans (Zd (o:=o) hnd1);exact begun C _ hndH (by rw [Zp hne.symm];exact Zc) hd3 (SK.keep hbv fun b xs e=>s3 _ _ e) s3
  cases sk with
  | int f9 inj =>
   have hbv:bv=.int (f9 b):=hbv;subst hbv;refine .inr fun C hnd=>?_;have snd:st≠C:=Zn Zc hnd;refine ⟨_,rfl,Zc,[(.inl (f9 b),.int 0)],rfl,by show 1<=15;decide,Zo ?_⟩;have em:zC [] [((.inl (f9 b):Key),V.int 0)]=nk ([b].map f9):=rfl;rw [em,gD];exact fin C _ (s1.free hnd) snd.symm ⟨_,rfl⟩ Zc
  | key kn =>
   obtain ⟨a,rfl,ha⟩:=id hbv;refine .inl fun C hnd=>?_;have snd:st≠C:=Zn Zc hnd;have sn2:=s1.trans (Zd (o:=.dK []) hnd);refine ⟨_,rfl,κ,_,kn,a,b,rfl,Zc,kn.keep _ _ _ _ (fun b xs e=>sn2 _ _ e) ha,fun H' n' _ ho=>Zo ?_⟩;obtain ⟨o,rfl⟩:=ho;rw [gD] at n' ⊢;exact fin C _ (s1.free hnd) snd.symm ⟨_,rfl⟩ n'
inductive jb(pw:Addr)(vs:List V)(H:Hp)(Q:VK):Prop
 | mk (m:Addr) (nm:List Str) (b:Nat) (nx:List (List Nat)) (ot:List (List V)) (tr:Bool):(vs=[.ref m])->(M4 H m nm b nx ot)->(Wf nm b nx ot tr)->(Xb H pw Wy Wz)->(∀f (l cs:List Nat) H',zP nx b l->cs=jN (rnR nx l) (vE (rnQ ot l)) l.length->Zco (rnR nx l) cs->gv (vE (rnQ ot l)) cs->M4 H' f nm 0 (lsR (rnR nx l) cs) (lsO (rnQ ot l) cs)->Xb H' pw Wy Wz->Zcm pw H H'->Q (.ref f) H')->jb pw vs H Q
def w6(K:PySem.W.Frag)(g:Addr):Sp:=fun vs H Q _=>jb g vs H Q
theorem Zee (T:Txt K w mg t) (TB:Tbs mg base t):Ym P w K mg base CX0 14 t.nj t.mq ["machine"] (w6 K t.cg):=by
 have I:Ym P w K mg base CX0 1 t.dh t.di ["states","classes"] (WT K):=GB T TB;have J:Ym P w K mg base CX0 1 t.ka t.kd ["classes"] (qB K):=yF T TB;have D:Ym P w K mg base CX0 2 t.dy t.dz ["steps","out"] (Jc K):=qP T TB;have G:Ym P w K mg base CX0 13 t.bz t.cb ["names","begin","step_of"] (Xw P w K mg base):=Jf T TB;refine T.ah.F.okC Wh (fun vs H Q E h=>?_) (fun A outer s H vs Q E hr h=>?_)
 ·obtain ⟨m,nm,b,nx,ot,tr,rfl,M,W,B,k⟩:=h
  rfl
 ·obtain ⟨m,nm,b,nx,ot,tr,rfl,M,W,B,k⟩:=h
  have hu:=Y6 hr;refine ⟨_,@QSs.out _ _ _ (Zb (Zr (i:=1) Wh.nd rfl (Or.inl rfl) (Zx ZX (Zag (kl:=11) G (hr.mono (by decide)) rfl T.aq.m T.aq.F.kp T.aq.b rfl (Zx ZX (qv 0) Ze (fun _ _=>rfl)) (Zx ZX (qv 0) Ze (fun _ _=>rfl)) T.oj TB.nq TB.B rfl rfl rfl rfl (⟨⟨by rfl,by rfl,by rfl,by decide +kernel,by decide +kernel,by decide +kernel,by decide +kernel⟩,by decide +kernel,by decide +kernel,by rfl⟩:Zja (Zk qf) _ ["machine","found","steps","out","classes","firsts","least_steps","least_out"] ["state"] ["machine"] [0]) (fun _ _ _ _ us hl=>match us,hl with | [_],_=>rfl) (fun _ _ _ _ _ _ _ hrl=>(Zl (Zg (Zx (show IxR _ (wI K) from ZX) (Zx (show IxR _ (wI K) from ZX) (qv 1) Ze (fun _ _=>rfl)) (qv 0) (fun _ _=>rfl)) (Zg (Zx (show IxR _ (wI K) from ZX) (Zx (show IxR _ (wI K) from ZX) (qv 1) Ze (fun _ _=>rfl)) (qv 0) (fun _ _=>rfl)) Za))))) Ze (fun _ _=>rfl)))
    (Zb (Zr (i:=2) Wh.nd rfl (Or.inr rfl) (Zx ZX (qv 1) Ze (fun _ _=>rfl)))
    (Zb (Zr (i:=3) Wh.nd rfl (Or.inr rfl) (Zx ZX (qv 1) Ze (fun _ _=>rfl)))
    (Zb (Zr (i:=4) Wh.nd rfl (Or.inr rfl) (Zq D (hr.mono (by decide)) rfl T.cf.m T.cf.F.kp T.cf.b .nil ZY (Zg (qv 2) (Zg (qv 3) Za))))
    (Zb (Zr (i:=5) Wh.nd rfl (Or.inl rfl) (Zq J (hr.mono (by decide)) rfl T.ei.m T.ei.F.kp T.ei.b .nil ZY (Zg (qv 4) Za)))
    (Zb (jk (i:=6) Wh.nd rfl rfl (⟨by rfl,by decide +kernel,by decide +kernel,by rfl,by decide +kernel,by decide +kernel,by rfl,by decide +kernel⟩:Ys (Zk qf) _ ["machine","found","steps","out","classes","firsts","least_steps","least_out"] "state" ["classes","steps"] [4,2]) (XC (qv 5)) (fun _ _ _ _=>Wu) (fun _ _ _ _=>(Zq I (hr.mono (by decide)) rfl T.ax.m T.ax.F.kp T.ax.b .nil ZY (Zg (Zx (show IxR _ (wI K) from ZX) (qv 2) (qv 0) (fun _ _=>rfl)) (Zg (qv 1) Za)))))
    (Zb (jk (i:=7) Wh.nd rfl rfl (⟨by rfl,by decide +kernel,by decide +kernel,by rfl,by decide +kernel,by decide +kernel,by rfl,by decide +kernel⟩:Ys (Zk qf) _ ["machine","found","steps","out","classes","firsts","least_steps","least_out"] "state" ["out"] [3]) (XC (qv 5)) (fun _ _ _ _=>Wu) (fun _ _ _ _=>(Zx (show IxR _ (wI K) from ZX) (qv 1) (qv 0) (fun _ _=>rfl))))
    (Zj (Zu (Zl (Zg (Zx ZX (qv 1) Ze (fun _ _=>rfl)) (Zg Ze (Zg (Yr ZW (by rfl) T.az YT (Zg (qv 6) Za)) (Zg (Yr ZW (by rfl) T.az YT (Zg (qv 7) Za)) Za)))))))))))))),?_⟩
  clear hu hr
  try dsimp only [L2.cxK,L2.cxK2]
  refine L2.let8 ?_;intro U7 U6 U5 U4 U3 U2 U1;refine ZT fun Y C=>?_;obtain ⟨pn,ps,po,hm,hn,R,O⟩:=M.ex;refine C ?_;clear C Y;obtain ⟨pz,hpz⟩:=B.ex;have tP:∀{b:Addr} {xs:List V},H b=some (.tup xs)->b≠t.cg:=fun e=>XW e hpz (fun z=>nomatch z);refine ⟨_,rfl,m,_,0,_,rfl,rfl,SqT.of hm,rfl,_,rfl,m,_,1,_,rfl,rfl,SqT.of hm,rfl,B,fun cs f H2 hcs hfz hf hT2 o2 hc=>?_⟩;have t2:∀(b:Addr) (xs:List V),H b=some (.tup xs)->H2 b=some (.tup xs):=fun b xs e=>o2 _ _ e (tP e);have hL8:=p8 W.n3;refine ⟨Nat,inferInstance,.int (fun s:Nat=>(s:Int)) (fun a b e=>Int.ofNat.inj e),pn,f,nm,b,.int (b:Int),(fun s=>nx.getD s []),(fun s=>ot.getD s []),List.range nx.length,_,rfl,t2 _ _ hn,rfl,Qb9.mpr W.b,(fun s hs=>⟨by rw [W.row (Qb9.mp hs)];exact hL8,by rw [W.or _ (getD_mem (show s < ot.length by rw [W.ol];exact Qb9.mp hs))];exact hL8,fun x hx=>Qb9.mpr (W.nl _ (getD_mem (Qb9.mp hs)) x hx)⟩),by rw [Qbr];exact W.le,W.n3,hc,fun s sv H1 Q' hs hat sH hQ=>⟨rfl,?_⟩,fun p sts fm l wsl H3 B3 hp hsts0 hsts hA M3 s3=>?_⟩
  ·have hs:=Qb9.mp hs
   have hat:sv=.int (s:Int):=hat;subst hat;have th:∀(b:Addr) (xs:List V),H b=some (.tup xs)->hide cs H1 b=some (.tup xs):=fun b xs e=>Gy hfz sH (sH _ _ (t2 _ _ e)) (fun o z=>nomatch z);refine ZT fun Y C=>?_;obtain ⟨pn',ps',po',hm',_,R',O'⟩:=(M.tups th).ex;refine C ?_;clear C Y;refine ZT fun Y C=>?_;obtain ⟨as1,a1,g1,g2,g3⟩:=WM R' (i:=s) (by rw [Qad];exact hs);refine C ?_;clear C Y;refine ZT fun Y C=>?_;obtain ⟨as2,a2,f1,f2,f3⟩:=WM O' (i:=s) (by rw [W.ol];exact hs);refine C ?_;clear C Y;rw [G7] at g3;refine ⟨_,rfl,m,_,2,_,rfl,rfl,SqT.of hm',rfl,_,rfl,ps',_,_,_,rfl,rfl,SqT.of g1,g2,_,rfl,m,_,3,_,rfl,rfl,SqT.of hm',rfl,_,rfl,po',_,_,_,rfl,rfl,SqT.of f1,f2,by show 2<=sizeLine;decide,fun q hq hcn=>?_⟩;obtain ⟨sq,hq2⟩:=Zh8 hq hcn;exact hQ q a1 a2 _ _ hq2 (.inl (sq _ _ (of_hide g3).2)) ⟨by unfold GN;rw [Qad],fun i k hk=>⟨Ge k,by unfold GN;rw [Qah,hk];rfl,rfl⟩⟩ (.inl (sq _ _ (of_hide f3).2)) sq
  have B3:=Zib B3;have M3:M4 H3 fm nm 0 (rnR nx l) (rnQ ot l):=M3;have t3:∀(b:Addr) (xs:List V),H3 b=some (.tup xs)->hide cs H3 b=some (.tup xs):=fun b xs e=>Gy hfz s3 e (fun o z=>nomatch z);have T3:=hT2 H3 s3;have off3:Zcm t.cg H (hide cs H3):=fun b o e hb=>by
   rw [ZP (fun m=>by rw [hcs b m] at e;cases e)];exact s3 _ _ (o2 _ _ e hb)
  have M3':M4 (hide cs H3) fm nm 0 (rnR nx l) (rnQ ot l):=M3.tups t3;have hp':=t3 _ _ hp
  try dsimp only
  generalize hide cs H3=H4 at *;have W1:=Zju W B3;have hl1:=WQ nx l;have hle:=W1.le;have hb1:=W1.b;have C1:=xj B3;refine ZT fun Y C=>?_;obtain ⟨pn4,ps4,po4,hm4,hn4,R4,O4⟩:=M3'.ex;refine C ?_;clear C Y;refine ⟨p,_,1,_,rfl,rfl,SqT.of hp',rfl,Zo ?_⟩;refine ⟨_,rfl,fm,_,2,_,rfl,rfl,SqT.of hm4,rfl,_,rfl,fm,_,3,_,rfl,rfl,SqT.of hm4,rfl,_,rfl,_,rfl,ps4,po4,rnR nx l,rnQ ot l,vE (rnQ ot l),rfl,R4,O4,Zia W1,W1.ol,(fun row h=>⟨by rw [W1.nr row h];exact hL8,W1.nl row h⟩),hb1,by lia,fun pc g H5 hpc0 hpc hcl hst hnn hcls hcn s5=>?_⟩;have S:Zco (rnR nx l) g:=⟨hcl,hst⟩;have F:=xk hnn;have hfl:=yB g;rw [hl1] at hcn hle;have hcl':g.length=l.length:=by rw [hcl,hl1]
  refine ⟨_,rfl,pc,g.map fun c:Nat=>(c:Int),rfl,by rw [hpc,Qbj];rfl,by rw [Qad];lia,fun pf H6 hpf0 Z s6=>?_⟩;have Z:H6 pf=some (.lst ((Xk g).map Ge)):=Z;have s56:=s5.trans s6;have fR:∀{i f:Nat},(Xk g)[i]?=some f->f < (rnR nx l).length:=fun {i f} h=>by
   rw [<-hcl];exact (Qac.mp (F.at_ _ _ h).1).1
  have fl:(Xk g).length<=1000000:=by lia
  refine Zo ⟨_,rfl,pf,rfl,⟨_,SqL.of Z⟩,XG (K:=K) (a:=pf) (xs:=(Xk g).map Ge) (fun i zs H'=>YC H' zs (((lsR (rnR nx l) g).map GN).take i)/\i<=(Xk g).length/\Yb H6 H') ⟨YC.nil,Qbp _,Yb.refl _⟩ (fun i zs H' h=>?_) (fun i zs H' h=>SqL.of (h.2.2 _ _ Z)) (fun i x zs H7 R7 hR hx h=>?_) (fun zs H7 h p1 hp1=>?_)⟩
  ·rw [h.1.1,Qa1]
   exact Qa5 (X0 (by lia))
  ·obtain ⟨hZ,hi,s7⟩:=h
   rw [Qah] at hx;obtain ⟨f1,L,rfl⟩:=Qbh.mp hx;have hil:=(Qac.mp L).1;have N:=fR L;have s47:=s56.trans s7;refine ZT fun Y C=>?_;obtain ⟨as1,a1,g1,g2,g3⟩:=WM (R4.same s47) (i:=f1) (by rw [Qad];exact N);refine C ?_;clear C Y;rw [G7] at g3;have r8:=W1.nr _ (getD_mem N);refine Zjz ⟨_,rfl,_,rfl,ps4,_,_,_,rfl,rfl,SqT.of g1,g2,_,rfl,a1,pc,(rnR nx l).getD f1 [],g.map fun c:Nat=>(c:Int),rfl,g3,?_,(fun s hs=>?_),by lia,by rw [Qad];lia,fun q H8 hq0 hq s8=>hR _ _ ⟨?_,hil,s7.trans s8⟩⟩
   ·rw [(s6.trans s7) _ _ hpc,Qbj]
    rfl
   ·rw [Qad,hcl]
    exact W1.nl _ (getD_mem N) s hs
   ·have e1:((lsR (rnR nx l) g).map GN)[i]?=some (GN (((rnR nx l).getD f1 []).map fun x=>g.getD x 0)):=by
     unfold lsR;rw [Qah,Qah,L]
     rfl
    have e2:(((rnR nx l).getD f1 []).map fun s=>(g.map fun c:Nat=>(c:Int)).getD s 0).map V.int=GN (((rnR nx l).getD f1 []).map fun x=>g.getD x 0):=by
     unfold GN;rw [Qbj,Qbj];refine Qcn fun s _=>?_;exact congrArg V.int (Zb6 g s)
    rw [e2] at hq;rw [take_snoc e1];exact (hZ.same s8).snoc hq
  obtain ⟨hZ,_,s7⟩:=h;have ll:((Xk g).map Ge).length=((lsR (rnR nx l) g).map GN).length:=by
   unfold lsR;rw [Qad,Qad,Qad]
  rw [ll,Qb2] at hZ;have u1:=Zd (o:=.lst zs) hp1;have hp1':upd H7 p1 (.lst zs) p1=some (.lst zs):=Zc;have hZ1:=hZ.same u1;have s67:=s7.trans u1
  try dsimp only
  generalize upd H7 p1 (.lst zs)=H8 at *;have hpf8:=s67 _ _ Z;refine Zo ⟨_,rfl,pf,rfl,⟨_,SqL.of hpf8⟩,XG (K:=K) (a:=pf) (xs:=(Xk g).map Ge) (fun i zs H'=>YC H' zs ((lsO (rnQ ot l) g).take i)/\i<=(Xk g).length/\Yb H8 H') ⟨YC.nil,Qbp _,Yb.refl _⟩ (fun i zs H' h=>?_) (fun i zs H' h=>SqL.of (h.2.2 _ _ hpf8)) (fun i x zs H9 R9 hR hx h=>?_) (fun zs2 H9 h p2 hp2=>?_)⟩
  ·rw [h.1.1,Qa1]
   exact Qa5 (X0 (by lia))
  ·obtain ⟨hZ,hi,s9⟩:=h
   rw [Qah] at hx;obtain ⟨f1,L,rfl⟩:=Qbh.mp hx;have hil:=(Qac.mp L).1;have N:=fR L;refine ZT fun Y C=>?_;obtain ⟨as1,a1,g1,g2,g3⟩:=WM (O4.same ((s56.trans s67).trans s9)) (i:=f1) (by rw [W1.ol];exact N);refine C ?_;clear C Y;refine Zjz ⟨_,rfl,_,rfl,po4,_,_,_,rfl,rfl,SqT.of g1,g2,hR _ _ ⟨?_,hil,s9⟩⟩;have e1:(lsO (rnQ ot l) g)[i]?=some ((rnQ ot l).getD f1 []):=by
    unfold lsO;rw [Qah,L]
    rfl
   rw [take_snoc e1];exact hZ.snoc g3
  obtain ⟨hO,_,s9⟩:=h;have ll2:((Xk g).map Ge).length=(lsO (rnQ ot l) g).length:=by
   unfold lsO;rw [Qad,Qad]
  rw [ll2,Qb2] at hO;have u2:=Zd (o:=.lst zs2) hp2;have s4z:=(s56.trans s67).trans (s9.trans u2);have hm9:=s4z _ _ hm4;refine Zo ⟨_,rfl,fm,_,0,_,rfl,rfl,SqT.of hm9,rfl,_,rfl,p1,_,rfl,.inl ⟨SqL.of ((s9.trans u2) _ _ hp1'),fun a1 ha1=>⟨_,rfl,p2,_,rfl,.inl ⟨SqL.of (Zd ha1 _ _ Zc),fun a2 ha2=>⟨by show 4<=sizeLine;decide,fun fr N=>?_⟩⟩⟩⟩⟩;have q1:=Zd (o:=.tup zs) ha1;have q2:=Zd (o:=.tup zs2) ha2;have q3:=Zd (o:=.tup [.ref pn4,.int 0,.ref a1,.ref a2]) N;have q:=(q1.trans q2).trans q3;have s4q:=s4z.trans q;refine k fr l g _ B3 hcn S hcls ⟨⟨pn4,a1,a2,Zc,s4q _ _ hn4,⟨zs,(q2.trans q3) _ _ Zc,(hZ1.same ((s9.trans u2).trans q)).1,(hZ1.same ((s9.trans u2).trans q)).2⟩,⟨zs2,q3 _ _ Zc,(hO.same (u2.trans q)).1,(hO.same (u2.trans q)).2⟩⟩⟩ (T3.same s4q) (fun b o e hb=>s4q _ _ (off3 b o e hb))
inductive X2(w:World)(pw:Addr)(vs:List V)(H:Hp)(Q:VK):Prop
 | mk (tw tn tt:Addr) (ws:List V) (nm:List Str) (o0 o1:V) (B kc:Nat):(vs=[.ref tw,.ref tn,.ref tt])->(H tw=some (.tup ws))->(ws.length<=100)->(H tn=some (.tup (nm.map V.str)))->(nm.Nodup)->(nm.length<=3)->(H tt=some (.tup [o0,o1]))->((∀w∈ws,ze nm w))->(YS ws)->(GL ws=1)->((∀z:Int,V.int z∈ws->0<=z/\z < 2 ^ B))->(kc=YV ws)->((B + 1) * 2 ^ kc<=1000000)->(Xb H pw ZA Zw)->(∀m (l:List (Int × List Int)) H',BfE (nxT nm (Yv (2 ^ nm.length) nm) ws (lgB ws)) (0,List.replicate kc 0) l->M4 H' m nm 0 (rnG (nxT nm (Yv (2 ^ nm.length) nm) ws (lgB ws)) l) (l.map (otT nm (Yv (2 ^ nm.length) nm) ws o0 o1))->Xb H' pw ZA Zw->Zcm pw H H'->Q (.ref m) H')->X2 w pw vs H Q
def Xj(P:Program)(w:World)(K:PySem.W.Frag)(mg:Str->Option Value)(base:Heap)(g:Addr):Sp:=fun vs H Q _=>X2 w g vs H Q
theorem Wl (T:Txt K w mg t) (TB:Tbs mg base t):Ym P w K mg base CX0 14 t.bp t.au ["words","names","told"] (Xj P w K mg base t.ae):=by
 have G:Ym P w K mg base CX0 13 t.bz t.cb ["names","begin","step_of"] (Xw P w K mg base):=Jf T TB;have G_bits_at:Ym P w K mg base CX0 1 t.mr t.mw ["columns","letter"] (zX K):=gx T TB;have Y:Ym P w K mg base CX0 4 t.mz t.nc ["words","columns","place","kept"] (ja K):=gz T TB;have M:Ym P w K mg base CX0 1 t.eg t.eh ["word"] (Jx K):=qD T TB;have C:Ym P w K mg base CX0 1 t.dj t.dm ["words"] (W7 K):=qp T TB;have I:Ym P w K mg base CX0 2 t.fh t.fi ["names","letters"] (J0 K):=xW T TB;have O:Ym P w K mg base CX0 1 t.me t.mf ["width"] (xR K):=vO T TB;refine T.ak.F.okC Yi (fun vs H Q E h=>?_) (fun A outer s H vs Q E hr h=>?_)
 ·obtain ⟨tw,tn,tt,g,nm,Z,S,B,N,rfl,ht,hl,hn,hnd,hn3,hto,hw,he,hst,hB,hkc,hbig,hT,k⟩:=h
  rfl
 ·obtain ⟨tw,tn,tt,g,nm,Z,S,B,N,rfl,ht,hl,hn,hnd,hn3,hto,hw,he,hst,hB,hkc,hbig,hT,k⟩:=h
  have hu:=Y6 hr;refine ⟨_,@QSs.out _ _ _ (Zb (Zr (i:=3) Yi.nd rfl (Or.inr rfl) (Yr (vf rfl) (by rfl) T.om Zgj (Zg (Yr ve (by rfl) T.cq Zc0 (Zg (Zq O (hr.mono (by decide)) rfl T.fq.m T.fq.F.kp T.fq.b .nil ZY (Zg (ZH Z0 (by rfl) T.ao YN (Zg (qv 1) Za)) Za)) Za)) Za)))
    (Zb (Zr (i:=4) Yi.nd rfl (Or.inr rfl) (Zq I (hr.mono (by decide)) rfl T.cm.m T.cm.F.kp T.cm.b .nil ZY (Zg (qv 1) (Zg (qv 3) Za))))
    (Zb (Zr (i:=5) Yi.nd rfl (Or.inr rfl) (Zq C (hr.mono (by decide)) rfl T.bw.m T.bw.F.kp T.bw.b .nil ZY (Zg (qv 0) Za)))
    (Zb (qs_def (i:=6) (name := "step_of") (params:=WE Xf) (body:=Xu Xf) (scope:=Zk Xf) (lpos:=ZA) (qual:=Zw) Yi.nd rfl (Or.inl rfl) T.nu TB.dg TB.B rfl rfl rfl rfl (S0:=Zk Yd) rfl (by decide +kernel))
    (Zb (Zr (i:=7) Yi.nd rfl (Or.inl rfl) (Zl (Zg Ze (Zg (Yr ZW (by rfl) T.az YT (Zg (XE (⟨by rfl,by decide +kernel,by decide +kernel,by rfl,by decide +kernel,by decide +kernel,by rfl,by decide +kernel⟩:Ys (Zk Yd) _ ["words","names","told","letters","columns","last_place","step_of","begin"] "word" [] []) (z6 (qv 0)) (fun _ _ _ _=>(uB (z5 (Zq M (hr.mono (by decide)) rfl T.bb.m T.bb.F.kp T.bb.b .nil ZY (Zg (qv 0) Za))))) (fun _ _ _ _=>Ze)) Za)) Za))))
    (Zj (Zu (Zx ZX (Zdk (kl:=11) (i:=6) (name := "step_of") (params:=WE Xf) (body:=Xu Xf) (scope:=Zk Xf) (qual:=Zw) G (hr.mono (by decide)) rfl T.aq.m T.aq.F.kp T.aq.b rfl (Zg (qv 1) (Zg (qv 7) (Zg (qv 6) Za))) rfl rfl (⟨JA,by decide +kernel,by decide +kernel,by rfl⟩:Zjh (Zk Yd) _ ["words","names","told","letters","columns","last_place","step_of","begin"] ["state"] ["step","place","reached"] ["words","columns","last_place","letters","told"] [0,4,5,3,2]) (fun _ _ _ _ _ us hl=>match us,hl with | [_],_=>rfl) (fun _ _ _ _ _ _ _ hrl=>(Zb (Zr (i:=1) JA.nd rfl (Or.inr rfl) (Zq Y (hrl.mono (by decide)) rfl T.iy.m T.iy.F.kp T.iy.b .nil ZY (Zg (qv 4) (Zg (qv 5) (Zg (Zx (show IxR _ (wI K) from ZX) (qv 0) Ze (fun _ _=>rfl)) (Zg (Zx (show IxR _ (wI K) from ZX) (qv 0) Ze (fun _ _=>rfl)) Za))))))
    (Zb (Zr (i:=2) JA.nd rfl (Or.inr rfl) (ZH (gX rfl) (by rfl) T.ou bt_min (Zg (Zi YY (Zx (show IxR _ (wI K) from ZX) (qv 0) Ze (fun _ _=>rfl)) Ze) (Zg (qv 6) Za))))
    (Zb (jk (i:=3) JA.nd rfl rfl (⟨by rfl,by decide +kernel,by decide +kernel,by rfl,by decide +kernel,by decide +kernel,by rfl,by decide +kernel⟩:Ys (Zk Xf) _ ["state","step","place","reached","words","columns","last_place","letters","told"] "letter" ["place","step"] [2,1]) (show QI _ _ _ (gM K (JC 7)) from XC (qv 7)) (fun _ _ _ _=>Wu) (fun _ _ _ _=>(Zl (Zg (qv 1) (Zg (Zq G_bits_at (hrl.mono (by decide)) rfl T.ix.m T.ix.F.kp T.ix.b .nil ZY (Zg (Zx (show IxR _ (wI K) from ZX) (qv 2) Ze (fun _ _=>rfl)) (Zg (qv 0) Za))) Za)))))
    (Zj (Zu (Zl (Zg (qv 3) (Zg (XE (⟨by rfl,by decide +kernel,by decide +kernel,by rfl,by decide +kernel,by decide +kernel,by rfl,by decide +kernel⟩:Ys (Zk Xf) _ ["state","step","place","reached","words","columns","last_place","letters","told"] "letter" ["told","step"] [8,1]) (show QI _ _ _ (gM K (JC 7)) from XC (qv 7)) (fun _ _ _ _=>Wu) (fun _ _ _ _=>(Zx (show IxR _ (wI K) from ZX) (qv 1) (Zi WU (Zi vU (Zx (show IxR _ (wI K) from ZX) (qv 2) Ze (fun _ _=>rfl)) (qv 0)) Ze) (fun _ _=>rfl)))) Za)))))))))) Ze (fun _ _=>rfl))))))))),?_⟩
  clear hu hr
  try dsimp only [L2.cxK,L2.cxK2]
  refine L2.let6 ?_;intro U5 U4 U3 U2 U1;have h8:=p8 hn3;have e2:((2:Int) ^ nm.length)=((2 ^ nm.length:Nat):Int):=by rw [Int.natCast_pow];rfl
  have hflat:∀w∈g,XX w=true/\((∃y,w=.str y)\/∃z:Int,w=.int z):=fun w h=>by
   rcases hw w h with ⟨y,rfl,_⟩ | ⟨y,rfl,_⟩ | ⟨y,rfl,_⟩ | ⟨z,rfl,_⟩
   ·exact ⟨rfl,.inl ⟨y,rfl⟩⟩
   ·exact ⟨rfl,.inl ⟨y,rfl⟩⟩
   ·exact ⟨rfl,.inl ⟨y,rfl⟩⟩
   ·exact ⟨rfl,.inr ⟨z,rfl⟩⟩
  refine ⟨_,rfl,tn,_,rfl,.inr (SqT.of hn),nm.length,by rw [Qad];rfl,by lia,_,rfl,fun pr hpr=>⟨pr,2 ^ nm.length,rfl,by rw [Zc,e2],by lia,fun tl htl=>Zo ?_⟩⟩;have s1:=Zd (o:=.rng 0 ((2:Int) ^ nm.length)) hpr;have s2:=s1.trans (Zd (o:=.lst ((List.range (2 ^ nm.length)).map fun i:Nat=>V.int (i:Int))) htl);have htl2:=Zc (H:=upd H pr (.rng 0 ((2:Int) ^ nm.length))) (a:=tl) (o:=.lst ((List.range (2 ^ nm.length)).map fun i:Nat=>V.int (i:Int)));have htlH:H tl=none:=s1.free htl
  try dsimp only
  generalize upd (upd H pr (.rng 0 ((2:Int) ^ nm.length))) tl (.lst ((List.range (2 ^ nm.length)).map fun i:Nat=>V.int (i:Int)))=H2 at *;refine ⟨_,rfl,_,rfl,tn,tl,nm,2 ^ nm.length,rfl,s2 _ _ hn,hnd,by lia,htl2,by lia,fun dv kvs H3 hdv0 hdv hcol s3=>Zo ?_⟩;have s23:=s2.trans s3;generalize Yv (2 ^ nm.length) nm=cols at *;refine ⟨_,rfl,tw,g,rfl,s23 _ _ ht,by lia,fun w h=>(hflat w h).2,fun L H4 hL1 hL2 s4=>Zo ?_⟩;rw [<-Zfp hL1 hL2] at k;have s24:=s23.trans s4;have hLB:L<=B:=by
   rw [Zfp hL1 hL2];exact Zbn hB
  have hdv4:=s4 _ _ hdv;have htl4:=(s3.trans s4) _ _ htl2;refine ⟨hT.same s24,fun f c' oc ctv doc H5 hf0 hf hc' hoc hT5 o5=>?_⟩;obtain ⟨pz,hpz⟩:=(hT.same s24).ex;have o5':∀{b:Addr} {o:HO},H4 b=some o->(∀ps,o≠.tbl ps)->H5 b=some o:=fun {b o} e h=>o5 b o e fun z=>by
   rw [z,hpz] at e;exact h _ (Option.some.inj e).symm
  have t5:∀{b:Addr} {xs:List V},H b=some (.tup xs)->H5 b=some (.tup xs):=fun e=>o5' (s24 _ _ e) (fun _ z=>nomatch z);have hdv5:=o5' hdv4 (fun _ z=>nomatch z);have htl5:=o5' htl4 (fun _ z=>nomatch z);refine ⟨_,rfl,tw,rfl,⟨_,SqT.of (t5 ht)⟩,J2 (K:=K) (a:=tw) (xs:=g) (fun i zs H'=>zs=List.replicate (YV (g.take i)) (.int 0)/\H'=H5) ⟨rfl,rfl⟩ (fun i zs H' h=>?_) (fun i zs H' h=>by rw [h.2];exact SqT.of (t5 ht)) (fun i x zs H6 R hR hx h=>?_) (fun zs H6 h pl hpl=>?_)⟩
  ·rw [h.1,Qbx]
   have:YV (g.take i)<=(g.take i).length:=Qek _ _;rw [Qa1] at this;exact Qa5 (Zs (by lia))
  ·obtain ⟨rfl,rfl⟩:=h
   refine ⟨_,rfl,x,rfl,(hflat x (Qao hx)).1,_,rfl,?_⟩;have er:YV (g.take (i + 1))=YV (g.take i) + if inV x (allR.map V.str)=true then 1 else 0:=by
    rw [take_snoc hx];unfold YV;rw [Qef,Qaf,Qdf]
    split <;> rfl
   rw [er] at hR;refine vW (fun hb=>?_) (fun hb=>?_)
   ·rw [Qa4 hb,List.replicate_succ'] at hR
    exact hR _ _ ⟨rfl,rfl⟩
   ·rw [Qax hb] at hR
    exact hR _ _ ⟨rfl,rfl⟩
  obtain ⟨rfl,rfl⟩:=h;rw [Qb2,<-hkc];refine ⟨pl,_,rfl,.inl ⟨SqL.of Zc,fun tb htb=>⟨by show 2<=sizeLine;decide,fun tg htg=>Zo ?_⟩⟩⟩;have q1:=Zd (o:=.lst (List.replicate N (.int 0))) hpl;have q2:=Zd (o:=.tup (List.replicate N (.int 0))) htb;have q3:=Zd (o:=.tup [.int 0,.ref tb]) htg;have s6:=q1.trans (q2.trans q3);have htb6:=q3 _ _ (Zc (H:=upd H6 pl (.lst (List.replicate N (.int 0)))) (a:=tb) (o:=.tup (List.replicate N (.int 0))));have htg6:=Zc (H:=upd (upd H6 pl (.lst (List.replicate N (.int 0)))) tb (.tup (List.replicate N (.int 0)))) (a:=tg) (o:=.tup [.int 0,.ref tb])
  try dsimp only
  generalize upd (upd (upd H6 pl (.lst (List.replicate N (.int 0)))) tb (.tup (List.replicate N (.int 0)))) tg (.tup [.int 0,.ref tb])=H7 at *;refine ⟨_,rfl,_,rfl,_,rfl,f,c',oc,ctv,doc,rfl,s6 _ _ hf,s6 _ _ hc',hoc,fun cs H8 hcs0 hcsF o8 hcall=>?_⟩;have hU:∀s∈uni N (L + 1),(nxT nm cols g L s).length<=8/\(otT nm cols g Z S s).length<=8/\∀x∈nxT nm cols g L s,x∈uni N (L + 1):=fun s hs=>⟨by unfold nxT;rw [Qad,Qbr];exact h8,by unfold otT;rw [Qad,Qbr];exact h8,jC hw hkc hs⟩;have t8:∀{b:Addr} {xs:List V},H b=some (.tup xs)->H8 b=some (.tup xs):=fun e=>o8 _ _ (s6 _ _ (t5 e));have hUl:(uni N (L + 1)).length<=1000000:=by
   rw [jA];exact Qbg (Qf2 _ (by lia)) hbig
  refine ⟨Int × List Int,_,.key knQ,tn,f,nm,(0,List.replicate N 0),.ref tg,nxT nm cols g L,otT nm cols g Z S,uni N (L + 1),_,rfl,t8 hn,⟨tg,rfl,tb,o8 _ _ htg6,by rw [o8 _ _ htb6,List.map_replicate]⟩,Gg.mpr ⟨0,by lia,rfl,Xs.mpr ⟨Qbx,fun x hx=>.inl (Qc0 hx)⟩⟩,hU,hUl,hn3,hcall,fun s sv H9 Q' hs hat s9 hQ=>⟨rfl,?_⟩,fun p sts m l wsl H9 B9 hp hsts0 hsts hA M9 s9=>?_⟩
  ·obtain ⟨a,rfl,tk,ha,htk⟩:=hat
   have hk9:∀{b:Addr} {u:HO},H9 b=some u->(∀o,u≠XI o)->hide cs H9 b=some u:=fun e h=>Gy hcsF s9 e h;have t9:∀{b:Addr} {xs:List V},H9 b=some (.tup xs)->hide cs H9 b=some (.tup xs):=fun e=>hk9 e (fun _ z=>nomatch z);obtain ⟨pn,hp1,hp2,hp3⟩:=Gg.mp hs;obtain ⟨sp,ks⟩:=s;have hp2:sp=(pn:Int):=hp2;subst hp2;obtain ⟨hkl,hkb⟩:=Xs.mp hp3;have hkl:ks.length=N:=hkl;have ha':=t9 ha;have htk':=t9 htk;have hln:(Wb nm cols pn ks g).1.length=1:=by rw [j6 g hw,hst]
   have hrm:(Wb nm cols pn ks g).2.length=N:=by rw [jB g hw,hkc]
   obtain ⟨o,lt,hstp⟩:∃o lt,Wb nm cols pn ks g=([o],lt):=by
    generalize Wb nm cols pn ks g=q at hln;obtain ⟨q1,q2⟩:=q
    match q1,hln with
    | [o],_=>exact ⟨o,q2,rfl⟩
   have hltl:lt.length=N:=by rw [hstp] at hrm;exact hrm
   have hsS:Zio nm cols g ((pn:Int),ks)=([o],lt):=hstp;refine ⟨_,rfl,_,rfl,_,rfl,a,_,0,_,rfl,rfl,SqT.of ha',rfl,_,rfl,a,_,1,_,rfl,rfl,SqT.of ha',rfl,tw,dv,tk,nm,g,kvs,cols,pn,ks,o,lt,rfl,t9 (s9 _ _ (t8 ht)),hl,hk9 (s9 _ _ (o8 _ _ (s6 _ _ hdv5))) (fun _ z=>nomatch z),hcol,htk',hw,he,hstp,by rw [hltl];show N<=ks.length;lia,fun ta la H10 hta0 hta hla s10=>Zo ?_⟩;refine ⟨_,rfl,a,_,0,_,rfl,rfl,SqT.of (s10 _ _ ha'),rfl,_,_,rfl,rfl,_,rfl,_,_,rfl,Zo ?_⟩;have em:(if (L:Int) < (pn:Int) + 1 then (L:Int) else (pn:Int) + 1)=min ((pn:Int) + 1) (L:Int):=by split <;> lia
   try dsimp only
   rw [em];have J:H10 tl=some (.lst ((List.range (2 ^ nm.length)).map fun i:Nat=>V.int (i:Int))):=s10 _ _ (hk9 (s9 _ _ (o8 _ _ (s6 _ _ htl5))) (fun _ z=>nomatch z));have hxs:((List.range (2 ^ nm.length)).map fun i:Nat=>V.int (i:Int)).length=2 ^ nm.length:=by rw [Qad,Qbr]
   have hnx:nxT nm cols g L ((pn:Int),ks)=(List.range (2 ^ nm.length)).map fun l=>(min ((pn:Int) + 1) (L:Int),lt.map fun c=>bt c l):=by
    unfold nxT;rw [hsS]
   have hot:otT nm cols g Z S ((pn:Int),ks)=(List.range (2 ^ nm.length)).map fun l=>if bt o l=1 then S else Z:=by
    unfold otT;rw [hsS]
    rfl
   refine ⟨_,rfl,tl,rfl,⟨_,SqL.of J⟩,XG (K:=K) (a:=tl) (xs:=(List.range (2 ^ nm.length)).map fun i:Nat=>V.int (i:Int)) (fun i zs H'=>StA (.key knQ) H' ((nxT nm cols g L ((pn:Int),ks)).take i) zs/\i<=2 ^ nm.length/\Yb H10 H') ⟨⟨rfl,fun i k hk=>by cases hk⟩,Qbp _,Yb.refl _⟩ (fun i zs H' h=>?_) (fun i zs H' h=>SqL.of (h.2.2 _ _ J)) (fun i x zs H11 R hR hx h=>?_) (fun zs H11 h rl hrl=>Zo ?_)⟩
   ·rw [h.1.1,Qa1]
    exact Qa5 (Zs (by lia))
   ·obtain ⟨hA,hi,s11⟩:=h
    have hil:i < 2 ^ nm.length:=by rw [<-hxs];exact (Qac.mp hx).1
    rw [xf hil] at hx;cases hx;refine Zjz ⟨_,rfl,_,rfl,ta,_,1,_,rfl,rfl,SqT.of (s11 _ _ hta),rfl,_,rfl,la,lt,i,rfl,s11 _ _ hla,?_,by lia,fun t5 H12 ht50 ht5 s12=>⟨by show 2<=sizeLine;decide,fun q hq=>hR _ _ ⟨?_,hil,s11.trans (s12.trans (Zd hq))⟩⟩⟩
    ·have:YV g<=g.length:=Qek _ _
     lia
    ·have en:(nxT nm cols g L ((pn:Int),ks))[i]?=some (min ((pn:Int) + 1) (L:Int),lt.map fun c=>bt c i):=by rw [hnx,xf hil]
     rw [take_snoc en];refine (hA.keep (H':=upd H12 q (.tup [.int (min ((pn:Int) + 1) (L:Int)),.ref t5])) fun b xs e=>Zd hq _ _ (s12 _ _ e)).snoc ⟨q,rfl,t5,Zc,Zd hq _ _ ht5⟩
   obtain ⟨hA,_,s11⟩:=h;rw [hxs,Qbz (by rw [hnx,Qad,Qbr];exact Qai _)] at hA;have s12:=Zd (o:=.lst zs) hrl;have hrl12:=Zc (H:=H11) (a:=rl) (o:=.lst zs)
   try dsimp only
   generalize upd H11 rl (.lst zs)=H12 at *;have D:=s11.trans s12;have htt12:H12 tt=some (.tup [Z,S]):=D _ _ (s10 _ _ (t9 (s9 _ _ (t8 hto))));refine ⟨_,rfl,_,rfl,tl,rfl,⟨_,SqL.of (D _ _ J)⟩,comp_map (xs:=(List.range (2 ^ nm.length)).map fun i:Nat=>V.int (i:Int)) (fI fun c=>if bt o c.toNat=1 then S else Z) (SqL.of (D _ _ J)) (by rw [hxs];exact Qa5 (Zs (by lia))) (fun v hv R hR=>?_) (fun q hq=>?_)⟩
   ·obtain ⟨l,_,rfl⟩:=Qa2.mp hv
    refine ⟨_,rfl,_,rfl,ta,_,0,_,rfl,rfl,SqT.of (D _ _ hta),rfl,_,rfl,_,_,rfl,rfl,Qcr l,_,_,rfl,rfl,tt,_,_,fI (fun c=>if bt o c.toNat=1 then S else Z) (V.int (l:Int)),rfl,rfl,SqT.of htt12,?_,hR⟩;rw [and_1,Qa9];show atI [Z,S] (bt o l)=some (if bt o (l:Int).toNat=1 then S else Z);rw [Qa9];rcases Yp o l with e | e <;> rw [e] <;> rfl
   ·refine ⟨by show 2<=sizeLine;decide,fun t0 ht0 hcn=>?_⟩
    have ef:((List.range (2 ^ nm.length)).map fun i:Nat=>V.int (i:Int)).map (fI fun c=>if bt o c.toNat=1 then S else Z)=otT nm cols g Z S ((pn:Int),ks):=by
     rw [hot,Qbj];refine Qcn fun l _=>?_;show (if bt o (l:Int).toNat=1 then S else Z)=_;rw [Qa9]
    rw [ef] at ht0 hcn ⊢;have s13:=Zd (o:=.lst (otT nm cols g Z S ((pn:Int),ks))) hq;have s14:=s13.trans (Zd (o:=.tup [.ref rl,.ref q]) ht0);have hsame:=s10.trans (D.trans s14);obtain ⟨u1,u2,u3⟩:=gm hsame hcn;have hrl14:=s14 _ _ hrl12;have hq14:=Zd (o:=.tup [.ref rl,.ref q]) ht0 _ _ (Zc (H:=H12) (a:=q) (o:=.lst (otT nm cols g Z S ((pn:Int),ks))));exact hQ t0 rl q zs _ (u2 _ _ Zc) (.inr ⟨u2 _ _ hrl14,u3 _ _ hrl14 (s10.free (s11.free hrl))⟩) (hA.keep fun b xs e=>u2 _ _ ((s12.trans s14) _ _ e)) (.inr ⟨u2 _ _ hq14,u3 _ _ hq14 (s10.free (D.free hq))⟩) u1
  ·have keep9:Yb H7 (hide cs H9):=fun b o e=>by
    rw [ZP fun m=>by rw [hcs0 b m] at e;cases e];exact s9 _ _ (o8 _ _ e)
   have tk9:∀(b:Addr) (xs:List V),H9 b=some (.tup xs)->hide cs H9 b=some (.tup xs):=fun b xs e=>Gy hcsF s9 e (fun _ z=>nomatch z);refine ⟨p,_,1,_,rfl,rfl,SqT.of (tk9 _ _ hp),rfl,k m l (hide cs H9) B9 ?_ ((hT5.same s6).same keep9) fun b o e hb=>keep9 _ _ (s6 _ _ (o5 _ _ (s24 _ _ e) hb))⟩;refine ZT fun Gz hGz=>?_;obtain ⟨pn,ps,po,h1,h2,h3,h4⟩:=M9.ex;refine hGz ?_;clear hGz Gz;exact ⟨⟨pn,ps,po,tk9 _ _ h1,tk9 _ _ h2,zQ h3 tk9,zQ h4 tk9⟩⟩
inductive J1(w:World)(pw:Addr)(vs:List V)(H:Hp)(Q:VK):Prop
 | mk (tw tn:Addr) (ws:List V) (nm:List Str) (B kc:Nat):(vs=[.ref tw,.ref tn])->(H tw=some (.tup ws))->(ws.length<=100)->(H tn=some (.tup (nm.map V.str)))->(nm.Nodup)->(nm.length<=3)->((∀w∈ws,ze nm w))->(YS ws)->(GL ws=1)->((∀z:Int,V.int z∈ws->0<=z/\z < 2 ^ B))->(kc=YV ws)->((B + 1) * 2 ^ kc<=1000000)->(Xb H pw ZA Zw)->(∀m (l:List (Int × List Int)) H',BfE (nxT nm (Yv (2 ^ nm.length) nm) ws (lgB ws)) (0,List.replicate kc 0) l->M4 H' m nm 0 (rnG (nxT nm (Yv (2 ^ nm.length) nm) ws (lgB ws)) l) (l.map (otT nm (Yv (2 ^ nm.length) nm) ws (.int 0) (.int 1)))->Xb H' pw ZA Zw->Zcm pw H H'->Q (.ref m) H')->J1 w pw vs H Q
def GJ(P:Program)(w:World)(K:PySem.W.Frag)(mg:Str->Option Value)(base:Heap)(g:Addr):Sp:=fun vs H Q _=>J1 w g vs H Q
theorem jM (T:Txt K w mg t) (TB:Tbs mg base t):Ym P w K mg base CX0 15 t.iu t.iw ["words","names"] (GJ P w K mg base t.ae):=by
 have g:Ym P w K mg base CX0 14 t.bp t.au ["words","names","told"] (Xj P w K mg base t.ae):=Wl T TB;refine T.aj.F.ok jK (fun vs H Q E h=>?_) (fun cdv A outer s H vs Q E hr h=>?_)
 ·obtain ⟨tw,N,S,nm,B,M,rfl,O,hl,hn,C,G,hw,he,I,R,D,q,Y,k⟩:=h
  rfl
 ·obtain ⟨tw,N,S,nm,B,M,rfl,O,hl,hn,C,G,hw,he,I,R,D,q,Y,k⟩:=h
  have hu:=Y6 hr;refine ⟨_,@QSs.out _ _ _ (Zj (Zu (Zq g (hr.mono (by decide)) rfl T.ak.m T.ak.F.kp T.ak.b .nil ZY (Zg (qv 0) (Zg (qv 1) (Zg (Zl (Zg Ze (Zg Ze Za))) Za)))))),?_⟩;clear hu hr
  try dsimp only [L2.cxK,L2.cxK2]
  refine ⟨_,rfl,_,rfl,by show 2<=sizeLine;decide,fun tt L=>?_⟩;have J:=Zd (o:=.tup [.int 0,.int 1]) L;exact ⟨tw,N,tt,S,nm,.int 0,.int 1,B,M,rfl,J _ _ O,hl,J _ _ hn,C,G,Zc,hw,he,I,R,D,q,Y.same J,fun m l H' h1 h2 h3 Z=>k m l H' h1 h2 h3 fun b o e hb=>Z _ _ (J _ _ e) hb⟩
inductive Wm(w:World)(pw:Addr)(vs:List V)(H:Hp)(Q:VK):Prop
 | mk (tw tn:Addr) (ws:List V) (nm:List Str) (B kc:Nat):(vs=[.ref tw,.ref tn])->(H tw=some (.tup ws))->(ws.length<=100)->(H tn=some (.tup (nm.map V.str)))->(nm.Nodup)->(nm.length<=3)->((∀w∈ws,ze nm w))->(YS ws)->(GL ws=1)->((∀z:Int,V.int z∈ws->0<=z/\z < 2 ^ B))->(kc=YV ws)->((B + 1) * 2 ^ kc<=1000000)->(Xb H pw ZA Zw)->(∀m (l:List (Int × List Int)) H',BfE (nxT nm (Yv (2 ^ nm.length) nm) ws (lgB ws)) (0,List.replicate kc 0) l->M4 H' m nm 0 (rnG (nxT nm (Yv (2 ^ nm.length) nm) ws (lgB ws)) l) (l.map (otT nm (Yv (2 ^ nm.length) nm) ws (.bl false) (.bl true)))->Xb H' pw ZA Zw->Zcm pw H H'->Q (.ref m) H')->Wm w pw vs H Q
def Jg(P:Program)(w:World)(K:PySem.W.Frag)(mg:Str->Option Value)(base:Heap)(g:Addr):Sp:=fun vs H Q _=>Wm w g vs H Q
theorem qQ (T:Txt K w mg t) (TB:Tbs mg base t):Ym P w K mg base CX0 15 t.ea t.ee ["claim","names"] (Jg P w K mg base t.ae):=by
 have g:Ym P w K mg base CX0 14 t.bp t.au ["words","names","told"] (Xj P w K mg base t.ae):=Wl T TB;refine T.af.F.ok qN (fun vs H Q E h=>?_) (fun cdv A outer s H vs Q E hr h=>?_)
 ·obtain ⟨tw,N,S,nm,B,M,rfl,O,hl,hn,C,G,hw,he,I,R,D,q,Y,k⟩:=h
  rfl
 ·obtain ⟨tw,N,S,nm,B,M,rfl,O,hl,hn,C,G,hw,he,I,R,D,q,Y,k⟩:=h
  have hu:=Y6 hr;refine ⟨_,@QSs.out _ _ _ (Zj (Zu (Zq g (hr.mono (by decide)) rfl T.ak.m T.ak.F.kp T.ak.b .nil ZY (Zg (qv 0) (Zg (qv 1) (Zg (Zl (Zg ji (Zg ji Za))) Za)))))),?_⟩;clear hu hr
  try dsimp only [L2.cxK,L2.cxK2]
  refine ⟨_,rfl,_,rfl,by show 2<=sizeLine;decide,fun tt L=>?_⟩;have J:=Zd (o:=.tup [.bl false,.bl true]) L;exact ⟨tw,N,tt,S,nm,(.bl false),(.bl true),B,M,rfl,J _ _ O,hl,J _ _ hn,C,G,Zc,hw,he,I,R,D,q,Y.same J,fun m l H' h1 h2 h3 Z=>k m l H' h1 h2 h3 fun b o e hb=>Z _ _ (J _ _ e) hb⟩
inductive w9(K:PySem.W.Frag)(pl pw:Addr)(vs:List V)(H:Hp)(Q:VK):Prop
 | mk (a:Addr) (ns:List Int):(vs=[.ref a])->(SqL K H a (ns.map V.int))->(ns.length<=63)->(Xb H pl Wy Wz)->(Xb H pw ZA Zw)->(∀H',Q (.bl true) H')->w9 K pl pw vs H Q
def yK(K:PySem.W.Frag)(pl g:Addr):Sp:=fun vs H Q _=>w9 K pl g vs H Q
theorem ok_law (T:Txt K w mg t) (TB:Tbs mg base t):Ym P w K mg base CX0 16 t.ny t.nz ["script"] (yK K t.cg t.ae):=by
 have G:Ym P w K mg base CX0 14 t.nj t.mq ["machine"] (w6 K t.cg):=Zee T TB;have C:Ym P w K mg base CX0 15 t.ea t.ee ["claim","names"] (Jg P w K mg base t.ae):=qQ T TB;have Y:Ym P w K mg base CX0 1 t.lg t.lj ["one","other"] (qF K):=yH T TB;have O:Ym P w K mg base CX0 3 t.dn t.dt ["cell","names"] (WA K):=qt T TB;have g:Ym P w K mg base CX0 1 t.gj t.ia ["script","k"] (JK K):=zr T TB;have D:Ym P w K mg base CX0 15 t.iu t.iw ["words","names"] (GJ P w K mg base t.ae):=jM T TB;have I:Ym P w K mg base CX0 3 t.cx t.cy ["cell","names"] (XT K):=Gm T TB;have G_law_names:Ym P w K mg base CX0 2 t.ly t.lz ["cell","many"] (qH K):=yJ T TB;refine T.oq.F.ok Ju (fun vs H Q E h=>?_) (fun cdv A outer s H vs Q E hr h=>?_)
 ·obtain ⟨a,ns,rfl,hS,h63,hL,hT,k⟩:=h
  rfl
 ·obtain ⟨a,ns,rfl,hS,h63,hL,hT,k⟩:=h
  have hu:=Y6 hr;refine ⟨_,@QSs.out _ _ _ (Zb (Zr (i:=1) Ju.nd rfl (Or.inl rfl) (Zq G_law_names (hr.mono (by decide)) rfl T.et.m T.et.F.kp T.et.b .nil ZY (Zg (Zq g (hr.mono (by decide)) rfl T.aa.m T.aa.F.kp T.aa.b .nil ZY (Zg (qv 0) (Zg Ze Za))) (Zg (Zi Yg (Zq g (hr.mono (by decide)) rfl T.aa.m T.aa.F.kp T.aa.b .nil ZY (Zg (qv 0) (Zg Ze Za))) Ze) Za))))
    (Zb (vY (Zq I (hr.mono (by decide)) rfl T.bg.m T.bg.F.kp T.bg.b .nil ZY (Zg (Zq g (hr.mono (by decide)) rfl T.aa.m T.aa.F.kp T.aa.b .nil ZY (Zg (qv 0) (Zg Ze Za))) (Zg (qv 1) Za))) (GP rfl (Y3 (i:=2) Ju.nd rfl (Or.inl rfl)) (Y3 (i:=3) Ju.nd rfl (Or.inl rfl))))
    (Zb (Zr (i:=4) Ju.nd rfl (Or.inl rfl) (Zq D (hr.mono (by decide)) rfl T.aj.m T.aj.F.kp T.aj.b .nil ZY (Zg (qv 2) (Zg (qv 1) Za))))
    (Zb (Zr (i:=5) Ju.nd rfl (Or.inl rfl) (Zq G (hr.mono (by decide)) rfl T.ah.m T.ah.F.kp T.ah.b .nil ZY (Zg (qv 4) Za)))
    (Zb (Yo (wK (Zgk (Ze3 (z5 (Zq Y (hr.mono (by decide)) rfl T.bc.m T.bc.F.kp T.bc.b .nil ZY (Zg (qv 4) (Zg (qv 5) Za))))) (ux (Zv (Zam (G4 hr)) (Zq G (hr.mono (by decide)) rfl T.ah.m T.ah.F.kp T.ah.b .nil ZY (Zg (Zq D (hr.mono (by decide)) rfl T.aj.m T.aj.F.kp T.aj.b .nil ZY (Zg (qv 3) (Zg (qv 1) Za))) Za)) (qv 5) (ZZ _)))))
    (Zj (Zu ji)) ZR)
    (Zb (Zr (i:=6) Ju.nd rfl (Or.inl rfl) (Zi YY Ze (Zi Yg (Zi YZ (ZH vV (by rfl) T.og Ze6 (Zg (Zq g (hr.mono (by decide)) rfl T.aa.m T.aa.F.kp T.aa.b .nil ZY (Zg (qv 0) (Zg Ze Za))) Za)) Ze) Ze)))
    (Zb (Yo (Zv (op_eqB (G4 hr)) (Zq G (hr.mono (by decide)) rfl T.ah.m T.ah.F.kp T.ah.b .nil ZY (Zg (Zq D (hr.mono (by decide)) rfl T.aj.m T.aj.F.kp T.aj.b .nil ZY (Zg (Zi Zh (Zi Zh (Zl (Zg Zf Za)) (qv 2)) (Zl (Zg (qv 6) Za))) (Zg (qv 1) Za))) Za)) (qv 5) (ZZ _))
    (Zj (Zu ji)) ZR)
    (Zb (vY (Zq O (hr.mono (by decide)) rfl T.bx.m T.bx.F.kp T.bx.b .nil ZY (Zg (Zq g (hr.mono (by decide)) rfl T.aa.m T.aa.F.kp T.aa.b .nil ZY (Zg (qv 0) (Zg Ze Za))) (Zg (qv 1) Za))) (GP rfl (Y3 (i:=2) Ju.nd rfl (Or.inl rfl)) (Y3 (i:=3) Ju.nd rfl (Or.inl rfl))))
    (Zb (Zr (i:=4) Ju.nd rfl (Or.inl rfl) (Zq C (hr.mono (by decide)) rfl T.af.m T.af.F.kp T.af.b .nil ZY (Zg (qv 2) (Zg (qv 1) Za))))
    (Zb (Zr (i:=5) Ju.nd rfl (Or.inl rfl) (Zq G (hr.mono (by decide)) rfl T.ah.m T.ah.F.kp T.ah.b .nil ZY (Zg (qv 4) Za)))
    (Zb (Yo (wK (Zgk (Ze3 (z5 (Zq Y (hr.mono (by decide)) rfl T.bc.m T.bc.F.kp T.bc.b .nil ZY (Zg (qv 4) (Zg (qv 5) Za))))) (ux (Zv (Zam (G4 hr)) (Zq G (hr.mono (by decide)) rfl T.ah.m T.ah.F.kp T.ah.b .nil ZY (Zg (Zq C (hr.mono (by decide)) rfl T.af.m T.af.F.kp T.af.b .nil ZY (Zg (qv 3) (Zg (qv 1) Za))) Za)) (qv 5) (ZZ _)))))
    (Zj (Zu ji)) ZR)
    (Zj (Zu (uw (Zam (G4 hr)) (Zq G (hr.mono (by decide)) rfl T.ah.m T.ah.F.kp T.ah.b .nil ZY (Zg (Zq C (hr.mono (by decide)) rfl T.af.m T.af.F.kp T.af.b .nil ZY (Zg (Zi Zh (Zl (Zg Zf Za)) (qv 2)) (Zg (qv 1) Za))) Za)) (qv 5) (ZZ _))))))))))))))),?_⟩
  try dsimp only [L2.cxK,L2.cxK2]
  refine L2.let12 ?_;intro U11 U10 U9 U8 U7 U6 U5 U4 U3 U2 U1;have hne:=T.ng;refine ⟨_,rfl,a,ns,1,rfl,hS,fun c1=>⟨_,rfl,a,ns,0,rfl,hS,fun c0=>?_⟩⟩;have m4:0<=c0 % 4/\c0 % 4 < 4:=⟨Qbi _ (by decide),Qbb _ (by decide)⟩;refine ⟨_,_,rfl,rfl,(by show (0:Int) < 4;decide),c1,(c0 % 4).toNat,by rw [Int.toNat_of_nonneg m4.1];rfl,by lia,fun tn nm H1 htn0 htn J Z N s1=>Zo ?_⟩;have Z1:S20 K t.cg t.ae H1 a ns tn nm:=⟨kZ hS s1,htn,hL.same s1,hT.same s1⟩;refine ⟨_,rfl,a,ns,2,rfl,Z1.S,fun c2=>⟨_,rfl,c2,tn,nm,rfl,Z1.n,J,N,fun tp u v P X R t1 t2 H2 PP PX PR o1 o2 z1 z2 r1 r2 e12 htp hu hv s2=>⟨tp,_,rfl,SqT.of htp,rfl,_,_,rfl,Zo ⟨_,_,rfl,Zo ⟨rfl,?_⟩⟩⟩⟩⟩;have Z2:=Z1.same s2;have PK1:=Zcf J Z N PP PX PR o1 (by lia) (by lia);have PK2:=Zcf J Z N PP PX PR o2 (by lia) (by lia);have f1:=PK1.sg.ty.facts;have f2:=PK2.sg.ty.facts;have sm12:=SmB.tr N PP PX PR o1 o2 e12;have sgs:=Tr.seg N PP PX PR o1;have okN:∀z:Int,1<=z->z < 1000->(Tr.two "odd" t1 (.num z)).ok=true:=fun z h0 h1=>Qat.mpr ⟨Qaj (by decide +kernel),Qat.mpr ⟨o1,Qaj ⟨by lia,h1⟩⟩⟩;have PKn:∀z:Int,1<=z->z < 1000->POk nm false ((Tr.two "odd" t1 (.num z)).flat P X R):=fun z h0 h1=>Zcf J Z N PP PX PR (okN z h0 h1) (by show t1.sz + 1 + 1<=100;lia) (by show t1.rs + 0 + 1<=15;lia);refine ⟨_,rfl,_,rfl,u,tn,_,nm,10,_,rfl,hu,PK1.ln,Z2.n,Z,J,PK1.wc,f1.2.1,f1.2.2,PK1.iz,rfl,PK1.big,Z2.M,fun m l H3 B1 M1 T3 o3=>Zo ?_⟩;obtain ⟨Z3,k3⟩:=Z2.mach hne o3 T3;have W1:=PK1.wf B1 (.inl ⟨rfl,rfl,rfl⟩);refine ⟨_,rfl,m,nm,0,_,_,false,rfl,M1,W1,Z3.L,fun f lf cs H4 hB hcs St hcl Mf T4 o4=>Zo ?_⟩;have Lf:Lst nm 0 _ _ false lf cs:=⟨W1,hB,hcs,St,hcl⟩;obtain ⟨Z4,k4⟩:=Z3.lea hne o4 T4;refine ⟨_,rfl,_,rfl,m,f,nm,nm,0,0,_,_,_,_,false,_,rfl,M1.tups k4,Mf,W1,Lf.W2,rfl,Lf.al,fun H5 s5=>⟨_,rfl,X9 ?_⟩⟩;have Z5:=Z4.same s5;have u5:=s5 _ _ (k4 _ _ (k3 _ _ hu));have v5:=s5 _ _ (k4 _ _ (k3 _ _ hv));have Mf5:=Mf.same s5;refine ⟨_,rfl,_,rfl,v,tn,_,nm,10,_,rfl,v5,PK2.ln,Z5.n,Z,J,PK2.wc,f2.2.1,f2.2.2,PK2.iz,rfl,PK2.big,Z5.M,fun m2 l2 H6 B2 M2 T6 o6=>?_⟩;obtain ⟨Z6,k6⟩:=Z5.mach hne o6 T6;have W2:=PK2.wf B2 (.inl ⟨rfl,rfl,rfl⟩);refine ⟨m2,nm,0,_,_,false,rfl,M2,W2,Z6.L,fun g2 lg2 cs2 H7 hB2 hcs2 St2 hcl2 Mg2 T7 o7=>?_⟩;have Lg2:Lst nm 0 _ _ false lg2 cs2:=⟨W2,hB2,hcs2,St2,hcl2⟩;obtain ⟨Z7,k7⟩:=Z6.lea hne o7 T7;have Mf7:=(Mf5.tups k6).tups k7;have u7:=k7 _ _ (k6 _ _ u5);refine ZT fun Gz hGz=>?_;obtain ⟨xs1,ys1,e1,g11,g12,g13,g14⟩:=wz Mg2 Mf7 Lg2.W2.ok Lf.W2.ok;refine hGz ?_;clear hGz Gz;refine ⟨_,rfl,g2,f,xs1,ys1,e1,rfl,rfl,g11,g12,g13,_,rfl,?_⟩;rw [g14.mpr (wu Lg2 Lf (Zfw PK2 PK1 B2 B1 _ _ sm12.symm))];refine X9 ?_;refine ⟨_,rfl,a,ns,0,rfl,Z7.S,fun d0=>?_⟩;have key:∀z:Int,1<=z->z < 1000->U6 { nx:=fun _ H'=>Q .non H',rt:=Q } [some (.ref a),some (.ref tn),some (.ref u),some (.ref v),some (.ref m),some (.ref f),some (.int z)] H7:=by
   intro z z0 z1';have PK3:=PKn z z0 z1';have f3:=PK3.sg.ty.facts;refine ⟨by show 1<=sizeLine;decide,fun q1 hq1=>?_⟩;have c1:=Zd (o:=.tup [V.str "odd"]) hq1;refine ⟨_,rfl,q1,u,_,_,rfl,rfl,Zc,c1 _ _ u7,Qa5 (Zs (by show 1 + (t1.flat P X R).length<=1000;have:=sgs.2.1;lia)),fun q2 HA hA sA=>?_⟩;refine ⟨_,rfl,by show 1<=sizeLine;decide,fun q3 hq3=>?_⟩;have c2:=Zd (o:=.tup [V.int z]) hq3;refine ⟨q2,q3,_,_,rfl,rfl,c2 _ _ hA,Zc,Qa5 (Zs (by rw [Qaf];show 1 + (t1.flat P X R).length + 1<=1000;have:=sgs.2.1;lia)),fun q4 HB hB sB=>?_⟩;have cB:=(c1.trans sA).trans (c2.trans sB);have Z8:=Z7.same cB;have hB:HB q4=some (.tup ((Tr.two "odd" t1 (.num z)).flat P X R)):=hB;refine ⟨_,rfl,q4,tn,_,nm,10,_,rfl,hB,PK3.ln,Z8.n,Z,J,PK3.wc,f3.2.1,f3.2.2,PK3.iz,rfl,PK3.big,Z8.M,fun m3 l3 H9 B3 M3 T9 o9=>?_⟩;obtain ⟨Z9,k9⟩:=Z8.mach hne o9 T9;have W3:=PK3.wf B3 (.inl ⟨rfl,rfl,rfl⟩);refine ⟨m3,nm,0,_,_,false,rfl,M3,W3,Z9.L,fun g3 lg3 cs3 HC hB3 hcs3 St3 hcl3 Mg3 TC oC=>?_⟩;have Lg3:Lst nm 0 _ _ false lg3 cs3:=⟨W3,hB3,hcs3,St3,hcl3⟩;obtain ⟨ZC,kC⟩:=Z9.lea hne oC TC;have MfC:=((Mf7.same cB).tups k9).tups kC;refine ZT fun Gz hGz=>?_;obtain ⟨xs2,ys2,e2,g21,g22,g23,g24⟩:=wz Mg3 MfC Lg3.W2.ok Lf.W2.ok;refine hGz ?_;clear hGz Gz;refine ⟨_,rfl,g3,f,xs2,ys2,e2,rfl,rfl,g21,g22,g23,_,rfl,?_⟩;obtain ⟨kk,hkk⟩:=Zii N PP PX PR o1 z0 z1';have hls:∀x∈List.replicate (kk + 1) 0,x < 2 ^ nm.length:=fun x hx=>by
    rw [Qc0 hx];exact Qgf _
   have ne1:=yD Lf Lg3 hls (Zca PK1 PK3 B1 B3 (by intro q;injection q with q;cases q) (hkk _).symm);rw [Qgu.mpr fun q=>ne1 (g24.mp q)];refine X9 ?_;clear g24 g23 g22 g21 ne1 hkk MfC Mg3 hls;refine ⟨_,rfl,a,ns,3,rfl,ZC.S,fun c3=>⟨_,rfl,c3,tn,nm,rfl,ZC.n,J,N,fun tp2 u' v' P' X' d1 d2 HD PP' PX' p1 p2 y1 y2 q1' q2' e12' htp2 hu' hv' sD=>⟨tp2,_,rfl,SqT.of htp2,rfl,_,_,rfl,Zo ⟨_,_,rfl,Zo ⟨rfl,?_⟩⟩⟩⟩⟩;have ZD:=ZC.same sD;have CK1:=Zcg J Z N PP' PX' PP' p1 (by lia) (by lia);have CK2:=Zcg J Z N PP' PX' PP' p2 (by lia) (by lia);have CK3:POk nm true ((CT.nev d1).flat P' X' P'):=Zcg J Z N PP' PX' PP' p1 (by show d1.sz + 1<=100;lia) (by show d1.rs + 1<=15;lia);have j1:=CK1.sg.ty.facts;have j2:=CK2.sg.ty.facts;have j3:=CK3.sg.ty.facts;have cs12:=SmB.ct N PP' PX' PP' p1 p2 e12';have wN:=(CT.seg N PP' PX' PP' p1).2.1;refine ⟨_,rfl,_,rfl,u',tn,_,nm,10,_,rfl,hu',CK1.ln,ZD.n,Z,J,CK1.wc,j1.2.1,j1.2.2,CK1.iz,rfl,CK1.big,ZD.M,fun n1 w1 HE D1 N1 TE oE=>Zo ?_⟩;obtain ⟨ZE,kE⟩:=ZD.mach hne oE TE;have V1:=CK1.wf D1 (.inr ⟨rfl,rfl,rfl⟩);refine ⟨_,rfl,n1,nm,0,_,_,true,rfl,N1,V1,ZE.L,fun h lh ch HF hBh hch Sth hclh Mh TF oF=>Zo ?_⟩;have Lh:Lst nm 0 _ _ true lh ch:=⟨V1,hBh,hch,Sth,hclh⟩;obtain ⟨ZF,kF⟩:=ZE.lea hne oF TF;refine ⟨_,rfl,_,rfl,n1,h,nm,nm,0,0,_,_,_,_,true,_,rfl,N1.tups kF,Mh,V1,Lh.W2,rfl,Lh.al,fun HG sG=>⟨_,rfl,X9 ?_⟩⟩;have ZG:=ZF.same sG;have uG:=sG _ _ (kF _ _ (kE _ _ hu'));have vG:=sG _ _ (kF _ _ (kE _ _ hv'));have MhG:=Mh.same sG;refine ⟨_,rfl,_,rfl,v',tn,_,nm,10,_,rfl,vG,CK2.ln,ZG.n,Z,J,CK2.wc,j2.2.1,j2.2.2,CK2.iz,rfl,CK2.big,ZG.M,fun n2 w2 HI D2 N2 TI' oI=>?_⟩;obtain ⟨ZI,kI⟩:=ZG.mach hne oI TI';have V2:=CK2.wf D2 (.inr ⟨rfl,rfl,rfl⟩);refine ⟨n2,nm,0,_,_,true,rfl,N2,V2,ZI.L,fun i2 li2 ci2 HJ hBi hci Sti hcli Mi TJ oJ=>?_⟩;have Li:Lst nm 0 _ _ true li2 ci2:=⟨V2,hBi,hci,Sti,hcli⟩;obtain ⟨ZJ,kJ⟩:=ZI.lea hne oJ TJ;have MhJ:=(MhG.tups kI).tups kJ;have uJ:=kJ _ _ (kI _ _ uG);refine ZT fun Gz hGz=>?_;obtain ⟨xs3,ys3,e3,g31,g32,g33,g34⟩:=wz Mi MhJ Li.W2.ok Lh.W2.ok;refine hGz ?_;clear hGz Gz;refine ⟨_,rfl,i2,h,xs3,ys3,e3,rfl,rfl,g31,g32,g33,_,rfl,?_⟩;rw [g34.mpr (wu Li Lh (Zfw CK2 CK1 D2 D1 _ _ cs12.symm))];refine X9 ⟨by show 1<=sizeLine;decide,fun b1 hb1=>?_⟩;have c3':=Zd (o:=.tup [V.str "never"]) hb1;refine ⟨_,rfl,b1,u',_,_,rfl,rfl,Zc,c3' _ _ uJ,Qa5 (Zs (by show 1 + (d1.flat P' X' P').length<=1000;lia)),fun b2 HK hK sK=>?_⟩;have cK:=c3'.trans sK;have ZK:=ZJ.same cK;have hK:HK b2=some (.tup ((CT.nev d1).flat P' X' P')):=hK;refine ⟨_,rfl,b2,tn,_,nm,10,_,rfl,hK,CK3.ln,ZK.n,Z,J,CK3.wc,j3.2.1,j3.2.2,CK3.iz,rfl,CK3.big,ZK.M,fun n3 w3 HL D3 N3 TL oL=>?_⟩;obtain ⟨ZL,kL⟩:=ZK.mach hne oL TL;have V3:=CK3.wf D3 (.inr ⟨rfl,rfl,rfl⟩);refine ⟨n3,nm,0,_,_,true,rfl,N3,V3,ZL.L,fun i3 li3 ci3 HM hBk hck Stk hclk Mk TM oM=>?_⟩;have Lk:Lst nm 0 _ _ true li3 ci3:=⟨V3,hBk,hck,Stk,hclk⟩;obtain ⟨ZM,kM⟩:=ZL.lea hne oM TM;have MhM:=((MhJ.same cK).tups kL).tups kM;refine ZT fun Gz hGz=>?_;obtain ⟨xs4,ys4,e4,g41,g42,g43,g44⟩:=wz Mk MhM Lk.W2.ok Lh.W2.ok;refine hGz ?_;clear hGz Gz;refine ⟨_,rfl,i3,h,xs4,ys4,e4,rfl,rfl,g41,g42,g43,?_⟩
   have hl1:∀x∈List.replicate (0 + 1) 0,x < 2 ^ nm.length:=fun x hx=>by
    rw [Qc0 hx];exact Qgf _
   have ne2:=yD Lh Lk hl1 (Zca CK1 CK3 D1 D3 (by intro q;injection q with q;cases q) (Zch N PP' PX' PP' p1 _).symm);rw [Qgu.mpr fun q=>ne2 (g44.mp q)];exact k HM
  refine ⟨_,rfl,_,_,rfl,rfl,.of (by decide) (by decide),_,_,rfl,rfl,(by show (0:Int) < 999;decide),_,_,rfl,rfl,Zo ?_⟩;exact key _ (by have:=Qbi (d0.natAbs / 4:Int) (show (999:Int)≠0 by decide);lia) (by have:=Qbb (d0.natAbs / 4:Int) (show (0:Int) < 999 by decide);lia)
end
def Zj1(K:PySem.W.Frag)(x q:Str)(st:Stmt)(f:Addr)(D:Value->Prop):Prop:=∃oc od C kV E I G g ct,PySem.W.nsIn K mainGlobals x=some (some (.ref f))/\K.lookup f=some ⟨oc,od,.func (PySem.W.fnOf x q (WE st) (Xu st) (Zk st) .none kV E I G g ct),C⟩/\PySem.W.codeIn K g q=true/\PySem.W.keepIn K (.ref f)=true/\D g
abbrev Fi(K:PySem.W.Frag)(x:Str)(st:Stmt)(f:Addr):Prop:=Zj1 K x x st f fun _=>True
theorem YE{hp:Heap}{mg:Str->Option Value}{st:Stmt}{E:Value->Prop}(X:K.In hp)(G:hp.Ns mainGlobals mg)(d:Zj1 K x x st f E)(ps:List Str)(h:∀(kV C J:Value) (I:Option Addr) (g ct:Value) (D:List Value),D.length=ps.length->bindArgs (PySem.W.fnOf x x (WE st) (Xu st) (Zk st) .none kV C J I g ct) ⟨D,[]⟩=pure (ps.zip D)):∃fd,Df K mg x st ps f fd/\E fd.code:=by
 obtain ⟨_,_,_,_,_,_,_,_,_,a,l,c,k,q⟩:=d;have F:=Ze0 (st:=st) l c k;exact ⟨_,⟨F,PySem.W.mg_of X G a,F.binds h⟩,q⟩
theorem all_mk {l:W.OpenLaw} {w:World} {K:W.Frag} {h:Heap} {mg:Str->Option Value} {fa:Addr} {f0 f1 f2 f3 f4 f5 f6 f7 f8 f9 f10 f11 f12 f13 f14 f15 f16 f17 f18 f19 f20 f21 f22 f23 f24 f25 f26 f27 f28 f29 f30 f31 f32 f33 f34 f35 f36 f37:Addr} (X:K.In h) (G:h.Ns mainGlobals mg) (hfa:mg "law" = some (.ref fa))
  (d0:Fi K "state_number" Wn f0)
  (d1:Fi K "numbered" J6 f1)
  (d2:Fi K "classes_of" XZ f2)
  (d3:Fi K "firsts_of" JW f3)
  (d4:Fi K "words_at" qa f4)
  (d5:Fi K "number_of" JX f5)
  (d6:Fi K "sums_behind" WH f6)
  (d7:Fi K "claims_behind" XN f7)
  (d8:Fi K "remembers" JY f8)
  (d9:Fi K "borrowed" qb f9)
  (d10:Fi K "out_at_once" WI f10)
  (d11:Fi K "longest_number" YU f11)
  (d12:Fi K "bits_at" G6 f12)
  (d13:Fi K "_law_cell_at" WJ f13)
  (d14:Fi K "_law_numbers" WK f14)
  (d15:Fi K "_law_atom" qc f15)
  (d16:Fi K "_law_word" qd f16)
  (d17:Fi K "_law_carries" X5 f17)
  (d18:Fi K "_law_writings" Wo f18)
  (d19:Fi K "_law_within" Jp f19)
  (d20:Fi K "_law_alike" JZ f20)
  (d21:Fi K "alike_classes" Xc f21)
  (d22:Fi K "parts_of" qe f22)
  (d23:Fi K "name_columns" Xn f23)
  (d24:Fi K "kept_then" Ga f24)
  (d25:Fi K "out_by_kept" WL f25)
  (d26:Fi K "_law_names" XO f26)
  (d27:Fi K "_law_sum" xx f27)
  (d28:Fi K "parts_taken" X6 f28)
  (d29:Fi K "_law_two_writings" Xd f29)
  (d30:Fi K "_law_two_claims" Xv f30)
  (d31:Fi K "stepped" xy f31)
  (d32:Fi K "machine_found" Xe f32)
  (d33:Zj1 K "least" "least" qf f33 (·=.ref 30))
  (d34:Zj1 K "machine_telling" "machine_telling" Yd f34 (·=.ref 162))
  (d35:Fi K "machine_of" Jq f35)
  (d36:Fi K "claim_machine" XQ f36)
  (d37:Fi K "law" vj f37)
  {GSUM_PARTS:Addr} {ESUM_PARTS:Array DictEntry} {PSUM_PARTS:Nat} (ga_SUM_PARTS:W.nsIn K mainGlobals "SUM_PARTS" = some (some (.ref GSUM_PARTS))) (gl_SUM_PARTS:K.lookup GSUM_PARTS=some { cls:=.type "dict",dict:=none,data:=.dict ESUM_PARTS PSUM_PARTS,slots:=#[] }) (ge_SUM_PARTS:KTab w.params ESUM_PARTS.toList [("not",1),("neg",1),("twice",1),("low",1),("and",2),("or",2),("odd",2),("add",2),("sub",2),("pick",3)]) (gn_SUM_PARTS:(GSUM_PARTS == sysModules)=false)
  {GSUMS_IN_CLAIM:Addr} {ESUMS_IN_CLAIM:Array DictEntry} {PSUMS_IN_CLAIM:Nat} (ga_SUMS_IN_CLAIM:W.nsIn K mainGlobals "SUMS_IN_CLAIM" = some (some (.ref GSUMS_IN_CLAIM))) (gl_SUMS_IN_CLAIM:K.lookup GSUMS_IN_CLAIM=some { cls:=.type "dict",dict:=none,data:=.dict ESUMS_IN_CLAIM PSUMS_IN_CLAIM,slots:=#[] }) (ge_SUMS_IN_CLAIM:KTab w.params ESUMS_IN_CLAIM.toList [("same",2),("under",2),("beneath",2),("sign",1),("nought",1)]) (gn_SUMS_IN_CLAIM:(GSUMS_IN_CLAIM == sysModules)=false)
  {GCLAIMS_IN_CLAIM:Addr} {ECLAIMS_IN_CLAIM:Array DictEntry} {PCLAIMS_IN_CLAIM:Nat} (ga_CLAIMS_IN_CLAIM:W.nsIn K mainGlobals "CLAIMS_IN_CLAIM" = some (some (.ref GCLAIMS_IN_CLAIM))) (gl_CLAIMS_IN_CLAIM:K.lookup GCLAIMS_IN_CLAIM=some { cls:=.type "dict",dict:=none,data:=.dict ECLAIMS_IN_CLAIM PCLAIMS_IN_CLAIM,slots:=#[] }) (ge_CLAIMS_IN_CLAIM:KTab w.params ECLAIMS_IN_CLAIM.toList [("both",2),("either",2),("so",2),("never",1),("yes",0)]) (gn_CLAIMS_IN_CLAIM:(GCLAIMS_IN_CLAIM == sysModules)=false)
  {GREMEMBERING:Addr} {IREMEMBERING:Array Value} {PREMEMBERING:Nat} (ga_REMEMBERING:W.nsIn K mainGlobals "REMEMBERING" = some (some (.ref GREMEMBERING))) (gl_REMEMBERING:K.lookup GREMEMBERING=some { cls:=.type "tuple",dict:=none,data:=.seq IREMEMBERING PREMEMBERING,slots:=#[] }) (gv_REMEMBERING:Vals ((["neg","twice","low","add","sub","same","under","beneath","nought"]:List Str).map V.str) IREMEMBERING.toList) (gs_REMEMBERING:IREMEMBERING.size<=sizeLine)
  (z_abs:W.nsIn K mainGlobals "abs" = some none)
  (z_enumerate:W.nsIn K mainGlobals "enumerate" = some none)
  (z_int:W.nsIn K mainGlobals "int" = some none)
  (z_isinstance:W.nsIn K mainGlobals "isinstance" = some none)
  (z_len:W.nsIn K mainGlobals "len" = some none)
  (z_list:W.nsIn K mainGlobals "list" = some none)
  (z_max:W.nsIn K mainGlobals "max" = some none)
  (z_min:W.nsIn K mainGlobals "min" = some none)
  (z_range:W.nsIn K mainGlobals "range" = some none)
  (z_reversed:W.nsIn K mainGlobals "reversed" = some none)
  (z_sorted:W.nsIn K mainGlobals "sorted" = some none)
  (z_tuple:W.nsIn K mainGlobals "tuple" = some none)
  (z_zip:W.nsIn K mainGlobals "zip" = some none)
  : ∃fd:FuncData,(∀(s:Shared) (v:Value),BindsTo s fd ⟨[v],[]⟩ [("script",v)])/\∀base:Heap,K.In base->base.Ns mainGlobals mg->(∀q∈([(30,28),(162,160)]:List (Addr × Addr)),W.CodeHd base q.1 q.2)->xu mg base->Ym l.prog w K mg base CX0 16 fa fd ["script"] (yK K 28 160):=by
 obtain ⟨_,_,_,kV37,dc37,pm37,an37,cd37,ct37,a37,l37,c37,k37,_⟩:=d37;have e:=hfa.symm.trans (W.mg_of X G a37);cases e;obtain ⟨_,D0,q0⟩:=YE X G d0 ["state","states","numbers"] fun _ _ _ _ _ _=>Zfc fun _ _ _=>rfl;obtain ⟨_,D1,q1⟩:=YE X G d1 ["marks"] fun _ _ _ _ _ _=>wN fun _=>rfl;obtain ⟨_,D2,q2⟩:=YE X G d2 ["states","classes"] fun _ _ _ _ _ _=>vc fun _ _=>rfl;obtain ⟨_,D3,q3⟩:=YE X G d3 ["classes"] fun _ _ _ _ _ _=>wN fun _=>rfl;obtain ⟨_,D4,q4⟩:=YE X G d4 ["width"] fun _ _ _ _ _ _=>wN fun _=>rfl;obtain ⟨_,D5,q5⟩:=YE X G d5 ["bits"] fun _ _ _ _ _ _=>wN fun _=>rfl;obtain ⟨_,D6,q6⟩:=YE X G d6 ["word"] fun _ _ _ _ _ _=>wN fun _=>rfl;obtain ⟨_,D7,q7⟩:=YE X G d7 ["word"] fun _ _ _ _ _ _=>wN fun _=>rfl;obtain ⟨_,D8,q8⟩:=YE X G d8 ["word"] fun _ _ _ _ _ _=>wN fun _=>rfl;obtain ⟨_,D9,q9⟩:=YE X G d9 ["one","other","held"] fun _ _ _ _ _ _=>Zfc fun _ _ _=>rfl;obtain ⟨_,D10,q10⟩:=YE X G d10 ["word","parts"] fun _ _ _ _ _ _=>vc fun _ _=>rfl;obtain ⟨_,D11,q11⟩:=YE X G d11 ["words"] fun _ _ _ _ _ _=>wN fun _=>rfl;obtain ⟨_,D12,q12⟩:=YE X G d12 ["columns","letter"] fun _ _ _ _ _ _=>vc fun _ _=>rfl;obtain ⟨_,D13,q13⟩:=YE X G d13 ["script","k"] fun _ _ _ _ _ _=>vc fun _ _=>rfl;obtain ⟨_,D14,q14⟩:=YE X G d14 ["cell","many","most"] fun _ _ _ _ _ _=>Zfc fun _ _ _=>rfl;obtain ⟨_,D15,q15⟩:=YE X G d15 ["number","names"] fun _ _ _ _ _ _=>vc fun _ _=>rfl;obtain ⟨_,D16,q16⟩:=YE X G d16 ["number","left"] fun _ _ _ _ _ _=>vc fun _ _=>rfl;obtain ⟨_,D17,q17⟩:=YE X G d17 ["words"] fun _ _ _ _ _ _=>wN fun _=>rfl;obtain ⟨_,D18,q18⟩:=YE X G d18 ["pick","p","q","r"] fun _ _ _ _ _ _=>len4 fun _ _ _ _=>rfl;obtain ⟨_,D19,q19⟩:=YE X G d19 ["number","words","r"] fun _ _ _ _ _ _=>Zfc fun _ _ _=>rfl;obtain ⟨_,D20,q20⟩:=YE X G d20 ["one","other"] fun _ _ _ _ _ _=>vc fun _ _=>rfl;obtain ⟨_,D21,q21⟩:=YE X G d21 ["steps","out"] fun _ _ _ _ _ _=>vc fun _ _=>rfl;obtain ⟨_,D22,q22⟩:=YE X G d22 ["word"] fun _ _ _ _ _ _=>wN fun _=>rfl;obtain ⟨_,D23,q23⟩:=YE X G d23 ["names","letters"] fun _ _ _ _ _ _=>vc fun _ _=>rfl;obtain ⟨_,D24,q24⟩:=YE X G d24 ["word","parts","held"] fun _ _ _ _ _ _=>Zfc fun _ _ _=>rfl;obtain ⟨_,D25,q25⟩:=YE X G d25 ["word","parts","held","then"] fun _ _ _ _ _ _=>len4 fun _ _ _ _=>rfl;obtain ⟨_,D26,q26⟩:=YE X G d26 ["cell","many"] fun _ _ _ _ _ _=>vc fun _ _=>rfl;obtain ⟨_,D27,q27⟩:=YE X G d27 ["numbers","names","most"] fun _ _ _ _ _ _=>Zfc fun _ _ _=>rfl;obtain ⟨_,D28,q28⟩:=YE X G d28 ["stack","word"] fun _ _ _ _ _ _=>vc fun _ _=>rfl;obtain ⟨_,D29,q29⟩:=YE X G d29 ["cell","names"] fun _ _ _ _ _ _=>vc fun _ _=>rfl;obtain ⟨_,D30,q30⟩:=YE X G d30 ["cell","names"] fun _ _ _ _ _ _=>vc fun _ _=>rfl;obtain ⟨_,D31,q31⟩:=YE X G d31 ["words","columns","place","kept"] fun _ _ _ _ _ _=>len4 fun _ _ _ _=>rfl;obtain ⟨_,D32,q32⟩:=YE X G d32 ["names","begin","step_of"] fun _ _ _ _ _ _=>Zfc fun _ _ _=>rfl;obtain ⟨_,D33,q33⟩:=YE X G d33 ["machine"] fun _ _ _ _ _ _=>wN fun _=>rfl;obtain ⟨_,D34,q34⟩:=YE X G d34 ["words","names","told"] fun _ _ _ _ _ _=>Zfc fun _ _ _=>rfl;obtain ⟨_,D35,q35⟩:=YE X G d35 ["words","names"] fun _ _ _ _ _ _=>vc fun _ _=>rfl
 obtain ⟨_,D36,q36⟩:=YE X G d36 ["claim","names"] fun _ _ _ _ _ _=>vc fun _ _=>rfl;have F37:=Ze0 (st:=vj) l37 c37 k37;have b37:=F37.binds (ps:=["script"]) fun _ _ _ _ _ _=>wN fun _=>rfl;have T:Txt K w mg ⟨f0,_,f1,_,f2,_,f3,_,f4,_,f5,_,f6,_,f7,_,f8,_,f9,_,f10,_,f11,_,f12,_,f13,_,f14,_,f15,_,f16,_,f17,_,f18,_,f19,_,f20,_,f21,_,f22,_,f23,_,f24,_,f25,_,f26,_,f27,_,f28,_,f29,_,f30,_,f31,_,f32,_,f33,_,f34,_,f35,_,f36,_,fa,_,30,28,162,160,GSUM_PARTS,GSUMS_IN_CLAIM,GCLAIMS_IN_CLAIM,GREMEMBERING⟩:=⟨⟨W.mg_of X G ga_SUM_PARTS,⟨⟨_,_,gl_SUM_PARTS,ge_SUM_PARTS⟩,by decide +kernel,gn_SUM_PARTS⟩⟩,⟨W.mg_of X G ga_SUMS_IN_CLAIM,⟨⟨_,_,gl_SUMS_IN_CLAIM,ge_SUMS_IN_CLAIM⟩,by decide +kernel,gn_SUMS_IN_CLAIM⟩⟩,⟨W.mg_of X G ga_CLAIMS_IN_CLAIM,⟨⟨_,_,gl_CLAIMS_IN_CLAIM,ge_CLAIMS_IN_CLAIM⟩,by decide +kernel,gn_CLAIMS_IN_CLAIM⟩⟩,⟨W.mg_of X G ga_REMEMBERING,fun _=>.inr ⟨_,_,_,gl_REMEMBERING,rfl,rfl,gs_REMEMBERING,gv_REMEMBERING⟩⟩,D0,D1,D2,D3,D4,D5,D6,D7,D8,D9,D10,D11,D12,D13,D14,D15,D16,D17,D18,D19,D20,D21,D22,D23,D24,D25,D26,D27,D28,D29,D30,D31,D32,D33,D34,D35,D36,⟨F37,W.mg_of X G a37,b37⟩,q33,q34,(show (28:Nat)≠160 by decide),Qc8 X G z_abs,Qc8 X G z_enumerate,Qc8 X G z_int,Qc8 X G z_isinstance,Qc8 X G z_len,Qc8 X G z_list,Qc8 X G z_max,Qc8 X G z_min,Qc8 X G z_range,Qc8 X G z_reversed,Qc8 X G z_sorted,Qc8 X G z_tuple,Qc8 X G z_zip⟩;exact ⟨_,fun s v=>(show BindsTo s (W.fnOf "law" "law" (WE vj) (Xu vj) (Zk vj) .none kV37 dc37 pm37 an37 cd37 ct37) ⟨[v],[]⟩ [("script",v)] from .of_eq rfl),fun base hKb _ hC hB=>ok_law T ⟨hC (30,28) (by simp),hC (162,160) (by simp),hB⟩⟩
theorem walk{l:W.OpenLaw}{q:Program}{loose:List Str}{XP:(Str->Option Value)->Heap->Prop}{YP:World->Heap->Prop}{d:DefRec}{K:Params->W.Frag}(hn:l.most=some 63)(hdf:d.params.defaults=[])
  (hY:∀(w:World) (h:Heap),YP w h->(K w.params).In h)
  (hTab:∀(w:World) (mean:ExcName->Option Value) (mg mb:Str->Option Value) (h:Heap),PyProof.Rows.Top q (W.looseW q loose) mean mg mb h->(K w.params).In h->W.TabsAt [(30,28),(162,160)] h) (hKt:∀w:World,W.noTabs (K w.params)=true)
  (F:∀(w:World) (mg:Str->Option Value) (fa:Addr) (h:Heap),(K w.params).In h->h.Ns mainGlobals mg->mg d.name=some (.ref fa) ->
   ∃fd:FuncData,(∀(s:Shared) (u:Value),BindsTo s fd ⟨[u],[]⟩ [("script",u)])/\∀base:Heap,(K w.params).In base->base.Ns mainGlobals mg->(∀q∈([(30,28),(162,160)]:List (Addr × Addr)),W.CodeHd base q.1 q.2)->xu mg base->Ym l.prog w (K w.params) mg base CX0 16 fa fd ["script"] (yK (K w.params) 28 160)) :
  W.WalkO q loose XP YP l.row.toRowW d [] (fun f vs=>PySem.call f vs) :=
 L2.walk_ofT (n:=63) (k:=16) (x := "script") (CX:=fun _=>CX0) (sp:=fun w=>yK (K w.params) 28 160) hn (by decide) hdf ⟨rfl,by decide,by decide⟩ hY hTab hKt F (fun _ _ a ns hl hT hS=>⟨a,ns,rfl,hS,hl,.inl (hT (30,28) (by simp)),.inl (hT (162,160) (by simp)),fun _=>rfl⟩) fun _ _ _ _ _ z=>z
theorem walkZ{l:W.OpenLaw}{q:Program}{g:List Str}{L:(Str->Option Value)->Heap->Prop}{d:DefRec}{C:Params->W.Frag}(hn:l.most=some 63)(G:d.params.defaults=[])
  (hs:∀P,L2.nodB ((C P).map (·.1))=true)
  (D:∀(w:World) (E:ExcName->Option Value) (mg J:Str->Option Value) (h:Heap),PyProof.Rows.Top q (W.looseW q g) E mg J h->(L2.noT (C w.params)).In h->W.TabsAt [(30,28),(162,160)] h)
  (F:∀(w:World) (mg:Str->Option Value) (I:Addr) (h:Heap),(L2.noT (C w.params)).In h->h.Ns mainGlobals mg->mg d.name=some (.ref I) ->
   ∃fd:FuncData,(∀(s:Shared) (u:Value),BindsTo s fd ⟨[u],[]⟩ [("script",u)])/\∀base:Heap,(L2.noT (C w.params)).In base->base.Ns mainGlobals mg->(∀q∈([(30,28),(162,160)]:List (Addr × Addr)),W.CodeHd base q.1 q.2)->xu mg base->Ym l.prog w (L2.noT (C w.params)) mg base CX0 16 I fd ["script"] (yK (L2.noT (C w.params)) 28 160)) :
  W.WalkO q g L (W.InK C) l.row.toRowW d [] (fun f vs=>PySem.call f vs) :=
 walk (K:=fun P=>L2.noT (C P)) hn G (fun w h Y=>L2.in_noT (hs _) Y) D (fun w=>L2.noT_ok _) F
end Lw
end
open PySem PySem.W PyProof.Rows
set_option maxRecDepth 100000 in
set_option maxHeartbeats 0 in
theorem PySem.Challenge.cw_everywidth_k20_whole_least_of_sums_holds : PySem.Challenge.rw_everywidth_k20_whole_least_of_sums.Holds := by
 w_on; refine holds_law Hw.ws fun said => ?_
 refine holds_openX Hw.left (fun s e => xl_of s (Bool.and_eq_true_iff.mp e).1) XL.keeps
   (by rfl) (by rfl) (by rfl)
   (fun s e => recFacts_of (Bool.and_eq_true_iff.mp e).2) (by rfl)
   (by first | assumption | decide +kernel) (by decide +kernel) ⟨rfl, rfl, rfl, rfl, rfl, by decide +kernel⟩ ?hw ?_
 (case hw => w_witness2)
 refine L2.walk_X (fun _=>by kernel_rfl) ?_
 k_fill
 refine Lw.walkZ (l:=PySem.Challenge.rw_everywidth_k20_whole_least_of_sums) rfl rfl (fun _=>by kernel_rfl) (fun w mean mg mb h T X=>List.forall_mem_cons.mpr ⟨PySem.W.tab_of (x:=PySem.Str.ofString "least") (c:=30) (P:=28) T X rfl (by kernel_rfl),List.forall_mem_cons.mpr ⟨PySem.W.tab_of (x:=PySem.Str.ofString "machine_telling") (c:=162) (P:=160) T X rfl (by kernel_rfl),List.forall_mem_nil _⟩⟩) ?F
 case F =>
  intro w mg fa h KX G hmg
  refine' Lw.all_mk KX G hmg ?d0 ?d1 ?d2 ?d3 ?d4 ?d5 ?d6 ?d7 ?d8 ?d9 ?d10 ?d11 ?d12 ?d13 ?d14 ?d15 ?d16 ?d17 ?d18 ?d19 ?d20 ?d21 ?d22 ?d23 ?d24 ?d25 ?d26 ?d27 ?d28 ?d29 ?d30 ?d31 ?d32 ?d33 ?d34 ?d35 ?d36 ?d37 ?ga_SUM_PARTS ?gl_SUM_PARTS ?ge_SUM_PARTS ?gn_SUM_PARTS ?ga_SUMS_IN_CLAIM ?gl_SUMS_IN_CLAIM ?ge_SUMS_IN_CLAIM ?gn_SUMS_IN_CLAIM ?ga_CLAIMS_IN_CLAIM ?gl_CLAIMS_IN_CLAIM ?ge_CLAIMS_IN_CLAIM ?gn_CLAIMS_IN_CLAIM ?ga_REMEMBERING ?gl_REMEMBERING ?gv_REMEMBERING ?gs_REMEMBERING ?z_abs ?z_enumerate ?z_int ?z_isinstance ?z_len ?z_list ?z_max ?z_min ?z_range ?z_reversed ?z_sorted ?z_tuple ?z_zip
  (case d0 | d1 | d2 | d3 | d4 | d5 | d6 | d7 | d8 | d9 | d10 | d11 | d12 | d13 | d14 | d15 | d16 | d17 | d18 | d19 | d20 | d21 | d22 | d23 | d24 | d25 | d26 | d27 | d28 | d29 | d30 | d31 | d32 | d35 | d36 | d37=>exact ⟨_,_,_,_,_,_,_,_,_,L2.ns_tr (by kernel_rfl) (by k_is),L2.lk_tr (by kernel_rfl) (by k_is),L2.cd_tr (by kernel_rfl) (by k_is),L2.kp_tr (by kernel_rfl) (by k_is),trivial⟩)
  (case d33 | d34=>exact ⟨_,_,_,_,_,_,_,_,_,L2.ns_tr (by kernel_rfl) (by k_is),L2.lk_tr (by kernel_rfl) (by k_is),L2.cd_tr (by kernel_rfl) (by k_is),L2.kp_tr (by kernel_rfl) (by k_is),rfl⟩)
  (case ga_SUM_PARTS | ga_SUMS_IN_CLAIM | ga_CLAIMS_IN_CLAIM | ga_REMEMBERING | z_abs | z_enumerate | z_int | z_isinstance | z_len | z_list | z_max | z_min | z_range | z_reversed | z_sorted | z_tuple | z_zip=>first | (refine L2.ns_tr (by kernel_rfl) ?_;k_is) | (refine L2.fi_tr (by kernel_rfl) ?_;k_is))
  (case gl_SUM_PARTS | gl_SUMS_IN_CLAIM | gl_CLAIMS_IN_CLAIM | gl_REMEMBERING=>refine L2.lk_tr (by kernel_rfl) ?_;k_is)
  (case ge_SUM_PARTS | ge_SUMS_IN_CLAIM | ge_CLAIMS_IN_CLAIM=>repeat (first | exact L2.KTab.nil | refine L2.KTab.cons ?_))
  (case gn_SUM_PARTS | gn_SUMS_IN_CLAIM | gn_CLAIMS_IN_CLAIM=>first | rfl | decide +kernel)
  (case gv_REMEMBERING=>repeat (first | exact .nil | refine .cons ⟨_,rfl⟩ ?_))
  (case gs_REMEMBERING=>show _<=_;decide)
#print axioms PySem.Challenge.cw_everywidth_k20_whole_least_of_sums_holds
