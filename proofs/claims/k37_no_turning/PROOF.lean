import PyProof.Rows.All
import Wide.All
import OpenK.AllK
import Wide.FinOn
import Lean
import PyProof.EqAt
import PyProof.EqKinds
import PyProof.TupleCall
import PyProof.NeKinds
import KE.KRevSl
import KE.KRevIter
import PyProof.FactsAll.tuple
import PyProof.Rows.SortWalk
import PyProof.Rows.StrJoin2
import PyProof.StrBlockH
import PyProof.StrWalks
import PyProof.StrCalls2
import PyProof.ConsumeWalk
import KE.KIntText
import PyProof.Rows.SortStr
import PyProof.EnumStmt
import PyProof.WalksMore
import KE.KEqDict
import PyProof.DictWalks
import KE.KLam
import PyProof.Rows.SortShellK
import PyProof.AttrMissHeap
import KE.KDictOf
import PyProof.ZipIter
import PyProof.CollectWalk
import PyProof.ListNew
import KE.KSortTup
import PyProof.Rows.TupDisplay
import OpenK.KOwn
import PyProof.Rows.TopTwo
import PyProof.Rows.CatchOwn
import PyProof.RulesDel
import PyProof.RulesAs
import KE.KIsNot
import PyProof.ExcAttrAll.ValueError
import KE.KIsAll
import PyProof.StrReplace2
import PyProof.ReprStr
import PyProof.FString
import PyProof.StrLawsChain
import PyProof.SetRoads
import PyProof.StrLawsRepr
import PyProof.ReprHeads
import PyProof.ReprLen
import PyProof.ReprHeadsTuple
import PyProof.Rows.RegStrFacts
import PyProof.FactsAll.bool
import KE.KNest
import PyProof.Rows.RuleM_int
import PyProof.Rows.CallKwBuiltin
import KE.KMinKey
import PyProof.ListRange
import PyProof.TupleOfSeq
import PyProof.TupleOfStr
import KE.KDictLaws
import KE.KPairComp
import KE.KDictSum
import PyProof.StrBlock2
import PyProof.Rows.StrJoinRep
import KE.KUnpack
import PySem.Challenge.RW_everywidth_k37_no_turning
noncomputable section
set_option Elab.async false
set_option linter.all false
set_option maxRecDepth 100000
set_option maxHeartbeats 0
namespace Hw
open PySem PySem.W
theorem ws : PySem.Challenge.rw_everywidth_k37_no_turning.wellSaid = true := by kernel_rfl
def p : Program := PySem.Challenge.rw_everywidth_k37_no_turning.row.toRowW.prog
def B : List Stmt := behindTheImports p
def nth : List Stmt → Nat → Option Stmt
  | [], _ => none
  | x :: _, 0 => some x
  | _ :: r, n + 1 => nth r n
def fx : Option Stmt → Arguments × List Stmt × Scope × Str × Nat
  | some (.FunctionDef n a b _ _ _ s _ _ x) => (a, b, s, n, x.line)
  | _ => default
def fd (i : Nat) := fx (nth B i)
def fc (i j : Nat) := match nth B i with
  | some (.ClassDef _ _ _ b _ _ _ _ _ _ _) => fx (nth b j)
  | _ => fx none
def vs (s : String) (t : Nat) : Value := .str (Str.ofString s) t
def en (P : Params) (s : String) (t : Nat) (v : Value) : DictEntry := ⟨PyData.keyHash P (Str.ofString s), .str (Str.ofString s) t, v⟩
def tu (l : List Value) : Obj := ⟨.type "tuple", none, .seq (Array.mk l) 0, #[]⟩
def t0 : Obj := tu []
def fi (l : List Value) : Obj := ⟨.none, none, .fields (Array.mk l), #[]⟩
def f0 : Obj := fi []
def vk : Nat → List String → List Value
  | _, [] => []
  | t, s :: r => vs s t :: vk (t + 1) r
def vt (t : Nat) (l : List String) : Obj := tu (vk t l)
abbrev Fd := Arguments × List Stmt × Scope × Str × Nat
def rO (x : Fd) : Obj := ⟨.none, none, .func ⟨x.2.2.2.1, x.2.2.2.1, x.1, .stmts x.2.1, x.2.2.1, 0, [], .none, .none, .none, .none, none, .none, .none, 0⟩, #[]⟩
def fO (x : Fd) (m : Value) (c : Nat) : Obj := ⟨.type "function", none, .func ⟨x.2.2.2.1, x.2.2.2.1, x.1, .stmts x.2.1, x.2.2.1, 3, [], .none, .none, .none, m, none, .ref c, .none, 0⟩, #[]⟩
def fl : String := "/claim/cut.py"
def r (i : Nat) : Obj := rO (fd i)
def f (i : Nat) (m : Value) (c : Nat) : Obj := fO (fd i) m c
def ci (n : Nat) : Value := .int n 0
def c (i t x v : Nat) : Obj := let y := (fd i).2.2.2; ⟨.type "code", none, .fields #[.str y.1 t, .str y.1 (t + 1), vs fl (t + 2), ci y.2, ci (fd i).1.args.length, ci 0, ci 0, ci 3, .ref x, .bool true, ci 181, .ref (x + 1), .none, if v == 0 then .none else .ref (x + 2), if v == 0 then .none else .ref (x + 3), .ref (if v == 0 then x + 2 else x + 4), ci (t + 3 + v), ci y.2, vs fl (t + 4 + v)], #[]⟩
def e (P : Params) (i t a : Nat) : DictEntry := let y := (fd i).2.2.2.1; ⟨PyData.keyHash P y, .str y t, .ref a⟩
def bt (P : Params) : List DictEntry := match (boot_o_3 P).data with
  | .dict e _ => e.toList.tail
  | _ => []
def m0 : Value := vs "everywidth.vocabulary" 328
def m1 : Value := vs "everywidth.rows" 445
def m2 : Value := vs "everywidth.sums.turns" 469
def m3 : Value := vs "law_everywidth_k37_no_turning" 730
def es (P : Params) : List DictEntry := [en P "WidthError" 206 (.ref 24),en P "NoSum" 222 (.ref 37),en P "NoClaim" 238 (.ref 49),en P "NoWords" 254 (.ref 61),en P "NoTurning" 270 (.ref 73),en P "NoShorter" 286 (.ref 85),en P "NoAsk" 302 (.ref 97),en P "NoName" 327 (.ref 116),en P "SUM_PARTS" 360 (.ref 119),en P "SUMS_IN_CLAIM" 376 (.ref 120),en P "CLAIMS_IN_CLAIM" 392 (.ref 121),en P "LETTERS" 394 (vs "abcdefghijklmnopqrstuvwxyz" 393),en P "LONGEST_NAME" 396 (.int 8 395),e P 15 403 128,e P 16 410 135,e P 17 417 142,e P 18 424 149,e P 19 431 156,e P 20 437 161,e P 21 444 168,e P 23 456 175,e P 24 468 182,en P "TURNINGS" 679 (.ref 261),e P 27 688 268,e P 28 694 273,e P 29 700 278,e P 30 712 285,e P 31 722 292,e P 32 729 299,e P 34 743 306,e P 35 756 313,e P 36 763 320,e P 37 772 327,e P 38 784 334,e P 39 798 341,e P 40 804 346,e P 41 816 353,e P 42 829 360,e P 43 839 367,e P 44 852 374,e P 45 862 381,e P 46 871 388,e P 47 883 395,e P 48 893 402,e P 49 906 409,e P 50 916 416,e P 51 922 421,e P 52 928 426]
def vl : List (Nat × Nat) := [(2,20),(4,33),(6,45),(8,57),(10,69),(12,81),(14,93),(16,105),(26,127),(28,134),(30,141),(32,148),(34,155),(36,160),(38,167),(43,174),(50,181),(61,267),(65,272),(76,277),(82,284),(95,291),(100,298),(103,305),(113,312),(122,319),(128,326),(132,333),(140,340),(152,345),(154,352),(160,359),(172,366),(177,373),(200,380),(216,387),(225,394),(231,401),(237,408),(247,415),(256,420),(264,425)]
def md (P : Params) (m : String) (t e k : Nat) : Obj := ⟨.type "dict", none, .dict (Array.mk (en P "__name__" 165 (vs m t) :: bt P ++ (es P).take e)) k, #[]⟩
def tl : List (Nat × Nat) → List Value
  | [] => []
  | x :: r => .int x.1 0 :: .int 0 0 :: .ref x.2 :: tl r
def tb (c : Nat) : Obj := fi (tl (vl.take c))
def K (P : Params) : PySem.W.Frag := (nat_lit 0,boot_o_0 P)::(nat_lit 1,boot_o_1 P)::(nat_lit 2,boot_o_2 P)::(nat_lit 3,md P "law_everywidth_k37_no_turning" 730 48 57)::(nat_lit 4,boot_o_4 P)::(nat_lit 5,boot_o_5 P)::(nat_lit 6,boot_o_6 P)::(nat_lit 7,boot_o_7 P)::(nat_lit 8,boot_o_8 P)::(nat_lit 9,boot_o_9 P)::(nat_lit 10,boot_o_10 P)::(nat_lit 11,t0)::(nat_lit 12,tb 42)::(nat_lit 13,⟨(.type "code"),none,.fields #[(vs "<module>" 182),(vs "<module>" 183),(vs "/claim/cut.py" 184),(.int 1 0),(.int 0 0),(.int 0 0),(.int 0 0),(.int 0 0),(.ref 11),(.bool false),(.int 181 0),(.ref 12),.none,.none,.none,.none,(.int 185 0),(.int 1 0),(vs "/claim/cut.py" 186)],#[]⟩)::(nat_lit 14,⟨(.type "frame"),none,.plain,#[some (.ref 13),some (.ref 3),some (.ref 3),none,some (vs "__main__" 164),none,some (.ref 0)]⟩)::(nat_lit 15,tu [(.type "ValueError")])::(nat_lit 22,t0)::(nat_lit 23,⟨(.type "dict"),none,.dict #[en P "__module__" 196 (vs "everywidth.errors" 187),en P "__firstlineno__" 200 (.int 2 199),en P "__static_attributes__" 201 (.ref 22),en P "__weakref__" 203 (.ref 25),en P "__doc__" 204 .none] 3,#[]⟩)::(nat_lit 24,⟨(.type "type"),none,.cls ⟨Str.ofString "WidthError",[(.type "ValueError")],[(.ref 24),(.type "ValueError"),(.type "Exception"),(.type "BaseException"),(.type "object")],23,Str.ofString "WidthError",true,[],[(.ref 37),(.ref 49),(.ref 61),(.ref 73),(.ref 85),(.ref 97),(.ref 116)],false,none,false⟩,#[some (.ref 15),none,some (vs "WidthError" 189),some (vs "WidthError" 197),some (.builtin "ValueError.__new__"),some (.bool true)]⟩)::(nat_lit 25,⟨(.type "getset_descriptor"),none,.fields #[(vs "__weakref__" 202),(.ref 24),(.builtin "ExceptionGroup.__weakref__"),.none],#[]⟩)::(nat_lit 28,tu [(.ref 24)])::(nat_lit 35,t0)::(nat_lit 36,⟨(.type "dict"),none,.dict #[en P "__module__" 214 (vs "everywidth.errors" 187),en P "__firstlineno__" 218 (.int 4 217),en P "__static_attributes__" 219 (.ref 35),en P "__doc__" 220 .none] 2,#[]⟩)::(nat_lit 37,⟨(.type "type"),none,.cls ⟨Str.ofString "NoSum",[(.ref 24)],[(.ref 37),(.ref 24),(.type "ValueError"),(.type "Exception"),(.type "BaseException"),(.type "object")],36,Str.ofString "NoSum",true,[],[],false,none,false⟩,#[some (.ref 28),none,some (vs "NoSum" 207),some (vs "NoSum" 215),some (.builtin "ValueError.__new__"),some (.bool true)]⟩)::(nat_lit 40,tu [(.ref 24)])::(nat_lit 47,t0)::(nat_lit 48,⟨(.type "dict"),none,.dict #[en P "__module__" 230 (vs "everywidth.errors" 187),en P "__firstlineno__" 234 (.int 6 233),en P "__static_attributes__" 235 (.ref 47),en P "__doc__" 236 .none] 2,#[]⟩)::(nat_lit 49,⟨(.type "type"),none,.cls ⟨Str.ofString "NoClaim",[(.ref 24)],[(.ref 49),(.ref 24),(.type "ValueError"),(.type "Exception"),(.type "BaseException"),(.type "object")],48,Str.ofString "NoClaim",true,[],[],false,none,false⟩,#[some (.ref 40),none,some (vs "NoClaim" 223),some (vs "NoClaim" 231),some (.builtin "ValueError.__new__"),some (.bool true)]⟩)::(nat_lit 52,tu [(.ref 24)])::(nat_lit 59,t0)::(nat_lit 60,⟨(.type "dict"),none,.dict #[en P "__module__" 246 (vs "everywidth.errors" 187),en P "__firstlineno__" 250 (.int 8 249),en P "__static_attributes__" 251 (.ref 59),en P "__doc__" 252 .none] 2,#[]⟩)::(nat_lit 61,⟨(.type "type"),none,.cls ⟨Str.ofString "NoWords",[(.ref 24)],[(.ref 61),(.ref 24),(.type "ValueError"),(.type "Exception"),(.type "BaseException"),(.type "object")],60,Str.ofString "NoWords",true,[],[],false,none,false⟩,#[some (.ref 52),none,some (vs "NoWords" 239),some (vs "NoWords" 247),some (.builtin "ValueError.__new__"),some (.bool true)]⟩)::(nat_lit 64,tu [(.ref 24)])::(nat_lit 71,t0)::(nat_lit 72,⟨(.type "dict"),none,.dict #[en P "__module__" 262 (vs "everywidth.errors" 187),en P "__firstlineno__" 266 (.int 10 265),en P "__static_attributes__" 267 (.ref 71),en P "__doc__" 268 .none] 2,#[]⟩)::(nat_lit 73,⟨(.type "type"),none,.cls ⟨Str.ofString "NoTurning",[(.ref 24)],[(.ref 73),(.ref 24),(.type "ValueError"),(.type "Exception"),(.type "BaseException"),(.type "object")],72,Str.ofString "NoTurning",true,[],[],false,none,false⟩,#[some (.ref 64),none,some (vs "NoTurning" 255),some (vs "NoTurning" 263),some (.builtin "ValueError.__new__"),some (.bool true)]⟩)::(nat_lit 76,tu [(.ref 24)])::(nat_lit 83,t0)::(nat_lit 84,⟨(.type "dict"),none,.dict #[en P "__module__" 278 (vs "everywidth.errors" 187),en P "__firstlineno__" 282 (.int 12 281),en P "__static_attributes__" 283 (.ref 83),en P "__doc__" 284 .none] 2,#[]⟩)::(nat_lit 85,⟨(.type "type"),none,.cls ⟨Str.ofString "NoShorter",[(.ref 24)],[(.ref 85),(.ref 24),(.type "ValueError"),(.type "Exception"),(.type "BaseException"),(.type "object")],84,Str.ofString "NoShorter",true,[],[],false,none,false⟩,#[some (.ref 76),none,some (vs "NoShorter" 271),some (vs "NoShorter" 279),some (.builtin "ValueError.__new__"),some (.bool true)]⟩)::(nat_lit 88,tu [(.ref 24)])::(nat_lit 95,t0)::(nat_lit 96,⟨(.type "dict"),none,.dict #[en P "__module__" 294 (vs "everywidth.errors" 187),en P "__firstlineno__" 298 (.int 14 297),en P "__static_attributes__" 299 (.ref 95),en P "__doc__" 300 .none] 2,#[]⟩)::(nat_lit 97,⟨(.type "type"),none,.cls ⟨Str.ofString "NoAsk",[(.ref 24)],[(.ref 97),(.ref 24),(.type "ValueError"),(.type "Exception"),(.type "BaseException"),(.type "object")],96,Str.ofString "NoAsk",true,[],[],false,none,false⟩,#[some (.ref 88),none,some (vs "NoAsk" 287),some (vs "NoAsk" 295),some (.builtin "ValueError.__new__"),some (.bool true)]⟩)::(nat_lit 100,tu [(.ref 24)])::(nat_lit 107,t0)::(nat_lit 108,f0)::(nat_lit 109,vt 318 ["self","word"])::(nat_lit 110,t0)::(nat_lit 111,⟨.none,none,.func ⟨Str.ofString "__init__",Str.ofString "NoName.__init__",(fc 8 0).1,.stmts (fc 8 0).2.1,(fc 8 0).2.2.1,0,[],.none,.none,.none,.none,none,.none,.none,0⟩,#[]⟩)::(nat_lit 112,⟨(.type "code"),none,.fields #[(vs "__init__" 315),(vs "NoName.__init__" 316),(vs "/claim/cut.py" 317),(.int 18 0),(.int 2 0),(.int 0 0),(.int 0 0),(.int 3 0),(.ref 107),(.bool true),(.int 181 0),(.ref 108),.none,(.ref 109),(.ref 110),(.ref 111),(.int 320 0),(.int 18 0),(vs "/claim/cut.py" 321)],#[]⟩)::(nat_lit 113,⟨(.type "function"),none,.func ⟨Str.ofString "__init__",Str.ofString "NoName.__init__",(fc 8 0).1,.stmts (fc 8 0).2.1,(fc 8 0).2.2.1,3,[],.none,.none,.none,(vs "everywidth.errors" 187),none,(.ref 112),.none,0⟩,#[]⟩)::(nat_lit 114,vt 323 ["word"])::(nat_lit 115,⟨(.type "dict"),none,.dict #[en P "__module__" 310 (vs "everywidth.errors" 187),en P "__firstlineno__" 314 (.int 16 313),en P "__init__" 322 (.ref 113),en P "__static_attributes__" 324 (.ref 114),en P "__doc__" 325 .none] 2,#[]⟩)::(nat_lit 116,⟨(.type "type"),none,.cls ⟨Str.ofString "NoName",[(.ref 24)],[(.ref 116),(.ref 24),(.type "ValueError"),(.type "Exception"),(.type "BaseException"),(.type "object")],115,Str.ofString "NoName",true,[],[],false,none,false⟩,#[some (.ref 100),none,some (vs "NoName" 303),some (vs "NoName" 311),some (.builtin "ValueError.__new__"),some (.bool true)]⟩)::(nat_lit 119,⟨(.type "dict"),none,.dict #[en P "not" 330 (.int 1 331),en P "neg" 332 (.int 1 333),en P "twice" 334 (.int 1 335),en P "low" 336 (.int 1 337),en P "and" 338 (.int 2 339),en P "or" 340 (.int 2 341),en P "odd" 342 (.int 2 343),en P "add" 344 (.int 2 345),en P "sub" 346 (.int 2 347),en P "pick" 348 (.int 3 349)] 10,#[]⟩)::(nat_lit 120,⟨(.type "dict"),none,.dict #[en P "same" 361 (.int 2 362),en P "under" 363 (.int 2 364),en P "beneath" 365 (.int 2 366),en P "sign" 367 (.int 1 368),en P "nought" 369 (.int 1 370)] 5,#[]⟩)::(nat_lit 121,⟨(.type "dict"),none,.dict #[en P "both" 377 (.int 2 378),en P "either" 379 (.int 2 380),en P "so" 381 (.int 2 382),en P "never" 383 (.int 1 384),en P "yes" 385 (.int 0 386)] 5,#[]⟩)::(nat_lit 122,t0)::(nat_lit 123,f0)::(nat_lit 124,vt 400 ["text"])::(nat_lit 125,t0)::(nat_lit 126,r 15)::(nat_lit 127,c 15 397 122 1)::(nat_lit 128,f 15 m0 127)::(nat_lit 129,t0)::(nat_lit 130,f0)::(nat_lit 131,vt 407 ["text"])::(nat_lit 132,t0)::(nat_lit 133,r 16)::(nat_lit 134,c 16 404 129 1)::(nat_lit 135,f 16 m0 134)::(nat_lit 136,t0)::(nat_lit 137,f0)::(nat_lit 138,vt 414 ["word"])::(nat_lit 139,t0)::(nat_lit 140,r 17)::(nat_lit 141,c 17 411 136 1)::(nat_lit 142,f 17 m0 141)::(nat_lit 143,t0)::(nat_lit 144,f0)::(nat_lit 145,vt 421 ["word"])::(nat_lit 146,t0)::(nat_lit 147,r 18)::(nat_lit 148,c 18 418 143 1)::(nat_lit 149,f 18 m0 148)::(nat_lit 150,t0)::(nat_lit 151,f0)::(nat_lit 152,vt 428 ["word"])::(nat_lit 153,t0)::(nat_lit 154,r 19)::(nat_lit 155,c 19 425 150 1)::(nat_lit 156,f 19 m0 155)::(nat_lit 157,t0)::(nat_lit 158,f0)::(nat_lit 159,r 20)::(nat_lit 160,c 20 432 157 0)::(nat_lit 161,f 20 m0 160)::(nat_lit 162,t0)::(nat_lit 163,f0)::(nat_lit 164,vt 441 ["text"])::(nat_lit 165,t0)::(nat_lit 166,r 21)::(nat_lit 167,c 21 438 162 1)::(nat_lit 168,f 21 m0 167)::(nat_lit 169,t0)::(nat_lit 170,f0)::(nat_lit 171,vt 450 ["words","begin","place","lacking"])::(nat_lit 172,t0)::(nat_lit 173,r 23)::(nat_lit 174,c 23 447 169 4)::(nat_lit 175,f 23 m1 174)::(nat_lit 176,t0)::(nat_lit 177,f0)::(nat_lit 178,vt 460 ["words","paths","coming","word","path","number"])::(nat_lit 179,t0)::(nat_lit 180,r 24)::(nat_lit 181,c 24 457 176 6)::(nat_lit 182,f 24 m1 181)::(nat_lit 183,vt 472 ["add","x","y"])::(nat_lit 184,vt 475 ["add","y","x"])::(nat_lit 185,tu [(vs "addboth" 471),(.ref 183),(.ref 184)])::(nat_lit 186,vt 479 ["and","x","y"])::(nat_lit 187,vt 482 ["and","y","x"])::(nat_lit 188,tu [(vs "addboth" 478),(.ref 186),(.ref 187)])::(nat_lit 189,vt 486 ["or","x","y"])::(nat_lit 190,vt 489 ["or","y","x"])::(nat_lit 191,tu [(vs "addboth" 485),(.ref 189),(.ref 190)])::(nat_lit 192,vt 493 ["odd","x","y"])::(nat_lit 193,vt 496 ["odd","y","x"])::(nat_lit 194,tu [(vs "addboth" 492),(.ref 192),(.ref 193)])::(nat_lit 195,vt 500 ["add","add","x","y","z"])::(nat_lit 196,vt 505 ["add","x","add","y","z"])::(nat_lit 197,tu [(vs "addthree" 499),(.ref 195),(.ref 196)])::(nat_lit 198,vt 511 ["and","and","x","y","z"])::(nat_lit 199,vt 516 ["and","x","and","y","z"])::(nat_lit 200,tu [(vs "addthree" 510),(.ref 198),(.ref 199)])::(nat_lit 201,vt 522 ["or","or","x","y","z"])::(nat_lit 202,vt 527 ["or","x","or","y","z"])::(nat_lit 203,tu [(vs "addthree" 521),(.ref 201),(.ref 202)])::(nat_lit 204,vt 533 ["odd","odd","x","y","z"])::(nat_lit 205,vt 538 ["odd","x","odd","y","z"])::(nat_lit 206,tu [(vs "addthree" 532),(.ref 204),(.ref 205)])::(nat_lit 207,vt 544 ["sub","x","y"])::(nat_lit 208,vt 547 ["add","x","neg","y"])::(nat_lit 209,tu [(vs "subneg" 543),(.ref 207),(.ref 208)])::(nat_lit 210,vt 552 ["neg","x"])::(nat_lit 211,tu [(vs "add" 554),(vs "not" 555),(vs "x" 556),(.int 1 557)])::(nat_lit 212,tu [(vs "negnot" 551),(.ref 210),(.ref 211)])::(nat_lit 213,vt 559 ["twice","x"])::(nat_lit 214,vt 561 ["add","x","x"])::(nat_lit 215,tu [(vs "twiceadd" 558),(.ref 213),(.ref 214)])::(nat_lit 216,vt 565 ["not","not","x"])::(nat_lit 217,vt 568 ["x"])::(nat_lit 218,tu [(vs "notnot" 564),(.ref 216),(.ref 217)])::(nat_lit 219,vt 570 ["not","and","x","y"])::(nat_lit 220,vt 574 ["or","not","x","not","y"])::(nat_lit 221,tu [(vs "notand" 569),(.ref 219),(.ref 220)])::(nat_lit 222,vt 580 ["not","or","x","y"])::(nat_lit 223,vt 584 ["and","not","x","not","y"])::(nat_lit 224,tu [(vs "notor" 579),(.ref 222),(.ref 223)])::(nat_lit 225,vt 590 ["odd","x","y"])::(nat_lit 226,vt 593 ["and","or","x","y","not","and","x","y"])::(nat_lit 227,tu [(vs "oddor" 589),(.ref 225),(.ref 226)])::(nat_lit 228,vt 602 ["add","x","y"])::(nat_lit 229,vt 605 ["add","or","x","y","and","x","y"])::(nat_lit 230,tu [(vs "orsum" 601),(.ref 228),(.ref 229)])::(nat_lit 231,vt 613 ["add","x","y"])::(nat_lit 232,vt 616 ["add","odd","x","y","twice","and","x","y"])::(nat_lit 233,tu [(vs "oddsum" 612),(.ref 231),(.ref 232)])::(nat_lit 234,vt 625 ["low","x"])::(nat_lit 235,vt 627 ["and","x","neg","x"])::(nat_lit 236,tu [(vs "lowneg" 624),(.ref 234),(.ref 235)])::(nat_lit 237,vt 632 ["pick","x","y","z"])::(nat_lit 238,vt 636 ["or","and","x","y","and","not","x","z"])::(nat_lit 239,tu [(vs "pickor" 631),(.ref 237),(.ref 238)])::(nat_lit 240,vt 645 ["odd","x","x"])::(nat_lit 241,tu [(.int 0 648)])::(nat_lit 242,tu [(vs "selfodd" 644),(.ref 240),(.ref 241)])::(nat_lit 243,vt 650 ["and","x","x"])::(nat_lit 244,vt 653 ["x"])::(nat_lit 245,tu [(vs "selfand" 649),(.ref 243),(.ref 244)])::(nat_lit 246,vt 655 ["or","x","x"])::(nat_lit 247,vt 658 ["x"])::(nat_lit 248,tu [(vs "selfand" 654),(.ref 246),(.ref 247)])::(nat_lit 249,tu [(vs "add" 660),(vs "x" 661),(.int 0 662)])::(nat_lit 250,vt 663 ["x"])::(nat_lit 251,tu [(vs "zeroadd" 659),(.ref 249),(.ref 250)])::(nat_lit 252,tu [(vs "or" 665),(vs "x" 666),(.int 0 667)])::(nat_lit 253,vt 668 ["x"])::(nat_lit 254,tu [(vs "zeroadd" 664),(.ref 252),(.ref 253)])::(nat_lit 255,tu [(vs "odd" 670),(vs "x" 671),(.int 0 672)])::(nat_lit 256,vt 673 ["x"])::(nat_lit 257,tu [(vs "zeroadd" 669),(.ref 255),(.ref 256)])::(nat_lit 258,tu [(vs "sub" 675),(vs "x" 676),(.int 0 677)])::(nat_lit 259,vt 678 ["x"])::(nat_lit 260,tu [(vs "zeroadd" 674),(.ref 258),(.ref 259)])::(nat_lit 261,tu [(.ref 185),(.ref 188),(.ref 191),(.ref 194),(.ref 197),(.ref 200),(.ref 203),(.ref 206),(.ref 209),(.ref 212),(.ref 215),(.ref 218),(.ref 221),(.ref 224),(.ref 227),(.ref 230),(.ref 233),(.ref 236),(.ref 239),(.ref 242),(.ref 245),(.ref 248),(.ref 251),(.ref 254),(.ref 257),(.ref 260)])::(nat_lit 262,t0)::(nat_lit 263,f0)::(nat_lit 264,vt 683 ["words","chain","step"])::(nat_lit 265,t0)::(nat_lit 266,r 27)::(nat_lit 267,c 27 680 262 3)::(nat_lit 268,f 27 m2 267)::(nat_lit 269,t0)::(nat_lit 270,f0)::(nat_lit 271,r 28)::(nat_lit 272,c 28 689 269 0)::(nat_lit 273,f 28 m2 272)::(nat_lit 274,t0)::(nat_lit 275,f0)::(nat_lit 276,r 29)::(nat_lit 277,c 29 695 274 0)::(nat_lit 278,f 29 m2 277)::(nat_lit 279,t0)::(nat_lit 280,f0)::(nat_lit 281,vt 704 ["form","words","bound","place","word","end"])::(nat_lit 282,t0)::(nat_lit 283,r 30)::(nat_lit 284,c 30 701 279 6)::(nat_lit 285,f 30 m2 284)::(nat_lit 286,t0)::(nat_lit 287,f0)::(nat_lit 288,vt 716 ["form","bound","words","word"])::(nat_lit 289,t0)::(nat_lit 290,r 31)::(nat_lit 291,c 31 713 286 4)::(nat_lit 292,f 31 m2 291)::(nat_lit 293,t0)::(nat_lit 294,f0)::(nat_lit 295,vt 726 ["word"])::(nat_lit 296,t0)::(nat_lit 297,r 32)::(nat_lit 298,c 32 723 293 1)::(nat_lit 299,f 32 m2 298)::(nat_lit 300,t0)::(nat_lit 301,f0)::(nat_lit 302,vt 735 ["script","k","many","cell","turn","mixed"])::(nat_lit 303,t0)::(nat_lit 304,r 34)::(nat_lit 305,c 34 732 300 6)::(nat_lit 306,f 34 m3 305)::(nat_lit 307,t0)::(nat_lit 308,f0)::(nat_lit 309,vt 747 ["script","i","letters","pad","place","tail","word"])::(nat_lit 310,t0)::(nat_lit 311,r 35)::(nat_lit 312,c 35 744 307 7)::(nat_lit 313,f 35 m3 312)::(nat_lit 314,t0)::(nat_lit 315,f0)::(nat_lit 316,vt 760 ["word"])::(nat_lit 317,t0)::(nat_lit 318,r 36)::(nat_lit 319,c 36 757 314 1)::(nat_lit 320,f 36 m3 319)::(nat_lit 321,t0)::(nat_lit 322,f0)::(nat_lit 323,vt 767 ["script","draw","many"])::(nat_lit 324,t0)::(nat_lit 325,r 37)::(nat_lit 326,c 37 764 321 3)::(nat_lit 327,f 37 m3 326)::(nat_lit 328,t0)::(nat_lit 329,f0)::(nat_lit 330,vt 776 ["script","at","many","fuel","draw","one"])::(nat_lit 331,t0)::(nat_lit 332,r 38)::(nat_lit 333,c 38 773 328 6)::(nat_lit 334,f 38 m3 333)::(nat_lit 335,t0)::(nat_lit 336,f0)::(nat_lit 337,vt 788 ["script","at","many","fuel","draw","words","word","one"])::(nat_lit 338,t0)::(nat_lit 339,r 39)::(nat_lit 340,c 39 785 335 8)::(nat_lit 341,f 39 m3 340)::(nat_lit 342,t0)::(nat_lit 343,f0)::(nat_lit 344,r 40)::(nat_lit 345,c 40 799 342 0)::(nat_lit 346,f 40 m3 345)::(nat_lit 347,t0)::(nat_lit 348,f0)::(nat_lit 349,vt 808 ["script","at","many","most","fuel","found"])::(nat_lit 350,t0)::(nat_lit 351,r 41)::(nat_lit 352,c 41 805 347 6)::(nat_lit 353,f 41 m3 352)::(nat_lit 354,t0)::(nat_lit 355,f0)::(nat_lit 356,vt 820 ["words","shares","left","part","wanted","found","word"])::(nat_lit 357,t0)::(nat_lit 358,r 42)::(nat_lit 359,c 42 817 354 7)::(nat_lit 360,f 42 m3 359)::(nat_lit 361,t0)::(nat_lit 362,f0)::(nat_lit 363,vt 833 ["word","shares","found","part"])::(nat_lit 364,t0)::(nat_lit 365,r 43)::(nat_lit 366,c 43 830 361 4)::(nat_lit 367,f 43 m3 366)::(nat_lit 368,t0)::(nat_lit 369,f0)::(nat_lit 370,vt 843 ["how","word","shares","one","other","both","some"])::(nat_lit 371,t0)::(nat_lit 372,r 44)::(nat_lit 373,c 44 840 368 7)::(nat_lit 374,f 44 m3 373)::(nat_lit 375,t0)::(nat_lit 376,f0)::(nat_lit 377,vt 856 ["how","word","one","some"])::(nat_lit 378,t0)::(nat_lit 379,r 45)::(nat_lit 380,c 45 853 375 4)::(nat_lit 381,f 45 m3 380)::(nat_lit 382,t0)::(nat_lit 383,f0)::(nat_lit 384,vt 866 ["how","words","shares"])::(nat_lit 385,t0)::(nat_lit 386,r 46)::(nat_lit 387,c 46 863 382 3)::(nat_lit 388,f 46 m3 387)::(nat_lit 389,t0)::(nat_lit 390,f0)::(nat_lit 391,vt 875 ["words","found","k","part","path","below"])::(nat_lit 392,t0)::(nat_lit 393,r 47)::(nat_lit 394,c 47 872 389 6)::(nat_lit 395,f 47 m3 394)::(nat_lit 396,t0)::(nat_lit 397,f0)::(nat_lit 398,vt 887 ["words","path","part","shares"])::(nat_lit 399,t0)::(nat_lit 400,r 48)::(nat_lit 401,c 48 884 396 4)::(nat_lit 402,f 48 m3 401)::(nat_lit 403,t0)::(nat_lit 404,f0)::(nat_lit 405,vt 897 ["words","hows","found","path","below","how","spun"])::(nat_lit 406,t0)::(nat_lit 407,r 49)::(nat_lit 408,c 49 894 403 7)::(nat_lit 409,f 49 m3 408)::(nat_lit 410,t0)::(nat_lit 411,f0)::(nat_lit 412,vt 910 ["words","chain","caught","e"])::(nat_lit 413,t0)::(nat_lit 414,r 50)::(nat_lit 415,c 50 907 410 4)::(nat_lit 416,f 50 m3 415)::(nat_lit 417,t0)::(nat_lit 418,f0)::(nat_lit 419,r 51)::(nat_lit 420,c 51 917 417 0)::(nat_lit 421,f 51 m3 420)::(nat_lit 422,t0)::(nat_lit 423,f0)::(nat_lit 424,r 52)::(nat_lit 425,c 52 923 422 0)::(nat_lit 426,f 52 m3 425)::[]
def xo (P : Params) : List (Nat × Obj) := (nat_lit 16,⟨(.type "builtin_function_or_method"),none,.fields #[(.builtin "type.__prepare__"),(.type "type")],#[]⟩)::(nat_lit 17,⟨(.type "dict"),none,.dict #[en P "__module__" 196 (vs "everywidth.errors" 187),en P "__qualname__" 198 (vs "WidthError" 197),en P "__firstlineno__" 200 (.int 2 199),en P "__static_attributes__" 201 (.ref 22)] 4,#[]⟩)::(nat_lit 18,t0)::(nat_lit 19,f0)::(nat_lit 20,⟨(.type "code"),none,.fields #[(vs "WidthError" 191),(vs "WidthError" 192),(vs "/claim/cut.py" 193),(.int 2 0),(.int 0 0),(.int 0 0),(.int 0 0),(.int 0 0),(.ref 18),(.bool false),(.int 181 0),(.ref 19),.none,.none,.none,.none,(.int 194 0),(.int 2 0),(vs "/claim/cut.py" 195)],#[]⟩)::(nat_lit 21,⟨(.type "frame"),none,.plain,#[some (.ref 20),some (.ref 3),some (.ref 17),none,some (vs "everywidth.errors" 187),none,some (.ref 0)]⟩)::(nat_lit 26,⟨(.type "super"),none,.fields #[(.ref 24),(.ref 24),(.ref 24)],#[]⟩)::(nat_lit 27,⟨(.type "builtin_function_or_method"),none,.fields #[(.builtin "object.__init_subclass__"),(.ref 24)],#[]⟩)::(nat_lit 29,⟨(.type "builtin_function_or_method"),none,.fields #[(.builtin "type.__prepare__"),(.type "type")],#[]⟩)::(nat_lit 30,⟨(.type "dict"),none,.dict #[en P "__module__" 214 (vs "everywidth.errors" 187),en P "__qualname__" 216 (vs "NoSum" 215),en P "__firstlineno__" 218 (.int 4 217),en P "__static_attributes__" 219 (.ref 35)] 4,#[]⟩)::(nat_lit 31,t0)::(nat_lit 32,f0)::(nat_lit 33,⟨(.type "code"),none,.fields #[(vs "NoSum" 209),(vs "NoSum" 210),(vs "/claim/cut.py" 211),(.int 4 0),(.int 0 0),(.int 0 0),(.int 0 0),(.int 0 0),(.ref 31),(.bool false),(.int 181 0),(.ref 32),.none,.none,.none,.none,(.int 212 0),(.int 4 0),(vs "/claim/cut.py" 213)],#[]⟩)::(nat_lit 34,⟨(.type "frame"),none,.plain,#[some (.ref 33),some (.ref 3),some (.ref 30),none,some (vs "everywidth.errors" 187),none,some (.ref 0)]⟩)::(nat_lit 38,⟨(.type "super"),none,.fields #[(.ref 37),(.ref 37),(.ref 37)],#[]⟩)::(nat_lit 39,⟨(.type "builtin_function_or_method"),none,.fields #[(.builtin "object.__init_subclass__"),(.ref 37)],#[]⟩)::(nat_lit 41,⟨(.type "builtin_function_or_method"),none,.fields #[(.builtin "type.__prepare__"),(.type "type")],#[]⟩)::(nat_lit 42,⟨(.type "dict"),none,.dict #[en P "__module__" 230 (vs "everywidth.errors" 187),en P "__qualname__" 232 (vs "NoClaim" 231),en P "__firstlineno__" 234 (.int 6 233),en P "__static_attributes__" 235 (.ref 47)] 4,#[]⟩)::(nat_lit 43,t0)::(nat_lit 44,f0)::(nat_lit 45,⟨(.type "code"),none,.fields #[(vs "NoClaim" 225),(vs "NoClaim" 226),(vs "/claim/cut.py" 227),(.int 6 0),(.int 0 0),(.int 0 0),(.int 0 0),(.int 0 0),(.ref 43),(.bool false),(.int 181 0),(.ref 44),.none,.none,.none,.none,(.int 228 0),(.int 6 0),(vs "/claim/cut.py" 229)],#[]⟩)::(nat_lit 46,⟨(.type "frame"),none,.plain,#[some (.ref 45),some (.ref 3),some (.ref 42),none,some (vs "everywidth.errors" 187),none,some (.ref 0)]⟩)::(nat_lit 50,⟨(.type "super"),none,.fields #[(.ref 49),(.ref 49),(.ref 49)],#[]⟩)::(nat_lit 51,⟨(.type "builtin_function_or_method"),none,.fields #[(.builtin "object.__init_subclass__"),(.ref 49)],#[]⟩)::(nat_lit 53,⟨(.type "builtin_function_or_method"),none,.fields #[(.builtin "type.__prepare__"),(.type "type")],#[]⟩)::(nat_lit 54,⟨(.type "dict"),none,.dict #[en P "__module__" 246 (vs "everywidth.errors" 187),en P "__qualname__" 248 (vs "NoWords" 247),en P "__firstlineno__" 250 (.int 8 249),en P "__static_attributes__" 251 (.ref 59)] 4,#[]⟩)::(nat_lit 55,t0)::(nat_lit 56,f0)::(nat_lit 57,⟨(.type "code"),none,.fields #[(vs "NoWords" 241),(vs "NoWords" 242),(vs "/claim/cut.py" 243),(.int 8 0),(.int 0 0),(.int 0 0),(.int 0 0),(.int 0 0),(.ref 55),(.bool false),(.int 181 0),(.ref 56),.none,.none,.none,.none,(.int 244 0),(.int 8 0),(vs "/claim/cut.py" 245)],#[]⟩)::(nat_lit 58,⟨(.type "frame"),none,.plain,#[some (.ref 57),some (.ref 3),some (.ref 54),none,some (vs "everywidth.errors" 187),none,some (.ref 0)]⟩)::(nat_lit 62,⟨(.type "super"),none,.fields #[(.ref 61),(.ref 61),(.ref 61)],#[]⟩)::(nat_lit 63,⟨(.type "builtin_function_or_method"),none,.fields #[(.builtin "object.__init_subclass__"),(.ref 61)],#[]⟩)::(nat_lit 65,⟨(.type "builtin_function_or_method"),none,.fields #[(.builtin "type.__prepare__"),(.type "type")],#[]⟩)::(nat_lit 66,⟨(.type "dict"),none,.dict #[en P "__module__" 262 (vs "everywidth.errors" 187),en P "__qualname__" 264 (vs "NoTurning" 263),en P "__firstlineno__" 266 (.int 10 265),en P "__static_attributes__" 267 (.ref 71)] 4,#[]⟩)::(nat_lit 67,t0)::(nat_lit 68,f0)::(nat_lit 69,⟨(.type "code"),none,.fields #[(vs "NoTurning" 257),(vs "NoTurning" 258),(vs "/claim/cut.py" 259),(.int 10 0),(.int 0 0),(.int 0 0),(.int 0 0),(.int 0 0),(.ref 67),(.bool false),(.int 181 0),(.ref 68),.none,.none,.none,.none,(.int 260 0),(.int 10 0),(vs "/claim/cut.py" 261)],#[]⟩)::(nat_lit 70,⟨(.type "frame"),none,.plain,#[some (.ref 69),some (.ref 3),some (.ref 66),none,some (vs "everywidth.errors" 187),none,some (.ref 0)]⟩)::(nat_lit 74,⟨(.type "super"),none,.fields #[(.ref 73),(.ref 73),(.ref 73)],#[]⟩)::(nat_lit 75,⟨(.type "builtin_function_or_method"),none,.fields #[(.builtin "object.__init_subclass__"),(.ref 73)],#[]⟩)::(nat_lit 77,⟨(.type "builtin_function_or_method"),none,.fields #[(.builtin "type.__prepare__"),(.type "type")],#[]⟩)::(nat_lit 78,⟨(.type "dict"),none,.dict #[en P "__module__" 278 (vs "everywidth.errors" 187),en P "__qualname__" 280 (vs "NoShorter" 279),en P "__firstlineno__" 282 (.int 12 281),en P "__static_attributes__" 283 (.ref 83)] 4,#[]⟩)::(nat_lit 79,t0)::(nat_lit 80,f0)::(nat_lit 81,⟨(.type "code"),none,.fields #[(vs "NoShorter" 273),(vs "NoShorter" 274),(vs "/claim/cut.py" 275),(.int 12 0),(.int 0 0),(.int 0 0),(.int 0 0),(.int 0 0),(.ref 79),(.bool false),(.int 181 0),(.ref 80),.none,.none,.none,.none,(.int 276 0),(.int 12 0),(vs "/claim/cut.py" 277)],#[]⟩)::(nat_lit 82,⟨(.type "frame"),none,.plain,#[some (.ref 81),some (.ref 3),some (.ref 78),none,some (vs "everywidth.errors" 187),none,some (.ref 0)]⟩)::(nat_lit 86,⟨(.type "super"),none,.fields #[(.ref 85),(.ref 85),(.ref 85)],#[]⟩)::(nat_lit 87,⟨(.type "builtin_function_or_method"),none,.fields #[(.builtin "object.__init_subclass__"),(.ref 85)],#[]⟩)::(nat_lit 89,⟨(.type "builtin_function_or_method"),none,.fields #[(.builtin "type.__prepare__"),(.type "type")],#[]⟩)::(nat_lit 90,⟨(.type "dict"),none,.dict #[en P "__module__" 294 (vs "everywidth.errors" 187),en P "__qualname__" 296 (vs "NoAsk" 295),en P "__firstlineno__" 298 (.int 14 297),en P "__static_attributes__" 299 (.ref 95)] 4,#[]⟩)::(nat_lit 91,t0)::(nat_lit 92,f0)::(nat_lit 93,⟨(.type "code"),none,.fields #[(vs "NoAsk" 289),(vs "NoAsk" 290),(vs "/claim/cut.py" 291),(.int 14 0),(.int 0 0),(.int 0 0),(.int 0 0),(.int 0 0),(.ref 91),(.bool false),(.int 181 0),(.ref 92),.none,.none,.none,.none,(.int 292 0),(.int 14 0),(vs "/claim/cut.py" 293)],#[]⟩)::(nat_lit 94,⟨(.type "frame"),none,.plain,#[some (.ref 93),some (.ref 3),some (.ref 90),none,some (vs "everywidth.errors" 187),none,some (.ref 0)]⟩)::(nat_lit 98,⟨(.type "super"),none,.fields #[(.ref 97),(.ref 97),(.ref 97)],#[]⟩)::(nat_lit 99,⟨(.type "builtin_function_or_method"),none,.fields #[(.builtin "object.__init_subclass__"),(.ref 97)],#[]⟩)::(nat_lit 101,⟨(.type "builtin_function_or_method"),none,.fields #[(.builtin "type.__prepare__"),(.type "type")],#[]⟩)::(nat_lit 102,⟨(.type "dict"),none,.dict #[en P "__module__" 310 (vs "everywidth.errors" 187),en P "__qualname__" 312 (vs "NoName" 311),en P "__firstlineno__" 314 (.int 16 313),en P "__init__" 322 (.ref 113),en P "__static_attributes__" 324 (.ref 114)] 5,#[]⟩)::(nat_lit 103,t0)::(nat_lit 104,fi [(.int 18 0),(.int 4 0),(.ref 112)])::(nat_lit 105,⟨(.type "code"),none,.fields #[(vs "NoName" 305),(vs "NoName" 306),(vs "/claim/cut.py" 307),(.int 16 0),(.int 0 0),(.int 0 0),(.int 0 0),(.int 0 0),(.ref 103),(.bool false),(.int 181 0),(.ref 104),.none,.none,.none,.none,(.int 308 0),(.int 16 0),(vs "/claim/cut.py" 309)],#[]⟩)::(nat_lit 106,⟨(.type "frame"),none,.plain,#[some (.ref 105),some (.ref 3),some (.ref 102),none,some (vs "everywidth.errors" 187),none,some (.ref 0)]⟩)::(nat_lit 117,⟨(.type "super"),none,.fields #[(.ref 116),(.ref 116),(.ref 116)],#[]⟩)::(nat_lit 118,⟨(.type "builtin_function_or_method"),none,.fields #[(.builtin "object.__init_subclass__"),(.ref 116)],#[]⟩)::[]
def mg : Nat → List (Nat × Obj) → List (Nat × Obj) → List Obj
  | 0, _, _ => []
  | _, [], m => m.map (·.2)
  | _, l, [] => l.map (·.2)
  | k + 1, x :: l, y :: m => match Nat.blt x.1 y.1 with
    | true => x.2 :: mg k l (y :: m)
    | false => y.2 :: mg k (x :: l) m
def ob (P : Params) : List Obj := mg 1000 (K P) (xo P)
def od : Bool → List Obj → List Obj
  | _, [] => []
  | true, x :: r => x :: od false r
  | false, _ :: r => od true r
def tL : Nat → List Obj → BT
  | 0, _ => .nil
  | _, [] => .nil
  | k + 1, x :: r => .node x (tL k (od true r)) (tL k (od false r))
def tn (P : Params) (n : Nat) : BT := tL 12 ((ob P).take n)
abbrev SS (T : BT) (n k : Nat) (o : OsState) : SharedT := ⟨T, n, {}, Array.mk [], {}, k, o⟩
def ev : Env := { scope := p.main.scope, locals := mainNs, globals := mainNs, cells := [], code := (.ref 13), frame := some 14 }
def c0 : Code := .body B ev
abbrev an : Option Value := some (.ref 6)
abbrev z0 : Pos := ⟨0, 0, 0, 0⟩
abbrev q0 : List Frame := [topFrame z0]
def sg (a b : Nat) : List Stmt := (B.drop a).take b
def pc (a b : Nat) (x : Pos) : Thread := piecesOf (sg a b) ev c0 x q0
def R (w : World) (o : OsState) (n : Nat) (S : Params → BT) (a k : Nat) (t : Thread) (S' : Params → BT) (a' k' : Nat) (y : Pos) : Prop := segRunT treeTable p w 11 an 1 n (SS (S w.params) a k o) t = some (.next, SS (S' w.params) a' k' o, c0, y)
variable (w : World) (o : OsState)
def S0 (P : Params) : BT := ((tn P 15).set 3 fun _ => boot_o_3 P).set 12 fun _ => tb 0
def S1 (P : Params) : BT := (((tn P 28).set 3 fun _ => md P "everywidth.errors" 187 1 10).set 12 fun _ => tb 1).set 24 fun _ => ⟨(.type "type"), none, .cls ⟨Str.ofString "WidthError", [(.type "ValueError")], [(.ref 24), (.type "ValueError"), (.type "Exception"), (.type "BaseException"), (.type "object")], 23, Str.ofString "WidthError", true, [], [], false, none, false⟩, #[some (.ref 15), none, some (vs "WidthError" 189), some (vs "WidthError" 197), some (.builtin "ValueError.__new__"), some (.bool true)]⟩
def S2 (P : Params) : BT := (((tn P 40).set 3 fun _ => md P "everywidth.errors" 187 2 11).set 12 fun _ => tb 2).set 24 fun _ => ⟨(.type "type"), none, .cls ⟨Str.ofString "WidthError", [(.type "ValueError")], [(.ref 24), (.type "ValueError"), (.type "Exception"), (.type "BaseException"), (.type "object")], 23, Str.ofString "WidthError", true, [], [(.ref 37)], false, none, false⟩, #[some (.ref 15), none, some (vs "WidthError" 189), some (vs "WidthError" 197), some (.builtin "ValueError.__new__"), some (.bool true)]⟩
def S3 (P : Params) : BT := (((tn P 52).set 3 fun _ => md P "everywidth.errors" 187 3 12).set 12 fun _ => tb 3).set 24 fun _ => ⟨(.type "type"), none, .cls ⟨Str.ofString "WidthError", [(.type "ValueError")], [(.ref 24), (.type "ValueError"), (.type "Exception"), (.type "BaseException"), (.type "object")], 23, Str.ofString "WidthError", true, [], [(.ref 37), (.ref 49)], false, none, false⟩, #[some (.ref 15), none, some (vs "WidthError" 189), some (vs "WidthError" 197), some (.builtin "ValueError.__new__"), some (.bool true)]⟩
def S4 (P : Params) : BT := (((tn P 64).set 3 fun _ => md P "everywidth.errors" 187 4 13).set 12 fun _ => tb 4).set 24 fun _ => ⟨(.type "type"), none, .cls ⟨Str.ofString "WidthError", [(.type "ValueError")], [(.ref 24), (.type "ValueError"), (.type "Exception"), (.type "BaseException"), (.type "object")], 23, Str.ofString "WidthError", true, [], [(.ref 37), (.ref 49), (.ref 61)], false, none, false⟩, #[some (.ref 15), none, some (vs "WidthError" 189), some (vs "WidthError" 197), some (.builtin "ValueError.__new__"), some (.bool true)]⟩
def S5 (P : Params) : BT := (((tn P 76).set 3 fun _ => md P "everywidth.errors" 187 5 14).set 12 fun _ => tb 5).set 24 fun _ => ⟨(.type "type"), none, .cls ⟨Str.ofString "WidthError", [(.type "ValueError")], [(.ref 24), (.type "ValueError"), (.type "Exception"), (.type "BaseException"), (.type "object")], 23, Str.ofString "WidthError", true, [], [(.ref 37), (.ref 49), (.ref 61), (.ref 73)], false, none, false⟩, #[some (.ref 15), none, some (vs "WidthError" 189), some (vs "WidthError" 197), some (.builtin "ValueError.__new__"), some (.bool true)]⟩
def S6 (P : Params) : BT := (((tn P 88).set 3 fun _ => md P "everywidth.errors" 187 6 15).set 12 fun _ => tb 6).set 24 fun _ => ⟨(.type "type"), none, .cls ⟨Str.ofString "WidthError", [(.type "ValueError")], [(.ref 24), (.type "ValueError"), (.type "Exception"), (.type "BaseException"), (.type "object")], 23, Str.ofString "WidthError", true, [], [(.ref 37), (.ref 49), (.ref 61), (.ref 73), (.ref 85)], false, none, false⟩, #[some (.ref 15), none, some (vs "WidthError" 189), some (vs "WidthError" 197), some (.builtin "ValueError.__new__"), some (.bool true)]⟩
def S7 (P : Params) : BT := (((tn P 100).set 3 fun _ => md P "everywidth.errors" 187 7 16).set 12 fun _ => tb 7).set 24 fun _ => ⟨(.type "type"), none, .cls ⟨Str.ofString "WidthError", [(.type "ValueError")], [(.ref 24), (.type "ValueError"), (.type "Exception"), (.type "BaseException"), (.type "object")], 23, Str.ofString "WidthError", true, [], [(.ref 37), (.ref 49), (.ref 61), (.ref 73), (.ref 85), (.ref 97)], false, none, false⟩, #[some (.ref 15), none, some (vs "WidthError" 189), some (vs "WidthError" 197), some (.builtin "ValueError.__new__"), some (.bool true)]⟩
def S8 (P : Params) : BT := ((tn P 119).set 3 fun _ => md P "everywidth.vocabulary" 328 8 17).set 12 fun _ => tb 8
def S9 (P : Params) : BT := ((tn P 129).set 3 fun _ => md P "everywidth.vocabulary" 328 14 23).set 12 fun _ => tb 9
def S10 (P : Params) : BT := ((tn P 183).set 3 fun _ => md P "everywidth.sums.turns" 469 22 31).set 12 fun _ => tb 17
def S11 (P : Params) : BT := ((tn P 262).set 3 fun _ => md P "everywidth.sums.turns" 469 23 32).set 12 fun _ => tb 17
def S12 (P : Params) : BT := ((tn P 342).set 3 fun _ => md P "law_everywidth_k37_no_turning" 730 35 44).set 12 fun _ => tb 29
def S13 (P : Params) : BT := ((tn P 422).set 3 fun _ => md P "law_everywidth_k37_no_turning" 730 47 56).set 12 fun _ => tb 41
def S14 (P : Params) : BT := tn P 427
def H1 (P : Params) : Heap := ⟨Array.mk (ob P), {}⟩
theorem pre : topGo treeTable p w 11 an 12 ⟨boot_heap w.params, Array.mk [], boot_drawn, boot_toks, o⟩ (topStub p) = some ((SS (S0 w.params) 15 187 o).abs, ⟨denote treeTable c0, c0, z0, q0⟩) := by
  rw [Fast.te15667345088766844465, Fast.te14364793385576792824, Fast.te11892475500146522536]; kernel_rfl
theorem blk : segRunT treeTable p w 11 an 1 1 (SS (S0 w.params) 15 187 o) (blockOf B ev c0 z0 q0) = some (.next, SS (S0 w.params) 15 187 o, c0, z0) := by
  rw [Fast.te10110043849684766642, Fast.te14364793385576792824]; kernel_rfl
theorem g1 : R w o 196 S0 15 187 (pc 0 2 z0) S1 28 207 ⟨2, 0, 3, 8⟩ := by
  unfold R; rw [Fast.te10110043849684766642, Fast.te14364793385576792824]; kernel_rfl
theorem g2 : R w o 214 S1 28 207 (pc 2 1 ⟨2, 0, 3, 8⟩) S2 40 223 ⟨4, 0, 5, 8⟩ := by
  unfold R; rw [Fast.te10110043849684766642, Fast.te14364793385576792824]; kernel_rfl
theorem g3 : R w o 214 S2 40 223 (pc 3 1 ⟨4, 0, 5, 8⟩) S3 52 239 ⟨6, 0, 7, 8⟩ := by
  unfold R; rw [Fast.te10110043849684766642, Fast.te14364793385576792824]; kernel_rfl
theorem g4 : R w o 214 S3 52 239 (pc 4 1 ⟨6, 0, 7, 8⟩) S4 64 255 ⟨8, 0, 9, 8⟩ := by
  unfold R; rw [Fast.te10110043849684766642, Fast.te14364793385576792824]; kernel_rfl
theorem g5 : R w o 214 S4 64 255 (pc 5 1 ⟨8, 0, 9, 8⟩) S5 76 271 ⟨10, 0, 11, 8⟩ := by
  unfold R; rw [Fast.te10110043849684766642, Fast.te14364793385576792824]; kernel_rfl
theorem g6 : R w o 214 S5 76 271 (pc 6 1 ⟨10, 0, 11, 8⟩) S6 88 287 ⟨12, 0, 13, 8⟩ := by
  unfold R; rw [Fast.te10110043849684766642, Fast.te14364793385576792824]; kernel_rfl
theorem g7 : R w o 214 S6 88 287 (pc 7 1 ⟨12, 0, 13, 8⟩) S7 100 303 ⟨14, 0, 15, 8⟩ := by
  unfold R; rw [Fast.te10110043849684766642, Fast.te14364793385576792824]; kernel_rfl
theorem g8 : R w o 255 S7 100 303 (pc 8 2 ⟨14, 0, 15, 8⟩) S8 119 330 ⟨20, 0, 20, 8⟩ := by
  unfold R; rw [Fast.te10110043849684766642, Fast.te14364793385576792824]; kernel_rfl
theorem g9f : R (w.withFollow "special-get-raises" false) o 378 S8 119 330 (pc 10 6 ⟨20, 0, 20, 8⟩) S9 129 404 ⟨26, 0, 27, 28⟩ := by
  unfold R; rw [Fast.te10110043849684766642, Fast.te14364793385576792824]; kernel_rfl
theorem g9t : R (w.withFollow "special-get-raises" true) o 378 S8 119 330 (pc 10 6 ⟨20, 0, 20, 8⟩) S9 129 404 ⟨26, 0, 27, 28⟩ := by
  unfold R; rw [Fast.te10110043849684766642, Fast.te14364793385576792824]; kernel_rfl
theorem g9 (w : World) : ∀ o : OsState, R w o 378 S8 119 330 (pc 10 6 ⟨20, 0, 20, 8⟩) S9 129 404 ⟨26, 0, 27, 28⟩ := byRow2 "special-get-raises" (P := fun w => ∀ o : OsState, R w o 378 S8 119 330 (pc 10 6 ⟨20, 0, 20, 8⟩) S9 129 404 ⟨26, 0, 27, 28⟩) g9f g9t w
theorem g10 : R w o 256 S9 129 404 (pc 16 10 ⟨26, 0, 27, 28⟩) S10 183 471 ⟨59, 0, 59, 8⟩ := by
  unfold R; rw [Fast.te10110043849684766642, Fast.te14364793385576792824]; kernel_rfl
theorem g11 : R w o 375 S10 183 471 (pc 26 1 ⟨59, 0, 59, 8⟩) S11 262 680 ⟨60, 0, 60, 8⟩ := by
  unfold R; rw [Fast.te10110043849684766642, Fast.te14364793385576792824]; kernel_rfl
theorem g12 : R w o 387 S11 262 680 (pc 27 13 ⟨60, 0, 60, 8⟩) S12 342 799 ⟨140, 0, 151, 53⟩ := by
  unfold R; rw [Fast.te10110043849684766642, Fast.te14364793385576792824]; kernel_rfl
theorem g13 : R w o 385 S12 342 799 (pc 40 12 ⟨140, 0, 151, 53⟩) S13 422 923 ⟨256, 0, 263, 24⟩ := by
  unfold R; rw [Fast.te10110043849684766642, Fast.te14364793385576792824]; kernel_rfl
theorem g14 : R w o 27 S13 422 923 (pc 52 1 ⟨256, 0, 263, 24⟩) S14 427 929 ⟨264, 0, 288, 34⟩ := by
  unfold R; rw [Fast.te10110043849684766642, Fast.te14364793385576792824]; kernel_rfl
theorem fn : topRun treeTable p w 11 an 2 (SS (S14 w.params) 427 929 o).abs ⟨doneF .next, c0, ⟨264, 0, 288, 34⟩, q0⟩ = some ⟨H1 w.params, Array.mk [], {}, 929, o⟩ := by
  rw [Fast.te14082659384304107361, Fast.te14364793385576792824]; kernel_rfl
theorem sp : B = sg 0 2 ++ (sg 2 1 ++ (sg 3 1 ++ (sg 4 1 ++ (sg 5 1 ++ (sg 6 1 ++ (sg 7 1 ++ (sg 8 2 ++ (sg 10 6 ++ (sg 16 10 ++ (sg 26 1 ++ (sg 27 13 ++ (sg 40 12 ++ (sg 52 1 ++ []))))))))))))) := by kernel_rfl
theorem bl {w : World} {N : Nat} {s s' r : Shared} {b : List Stmt} {x y : Pos} {n : Nat} (e : B = b) (h : segRun treeTable p w 11 an 1 n s (blockOf B ev c0 x q0) = some (.next, s', c0, y)) (k : topRun treeTable p w 11 an N s' (restOf b ev c0 y q0) = some r) : topRun treeTable p w 11 an (n + N) s ⟨denote treeTable c0, c0, x, q0⟩ = some r :=
  piece_block h (by rw [e]; exact k)
theorem rn : topRun treeTable p w 11 an (12 + (1 + (196 + (214 + (214 + (214 + (214 + (214 + (214 + (255 + (378 + (256 + (375 + (387 + (385 + (27 + (2))))))))))))))))) ⟨boot_heap w.params, Array.mk [], boot_drawn, boot_toks, o⟩ (topStub p) = some ⟨H1 w.params, Array.mk [], {}, 929, o⟩ :=
  go_top (pre w o) (bl sp (segRun_of (blk w o)) (piece_app (segRun_of (g1 w o)) (piece_app (segRun_of (g2 w o)) (piece_app (segRun_of (g3 w o)) (piece_app (segRun_of (g4 w o)) (piece_app (segRun_of (g5 w o)) (piece_app (segRun_of (g6 w o)) (piece_app (segRun_of (g7 w o)) (piece_app (segRun_of (g8 w o)) (piece_app (segRun_of (g9 w o)) (piece_app (segRun_of (g10 w o)) (piece_app (segRun_of (g11 w o)) (piece_app (segRun_of (g12 w o)) (piece_app (segRun_of (g13 w o)) (piece_app (segRun_of (g14 w o)) (fn w o))))))))))))))))
def rg (l : List Stmt) : List (Nat × Nat) → List Stmt
  | [] => []
  | x :: r => (l.drop x.1).take x.2 ++ rg l r
def vw : Program := { p with main := { p.main with body := rg p.main.body [(1, 8), (10, 12), (23, 2), (26, 7), (34, 19)] } }
def lo : List Str := [Str.ofString "SUM_PARTS", Str.ofString "SUMS_IN_CLAIM", Str.ofString "CLAIMS_IN_CLAIM"]
def xt (s : Shared) : Bool := xlAt vw [] s && recOk PySem.Challenge.rw_everywidth_k37_no_turning.row.toRowW.records s
def as : List Addr := List.range' 0 16 ++ List.range' 22 4 ++ List.range' 28 1 ++ List.range' 35 3 ++ List.range' 40 1 ++ List.range' 47 3 ++ List.range' 52 1 ++ List.range' 59 3 ++ List.range' 64 1 ++ List.range' 71 3 ++ List.range' 76 1 ++ List.range' 83 3 ++ List.range' 88 1 ++ List.range' 95 3 ++ List.range' 100 1 ++ List.range' 107 10 ++ List.range' 119 308
theorem sz : ((boot_heap w.params).isNs mainGlobals && (Array.mk [] : Array GenState).size == 0, (boot_heap w.params).objs.size, (boot_heap w.params).nsMap mainGlobals "__annotations__") = (true, 11, an) := by
  rw [Fast.te8920871248978507458]; kernel_rfl
abbrev sh (w : World) (o : OsState) : Shared := ⟨H1 w.params, Array.mk [], {}, 929, o⟩
theorem l1 : (staticsOk (importedModules p.main.body) (boot_heap w.params) (H1 w.params) && namesBound p (H1 w.params) && gensDone (sh w o) && laidKept (boot_heap w.params) (H1 w.params)) = true := by
  rw [Fast.te5923862056798008813]; kernel_rfl
theorem l2 : openSeen vw lo (importedModules p.main.body) xt true (sh w o) = openGood vw lo := by
  rw [Fast.te4187177175401517315, Fast.te5923862056798008813]; kernel_rfl
theorem l3 : X.obsZ as (sh w o) = X.valZ K 427 929 w := by kernel_rfl
theorem left : LeftO p vw lo xt (X.obsZ as) (X.valZ K 427 929) 7184 :=
  LeftO.of_pieces (boot_open (by kernel_rfl) (by kernel_rfl) (fun _ => by kernel_rfl)) sz rn (by kernel_rfl) fun w => funext fun o => looks_pair (l1 w o) (looks_pair (l2 w o) (l3 w o))
end Hw
end
set_option Elab.async false
set_option linter.all false
set_option maxRecDepth 100000
noncomputable section
def Qaa:=@PySem.wpAny_bind
def Qab:=@List.length_append
def Qac:=@PySem.Heap.get?_push_of_some
def Qad:=@decide_eq_true
def Qae:=@List.mem_of_getElem?
def Qaf:=@List.mem_append_right
def Qag:=@List.getElem?_eq_getElem
def Qah:=@List.getElem?_eq_some_iff
def Qai:=@List.mem_singleton
def Qaj:=@PySem.wpAny_pure
def Qak:=@List.size_toArray
def Qal:=@decide_eq_false
def Qam:=@List.mem_append
def Qan:=@List.length_cons
def Qao:=@Nat.le_refl
def Qap:=@of_decide_eq_true
def Qaq:=@List.mem_cons_self
def Qar:=@List.mem_cons_of_mem
def Qas:=@List.mem_cons
def Qat:=@PySem.Heap.lt_size
def Qau:=@PySem.Heap.get?_push_size
def Qav:=@Bool.false_ne_true
def Qaw:=@Nat.lt_of_lt_of_le
def Qax:=@List.append_nil
def Qay:=@List.mem_append_left
def Qaz:=@List.length_map
def Qa0:=@Nat.le_trans
def Qa1:=@Bool.and_eq_true
def Qa2:=@PySem.wpAny_field
def Qa3:=@List.map_cons
def Qa4:=@if_pos
def Qa5:=@if_neg
def Qa6:=@Nat.lt_irrefl
def Qa7:=@List.map_append
def Qa8:=@Nat.zero_le
def Qa9:=@PySem.wpAny_setField_rec
def Qba:=@Int.emod_lt_of_pos
def Qbb:=@List.append_assoc
def Qbc:=@List.getElem?_map
def Qbd:=@Bool.and_eq_true_iff
def Qbe:=@PyProof.Rows.slot_tuple_getitem
def Qbf:=@Nat.ne_of_lt
def Qbg:=@Nat.le_of_lt
def Qbh:=@PySem.wpAny_newObj_type
def Qbi:=@List.lookup_cons
def Qbj:=@PySem.lookup_relabel_local
def Qbk:=@Int.emod_nonneg
def Qbl:=@PySem.PassesOwn.never
def Qbm:=@PySem.F.plainAttrs_list
def Qbn:=@PySem.Obj.data_mapFields
def Qbo:=@List.take_length
def Qbp:=@List.mem_map
def Qbq:=@List.getElem?_of_mem
def Qbr:=@PySem.wpAny_call_entry
def Qbs:=@PySem.W.kia_one
def Qbt:=@List.all_eq_true
def Qbu:=@Bool.eq_iff_iff
def Qbv:=@PySem.Heap.size_push
def Qbw:=@Int.toNat_natCast
def Qbx:=@List.drop_eq_getElem_cons
def Qby:=@PySem.Heap.get?_update_other
def Qbz:=@List.mem_filter
def Qb0:=@PySem.F.slot_enumerate_next
def Qb1:=@Nat.mod_two_eq_zero_or_one
def Qb2:=@PySem.wpAny_seqItems
def Qb3:=@PySem.wpAny_holding
def Qb4:=@List.getElem_mem
def Qb5:=@beq_self_eq_true
def Qb6:=@List.not_mem_nil
def Qb7:=@PySem.F.args_tuple_add_2
def Qb8:=@Int.ediv_one
def Qb9:=@PySem.Heap.get?_update_self
def Qca:=@List.flatMap_cons
def Qcb:=@PySem.F.slot_list_append
def Qcc:=@PySem.F.type_list_append
def Qcd:=@Ne.symm
def Qce:=@PySem.F.entry_tuple_add
def Qcf:=@decide_eq_true_iff
def Qcg:=@PySem.wpAny_mono
def Qch:=@PySem.F.slot_tuple_add
def Qci:=@Array.getElem?_setIfInBounds_ne
def Qcj:=@List.flatMap_append
def Qck:=@List.mem_range
def Qcl:=@List.all_cons
def Qcm:=@PySem.wpAny_attempt
def Qcn:=@PySem.wpAny_setField
def Qco:=@List.nodup_cons
def Qcp:=@PySem.Obj.isFreed_of_fields
def Qcq:=@PySem.W.mg_none_of
def Qcr:=@List.length_take
def Qcs:=@PySem.wpAny_isInstance
def Qct:=@PyProof.Rows.callWith_type1
def Qcu:=@PySem.wpAny_of_eq
def Qcv:=@List.getElem?_append_right
def Qcw:=@Array.getElem?_eq_some_iff
def Qcx:=@PySem.F.slot_tuple_iterator_next
def Qcy:=@PySem.W.mg_of
def Qcz:=@Nat.ne_of_gt
def Qc0:=@List.length_replicate
def Qc1:=@Bool.false_eq_true
def Qc2:=@Nat.pow_le_pow_right
def Qc3:=@PySem.wpAny_passesOwn
def Qc4:=@PySem.wpAny_pyIter_list
def Qc5:=@PySem.wpAny_specialOf
def Qc6:=@List.find?_cons
def Qc7:=@beq_iff_eq
def Qc8:=@beq_eq_false_iff_ne
def Qc9:=@Array.length_toList
def Qda:=@PySem.mem_of_lookup
def Qdb:=@PySem.Heap.SameBut.update
def Qdc:=@PySem.F.args_enumerate_next_1
def Qdd:=@List.map_congr_left
def Qde:=@List.filter_cons_of_pos
def Qdf:=@List.filter_cons_of_neg
def Qdg:=@Nat.lt_succ_self
def Qdh:=@List.any_eq_true
def Qdi:=@List.eq_nil_of_length_eq_zero
def Qdj:=@PySem.wpAny_rule
def Qdk:=@List.getElem?_set_self
def Qdl:=@PySem.F.entry_enumerate_next
def Qdm:=@PySem.wpAny_pyIter_tuple
def Qdn:=@List.mem_filterMap
def Qdo:=@PySem.wpAny_execs_nil
def Qdp:=@List.map_map
def Qdq:=@List.take_append_drop
def Qdr:=@PySem.wpAny_truthy_bool
def Qds:=@List.reverse_cons
def Qdt:=@PySem.Obj.cls_mapFields
def Qdu:=@Bool.and_true
def Qdv:=@Int.emod_eq_of_lt
def Qdw:=@PySem.F.excBase_ValueError
def Qdx:=@List.getElem?_append_left
def Qdy:=@decide_eq_decide
def Qdz:=@PySem.sizeLine_eq
def Qd0:=@List.mem_map_of_mem
def Qd1:=@Nat.le_of_eq
def Qd2:=@PySem.wpAny_comprehension_free
def Qd3:=@PySem.Calls.spliced_cons
def Qd4:=@PySem.wpAny_Call_Name_kw
def Qd5:=@Nat.lt_of_le_of_lt
def Qd6:=@List.forIn_cons
def Qd7:=@PySem.slot_listiter_next
def Qd8:=@Int.natCast_nonneg
def Qd9:=@List.append_cancel_left
def Qea:=@Nat.min_eq_left
def Qeb:=@PySem.Calls.callWith_builtin
def Qec:=@PySem.codeAny_compStart_list
def Qed:=@PySem.W.kitx_none
def Qee:=@PySem.call_meets
def Qef:=@List.eraseIdxIfInBounds_toArray
def Qeg:=@Nat.lt_succ_of_lt
def Qeh:=@List.nodup_append
def Qei:=@Array.getElem?_toList
def Qej:=@PySem.builtinLookup_eq_fast
def Qek:=@Int.pow_succ
def Qel:=@Int.mul_comm
def Qem:=@Int.pow_zero
def Qen:=@PySem.noFill_tuple_add
def Qeo:=@List.getElem?_set_ne
def Qep:=@PySem.Calls.evalArgs_plain
def Qeq:=@PySem.wpAny_newFunctionEnv
def Qer:=@PySem.wpAny_updateSeq_pair
def Qes:=@PySem.wpAny_standAt
def Qet:=@List.any_cons
def Qeu:=@PySem.F.args_tuple_iterator_next_1
def Qev:=@PySem.wpAny_onRaise
def Qew:=@or_false
def Qex:=@List.filterMap_cons
def Qey:=@Nat.le_succ
def Qez:=@PySem.wpAny_mkInt
def Qe0:=@Option.map_some
def Qe1:=@List.length_nil
def Qe2:=@PySem.F.entry_tuple_iterator_next
def Qe3:=@PySem.F.slot_zip_next
def Qe4:=@List.append_inj
def Qe5:=@Int.ediv_nonneg
def Qe6:=@PySem.wpAny_forIn_array'
def Qe7:=@List.filter_append
def Qe8:=@Nat.zero_add
def Qe9:=@Bool.and_false
def Qfa:=@PySem.isSubtype_type
def Qfb:=@PySem.isSubtype_stop
def Qfc:=@PySem.wpAny_newTuple
def Qfd:=@List.forIn_nil
def Qfe:=@List.drop_zero
def Qff:=@List.drop_left
def Qfg:=@PySem.wpAny_assign_Name
def Qfh:=@PySem.Calls.spliced_nil
def Qfi:=@List.push_toArray
def Qfj:=@Bool.eq_false_iff
def Qfk:=@PySem.F.slot_tuple_repr
def Qfl:=@PySem.seq_tuple_add
def Qfm:=@if_false
def Qfn:=@PySem.wpAny_letGo
def Qfo:=@Int.emod_emod
def Qfp:=@PySem.wpAny_pyHash_int
def Qfq:=@PySem.wpAny_execs_cons
def Qfr:=@List.length_drop
def Qfs:=@Nat.succ_le_succ
def Qft:=@List.getElem_zip
def Qfu:=@List.filter_cons
def Qfv:=@Array.toList_inj
def Qfw:=@List.mem_flatMap
def Qfx:=@List.drop_length
def Qfy:=@PySem.codeAny_mono
def Qfz:=@List.of_mem_zip
def Qf0:=@List.length_set
def Qf1:=@PySem.SeqAt.EqAt.same
def Qf2:=@List.length_zip
def Qf3:=@PySem.typeLookup_type
def Qf4:=@Nat.lt_or_ge
def Qf5:=@Int.add_emod
def Qf6:=@Int.sub_emod
def Qf7:=@PySem.wpAny_call
def Qf8:=@PySem.seqIndex_of
def Qf9:=@if_true
variable {a C z:PySem.Addr}
variable {i n:Nat}
variable {x:PySem.Str}
variable {e o:PySem.Expr}
variable {N:List PySem.Str}
variable {p J:PySem.Pos}
variable {v M:PySem.Value}
variable {h U:PySem.Heap}
variable {Q:PySem.Value->PySem.Shared->Prop}
variable {K:PySem.W.Frag}
variable {f:PySem.Shared}
variable {P:PySem.Program}
variable {w:PySem.World}
variable {j:Int}
variable {m:Bool}
variable {q:Array PySem.Value}
variable {r:List PySem.Value}
variable {A:List Int}
variable {D:Type}
variable {E:List (PySem.Addr × PySem.Obj)}
variable {L:List PySem.Expr}
variable {T:PySem.Str->Option PySem.Value}
namespace L2
open PySem PySem.Spec PyProof.Rows
abbrev Key:=Sum Int Str
def jI:Key->Value->Bool
 | .inl k,v=>Value.isInt k v
 | .inr x,v=>Value.isStrOf x v
def keyH(w:World):Key->Int
 | .inl k=>hashInt k
 | .inr x=>hashStr w x
theorem ZP:∀{k:Key} {v:Value},jI k v=true->(∃i t,k=Sum.inl i/\v=Value.int i t)\/(∃x t,k=Sum.inr x/\v=Value.str x t)
 | .inl i,v,h=>by
  obtain ⟨t,e⟩:=Value.isInt_shape (k:=i) (v:=v) h;exact .inl ⟨i,t,rfl,e⟩
 | .inr x,v,h=>by
  obtain ⟨t,e⟩:=Value.isStrOf_shape (x:=x) (v:=v) h;exact .inr ⟨x,t,rfl,e⟩
theorem yx(i:Int)(t:Tok):jI (.inl i) (.int i t)=true:=by simp [jI,Value.isInt]
theorem yy(x:Str)(t:Tok):jI (.inr x) (.str x t)=true:=by simp [jI,Value.isStrOf]
theorem key_ll(a b:Int):decide ((Sum.inl a:Key)=Sum.inl b)=(a == b):=by
 by_cases e:a=b
 ·subst e;simp
 ·have h:¬(Sum.inl a:Key)=Sum.inl b:=fun q=>e (Sum.inl.inj q)
  rw [Qal h];exact (Qc8.mpr e).symm
theorem key_rr(a b:Str):decide ((Sum.inr a:Key)=Sum.inr b)=decide (a=b):=by
 by_cases e:a=b
 ·subst e;simp
 ·have h:¬(Sum.inr a:Key)=Sum.inr b:=fun q=>e (Sum.inr.inj q)
  rw [Qal h,Qal e]
theorem key_lr(a:Int)(b:Str):decide ((Sum.inl a:Key)=Sum.inr b)=false:=Qal (fun q=>nomatch q)
theorem key_rl(a:Str)(b:Int):decide ((Sum.inr a:Key)=Sum.inl b)=false:=Qal (fun q=>nomatch q)
def ZT(prog:Program)(w:World):PySem.KeyKind prog w Key where
 is:=jI
 hash:=keyH w
 inj:=fun v a b ha hb=>by
  rcases ZP ha with ⟨i,t,rfl,rfl⟩ | ⟨x,t,rfl,rfl⟩
  ·rcases ZP hb with ⟨j,u,rfl,e⟩ | ⟨y,u,rfl,e⟩
   ·injection e with e1 _;rw [e1]
   ·exact nomatch e
  ·rcases ZP hb with ⟨j,u,rfl,e⟩ | ⟨y,u,rfl,e⟩
   ·exact nomatch e
   ·injection e with e1 _;rw [e1]
 byValue:=fun k v h=>by
  rcases ZP h with ⟨i,t,rfl,rfl⟩ | ⟨x,t,rfl,rfl⟩ <;> rfl
 pyHash:=fun hv h=>by
  rcases ZP hv with ⟨i,t,rfl,rfl⟩ | ⟨x,t,rfl,rfl⟩
  ·exact Qfp h
  ·exact wpAny_pyHash_str h
 eqBool:=fun hu hv h=>by
  rcases ZP hu with ⟨i,t,rfl,rfl⟩ | ⟨x,t,rfl,rfl⟩
  ·rcases ZP hv with ⟨j,u,rfl,rfl⟩ | ⟨y,u,rfl,rfl⟩
   ·rw [key_ll] at h;exact wpAny_eqBool_int h
   ·rw [key_lr] at h;exact SeqAt.EqAt.int_str i t y u _ _ _ _ h
  ·rcases ZP hv with ⟨j,u,rfl,rfl⟩ | ⟨y,u,rfl,rfl⟩
   ·rw [key_rl] at h;exact SeqAt.EqAt.str_int x t j u _ _ _ _ h
   ·rw [key_rr] at h;exact wpAny_eqBool_str h
 «strs»:=fun k x t v h=>by
  rcases ZP h with ⟨i,u,rfl,e⟩ | ⟨y,u,rfl,e⟩
  ·exact nomatch e
  ·injection e with e1 _
   subst e1;cases v <;> rfl
theorem xY(prog:Program)(w:World)(i:Int)(t:Tok):(ZT prog w).is (.inl i) (.int i t)=true:=yx i t
theorem Wz(prog:Program)(w:World)(x:Str)(t:Tok):(ZT prog w).is (.inr x) (.str x t)=true:=yy x t
inductive V where
 | non | bl (b:Bool) | int (i:Int) | str (x:Str) | byt (b:Array UInt8) | flt (b:UInt64) | ref (a:Addr) | ty (n:String)
 deriving DecidableEq
def RelV:V->Value->Prop
 | .non,u=>u=Value.none
 | .bl b,u=>u=Value.bool b
 | .int i,u=>∃t,u=Value.int i t
 | .str x,u=>∃t,u=Value.str x t
 | .byt b,u=>∃t,u=Value.bytes b t
 | .flt b,u=>∃t,u=Value.float b t
 | .ref a,u=>u=Value.ref a
 | .ty n,u=>u=Value.type n
abbrev Vals:List V->List Value->Prop:=Paired RelV
theorem Vals.length{xs:List V}{d:List Value}(r:Vals xs d):xs.length=d.length:=Paired.length r
theorem Vals.get:∀{xs:List V} {d:List Value} {i:Nat} {x:V},Vals xs d->xs[i]?=some x->∃u,d[i]?=some u/\RelV x u
 | _,_,_,_,.nil,e=>by simp at e
 | _,_,0,_,.cons r _,e=>by simp at e;subst e;exact ⟨_,rfl,r⟩
 | _,_,i + 1,x,.cons _ t,e=>by
  obtain ⟨u,h1,h2⟩:=Vals.get (i:=i) (x:=x) t (by simpa using e);exact ⟨u,by simpa using h1,h2⟩
theorem Vals.set{x:V}{u:Value}(r:RelV x u):∀{xs:List V} {d:List Value} (i:Nat),Vals xs d->Vals (xs.set i x) (d.set i u)
 | _,_,_,.nil=>.nil
 | _,_,0,.cons _ t=>.cons r t
 | _,_,i + 1,.cons q t=>.cons q (Vals.set r i t)
theorem Vals.append:∀{xs ys:List V} {d f:List Value},Vals xs d->Vals ys f->Vals (xs++ys) (d++f)
 | _,_,_,_,.nil,s=>s
 | _,_,_,_,.cons r t,s=>.cons r (Vals.append t s)
theorem Vals.take:∀{xs:List V} {d:List Value} (n:Nat),Vals xs d->Vals (xs.take n) (d.take n)
 | _,_,0,_=>.nil
 | _,_,_ + 1,.nil=>.nil
 | _,_,n + 1,.cons r t=>.cons r (Vals.take n t)
theorem Vals.drop:∀{xs:List V} {d:List Value} (n:Nat),Vals xs d->Vals (xs.drop n) (d.drop n)
 | _,_,0,r=>r
 | _,_,_ + 1,.nil=>.nil
 | _,_,n + 1,.cons _ t=>Vals.drop n t
theorem Vals.none_of:∀{xs:List V} {d:List Value} {i:Nat},Vals xs d->xs[i]?=none->d[i]?=none:=fun {xs d i} r e=>by
 have h1:=r.length;have h2:xs.length<=i:=List.getElem?_eq_none_iff.mp e;exact List.getElem?_eq_none_iff.mpr (by lia)
def xc:Option V->Option Value->Prop
 | some v,some u=>RelV v u
 | none,none=>True
 | _,_=>False
def KV:List (D × V)->List (D × Value)->Prop:=Paired fun (p:D × V) (q:D × Value)=>p.1=q.1/\RelV p.2 q.2
def kV:Key->V
 | .inl i=>.int i
 | .inr x=>.str x
inductive HO where
 /-- a list -/
 | lst (xs:List V)
 /-- a tuple (never changes) -/
 | tup (xs:List V)
 /-- a dict whose keys are ints and texts; one whose keys are tuples of ints and texts (the empty one is both) -/
 | dK (kvs:List (Key × V)) | dT (kvs:List (List Key × V))
 /-- a set of ints: its members, its size -/
 | set (S:Int->Bool) (n:Nat)
 /-- an instance of the class at C, its dict at dx, its attributes -/
 | ins (C dx:Addr) (fs:List (Str × V))
 /-- the dict of the instance at x -/
 | own (x:Addr)
 /-- the dict of an exception -/
 | xd (fs:List (Str × V))
 /-- a bound method, f of x -/
 | met (f x:Addr)
 /-- a range object lo, lo + 1, .. below hi -/
 | rng (lo hi:Int)
 /-- a thing that is known to the object (the script; a dict while a loop walks it): read, never written while it is so -/
 | frz (o:Obj) (u:HO)
 /-- a code object's table -/
 | tbl (ps:Array Value)
 /-- any other thing, by what is true of its one object (a def of one's own: SetO a S n := HO.ext fun h => ..) -/
 | ext (φ:Heap->Prop)
abbrev Hp:=Addr->Option HO
def upd(H:Hp)(a:Addr)(o:HO):Hp:=fun b=>if b=a then some o else H b
theorem Zc{H:Hp}{o:HO}:upd H a o a=some o:=by unfold upd;rw [Qa4 rfl]
theorem Zs{H:Hp}{b:Addr}{o:HO}(h:b≠a):upd H a o b=H b:=by unfold upd;rw [Qa5 h]
theorem XI{H:Hp}{b:Addr}{o u:HO}(h:H a=some o)(h':H b=some u)(d:o≠u):a≠b:=by
 intro e;subst e;rw [h] at h';exact d (Option.some.inj h')
theorem Z9{H:Hp}{b:Addr}{o:HO}(h:H a=some o)(h':H b=none):a≠b:=by
 intro e;subst e;rw [h] at h';cases h'
def jJ (h:Heap) (a:Addr) (xs:Array Value):Prop:=∃o,h.get? a=some o/\o.cls=.type "tuple" /\ (∃n,o.data=.seq xs n)/\o.dict=none
theorem jJ.tup{h:Heap}{a:Addr}{xs:Array Value}(p:jJ h a xs):IsTup h a xs:=let ⟨o,e,c,d,_⟩:=p;⟨o,e,c,d⟩
theorem jJ.new (h:Heap) (xs:Array Value):jJ (h.push { cls:=.type "tuple",data:=.seq xs }) h.objs.size xs:=⟨_,Qau _ rfl,rfl,⟨_,rfl⟩,rfl⟩
theorem jJ.lt{h:Heap}{a:Addr}{xs:Array Value}(p:jJ h a xs):a < h.objs.size:=p.tup.lt
section
variable (P:Program)(w:World)
def Yc(H:Hp)(h:Heap)(a:Addr):HO->Prop
 | .lst xs=>xs.length<=sizeLine/\∃(d:List Value) (n:Nat),Vals xs d/\h.get? a=some { cls:=.type "list",data:=.seq d.toArray n }
 | .tup xs=>xs.length<=sizeLine/\∃d:List Value,Vals xs d/\jJ h a d.toArray
 | .dK kvs=>kvs.length<=sizeLine/\(a == sysModules)=false/\∃g,KV kvs g/\h.DictOf (ZT P w) a g
 | .dT kvs=>kvs.length<=sizeLine/\(a == sysModules)=false/\∃xs:List (List Key × Addr × Value),
   Paired (fun (p:List Key × V) (q:List Key × Addr × Value)=>p.1=q.1/\H q.2.1=some (.tup (p.1.map kV))/\RelV p.2 q.2.2) kvs xs /\
   ∃o es ep,h.get? a=some o/\o.ExactDict/\o.data=.dict es ep/\es.toList=xs.map (entryOfKey (tupleKind (ZT P w)))/\(xs.map (·.1)).Nodup
 | .set S n=>h.SetOf (intKind P w) a S n
 | .ins C dx fs=>H dx=some (.own a)/\fs.length<=1000/\dx≠a/\h.get? a=some (PySem.W.instObj C dx) /\
   ∃mA,h.Ns1 dx mA/\(∀f,xc (fs.lookup f) (mA f))/\PySem.Within mA (fs.map (·.1))
 | .own _=>∃o,h.get? a=some o
 | .xd fs=>∃mA,h.Ns1 a mA/\∀f,xc (fs.lookup f) (mA f)
 | .rng lo hi=>∃t u v,h.get? a=some { cls:=.type "range",data:=.fields #[.int lo t,.int hi u,.int 1 v] }
 | .frz o u=>h.get? a=some o/\Yc H h a u
 | .tbl ps=>h.get? a=some { cls:=.none,data:=.fields ps }
 | .met f x=>h.get? a=some (PySem.W.methodObj (.ref f) (.ref x))
 | .ext φ=>φ h/\(∃o,h.get? a=some o)/\∀h1 h2:Heap,φ h1->(∀o,h1.get? a=some o->h2.get? a=some o)->φ h2
def HOk(H:Hp)(h:Heap):Prop:=∀a o,H a=some o->Yc P w H h a o
end
section
variable {P:Program}{w:World}{H H':Hp}{h h':Heap}{a:Addr}{o:HO}
theorem Yc.lt(x:Yc P w H h a o):a < h.objs.size:=by
 cases o with
 | lst xs=>obtain ⟨_,_,_,_,e⟩:=x;exact Qat e
 | tup xs=>obtain ⟨_,_,_,p⟩:=x;exact p.lt
 | dK kvs=>obtain ⟨_,_,_,_,o,_,_,e,_⟩:=x;exact Qat e
 | dT kvs=>obtain ⟨_,_,_,_,o,_,_,e,_⟩:=x;exact Qat e
 | set S n=>obtain ⟨o,_,_,_,e,_⟩:=x;exact Qat e
 | ins C dx fs=>obtain ⟨_,_,_,e,_⟩:=x;exact Qat e
 | own y=>obtain ⟨_,e⟩:=x;exact Qat e
 | xd fs=>obtain ⟨_,⟨_,_,_,e,_⟩,_⟩:=x;exact Qat e
 | rng lo hi=>obtain ⟨_,_,_,e⟩:=x;exact Qat e
 | frz ob u=>obtain ⟨e,_⟩:=x;exact Qat e
 | tbl ps=>exact Qat (show h.get? a=some _ from x)
 | met f y=>exact Qat (show h.get? a=some _ from x)
 | ext φ=>obtain ⟨_,⟨_,e⟩,_⟩:=x;exact Qat e
theorem Paired.mapP{α β:Type}{F G:α->β->Prop}:∀{l₁:List α} {d:List β},Paired F l₁ d->(∀a b,F a b->G a b)->Paired G l₁ d
 | _,_,.nil,_=>.nil
 | _,_,.cons r t,f=>.cons (f _ _ r) (Paired.mapP t f)
theorem Yc.stay(x:Yc P w H h a o)(k:∀b u,(b=a\/H b=some (.own a))->h.get? b=some u->h'.get? b=some u)
  (ho:∀b,H b=some (.own a)->H' b=some (.own a)) (G:∀b xs,H b=some (.tup xs)->H' b=some (.tup xs)):Yc P w H' h' a o:=by
 induction o with
 | lst xs=>obtain ⟨z,g,n,r,e⟩:=x;exact ⟨z,g,n,r,k _ _ (.inl rfl) e⟩
 | tup xs=>obtain ⟨z,g,r,ob,e,c⟩:=x;exact ⟨z,g,r,ob,k _ _ (.inl rfl) e,c⟩
 | dK kvs=>obtain ⟨z,y,E,r,ob,es,ep,e,c⟩:=x;exact ⟨z,y,E,r,ob,es,ep,k _ _ (.inl rfl) e,c⟩
 | dT kvs =>
  obtain ⟨z,y,xs,r,ob,es,ep,e,c⟩:=x;exact ⟨z,y,xs,Paired.mapP r fun p q z=>⟨z.1,G _ _ z.2.1,z.2.2⟩,ob,es,ep,k _ _ (.inl rfl) e,c⟩
 | set S n=>obtain ⟨ob,es,ep,t,e,c⟩:=x;exact ⟨ob,es,ep,t,k _ _ (.inl rfl) e,c⟩
 | ins C dx fs =>
  obtain ⟨d,z,ne,e,mA,⟨od,es,ep,e2,c⟩,r⟩:=x;exact ⟨ho _ d,z,ne,k _ _ (.inl rfl) e,mA,⟨od,es,ep,k _ _ (.inr d) e2,c⟩,r⟩
 | own y=>obtain ⟨ob,e⟩:=x;exact ⟨ob,k _ _ (.inl rfl) e⟩
 | xd fs=>obtain ⟨mA,⟨od,es,ep,e,c⟩,r⟩:=x;exact ⟨mA,⟨od,es,ep,k _ _ (.inl rfl) e,c⟩,r⟩
 | rng lo hi=>obtain ⟨t,u,v,e⟩:=x;exact ⟨t,u,v,k _ _ (.inl rfl) e⟩
 | frz ob u I=>obtain ⟨e,q⟩:=x;exact ⟨k _ _ (.inl rfl) e,I q⟩
 | tbl ps =>
  have e:h.get? a=some { cls:=.none,data:=.fields ps }:=x;show h'.get? a=some { cls:=.none,data:=.fields ps };exact k a _ (.inl rfl) e
 | met f y =>
  have e:h.get? a=some (PySem.W.methodObj (.ref f) (.ref y)):=x;show h'.get? a=some (PySem.W.methodObj (.ref f) (.ref y));exact k a _ (.inl rfl) e
 | ext φ=>obtain ⟨p,⟨o,e⟩,st⟩:=x;exact ⟨st _ _ p fun o q=>k _ _ (.inl rfl) q,⟨o,k _ _ (.inl rfl) e⟩,st⟩
theorem HOk.lt(x:HOk P w H h)(e:H a=some o):a < h.objs.size:=(x a o e).lt
theorem HOk.fresh(x:HOk P w H h)(e:h.objs.size<=a):H a=none:=by
 cases q:H a with
 | none=>rfl
 | some u=>exact absurd (Qaw (x.lt q) e) (Qa6 _)
theorem HOk.kept(x:HOk P w H h)(k:∀b u,h.get? b=some u->h'.get? b=some u):HOk P w H h':=fun a o e =>
 (x a o e).stay (fun b u _ q=>k b u q) (fun _ q=>q) fun _ _ q=>q
theorem HOk.laid(x:HOk P w H h)(k:∀b u,h.get? b=some u->h'.get? b=some u)(hp:h.objs.size<=a)(new:Yc P w (upd H a o) h' a o):HOk P w (upd H a o) h':=fun b u e=>by
 have hn:=x.fresh hp
 by_cases hb:b=a
 ·subst hb;rw [Zc] at e;cases e;exact new
 ·rw [Zs hb] at e
  exact (x b u e).stay (fun c v _ q=>k c v q) (fun c q=>by rw [Zs (Z9 q hn)];exact q) fun c xs q=>by rw [Zs (Z9 q hn)];exact q
end
def Rd(H:Hp)(a:Addr)(u:HO):Prop:=H a=some u\/∃o,H a=some (.frz o u)
theorem Rd.of{H:Hp}{u:HO}(h:H a=some u):Rd H a u:=.inl h
theorem Rd.ok{H:Hp}{u:HO}(r:Rd H a u)(x:HOk P w H h):Yc P w H h a u:=by
 rcases r with r | ⟨o,r⟩
 ·exact x a u r
 ·obtain ⟨_,q⟩:=x a _ r
  exact q
def Mut:Option HO->Prop
 | some (.lst _)=>True
 | some (.dK _)=>True
 | some (.dT _)=>True
 | some (.set _ _)=>True
 | some (.ins _ _ _)=>True
 | some (.ext _)=>True
 | _=>False
section
variable {P:Program}{w:World}{H:Hp}{h h':Heap}{x e:Addr}{o':HO}
theorem HOk.write(ok:HOk P w H h)(E:Mut (H x))(he:e=x\/H e=some (.own x))(k:∀b u,b≠e->h.get? b=some u->h'.get? b=some u)(G:∃u,h'.get? e=some u)
  (new:Yc P w (upd H x o') h' x o'):HOk P w (upd H x o') h':=fun b u q=>by
 have f:∀c y,H c=some (.own y)->c≠x:=fun c y r z=>by subst z;rw [r] at E;exact E
 have g:∀c xs,H c=some (.tup xs)->c≠x:=fun c xs r z=>by subst z;rw [r] at E;exact E
 by_cases hb:b=x
 ·subst hb;rw [Zc] at q;cases q;exact new
 ·rw [Zs hb] at q
  by_cases d:b=e
  ·have q':H b=some (.own x):=by
    rcases he with z | z
    ·exact absurd (d.trans z) hb
    ·rw [d];exact z
   rw [q] at q';cases q';obtain ⟨v,hv⟩:=G;exact ⟨v,by rw [d];exact hv⟩
  ·refine (ok b u q).stay (fun c v hc r=>k c v ?_ r) (fun c r=>by rw [Zs (f c b r)];exact r) fun c xs r=>by rw [Zs (g c xs r)];exact r
   rcases hc with rfl | hc
   ·exact d
   ·rintro rfl
    rcases he with z | z
    ·exact f c b hc z
    ·rw [hc] at z;cases z;exact hb rfl
end
structure Un(fs ex:List Addr)(H H':Hp)(h h':Heap):Prop where
 keep:∀b o,h.get? b=some o->H b=none->b∉fs->b∉ex->h'.get? b=some o
 slot:∀b o,h.get? b=some o->H b=none->b∈fs->b∉ex->∃sl,h'.get? b=some { o with slots:=sl }
 free:∀b o,h.get? b=some o->H b=none->b∉ex->H' b=none
 there:∀b o,h.get? b=some o->b∉ex->∃o',h'.get? b=some o'
 tups:∀b xs,H b=some (.tup xs)->H' b=some (.tup xs)
 frzs:∀b o u,H b=some (.frz o u)->H' b=some (.frz o u)
 tbls:∀b ps,H b=some (.tbl ps)->∃more,H' b=some (.tbl (ps++more))
section
variable {fs fs' ex ex':List Addr}{H H1 H2:Hp}{h h1 h2 h':Heap}{a x e:Addr}{o:HO}
theorem Un.any(u:Un fs ex H H1 h h1){b:Addr}{ob:Obj}(q:h.get? b=some ob)(n:H b=none)(hx:b∉ex):∃d,h1.get? b=some { ob with slots:=d }:=by
 by_cases hb:b∈fs
 ·exact u.slot b ob q n hb hx
 ·exact ⟨ob.slots,u.keep b ob q n hb hx⟩
theorem Un.trans(a:Un fs ex H H1 h h1)(b:Un fs ex H1 H2 h1 h2):Un fs ex H H2 h h2 where
 keep:=fun c ob q n hc hx=>b.keep c ob (a.keep c ob q n hc hx) (a.free c ob q n hx) hc hx
 slot:=fun c ob q n hc hx=>by
  obtain ⟨y,e1⟩:=a.slot c ob q n hc hx;obtain ⟨d,e2⟩:=b.slot c _ e1 (a.free c ob q n hx) hc hx;exact ⟨d,e2⟩
 free:=fun c ob q n hx=>by
  obtain ⟨o',e1⟩:=a.there c ob q hx;exact b.free c o' e1 (a.free c ob q n hx) hx
 there:=fun c ob q hx=>by
  obtain ⟨o',e1⟩:=a.there c ob q hx;exact b.there c o' e1 hx
 tups:=fun c xs q=>b.tups c xs (a.tups c xs q)
 frzs:=fun c ob xs q=>b.frzs c ob xs (a.frzs c ob xs q)
 tbls:=fun c ps q=>by
  obtain ⟨g,e1⟩:=a.tbls c ps q;obtain ⟨f,e2⟩:=b.tbls c _ e1;exact ⟨g++f,by rw [e2,Array.append_assoc]⟩
theorem Un.kept(k:∀b u,h.get? b=some u->h'.get? b=some u):Un fs ex H H h h' :=
 ⟨fun b ob q _ _ _=>k b ob q,fun b ob q _ _ _=>⟨ob.slots,k b ob q⟩,fun _ _ _ n _=>n,fun b ob q _=>⟨ob,k b ob q⟩,fun _ _ q=>q,fun _ _ _ q=>q,fun _ ps q=>⟨#[],by rw [q];simp⟩⟩
theorem Un.refl:Un fs ex H H h h:=Un.kept fun _ _ q=>q
theorem Un.laid(k:∀b u,h.get? b=some u->h'.get? b=some u)(hp:h.objs.size<=a)(hn:H a=none):Un fs ex H (upd H a o) h h' where
 keep:=fun b u q _ _ _=>k b u q
 slot:=fun b u q _ _ _=>⟨u.slots,k b u q⟩
 free:=fun b u q n _=>by rw [Zs (Qbf (Qaw (Qat q) hp))];exact n
 there:=fun b u q _=>⟨u,k b u q⟩
 tups:=fun b xs q=>by rw [Zs (Z9 q hn)];exact q
 frzs:=fun b u xs q=>by rw [Zs (Z9 q hn)];exact q
 tbls:=fun b ps q=>⟨#[],by rw [Zs (Z9 q hn),q];simp⟩
theorem Un.write(f:Mut (H x))(he:e=x\/H e=some (.own x))(k:∀b u,b≠e->h.get? b=some u->h'.get? b=some u)(g:∃u,h'.get? e=some u):Un fs ex H (upd H x o) h h':=by
 have hx:∀b,H b=none->b≠x:=fun b n z=>by subst z;rw [n] at f;exact f
 have hb:∀b,H b=none->b≠e:=fun b n z=>by
  subst z;rcases he with r | r
  ·exact hx b n r
  ·rw [n] at r;cases r
 have hm:∀b u,H b=some u->¬Mut (some u)->b≠x:=fun b u q nm z=>by subst z;rw [q] at f;exact nm f
 refine ⟨fun b u q n _ _=>k b u (hb b n) q,fun b u q n _ _=>⟨u.slots,k b u (hb b n) q⟩,fun b u q n _=>by rw [Zs (hx b n)];exact n,fun b u q _=>?_,
  fun b xs q=>by rw [Zs (hm b _ q fun z=>z)];exact q,fun b u xs q=>by rw [Zs (hm b _ q fun z=>z)];exact q,fun b ps q=>⟨#[],by rw [Zs (hm b _ q fun z=>z),q];simp⟩⟩
 by_cases d:b=e
 ·subst d;exact g
 ·exact ⟨u,k b u d q⟩
theorem Un.mono(u:Un fs ex H H1 h h1)(hs:∀b∈fs,b∈fs')(hx:∀b∈ex,b∈ex'):Un fs' ex' H H1 h h1 :=
 ⟨fun b ob q n hb he=>u.keep b ob q n (fun z=>hb (hs b z)) fun z=>he (hx b z),fun _ _ q n _ he=>u.any q n fun z=>he (hx _ z),fun b ob q n he=>u.free b ob q n fun z=>he (hx b z),fun b ob q he=>u.there b ob q fun z=>he (hx b z),u.tups,u.frzs,u.tbls⟩
end
def trk(h:Heap)(H:Hp):List Addr:=(List.range h.objs.size).filter fun a=>(H a).isSome
def kJ(h:Heap)(H:Hp):Heap:=PySem.W.hideAll h (trk h H)
theorem yz(h:Heap)(H:Hp):(kJ h H).objs.size=h.objs.size:=PySem.W.hideAll_size _ _
theorem kK{H:Hp}{b:Addr}{o:Obj}(e:h.get? b=some o)(n:H b=none):(kJ h H).get? b=some o :=
 PySem.W.hideAll_get _ e fun hm=>by
  have q:(H b).isSome=true:=(Qbz.mp hm).2;rw [n] at q;simp at q
theorem ux{H:Hp}{b:Addr}{o:Obj}(e:(kJ h H).get? b=some o):h.get? b=some o/\H b=none:=by
 have d:h.get? b=some o:=PySem.W.of_hideAll (trk h H) e;refine ⟨d,?_⟩;cases q:H b with
 | none=>rfl
 | some x =>
  have hm:b∈trk h H:=Qbz.mpr ⟨Qck.mpr (Qat d),by simp [q]⟩;have z:(kJ h H).get? b=none:=PySem.W.hideAll_none (trk h H) hm;rw [z] at e;cases e
def uy(g h:Heap)(L:Addr):List (Addr × Obj):=(List.range h.objs.size).filterMap fun a=>if a=L\/(g.get? a).isSome=true then none else (h.get? a).map fun o=>(a,o)
def rest(g h:Heap)(L d:Addr):List (Addr × Obj):=(uy g h L).filter fun p=>decide (p.1≠d)
structure Mod(K:PySem.W.Frag)(mg:Str->Option Value)(base:Heap):Prop where
 kin:K.In base
 glob:base.Ns mainGlobals mg
 blt:∃mb,base.Ns builtinsNs mb/\∀x:Str,x ≠ "__name__" -> mb x=bootBuiltins x
 nolimit:base.NoLimit
set_option genInjectivity false in
set_option genSizeOfSpec false in
structure Cx where
 prog:Program
 w:World
 K:PySem.W.Frag
 mg:Str->Option Value
 base:Heap
 A:Around
 N:List Str
 s₀:Shared
 H₀:Hp
 env:Env
 outer:List Env
 stack:List Env
 ex:List Addr
 fn:Str->Bool
 calm:Bool
 pn:List (Addr × Obj)
 xe:Value->Shared->Prop
def frs(l:List Env):List Addr:=l.filterMap (·.frame)
abbrev Cx.fs(X:Cx):List Addr:=frs X.outer
def Vis(d:Scope)(x:Str):Prop:=d.names.lookup x=some .local\/d.names.lookup x=some .cell\/d.names.lookup x=some .free
def Loc(d:Scope)(x:Str):Prop:=d.names.lookup x=some .local\/d.names.lookup x=some .cell
def Look(env:Env)(h:Heap)(m:Str->Option Value)(x:Str)(u:Value):Prop :=
 (env.kindOf x=some .local/\m x=some u)\/((env.kindOf x=some .cell\/env.kindOf x=some .free)/\∃c,env.cells.lookup x=some c/\h.IsCell c (some u))
set_option genInjectivity false in
set_option genSizeOfSpec false in
structure Cx.Ok(X:Cx):Prop where
 mod:Mod X.K X.mg X.base
 kind:X.env.scope.kind=.function
 glob:X.env.globals=mainGlobals
 blt:X.env.builtins=builtinsNs
 above:X.s₀.heap.objs.size<=X.env.locals
 inj:∀x y c,X.env.cells.lookup x=some c->X.env.cells.lookup y=some c->x=y
 has:∀x,(X.env.kindOf x=some .cell\/X.env.kindOf x=some .free)->∃c,X.env.cells.lookup x=some c
 cab:∀x c,X.fn x=true->X.env.cells.lookup x=some c->X.s₀.heap.objs.size<=c
 hd:X.calm=true->X.A.handled=none
 frames:X.A.frames=some X.stack
 stk:X.stack=X.outer\/(X.stack=X.env::X.outer/\X.env.frame=some X.env.locals)
 exf:∀b∈X.ex,b≠X.env.locals/\∀x c,X.env.cells.lookup x=some c->c≠b
 bs:∀b o,X.base.get? b=some o->X.s₀.heap.get? b=some o/\X.H₀ b=none
 bsz:X.base.objs.size<=X.s₀.heap.objs.size
 noex:∀b o,X.base.get? b=some o->b∉X.ex
 exfs:∀b∈X.ex,b∉X.fs
 funs:X.s₀.heap.FunFrames X.base X.outer
 frf:∀b∈X.fs,X.H₀ b=none
structure Inv(X:Cx)(pins:List (Addr × Obj))(σ:List (Option V))(H:Hp)(s:Shared):Prop where
 ok:X.Ok
 os:s.os=X.s₀.os
 bare:AllBare s.gens
 base:Un X.fs X.ex X.H₀ H X.s₀.heap s.heap
 loc:∃m,s.heap.Ns X.env.locals m/\∀(i:Nat) (x:Str) (v:V),X.N[i]?=some x->σ[i]?=some (some v)->Vis X.env.scope x->∃u,RelV v u/\Look X.env s.heap m x u
 cell:∀x c,X.env.cells.lookup x=some c->∃v,s.heap.IsCell c v
 free:H X.env.locals=none
 freeC:∀x c,X.env.cells.lookup x=some c->H c=none
 pin:∀p∈X.pn++pins,s.heap.get? p.1=some p.2/\H p.1=none/\p.1≠X.env.locals/\p.1∉X.fs/\∀v,p.2.data≠.cell v
 hok:HOk X.prog X.w H s.heap
 len:σ.length=X.N.length
section
variable {X:Cx}{pins:List (Addr × Obj)}{σ:List (Option V)}{H H':Hp}{s:Shared}{h':Heap}
theorem Cx.Ok.nofr(ok:X.Ok){b:Addr}{o:Obj}(e:X.base.get? b=some o):b∉X.fs:=fun hb=>by
 have:=(ok.funs.mem hb).1;rw [e] at this;cases this
theorem Inv.bs(I:Inv X pins σ H s):∀b o,X.base.get? b=some o->s.heap.get? b=some o/\H b=none:=fun b o e =>
 ⟨I.base.keep b o (I.ok.bs b o e).1 (I.ok.bs b o e).2 (I.ok.nofr e) (I.ok.noex b o e),I.base.free b o (I.ok.bs b o e).1 (I.ok.bs b o e).2 (I.ok.noex b o e)⟩
theorem Inv.bk(I:Inv X pins σ H s):∀b o,X.base.get? b=some o->s.heap.get? b=some o:=fun b o e=>(I.bs b o e).1
theorem Inv.mod(I:Inv X pins σ H s):Mod X.K X.mg X.base:=I.ok.mod
theorem Inv.kIn(I:Inv X pins σ H s):X.K.In s.heap:=I.ok.mod.kin.keeps I.bk
theorem Inv.nolimit(I:Inv X pins σ H s):s.heap.NoLimit:=I.ok.mod.nolimit.keeps I.bk
theorem Inv.fr(I:Inv X pins σ H s):∃m,Fr X.base X.env.locals s.heap m :=
 let ⟨m,hn,_⟩:=I.loc
 ⟨m,hn,I.bk,Qa0 I.ok.bsz I.ok.above⟩
theorem Inv.lt(I:Inv X pins σ H s):X.env.locals < s.heap.objs.size:=let ⟨_,hn,_⟩:=I.loc;hn.lt
theorem Inv.sz(I:Inv X pins σ H s):X.s₀.heap.objs.size<=s.heap.objs.size:=Qa0 I.ok.above (Qbg I.lt)
theorem Inv.nofs(I:Inv X pins σ H s)(h:s.heap.objs.size<=a):a∉X.fs:=fun hb=>by
 obtain ⟨_,o,ho,_⟩:=I.ok.funs.mem hb;exact absurd (Qaw (Qat ho) (Qa0 I.sz h)) (Qa6 _)
theorem Inv.cne(I:Inv X pins σ H s):∀x c,X.env.cells.lookup x=some c->c≠X.env.locals:=fun x c e z=>by
 obtain ⟨v,o,ho,hd⟩:=I.cell x c e;obtain ⟨m,⟨o',es,ep,f,d,_⟩,_⟩:=I.loc;rw [z,f] at ho;cases ho;rw [d] at hd;cases hd
theorem Inv.funs(I:Inv X pins σ H s):s.heap.FunFrames X.base X.outer:=by
 have all:∀(l:List Env),(∀b∈frs l,b∈X.fs)->X.s₀.heap.FunFrames X.base l->s.heap.FunFrames X.base l:=by
  intro l
  induction l with
  | nil=>intro _ _;trivial
  | cons env r f =>
   intro hs hl;obtain ⟨hk,⟨L,o,hf,hn,ho,hd⟩,hr⟩:=hl;have d:L∈X.fs:=hs L (by unfold frs;rw [Qex,hf];exact Qaq);obtain ⟨g,e⟩:=I.base.slot L o ho (I.ok.frf L d) d fun z=>I.ok.exfs L z d;exact ⟨hk,⟨L,_,hf,hn,e,hd⟩,f (fun b hb=>hs b (by unfold frs;rw [Qex,hf];exact Qar _ hb)) hr⟩
 exact all X.outer (fun _ hb=>hb) I.ok.funs
theorem Inv.stack(I:Inv X pins σ H s):s.heap.FunFrames X.base X.stack:=by
 rcases I.ok.stk with e | ⟨e,hf⟩
 ·rw [e];exact I.funs
 ·rw [e]
  obtain ⟨m,hn,_⟩:=I.loc;refine .cons (by rw [I.ok.kind];decide) hf hn ?_ I.funs;exact Heap.get?_none_of_le (Qa0 I.ok.bsz I.ok.above)
theorem Inv.stkSub(I:Inv X pins σ H s):∀b∈frs X.stack,b∈X.env.locals::X.fs:=fun b hb=>by
 rcases I.ok.stk with e | ⟨e,hf⟩
 ·rw [e] at hb;exact Qar _ hb
 ·rw [e] at hb
  unfold frs at hb;rw [Qex,hf] at hb;exact hb
theorem Inv.stkFree(I:Inv X pins σ H s):∀b∈frs X.stack,H b=none:=fun b hb=>by
 rcases Qas.mp (I.stkSub b hb) with e | hb
 ·rw [e];exact I.free
 ·obtain ⟨_,o,ho,_⟩:=I.ok.funs.mem hb
  exact I.base.free b o ho (I.ok.frf b hb) fun z=>I.ok.exfs b z hb
theorem Inv.step{g':Array GenState}{t':Nat}{d':Drawn}{ch:List Addr}(I:Inv X pins σ H s)
  (y:∀b∈ch,(b∈X.ex\/X.s₀.heap.objs.size<=b)/\b≠X.env.locals/\(∀x c,X.env.cells.lookup x=some c->c≠b)/\∀p∈X.pn++pins,p.1≠b)
  (f:∀b o,b≠X.env.locals->b∉X.fs->b∉ch->s.heap.get? b=some o->H b=none->h'.get? b=some o)
  (slot:∀b o,b≠X.env.locals->b∈X.fs->b∉ch->s.heap.get? b=some o->H b=none->∃Y,h'.get? b=some { o with slots:=Y }) (free:∀b o,b∉ch->s.heap.get? b=some o->H b=none->H' b=none)
  (there:∀b o,b∉ch->s.heap.get? b=some o->∃o',h'.get? b=some o')
  (O:∀b xs,H b=some (.tup xs)->H' b=some (.tup xs)) (L:∀b o u,H b=some (.frz o u)->H' b=some (.frz o u)) (S:∀b ps,H b=some (.tbl ps)->∃more,H' b=some (.tbl (ps++more)))
  (ns:∀m,s.heap.Ns X.env.locals m->h'.Ns X.env.locals m) (W:HOk X.prog X.w H' h') (hg:AllBare g') :
  Inv X pins σ H' { s with heap:=h',gens:=g',drawn:=d',toks:=t' }:=by
 have J:∀b o,X.s₀.heap.get? b=some o->b≠X.env.locals:=fun b o e=>Qbf (Qaw (Qat e) I.ok.above);have G:∀b o,X.s₀.heap.get? b=some o->b∉X.ex->b∉ch:=fun b o e hx hb=>by
  rcases (y b hb).1 with z | z
  ·exact hx z
  ·exact absurd (Qaw (Qat e) z) (Qa6 _)
 have E:∀x c,X.env.cells.lookup x=some c->∀v,s.heap.IsCell c v->h'.IsCell c v:=fun x c e v ⟨o,ho,hd⟩=>by
  have g:c∉ch:=fun z=>(y c z).2.2.1 x c e rfl
  by_cases hc:c∈X.fs
  ·obtain ⟨Y,q⟩:=slot c o (I.cne x c e) hc g ho (I.freeC x c e)
   exact ⟨_,q,hd⟩
  ·exact ⟨o,f c o (I.cne x c e) hc g ho (I.freeC x c e),hd⟩
 refine ⟨I.ok,I.os,hg,⟨fun b o e n hb hx=>?_,fun b o e n hb hx=>?_,fun b o e n hx=>?_,fun b o e hx=>?_,fun b xs e=>O b xs (I.base.tups b xs e),fun b o xs e=>L b o xs (I.base.frzs b o xs e),fun b ps e=>?_⟩,?_,fun x c e=>?_,?_,fun x c e=>?_,fun p hp=>?_,W,I.len⟩
 ·exact f b o (J b o e) hb (G b o e hx) (I.base.keep b o e n hb hx) (I.base.free b o e n hx)
 ·obtain ⟨Y,e1⟩:=I.base.slot b o e n hb hx
  obtain ⟨U,e2⟩:=slot b _ (J b o e) hb (G b o e hx) e1 (I.base.free b o e n hx);exact ⟨U,e2⟩
 ·obtain ⟨o',e1⟩:=I.base.there b o e hx
  exact free b o' (G b o e hx) e1 (I.base.free b o e n hx)
 ·obtain ⟨o',e1⟩:=I.base.there b o e hx
  exact there b o' (G b o e hx) e1
 ·obtain ⟨m1,e1⟩:=I.base.tbls b ps e
  obtain ⟨m2,e2⟩:=S b _ e1;exact ⟨m1++m2,by rw [e2,Array.append_assoc]⟩
 ·obtain ⟨m,hn,hl⟩:=I.loc
  refine ⟨m,ns m hn,fun i x v e1 e2 e3=>?_⟩;obtain ⟨u,r,l⟩:=hl i x v e1 e2 e3;refine ⟨u,r,?_⟩;rcases l with l | ⟨k,c,e,z⟩
  ·exact .inl l
  ·exact .inr ⟨k,c,e,E x c e _ z⟩
 ·obtain ⟨v,z⟩:=I.cell x c e
  exact ⟨v,E x c e v z⟩
 ·obtain ⟨m,⟨o,_,_,ho,_⟩,_⟩:=I.loc
  exact free _ o (fun z=>(y _ z).2.1 rfl) ho I.free
 ·obtain ⟨v,o,ho,hd⟩:=I.cell x c e
  exact free c o (fun z=>(y c z).2.2.1 x c e rfl) ho (I.freeC x c e)
 ·obtain ⟨e,n,ne,Z,d⟩:=I.pin p hp
  have g:p.1∉ch:=fun z=>(y p.1 z).2.2.2 p hp rfl;exact ⟨f p.1 p.2 ne Z g e n,free p.1 p.2 g e n,ne,Z,d⟩
theorem Inv.un{t':Nat}(I:Inv X pins σ H s)(u:Un X.fs [] H H' s.heap h')(f:HOk X.prog X.w H' h'):Inv X pins σ H' { s with heap:=h',toks:=t' }:=by
 obtain ⟨m,⟨o,es,ep,ho,r⟩,_⟩:=id I.loc;obtain ⟨J,E⟩:=u.any ho I.free (by simp);exact I.step (g':=s.gens) (d':=s.drawn) (ch:=[]) (fun _ z=>nomatch z) (fun b o _ hb _ e n=>u.keep b o e n hb (by simp)) (fun b o _ hb _ e n=>u.slot b o e n hb (by simp)) (fun b o _ e n=>u.free b o e n (by simp)) (fun b o _ e=>u.there b o e (by simp)) u.tups u.frzs u.tbls (fun L hm=>by
  obtain ⟨o',y,g,d,G⟩:=hm;rw [ho] at d;cases d;exact ⟨_,y,g,E,G⟩) f I.bare
theorem Inv.call{g':Array GenState}{t':Nat}{d':Drawn}{ch:List Addr}(I:Inv X pins σ H s)(u:Un (frs X.stack) ch H H' s.heap h')(g:HOk X.prog X.w H' h')(hg:AllBare g')
  (d:∀b∈ch,(b∈X.ex\/X.s₀.heap.objs.size<=b)/\b≠X.env.locals/\(∀x c,X.env.cells.lookup x=some c->c≠b)/\∀p∈X.pn++pins,p.1≠b) :
  Inv X pins σ H' { s with heap:=h',gens:=g',drawn:=d',toks:=t' }:=by
 obtain ⟨m,⟨o,es,ep,ho,r⟩,_⟩:=id I.loc;obtain ⟨L,y⟩:=u.any ho I.free fun z=>(d _ z).2.1 rfl;exact I.step (ch:=ch) d (fun b o y hb hc e n=>u.keep b o e n (fun z=>(Qas.mp (I.stkSub b z)).elim y hb) hc) (fun b o _ _ hc e n=>u.any e n hc) (fun b o hc e n=>u.free b o e n hc) (fun b o hc e=>u.there b o e hc) u.tups u.frzs u.tbls (fun O hm=>by
  obtain ⟨o',G,E,f,J⟩:=hm;rw [ho] at f;cases f;exact ⟨_,G,E,y,J⟩) g hg
theorem Inv.turned{t':Nat}{it:Addr}(I:Inv X pins σ H s)(k:∀b o,b≠it->s.heap.get? b=some o->h'.get? b=some o)(hn:H it=none)(f:it≠X.env.locals)
  (h1:it∈X.ex\/X.s₀.heap.objs.size<=it) (h2:∀x c,X.env.cells.lookup x=some c->c≠it) (g:∀p∈X.pn++pins,p.1≠it):Inv X pins σ H { s with heap:=h',toks:=t' }:=by
 have d:∀b u,H b=some u->b≠it:=fun b u e z=>by rw [z,hn] at e;cases e
 refine I.step (g':=s.gens) (d':=s.drawn) (ch:=[it]) (fun b hb=>?_) (fun b o _ _ hc e _=>k b o (fun z=>hc (by simp [z])) e) (fun b o _ _ hc e _=>⟨o.slots,k b o (fun z=>hc (by simp [z])) e⟩) (fun _ _ _ _ n=>n)
  (fun b o hc e=>⟨o,k b o (fun z=>hc (by simp [z])) e⟩) (fun _ _ e=>e) (fun _ _ _ e=>e) (fun b ps e=>⟨#[],by rw [e];simp⟩) (fun m hm=>?_) (fun b u e=>?_) I.bare
 ·have e:b=it:=by simpa using hb
  subst e;exact ⟨h1,f,h2,g⟩
 ·obtain ⟨o,es,ep,ho,r⟩:=hm
  exact ⟨o,es,ep,k _ o (Qcd f) ho,r⟩
 ·refine (I.hok b u e).stay (fun c v hc q=>k c v ?_ q) (fun _ q=>q) fun _ _ q=>q
  rcases hc with z | z
  ·rw [z];exact d b u e
  ·exact d c _ z
theorem Inv.tok(I:Inv X pins σ H s)(t:Nat):Inv X pins σ H { s with toks:=t }:=I.un (h':=s.heap) (t':=t) Un.refl I.hok
theorem Inv.kept{t':Nat}(I:Inv X pins σ H s)(k:∀b u,s.heap.get? b=some u->h'.get? b=some u):Inv X pins σ H { s with heap:=h',toks:=t' }:=I.un (Un.kept k) (I.hok.kept k)
theorem Inv.laid{a:Addr}{o:HO}{t':Nat}(I:Inv X pins σ H s)(k:∀b u,s.heap.get? b=some u->h'.get? b=some u)(hp:s.heap.objs.size<=a)(new:Yc X.prog X.w (upd H a o) h' a o) :
  Inv X pins σ (upd H a o) { s with heap:=h',toks:=t' }:=I.un (Un.laid k hp (I.hok.fresh hp)) (I.hok.laid k hp new)
theorem Inv.write{x e:Addr}{o:HO}{t':Nat}(I:Inv X pins σ H s)(f:Mut (H x))(he:e=x\/H e=some (.own x))(k:∀b u,b≠e->s.heap.get? b=some u->h'.get? b=some u)(d:∃u,h'.get? e=some u)
  (new:Yc X.prog X.w (upd H x o) h' x o):Inv X pins σ (upd H x o) { s with heap:=h',toks:=t' }:=I.un (Un.write f he k d) (I.hok.write f he k d new)
theorem Inv.pins_of(I:Inv X pins σ H s)(h:∀p∈E,s.heap.get? p.1=some p.2/\H p.1=none/\p.1≠X.env.locals/\p.1∉X.fs/\∀v,p.2.data≠.cell v):Inv X E σ H s :=
 ⟨I.ok,I.os,I.bare,I.base,I.loc,I.cell,I.free,I.freeC,fun p hp=>(Qam.mp hp).elim (fun z=>I.pin p (Qay _ z)) (h p),I.hok,I.len⟩
theorem qm(hN:N.Nodup){j:Nat}(a:N[i]?=some x)(b:N[j]?=some x):i=j:=by
 obtain ⟨h1,e1⟩:=Qah.mp a;obtain ⟨h2,e2⟩:=Qah.mp b;exact (List.getElem_inj hN).mp (e1.trans e2.symm)
theorem y0{M:Model}{A:Around}{E:Value->Shared->Prop}{v:V}{u:Value}{Q:Unit->Shared->Prop}(I:Inv X pins σ H s)(hN:X.N.Nodup)(hi:X.N[i]?=some x)(hx:Loc X.env.scope x)(r:RelV v u)
  (h:∀s',Inv X pins (σ.set i (some v)) H s'->(∃a,Heap.SameBut a s.heap s'.heap/\(a=X.env.locals\/X.env.cells.lookup x=some a))->Q () s') (hf:X.fn x=true\/X.env.scope.names.lookup x=some .local:=by first | exact .inl rfl | exact .inr rfl | assumption):wpAny M A (storeName X.env x u) Q E s:=by
 obtain ⟨m,hn,hl⟩:=id I.loc;have O:(X.env.scope.kind == .class || (X.env.scope.kind == .module && X.env.locals != X.env.globals))=false:=by rw [I.ok.kind];rfl
 have G:i < σ.length:=by rw [I.len];exact (Qah.mp hi).1
 have cne:=I.cne;have f:∀{a:Addr} {h':Heap},(∃o,s.heap.get? a=some o/\H a=none)->Heap.SameBut a s.heap h'->HOk X.prog X.w H h':=fun {a h'} ha hs b ob e=>by
  obtain ⟨_,_,g⟩:=ha;refine (I.hok b ob e).stay (fun c Z hc q=>(hs.2 c ?_).trans q) (fun _ q=>q) fun _ _ q=>q;rintro rfl;rcases hc with rfl | hc
  ·rw [g] at e;cases e
  ·rw [g] at hc;cases hc
 rcases hx with hk | hk
 ·refine wpAny_storeName_local hk hn (fun h' hn' hs=>?_) O
  obtain ⟨oL,_,_,hoL,_⟩:=id hn;refine h _ ⟨I.ok,I.os,I.bare,⟨fun b o e n hb hx=>?_,fun b o e n hb hx=>?_,I.base.free,fun b o e hx=>?_,I.base.tups,I.base.frzs,I.base.tbls⟩,⟨_,hn',fun j y v' e1 e2 e3=>?_⟩,fun y c e=>?_,I.free,I.freeC,fun p hp=>?_,f ⟨oL,hoL,I.free⟩ hs,by simpa using I.len⟩ ⟨_,hs,.inl rfl⟩
  ·exact (hs.2 b (Qbf (Qaw (Qat e) I.ok.above))).trans (I.base.keep b o e n hb hx)
  ·obtain ⟨sl,e1⟩:=I.base.slot b o e n hb hx
   exact ⟨sl,(hs.2 b (Qbf (Qaw (Qat e) I.ok.above))).trans e1⟩
  ·obtain ⟨o',e1⟩:=I.base.there b o e hx
   exact ⟨o',(hs.2 b (Qbf (Qaw (Qat e) I.ok.above))).trans e1⟩
  ·by_cases J:j=i
   ·subst J
    rw [hi] at e1;cases e1;rw [Qdk G] at e2;cases e2;exact ⟨u,r,.inl ⟨hk,by simp⟩⟩
   ·rw [Qeo (Qcd J)] at e2
    obtain ⟨u',r',q⟩:=hl j y v' e1 e2 e3;refine ⟨u',r',?_⟩;rcases q with ⟨k,e⟩ | ⟨k,c,e,z⟩
    ·refine .inl ⟨k,?_⟩
     have:y≠x:=fun e=>J (qm hN e1 (e ▸ hi));simp [this,e]
    ·exact .inr ⟨k,c,e,z.sameBut hs (cne y c e)⟩
  ·obtain ⟨Z,z⟩:=I.cell y c e
   exact ⟨Z,z.sameBut hs (cne y c e)⟩
  ·obtain ⟨e,n,ne,nf,d⟩:=I.pin p hp
   exact ⟨(hs.2 p.1 ne).trans e,n,ne,nf,d⟩
 ·have L:X.fn x=true:=by
   rcases hf with z | z
   ·exact z
   ·rw [z] at hk;cases hk
  obtain ⟨c,hc⟩:=I.ok.has x (.inl hk);obtain ⟨Z,z⟩:=I.cell x c hc;refine wpAny_storeName_cell I.ok.kind hk hc z (fun h' Y hs=>?_);obtain ⟨oc,W,U⟩:=id z;refine h { s with heap:=h' } ⟨I.ok,I.os,I.bare,⟨fun b o e n hb hx=>?_,fun b o e n hb hx=>?_,I.base.free,fun b o e hx=>?_,I.base.tups,I.base.frzs,I.base.tbls⟩,⟨m,hn.sameBut hs (Qcd (cne x c hc)),fun j y v' e1 e2 e3=>?_⟩,fun y c' e=>?_,I.free,I.freeC,fun p hp=>?_,f ⟨oc,W,I.freeC x c hc⟩ hs,by simpa using I.len⟩ ⟨c,hs,.inr hc⟩
  ·exact (hs.2 b (Qbf (Qaw (Qat e) (I.ok.cab x c L hc)))).trans (I.base.keep b o e n hb hx)
  ·obtain ⟨sl,e1⟩:=I.base.slot b o e n hb hx
   exact ⟨sl,(hs.2 b (Qbf (Qaw (Qat e) (I.ok.cab x c L hc)))).trans e1⟩
  ·obtain ⟨o',e1⟩:=I.base.there b o e hx
   exact ⟨o',(hs.2 b (Qbf (Qaw (Qat e) (I.ok.cab x c L hc)))).trans e1⟩
  ·by_cases J:j=i
   ·subst J
    rw [hi] at e1;cases e1;rw [Qdk G] at e2;cases e2;exact ⟨u,r,.inr ⟨.inl hk,c,hc,Y⟩⟩
   ·rw [Qeo (Qcd J)] at e2
    obtain ⟨u',r',q⟩:=hl j y v' e1 e2 e3;refine ⟨u',r',?_⟩;rcases q with q | ⟨k,c',e,z'⟩
    ·exact .inl q
    ·refine .inr ⟨k,c',e,z'.sameBut hs ?_⟩
     rintro rfl;exact J (qm hN e1 (I.ok.inj _ _ _ e hc ▸ hi))
  ·by_cases S:c'=c
   ·subst S;exact ⟨_,Y⟩
   ·obtain ⟨w2,z2⟩:=I.cell y c' e
    exact ⟨w2,z2.sameBut hs S⟩
  ·obtain ⟨e,n,ne,nf,d⟩:=I.pin p hp
   refine ⟨(hs.2 p.1 ?_).trans e,n,ne,nf,d⟩;intro q;rw [q,W] at e;have q':oc=p.2:=Option.some.inj e;exact d Z (by rw [<-q'];exact U)
theorem Xv{M:Model}{A:Around}{E:Value->Shared->Prop}{v:V}{u:Value}{Q:Unit->Shared->Prop}(I:Inv X pins σ H s)(hN:X.N.Nodup)(hi:X.N[i]?=some x)(hx:Loc X.env.scope x)(r:RelV v u)
  (h:∀s',Inv X pins (σ.set i (some v)) H s'->Q () s') (hf:X.fn x=true\/X.env.scope.names.lookup x=some .local:=by first | exact .inl rfl | exact .inr rfl | assumption):wpAny M A (storeName X.env x u) Q E s :=
 y0 I hN hi hx r (fun s' d _=>h s' d) hf
theorem Inv.call'{s':Shared}{ch:List Addr}(I:Inv X pins σ H s)(ho:s'.os=s.os)(u:Un (frs X.stack) ch H H' s.heap s'.heap)(f:HOk X.prog X.w H' s'.heap)(hg:AllBare s'.gens)
  (d:∀b∈ch,(b∈X.ex\/X.s₀.heap.objs.size<=b)/\b≠X.env.locals/\(∀x c,X.env.cells.lookup x=some c->c≠b)/\∀p∈X.pn++pins,p.1≠b):Inv X pins σ H' s':=by
 obtain ⟨h',g',d',t',o'⟩:=s';have e:o'=s.os:=ho;subst e;exact I.call (g':=g') (t':=t') (d':=d') u f hg d
end
abbrev XK:=Value->Option Addr->Hp->Prop
abbrev St:=List (Option V)
abbrev VK:=V->Hp->Prop
abbrev TE:=St->Hp->VK->Prop
abbrev TT:=St->Hp->(Bool->Hp->Prop)->Prop
abbrev TA:=St->Hp->(List V->Hp->Prop)->Prop
structure Ends where
 nx:St->Hp->Prop
 rt:VK
 bk:St->Hp->Prop:=fun _ _=>False
 ct:St->Hp->Prop:=fun _ _=>False
abbrev TS:=Ends->St->Hp->Prop
inductive EP_i(X:Cx)(pins:List (Addr × Obj))(σ:St)(Q:VK)(u:Value)(s':Shared):Prop
 | mk (v H':_):(Inv X pins σ H' s')->(RelV v u)->(Q v H')->EP_i X pins σ Q u s'
def EP(X:Cx)(pins:List (Addr × Obj))(σ:St)(Q:VK)(u:Value)(s':Shared):Prop:=EP_i X pins σ Q u s'
inductive TP_i(X:Cx)(pins:List (Addr × Obj))(σ:St)(Q:Bool->Hp->Prop)(b:Bool)(s':Shared):Prop
 | mk (H':_):(Inv X pins σ H' s')->(Q b H')->TP_i X pins σ Q b s'
def TP(X:Cx)(pins:List (Addr × Obj))(σ:St)(Q:Bool->Hp->Prop)(b:Bool)(s':Shared):Prop:=TP_i X pins σ Q b s'
inductive AP_i(X:Cx)(pins:List (Addr × Obj))(σ:St)(Q:List V->Hp->Prop)(us:List Value)(s':Shared):Prop
 | mk (vs H':_):(Inv X pins σ H' s')->(Vals vs us)->(Q vs H')->AP_i X pins σ Q us s'
def AP(X:Cx)(pins:List (Addr × Obj))(σ:St)(Q:List V->Hp->Prop)(d:List Value)(s':Shared):Prop:=AP_i X pins σ Q d s'
def SP(X:Cx)(pins:List (Addr × Obj))(D:Ends)(f:Flow)(s':Shared):Prop :=
 match f with
 | .next=>∃d H',Inv X pins d H' s'/\D.nx d H'
 | .brk=>∃d H',Inv X pins d H' s'/\D.bk d H'
 | .cont=>∃d H',Inv X pins d H' s'/\D.ct d H'
 | .ret u=>∃v d H',Inv X pins d H' s'/\RelV v u/\D.rt v H'
def PE(X:Cx)(e:Expr)(t:TE):Prop :=
 ∀(pins:List (Addr × Obj)) (s:Shared) (σ:St) (H:Hp) (Q:VK),Inv X pins σ H s->t σ H Q->wpAny (model X.prog X.w) X.A (eval e X.env) (EP X pins σ Q) X.xe s
def PT(X:Cx)(e:Expr)(t:TT):Prop :=
 ∀(pins:List (Addr × Obj)) (s:Shared) (σ:St) (H:Hp) (Q:Bool->Hp->Prop),Inv X pins σ H s->t σ H Q->wpAny (model X.prog X.w) X.A (isTrue e X.env (eval e X.env)) (TP X pins σ Q) X.xe s
def PW(X:Cx)(e:Expr)(t:TT):Prop :=
 ∀(d:Sem Value) (pins:List (Addr × Obj)) (s:Shared) (σ:St) (H:Hp) (Q:Bool->Hp->Prop),Inv X pins σ H s->t σ H Q->wpAny (model X.prog X.w) X.A (isTrue e X.env d) (TP X pins σ Q) X.xe s
theorem PW.pt{X:Cx}{t:TT}(h:PW X e t):PT X e t:=h _
def PA(X:Cx)(es:List Expr)(t:TA):Prop :=
 ∀(pos:Pos) (pins:List (Addr × Obj)) (s:Shared) (σ:St) (H:Hp) (Q:List V->Hp->Prop),Inv X pins σ H s->t σ H Q->wpAny (model X.prog X.w) X.A (spliced (backTo pos (starEach es X.env))) (AP X pins σ Q) X.xe s
def PS(X:Cx)(st:Stmt)(t:TS):Prop :=
 ∀(pins:List (Addr × Obj)) (s:Shared) (σ:St) (H:Hp) (D:Ends),Inv X pins σ H s->t D σ H->wpAny (model X.prog X.w) X.A (exec st X.env) (SP X pins D) X.xe s
def PSs(X:Cx)(st:List Stmt)(t:TS):Prop :=
 ∀(pins:List (Addr × Obj)) (s:Shared) (σ:St) (H:Hp) (D:Ends),Inv X pins σ H s->t D σ H->wpAny (model X.prog X.w) X.A (execs st X.env) (SP X pins D) X.xe s
theorem thn{t:Sem D}{Q d:D->Shared->Prop}{M:Model}{A:Around}{E:Value->Shared->Prop}{s:Shared}(h:wpAny M A t Q E s)(f:∀a s,Q a s->d a s):wpAny M A t d E s:=Qcg h f fun _ _ x=>x
section
variable {X:Cx}
inductive gw(i:Nat)(σ:St)(H:Hp)(Q:VK):Prop
 | mk (v:_):(σ[i]?=some (some v))->(Q v H)->gw i σ H Q
def zQ(i:Nat):TE:=fun σ H Q=>gw i σ H Q
def tC(v:V):TE:=fun _ H Q=>Q v H
theorem pe_var   {pos:Pos} (hN:X.N[i]?=some x) (hv:Vis X.env.scope x) (hd:(x == ("__debug__" : Str))=false:=by decide) (hcd:(x == ("__classdict__" : Str))=false:=by decide):PE X (.Name x pos) (zQ i):=by
 intro pins s σ H Q I h;obtain ⟨v,e,h⟩:=h;obtain ⟨m,hn,hl⟩:=I.loc;obtain ⟨u,r,l⟩:=hl i x v hN e hv;have fin:EP X pins σ Q u s:=⟨v,H,I,r,h⟩;rcases l with ⟨hk,hm⟩ | ⟨hk,c,hc,d⟩
 ·exact wpAny_Name (wpAny_loadName_local I.ok.kind hk hn hm fin) hd
 ·rcases hk with hk | hk
  ·exact wpAny_Name (wpAny_loadName_cell I.ok.kind hk hc d fin) hd
  ·exact wpAny_Name (wpAny_loadName_free I.ok.kind hk hc d fin hcd) hd
theorem pe_int{i j pos:_}:PE X (.Constant (.int i) j pos) (tC (.int i)):=fun _ _ _ H _ I h=>wpAny_Constant_int ⟨.int i,H,I.tok _,⟨_,rfl⟩,h⟩
theorem pe_bl{b j pos:_}:PE X (.Constant (.bool b) j pos) (tC (.bl b)):=fun _ _ _ H _ I h=>Constant_bool ⟨.bl b,H,I,rfl,h⟩
theorem pe_non{j pos:_}:PE X (.Constant .none j pos) (tC .non):=fun _ _ _ H _ I h=>Constant_none ⟨.non,H,I,rfl,h⟩
theorem pe_str{x j pos:_}:PE X (.Constant (.str x) j pos) (tC (.str x)):=fun _ _ _ H _ I h=>Calls.Constant_str ⟨.str x,H,I.tok _,⟨_,rfl⟩,h⟩
def Gl(X:Cx)(x:Str):Prop:=X.env.kindOf x=some .globalImplicit
theorem JU{E:Value->Shared->Prop}{pins:List (Addr × Obj)}{s:Shared}{σ:St}{H:Hp}{u:Value}{pos:Pos}(I:Inv X pins σ H s)(hg:Gl X x)(hm:X.mg x=some u)(h:Q u s)
  (hd:(x == ("__debug__" : Str))=false:=by decide):wpAny (model X.prog X.w) X.A (eval (.Name x pos) X.env) Q E s :=
 Calls.Name_function_global I.ok.kind hg (Calls.loadGlobal_global (by rw [I.ok.glob];exact I.mod.glob.keeps I.bk) hm h) hd
theorem GP{E:Value->Shared->Prop}{pins:List (Addr × Obj)}{s:Shared}{σ:St}{H:Hp}{u:Value}{pos:Pos}(I:Inv X pins σ H s)(hg:Gl X x)(hm:X.mg x=none)(hv:bootBuiltins x=some u)(h:Q u s)
  (hn:x ≠ "__name__" := by decide) (hd:(x == ("__debug__" : Str))=false:=by decide):wpAny (model X.prog X.w) X.A (eval (.Name x pos) X.env) Q E s:=by
 obtain ⟨d,h1,h2⟩:=I.mod.blt;exact Calls.Name_function_global I.ok.kind hg (Calls.loadGlobal_builtin (by rw [I.ok.glob];exact I.mod.glob.keeps I.bk) hm (by rw [I.ok.blt];exact h1.keeps I.bk) ((h2 x hn).trans hv) h) hd
theorem uz  {v:V} {u:Value} {pos:Pos} (hg:Gl X x) (hm:X.mg x=some u) (r:RelV v u) (hd:(x == ("__debug__" : Str))=false:=by decide):PE X (.Name x pos) (tC v) :=
 fun _ _ _ H _ I h=>JU I hg hm ⟨v,H,I,r,h⟩ hd
theorem uA  {v:V} {u:Value} {pos:Pos} (hg:Gl X x) (hm:X.mg x=none) (hv:bootBuiltins x=some u) (r:RelV v u) (hn:x ≠ "__name__" := by decide) (hd:(x == ("__debug__" : Str))=false:=by decide):PE X (.Name x pos) (tC v) :=
 fun _ _ _ H _ I h=>GP I hg hm hv ⟨v,H,I,r,h⟩ hn hd
variable {a b:Expr}{ta tb:TE}{pos:Pos}
inductive tB_i(Q:Bool->Hp->Prop)(x:V)(H1:Hp):Prop
 | mk (c:_):(x=.bl c)->(Q c H1)->tB_i Q x H1
def tB(t:TE):TT:=fun σ H Q=>t σ H fun x H1=>tB_i Q x H1
theorem pt_val{t:TE}(h:PE X e t)(he:∀f,isTrue e X.env f=(do let v <-f;standAt e.pos;holding [v] (truthy v)):=by intro _;rfl):PT X e (tB t):=by
 intro pins s σ H Q I hw;refine isTrue_plain (thn (h pins s σ H _ I hw) fun v G ⟨x,H1,g,E,y⟩=>?_) (he _);obtain ⟨d,rfl,q⟩:=y;cases E;exact Qdr ⟨H1,g,q⟩
variable {tA tB':TT}{rest:List Expr}
def tAnd(t u:TT):TT:=fun σ H Q=>t σ H fun c H1=>if c=true then u σ H1 Q else Q false H1
def tOr(t u:TT):TT:=fun σ H Q=>t σ H fun c H1=>if c=true then Q true H1 else u σ H1 Q
def tNot(t:TT):TT:=fun σ H Q=>t σ H fun c H1=>Q (!c) H1
theorem uB(ha:PT X a tA):PW X (.BoolOp .And [a] pos) tA:=by
 intro d pins s σ H Q I h;refine isTrue_and (thn (ha pins s σ H Q I h) fun c f e=>?_);cases c with
 | true=>exact isTrue_and_nil e
 | false=>exact e
theorem pw_or1(ha:PT X a tA):PW X (.BoolOp .Or [a] pos) tA:=by
 intro d pins s σ H Q I h;refine isTrue_or (thn (ha pins s σ H Q I h) fun c f e=>?_);cases c with
 | false=>exact isTrue_or_nil e
 | true=>exact e
theorem pw_and(ha:PT X a tA)(hb:PW X (.BoolOp .And (b::rest) pos) tB'):PW X (.BoolOp .And (a::b::rest) pos) (tAnd tA tB'):=by
 intro g pins s σ H Q I h;refine isTrue_and (thn (ha pins s σ H _ I h) fun c y ⟨H1,d,f⟩=>?_);cases c with
 | true=>exact hb g pins y σ H1 Q d f
 | false=>exact ⟨H1,d,f⟩
theorem pw_or(ha:PT X a tA)(hb:PW X (.BoolOp .Or (b::rest) pos) tB'):PW X (.BoolOp .Or (a::b::rest) pos) (tOr tA tB'):=by
 intro g pins s σ H Q I h;refine isTrue_or (thn (ha pins s σ H _ I h) fun c y ⟨H1,d,f⟩=>?_);cases c with
 | true=>exact ⟨H1,d,f⟩
 | false=>exact hb g pins y σ H1 Q d f
theorem pt_not(ha:PT X a tA):PT X (.UnaryOp .Not a pos) (tNot tA):=by
 intro pins s σ H Q I h;exact isTrue_not (thn (ha pins s σ H (fun c H1=>Q (!c) H1) I h) fun c f ⟨H1,d,q⟩=>⟨H1,d,q⟩)
inductive y4(tb:TE)(σ:St)(Q:VK)(x:V)(H1:Hp):Prop
 | mk (c:_):(x=.bl c)->(if c=true then tb σ H1 Q else Q (.bl false) H1)->y4 tb σ Q x H1
def Zb0(ta tb:TE):TE:=fun σ H Q=>ta σ H fun x H1=>y4 tb σ Q x H1
inductive gx(tb:TE)(σ:St)(Q:VK)(x:V)(H1:Hp):Prop
 | mk (c:_):(x=.bl c)->(if c=true then Q (.bl true) H1 else tb σ H1 Q)->gx tb σ Q x H1
def tOrV(ta tb:TE):TE:=fun σ H Q=>ta σ H fun x H1=>gx tb σ Q x H1
inductive uC(Q:VK)(x:V)(H1:Hp):Prop
 | mk (c:_):(x=.bl c)->(Q (.bl (!c)) H1)->uC Q x H1
theorem pe_one{d:_}{t:TE}(h:PE X a t):PE X (.BoolOp d [a] pos) t:=fun pins s σ H Q I hw=>BoolOp_one (h pins s σ H Q I hw)
theorem pe_and(ha:PE X a ta)(hb:PE X (.BoolOp .And (b::rest) pos) tb):PE X (.BoolOp .And (a::b::rest) pos) (Zb0 ta tb):=by
 intro pins s σ H Q I h;refine BoolOp_and (thn (ha pins s σ H _ I h) fun v g ⟨x,H1,f,y,d⟩=>?_);obtain ⟨c,rfl,d⟩:=d;cases y;refine Qdr ?_;cases c with
 | true=>exact hb pins g σ H1 Q f d
 | false=>exact ⟨.bl false,H1,f,rfl,d⟩
theorem pe_or(ha:PE X a ta)(hb:PE X (.BoolOp .Or (b::rest) pos) tb):PE X (.BoolOp .Or (a::b::rest) pos) (tOrV ta tb):=by
 intro pins s σ H Q I h;refine BoolOp_or (thn (ha pins s σ H _ I h) fun v g ⟨x,H1,f,y,d⟩=>?_);obtain ⟨c,rfl,d⟩:=d;cases y;refine Qdr ?_;cases c with
 | false=>exact hb pins g σ H1 Q f d
 | true=>exact ⟨.bl true,H1,f,rfl,d⟩
def tIf(t:TT)(ta tb:TE):TE:=fun σ H Q=>t σ H fun c H1=>if c=true then ta σ H1 Q else tb σ H1 Q
theorem kL{c:Expr}(hc:PT X c tA)(ha:PE X a ta)(hb:PE X b tb):PE X (.IfExp c a b pos) (tIf tA ta tb):=by
 intro pins s σ H Q I h;refine wpAny_IfExp (thn (hc pins s σ H _ I h) fun d g ⟨H1,f,y⟩=>?_);cases d with
 | true=>exact ha pins g σ H1 Q f y
 | false=>exact hb pins g σ H1 Q f y
end
def SqL(K:PySem.W.Frag)(H:Hp)(a:Addr)(xs:List V):Prop :=
 Rd H a (.lst xs) \/
  ∃(o:Obj) (d:Array Value) (n:Nat),K.lookup a=some o/\o.cls=.type "list" /\ o.dict=none/\o.data=.seq d n/\d.size<=sizeLine/\Vals xs d.toList
def SqT(K:PySem.W.Frag)(H:Hp)(a:Addr)(xs:List V):Prop :=
 Rd H a (.tup xs) \/
  ∃(o:Obj) (d:Array Value) (n:Nat),K.lookup a=some o/\o.cls=.type "tuple" /\ o.data=.seq d n/\d.size<=sizeLine/\Vals xs d.toList
def uD:Value->Option V
 | .none=>some .non
 | .bool b=>some (.bl b)
 | .int i _=>some (.int i)
 | .str x _=>some (.str x)
 | .bytes b _=>some (.byt b)
 | .float b _=>some (.flt b)
 | .ref a=>some (.ref a)
 | .type n=>some (.ty n)
 | _=>none
theorem RelV.abs{x:V}{u:Value}(r:RelV x u):uD u=some x:=by
 cases x with
 | non=>cases r;rfl
 | bl _=>cases r;rfl
 | int _=>obtain ⟨t,rfl⟩:=r;rfl
 | str _=>obtain ⟨t,rfl⟩:=r;rfl
 | byt _=>obtain ⟨t,rfl⟩:=r;rfl
 | flt _=>obtain ⟨t,rfl⟩:=r;rfl
 | ref _=>cases r;rfl
 | ty _=>cases r;rfl
theorem RelV.inj{x y:V}{u:Value}(r:RelV x u)(q:RelV y u):x=y:=Option.some.inj (r.abs.symm.trans q.abs)
theorem Vals.inj:∀{xs ys:List V} {d:List Value},Vals xs d->Vals ys d->xs=ys
 | _,_,_,.nil,.nil=>rfl
 | _,_,_,.cons r t,.cons f t'=>by rw [r.inj f,Vals.inj t t']
section
variable {X:Cx}{pins:List (Addr × Obj)}{σ:St}{H:Hp}{s:Shared}{a:Addr}{xs ys:List V}
theorem SqL.of(h:H a=some (.lst xs)):SqL K H a xs:=.inl (.inl h)
theorem SqT.of(h:H a=some (.tup xs)):SqT K H a xs:=.inl (.inl h)
theorem Inv.list(I:Inv X pins σ H s)(h:SqL X.K H a xs):∃d:List Value,Vals xs d/\PlainL s.heap a d.toArray/\xs.length<=sizeLine:=by
 rcases h with h | ⟨o,d,n,hk,hc,hd,hs,f,r⟩
 ·obtain ⟨z,d,n,r,e⟩:=h.ok I.hok
  exact ⟨d,r,⟨_,n,e,rfl,rfl,rfl⟩,z⟩
 ·refine ⟨d.toList,r,⟨o,n,I.kIn a o hk,hc,hd,by simpa using hs⟩,?_⟩
  have e:=r.length;simp only [Qc9] at e;lia
theorem Inv.tuple(I:Inv X pins σ H s)(h:SqT X.K H a xs):∃d:List Value,Vals xs d/\IsTup s.heap a d.toArray/\xs.length<=sizeLine:=by
 rcases h with h | ⟨o,d,n,hk,hc,hs,f,r⟩
 ·obtain ⟨z,d,r,p⟩:=h.ok I.hok
  exact ⟨d,r,p.tup,z⟩
 ·refine ⟨d.toList,r,⟨o,I.kIn a o hk,hc,n,by simpa using hs⟩,?_⟩
  have e:=r.length;simp only [Qc9] at e;lia
theorem Inv.list_inj(I:Inv X pins σ H s)(h:SqL X.K H a xs)(h':SqL X.K H a ys):xs=ys:=by
 obtain ⟨f,r,⟨o,n,e,_,_,d⟩,_⟩:=I.list h;obtain ⟨its',y,⟨o',E,g,_,_,d'⟩,_⟩:=I.list h';rw [e] at g;cases g;rw [d] at d';injection d' with d1 _;have:f=its':=by simpa using congrArg Array.toList d1
 subst this;exact r.inj y
theorem Inv.tuple_inj(I:Inv X pins σ H s)(h:SqT X.K H a xs)(h':SqT X.K H a ys):xs=ys:=by
 obtain ⟨f,r,⟨o,e,_,n,d⟩,_⟩:=I.tuple h;obtain ⟨its',y,⟨o',g,_,E,d'⟩,_⟩:=I.tuple h';rw [e] at g;cases g;rw [d] at d';injection d' with d1 _;have:f=its':=by simpa using congrArg Array.toList d1
 subst this;exact r.inj y
end
abbrev Cx.wish(X:Cx)(E:Value->Shared->Prop):Cx:={ X with xe:=E }
abbrev Cx.nox(X:Cx):Cx:=X.wish fun _ _=>False
theorem Cx.Ok.wish{X:Cx}(ok:X.Ok)(E:Value->Shared->Prop):(X.wish E).Ok :=
 ⟨ok.mod,ok.kind,ok.glob,ok.blt,ok.above,ok.inj,ok.has,ok.cab,ok.hd,ok.frames,ok.stk,ok.exf,ok.bs,ok.bsz,ok.noex,ok.exfs,ok.funs,ok.frf⟩
theorem Cx.Ok.unwish{X:Cx}(ok:(X.wish Q).Ok):X.Ok :=
 ⟨ok.mod,ok.kind,ok.glob,ok.blt,ok.above,ok.inj,ok.has,ok.cab,ok.hd,ok.frames,ok.stk,ok.exf,ok.bs,ok.bsz,ok.noex,ok.exfs,ok.funs,ok.frf⟩
section
variable {X:Cx}{pins:List (Addr × Obj)}{σ:St}{H:Hp}{s:Shared}{E:Value->Shared->Prop}
theorem Inv.wish(I:Inv X pins σ H s)(E:Value->Shared->Prop):Inv (X.wish E) pins σ H s:=⟨I.ok.wish E,I.os,I.bare,I.base,I.loc,I.cell,I.free,I.freeC,I.pin,I.hok,I.len⟩
theorem Inv.unwish(I:Inv (X.wish E) pins σ H s):Inv X pins σ H s:=⟨I.ok.unwish,I.os,I.bare,I.base,I.loc,I.cell,I.free,I.freeC,I.pin,I.hok,I.len⟩
theorem SP.unwish{D:Ends}{f:Flow}{s':Shared}(h:SP (X.wish E) pins D f s'):SP X pins D f s':=by
 cases f with
 | next=>obtain ⟨d,H',I,q⟩:=h;exact ⟨d,H',I.unwish,q⟩
 | brk=>obtain ⟨d,H',I,q⟩:=h;exact ⟨d,H',I.unwish,q⟩
 | cont=>obtain ⟨d,H',I,q⟩:=h;exact ⟨d,H',I.unwish,q⟩
 | ret u=>obtain ⟨v,d,H',I,r,q⟩:=h;exact ⟨v,d,H',I.unwish,r,q⟩
theorem PE.nox{e:Expr}{t:TE}(h:PE X.nox e t):PE X e t:=fun pins s σ H Q I hw =>
 Qcg (h pins s σ H Q (I.wish _) hw) (fun _ _ ⟨v,H',d,r,q⟩=>⟨v,H',d.unwish,r,q⟩) fun _ _ z=>False.elim z
theorem PT.nox{e:Expr}{t:TT}(h:PT X.nox e t):PT X e t:=fun pins s σ H Q I hw =>
 Qcg (h pins s σ H Q (I.wish _) hw) (fun _ _ ⟨H',d,q⟩=>⟨H',d.unwish,q⟩) fun _ _ z=>False.elim z
theorem PSs.nox{st:List Stmt}{t:TS}(h:PSs X.nox st t):PSs X st t:=fun pins s σ H D I hw =>
 Qcg (h pins s σ H D (I.wish _) hw) (fun _ _ q=>q.unwish) fun _ _ z=>False.elim z
end
section
variable {X:Cx}{st:Stmt}{rest:List Stmt}{t u:TS}{e:Expr}{te:TE}{pos:Pos}
def Zb1:TS:=fun D σ H=>D.nx σ H
def ZA(t u:TS):TS:=fun D σ H=>t { D with nx:=u D } σ H
theorem uE:PSs X [] Zb1:=fun _ _ σ H _ I h=>Qdo ⟨σ,H,I,h⟩
theorem kM(h1:PS X st t)(h2:PSs X rest u):PSs X (st::rest) (ZA t u):=by
 intro pins s σ H D I h;refine Qfq (thn (h1 pins s σ H { D with nx:=u D } I h) fun f y q=>?_);cases f with
 | next =>
  obtain ⟨d,H',g,q⟩:=q;exact h2 pins y d H' D g q
 | ret v=>exact q
 | brk=>exact q
 | cont=>exact q
theorem uF(h1:PS X st t):PSs X [st] t:=by
 intro pins s σ H D I h;refine Qfq (thn (h1 pins s σ H D I h) fun f d q=>?_);cases f with
 | next=>exact Qdo q
 | ret v=>exact q
 | brk=>exact q
 | cont=>exact q
theorem Inv.quiet{σ:St}{H:Hp}{s:Shared}(I:Inv X E σ H s):interactive X.env=false:=by simp [interactive,I.ok.kind]
def Zb2(te:TE):TS:=fun D σ H=>te σ H fun _ H1=>D.nx σ H1
theorem uG(he:PE X e te)(hs:swapsWith e none pos.line X.env=pure false:=by rfl):PS X (.Expr e pos) (Zb2 te):=by
 intro pins s σ H D I h;exact wpAny_Expr_any (thn (he pins s σ H _ I h) fun v g ⟨x,H1,d,y,f⟩=>⟨σ,H1,d,f⟩) I.quiet hs
def tRet(te:TE):TS:=fun D σ H=>te σ H D.rt
theorem ps_ret(he:PE X e te):PS X (.Return (some e) pos) (tRet te):=by
 intro pins s σ H D I h;exact wpAny_Return_some (thn (he pins s σ H _ I h) fun v y ⟨x,H1,d,g,f⟩=>⟨x,σ,H1,d,g,f⟩)
def tIfS(c:TT)(t u:TS):TS:=fun D σ H=>c σ H fun b H1=>if b=true then t D σ H1 else u D σ H1
theorem ps_if{c:Expr}{a b:List Stmt}{tc:TT}(hc:PT X c tc)(ha:PSs X a t)(hb:PSs X b u):PS X (.If c a b pos) (tIfS tc t u):=by
 intro pins s σ H D I h;refine wpAny_If (thn (hc pins s σ H _ I h) fun d g ⟨H1,f,y⟩=>?_);cases d with
 | true=>exact ha pins g σ H1 D f y
 | false=>exact hb pins g σ H1 D f y
end
abbrev TG:=V->St->Hp->(St->Hp->Prop)->Prop
abbrev TGs:=List V->St->Hp->(St->Hp->Prop)->Prop
def PG(X:Cx)(d:Expr)(t:TG):Prop :=
 ∀(pins:List (Addr × Obj)) (s:Shared) (σ:St) (H:Hp) (v:V) (u:Value) (Q:St->Hp->Prop),Inv X pins σ H s->RelV v u->t v σ H Q ->
  wpAny (model X.prog X.w) X.A (assign d X.env u) (fun _ s'=>∃f H',Inv X pins f H' s'/\Q f H') X.xe s
def PGs(X:Cx)(ts:List Expr)(t:TGs):Prop :=
 ∀(pins:List (Addr × Obj)) (s:Shared) (σ:St) (H:Hp) (f:List V) (g:List Value) (Q:St->Hp->Prop),Inv X pins σ H s->Vals f g->t f σ H Q ->
  wpAny (model X.prog X.w) X.A (assignInOrder ((assignEach ts X.env).map (·.2)) g) (fun _ s'=>∃d H',Inv X pins d H' s'/\Q d H') X.xe s
abbrev Zc4:=V->V->V->Hp->(Hp->Prop)->Prop
def PSet(X:Cx)(t:Zc4):Prop :=
 ∀(pins:List (Addr × Obj)) (s:Shared) (σ:St) (H:Hp) (o i v:V) (f d u:Value) (Q:Hp->Prop),Inv X pins σ H s->RelV o f->RelV i d->RelV v u->t o i v H Q ->
  wpAny (model X.prog X.w) X.A (setItem f d u) (fun _ s'=>∃H',Inv X pins σ H' s'/\Q H') X.xe s
abbrev TIp:=V->V->Hp->VK->Prop
def PIp(X:Cx)(d:Operator)(t:TIp):Prop :=
 ∀(pins:List (Addr × Obj)) (s:Shared) (σ:St) (H:Hp) (x y:V) (v u:Value) (Q:VK),Inv X pins σ H s->RelV x v->RelV y u->t x y H Q ->
  wpAny (model X.prog X.w) X.A (inplaceOp d v u) (EP X pins σ Q) X.xe s
section
variable {X:Cx}{pos:Pos}
def W0(i:Nat):TG:=fun v σ H Q=>Q (σ.set i (some v)) H
theorem W2(hN:X.N.Nodup)(hi:X.N[i]?=some x)(hx:Loc X.env.scope x)(hf:X.fn x=true\/X.env.scope.names.lookup x=some .local:=by first | exact .inl rfl | exact .inr rfl | assumption):PG X (.Name x pos) (W0 i):=by
 intro pins s σ H v u Q I r h;exact Qfg (Xv I hN hi hx r (fun s' d=>⟨_,H,d,h⟩) hf)
inductive gy(vs:List V)(σ:St)(H:Hp)(Q:St->Hp->Prop):Prop
 | mk  : (vs=[])->(Q σ H)->gy vs σ H Q
def Zbt  : TGs:=fun d σ H Q=>gy d σ H Q
inductive y6(t:TG)(u:TGs)(vs:List V)(σ:St)(H:Hp)(Q:St->Hp->Prop):Prop
 | mk (v r:_):(vs=v::r)->(t v σ H fun σ' H'=>u r σ' H' Q)->y6 t u vs σ H Q
def JD(t:TG)(u:TGs):TGs:=fun d σ H Q=>y6 t u d σ H Q
theorem qo:PGs X [] Zbt:=by
 intro pins s σ H d f Q I r h;obtain ⟨e,h⟩:=h;subst e;cases r;exact assignInOrder_nil ⟨σ,H,I,h⟩
theorem YF{t:TG}{u:TGs}(h1:PG X e t)(h2:PGs X L u)
  (hs:(assignEach (e::L) X.env).map (·.2)=assign e X.env::(assignEach L X.env).map (·.2):=by rfl):PGs X (e::L) (JD t u):=by
 intro pins s σ H G J Q I r h;obtain ⟨v,O,e1,h⟩:=h;subst e1;cases r with
 | cons r E =>
  rw [hs];refine assignInOrder_cons (thn (h1 pins s σ H _ _ _ I r h) fun _ g ⟨d,H1,f,y⟩=>?_);exact h2 pins g d H1 _ _ Q f E y
inductive gz(K:PySem.W.Frag)(n:Nat)(t:TGs)(v:V)(σ:St)(H:Hp)(Q:St->Hp->Prop):Prop
 | mk (a xs:_):(v=.ref a)->(SqT K H a xs)->(xs.length=n)->(t xs σ H Q)->gz K n t v σ H Q
def Zb3(K:PySem.W.Frag)(n:Nat)(t:TGs):TG:=fun v σ H Q=>gz K n t v σ H Q
theorem y7{k:Nat}{t:TGs}(hc:X.calm=true)(h:PGs X L t)
  (hn:(assignEach L X.env).length=n:=by rfl) (d:(assignEach L X.env).findIdx? (·.1)=none:=by rfl):PG X (.Tuple L k pos) (Zb3 X.K n t):=by
 intro pins s σ H v u Q I r hw;obtain ⟨a,xs,e1,E,hl,hw⟩:=hw;subst e1;cases r;obtain ⟨g,f,G,J⟩:=I.tuple E;refine assign_Tuple_tuple (I.ok.hd hc) G (by simp [hn,<-hl,f.length]) d fun h' hx=>?_;have y:Inv X pins σ H { s with heap:=h' }:=I.kept (t':=s.toks) fun b o e=>hx b o (Qbf (Qat e)) e;exact h pins _ σ H xs _ Q y (by simpa using f) hw
def gSub(to d:TE)(t:Zc4):TG:=fun v σ H Q=>to σ H fun o H1=>d σ H1 fun i H2=>t o i v H2 fun f=>Q σ f
theorem pg_sub{i:Expr}{to g:TE}{t:Zc4}(ho:PE X o to)(hi:PE X i g)(hs:PSet X t)
  (ha:∀v,assign (.Subscript o i pos) X.env v=(do
   let d <-holding [v] (eval o X.env);let f <-holding [v,d] (eval i X.env)
   standAt pos
   holding [v,d,f] (setItem d f v)
   release [v,d,f] []):=by intro _;rfl):PG X (.Subscript o i pos) (gSub to g t):=by
 intro pins s σ H v u Q I r h;rw [ha];refine Qaa (Qb3 (thn (ho pins s σ H _ I h) fun d U ⟨x,H1,E,Y,J⟩=>?_));refine Qaa (Qb3 (thn (hi pins U σ H1 _ E J) fun f s2 ⟨y,H2,G,O,Z⟩=>?_));refine Qaa (Qes (Qaa (Qb3 (thn (hs pins s2 σ H2 x y v d f u _ G Y O r Z) fun _ s3 ⟨W,S,L⟩=>?_))));exact wpAny_release ⟨σ,W,S,L⟩
def Zbu(te:TE)(g:TG):TS:=fun D σ H=>te σ H fun x H1=>g x σ H1 D.nx
theorem ps_asg{te:TE}{g:TG}(he:PE X e te)(hg:PG X o g)(hs:swapsWithSole [o] e pos.line X.env=pure false:=by rfl)(hw:swappedStores [o] e X.env=pure none:=by rfl)
  (h1:(assignEach [o] X.env).map (·.2)=[assign o X.env]:=by rfl):PS X (.Assign [o] e pos) (Zbu te g):=by
 intro pins s σ H D I h;refine wpAny_Assign_stores (thn (he pins s σ H _ I h) fun v f ⟨x,H1,d,E,y⟩=>?_) hs hw;rw [h1];exact thn (hg pins f σ H1 x v _ d E y) fun _ G q=>q
theorem ps_set{te:TE}(hN:X.N.Nodup)(hi:X.N[i]?=some x)(hx:Loc X.env.scope x)(he:PE X e te)(hs:swapsWith e (some (.Name x p)) pos.line X.env=pure false:=by rfl)(hf:X.fn x=true\/X.env.scope.names.lookup x=some .local:=by first | exact .inl rfl | exact .inr rfl | assumption) :
  PS X (.Assign [.Name x p] e pos) (Zbu te (W0 i)):=by
 intro pins s σ H D I h;refine wpAny_Assign_Name (thn (he pins s σ H _ I h) fun v G ⟨y,H1,d,E,g⟩=>?_) hs;exact Xv d hN hi hx E (fun J f=>⟨_,H1,f,g⟩) hf
inductive g7(i:Nat)(te:TE)(ti:TIp)(D:Ends)(σ:St)(H:Hp):Prop
 | mk (x:_):(σ[i]?=some (some x))->(te σ H fun y H1=>ti x y H1 fun z H2=>D.nx (σ.set i (some z)) H2)->g7 i te ti D σ H
def tAug(i:Nat)(te:TE)(d:TIp):TS:=fun D σ H=>g7 i te d D σ H
theorem ps_aug{te:TE}{g:Operator}{J:TIp}(hN:X.N.Nodup)(hi:X.N[i]?=some x)(hx:Loc X.env.scope x)(he:PE X e te)(ho:PIp X g J)(hf:X.fn x=true\/X.env.scope.names.lookup x=some .local:=by first | exact .inl rfl | exact .inr rfl | assumption) :
  PS X (.AugAssign (.Name x p) g e pos) (tAug i te J):=by
 intro pins s σ H D I h;obtain ⟨v,e1,h⟩:=h;obtain ⟨m,hn,hl⟩:=I.loc;have E:Vis X.env.scope x:=by rcases hx with k | k;exact .inl k;exact .inr (.inl k)
 obtain ⟨u,r,l⟩:=hl i x v hi e1 E;refine wpAny_AugAssign_Name ?_;have G:wpAny (model X.prog X.w) X.A (eval e X.env) (fun w s₂=>wpAny (model X.prog X.w) X.A (inplaceOp g u w) (fun r f=>wpAny (model X.prog X.w) X.A (storeName X.env x r) (fun _=>SP X pins D .next) X.xe f) X.xe s₂) X.xe s:=by
  refine thn (he pins s σ H _ I h) fun w Y ⟨y,H1,L,Z,S⟩=>?_;refine thn (ho pins Y σ H1 v y u w _ L r Z S) fun z s2 ⟨zv,H2,O,U,q2⟩=>?_;exact Xv O hN hi hx U (fun s3 W=>⟨_,H2,W,q2⟩) hf
 rcases l with ⟨hk,hm⟩ | ⟨hk,c,hc,d⟩
 ·exact wpAny_loadName_local I.ok.kind hk hn hm G
 ·rcases hk with hk | hk
  ·exact wpAny_loadName_cell I.ok.kind hk hc d G
  ·rcases hx with k | k
   ·have:X.env.scope.names.lookup x=some .free:=hk
    rw [k] at this;cases this
   ·have:X.env.scope.names.lookup x=some .free:=hk
    rw [k] at this;cases this
inductive Zb4(f:Int->Int->Int)(x:V)(y:V)(H:Hp)(Q:VK):Prop
 | mk (i j:_):(x=.int i)->(y=.int j)->(Q (.int (f i j)) H)->Zb4 f x y H Q
def ipI(f:Int->Int->Int):TIp:=fun x y H Q=>Zb4 f x y H Q
theorem g8:PIp X .Add (ipI fun i j=>i + j):=by
 intro pins s σ H x y v u Q I d f h;obtain ⟨i,j,e1,e2,q⟩:=h;subst e1;subst e2;obtain ⟨t,rfl⟩:=d;obtain ⟨t',rfl⟩:=f;exact iadd_int ⟨.int _,H,I.tok _,⟨_,rfl⟩,q⟩
def y8(c:TT)(tb:TS):TS:=fun D σ H=>∃W:Nat->St->Hp->Prop,(∃m,W m σ H)/\∀m σ H,W m σ H ->
 c σ H fun b H1=>if b=true then ∃N:St->Hp->Prop,(∀d H',N d H'->∃f,f < m/\W f d H')/\tb { D with nx:=N,ct:=N,bk:=D.nx } σ H1 else D.nx σ H1
theorem kN{c:Expr}{body:List Stmt}{tc:TT}{tb:TS}(hp:PassesOwn (model X.prog X.w) X.A X.env X.xe)(hc:PT X c tc)(hb:PSs X body tb):PS X (.While c body [] pos) (y8 tc tb):=by
 intro pins s σ H D I h;obtain ⟨W,⟨m0,w0⟩,y⟩:=h;refine wpAny_While (codeAny_whileLoop (fun n s'=>∃G H',Inv X pins G H' s'/\W n G H') ?_ m0 ⟨σ,H,I,w0⟩);rintro n s1 ⟨g,H1,I1,w1⟩;refine Qc3 hp (thn (hc pins s1 g H1 _ I1 (y n g H1 w1)) fun b s2 ⟨H2,Z,L⟩=>?_);cases b with
 | true =>
  obtain ⟨N,hN,L⟩:=L;rw [Qa4 rfl];refine Qc3 hp (thn (hb pins s2 g H2 _ Z L) fun f s3 J=>?_);cases f with
  | next =>
   obtain ⟨d,E,Y,O⟩:=J;obtain ⟨U,hm,S⟩:=hN d E O;exact ⟨U,hm,d,E,Y,S⟩
  | cont =>
   obtain ⟨d,E,Y,O⟩:=J;obtain ⟨U,hm,S⟩:=hN d E O;exact ⟨U,hm,d,E,Y,S⟩
  | brk=>exact J
  | ret v=>exact J
 | false =>
  rw [Qa5 Qav];exact Qdo ⟨g,H2,Z,L⟩
end
structure It where
 go:Nat->Hp->Prop
 yld:Nat->Hp->V->Hp->Prop
 stop:Nat->Hp->Prop
def JN(X:Cx)(pins:List (Addr × Obj))(H:Hp)(b:Addr):Prop :=
 H b=none/\b≠X.env.locals/\b∉X.fs/\(b∈X.ex\/X.s₀.heap.objs.size<=b)/\(∀x c,X.env.cells.lookup x=some c->c≠b)/\∀p∈X.pn++pins,p.1≠b
theorem Inv.fpOk{X:Cx}{σ:St}{H H':Hp}{s:Shared}{b:Addr}(I:Inv X E σ H s)(hb:s.heap.objs.size<=b)(hn:H' b=none):JN X E H' b:=by
 refine ⟨hn,Qcz (Qaw I.lt hb),I.nofs hb,.inr (Qa0 I.sz hb),fun x c e z=>?_,fun p hp z=>?_⟩
 ·obtain ⟨v,q⟩:=I.cell x c e
  exact absurd (Qaw q.lt (by rw [z];exact hb)) (Qa6 _)
 ·exact absurd (Qaw (Qat (I.pin p hp).1) (by rw [z];exact hb)) (Qa6 _)
structure Turn(P:Program)(w:World)(K:PySem.W.Frag)(tg:Expr)(J:It)(fp:List Addr)(it:Addr)(tn:Nat->Heap->Prop):Prop where
 mem:it∈fp
 obj:∀i h,tn i h->∀b∈fp,∃o,h.get? b=some o/\∀v,o.data≠.cell v
 keep:∀i h h',tn i h->(∀b∈fp,∀o,h.get? b=some o->h'.get? b=some o)->tn i h'
 item:∀(X:Cx),X.prog=P->X.w=w->X.K=K->X.calm=true->∀(i:Nat) (pins:List (Addr × Obj)) (s:Shared) (σ:St) (H:Hp) (E:Value->Shared->Prop),Inv X pins σ H s->(∀b∈fp,JN X pins H b)->tn i s.heap->J.go i H ->
  wpAny (model P w) X.A (pyNext (.ref it)) (fun r s1=>∃u,r=some u /\
   wpAny (model P w) X.A (letOwnedTupleGo tg (.ref it) u) (fun _ s2=>∃x H',Inv X pins σ H' s2/\RelV x u/\J.yld i H x H'/\tn (i + 1) s2.heap/\∀b∈fp,H' b=none) E s1) E s
 done:∀(X:Cx),X.prog=P->X.w=w->X.K=K->X.calm=true->∀(i:Nat) (pins:List (Addr × Obj)) (s:Shared) (σ:St) (H:Hp) (E:Value->Shared->Prop),Inv X pins σ H s->(∀b∈fp,JN X pins H b)->tn i s.heap->J.stop i H ->
  wpAny (model P w) X.A (pyNext (.ref it)) (fun r s1=>r=none/\Inv X pins σ H s1) E s
 self:∀(A:Around) (i:Nat) (s:Shared) (Q:Value->Shared->Prop) (E:Value->Shared->Prop),tn i s.heap->Q (.ref it) s->wpAny (model P w) A (pyIter (.ref it)) Q E s
abbrev TI:=St->Hp->(It->Hp->Prop)->Prop
def PIE(X:Cx)(pins:List (Addr × Obj))(σ:St)(tg:Expr)(R:It->Hp->Prop)(d:Value)(f:Shared):Prop :=
 ∃(it:Addr) (fp:List Addr) (g:Nat->Heap->Prop) (J:It) (H':Hp),d=.ref it/\Inv X pins σ H' f/\Turn X.prog X.w X.K tg J fp it g/\g 0 f.heap/\(∀b∈fp,JN X pins H' b)/\R J H'
def PI(X:Cx)(tg iter:Expr)(wi:TI):Prop :=
 ∀(pins:List (Addr × Obj)) (s:Shared) (σ:St) (H:Hp) (R:It->Hp->Prop),Inv X pins σ H s->wi σ H R ->
  wpAny (model X.prog X.w) X.A (eval iter X.env) (fun v d=>wpAny (model X.prog X.w) X.A (pyIter v) (PIE X pins σ tg R) X.xe d) X.xe s
theorem jK{M:Model}{A:Around}{E:Value->Shared->Prop}{s:Shared}{it:Addr}{u:Value}{o:Obj}{n:String}{Q:Unit->Shared->Prop}(ho:s.heap.get? it=some o)(hc:o.cls=.type n)(hd:o.data=.fields q)
    (hn:["enumerate","zip","dict_itemiterator","dict_reverseitemiterator","odict_iterator","itertools.zip_longest","itertools.pairwise"].contains n=false) (d:Q () s):wpAny M A (letOwnedTupleGo e (.ref it) u) Q E s:=by
  unfold letOwnedTupleGo;cases e <;> first
    | exact Qaj d
    | (cases u <;> first
        | exact Qaj d
        | (refine Qaa (wpAny_load ho ?_)
           rw [hc,hd];show wpAny M A (if (["enumerate","zip","dict_itemiterator","dict_reverseitemiterator","odict_iterator","itertools.zip_longest","itertools.pairwise"].contains n && q[0]? == some (rawInt _))=true then _ else _) Q E s;rw [Qa5 (by intro h;rw [hn,Bool.false_and] at h;cases h)];exact Qaj d))
def Itl(K:PySem.W.Frag)(a:Addr):It :=
 ⟨fun i H=>∃xs x,SqL K H a xs/\xs[i]?=some x,fun i H x H'=>H'=H/\∀xs,SqL K H a xs->xs[i]?=some x,fun i H=>∃xs,SqL K H a xs/\xs.length<=i⟩
def Itt(K:PySem.W.Frag)(a:Addr):It :=
 ⟨fun i H=>∃xs x,SqT K H a xs/\xs[i]?=some x,fun i H x H'=>H'=H/\∀xs,SqT K H a xs->xs[i]?=some x,fun i H=>∃xs,SqT K H a xs/\xs.length<=i⟩
def Itr(lo:Int)(n:Nat):It:=⟨fun i _=>i < n,fun i H x H'=>H'=H/\x=.int (lo + i),fun i _=>n<=i⟩
theorem y9{tg:Expr}(a it:Addr):Turn P w K tg (Itl K a) [it] it (fun i h=>h.IsListIter it a i) where
 mem:=by simp
 obj:=fun i h st b hb=>by
  have e:b=it:=by simpa using hb
  subst e;obtain ⟨o,e,c,d⟩:=st;exact ⟨o,e,fun v z=>by rw [d] at z;cases z⟩
 keep:=fun i h h' st k=>st.at fun o e=>k it (by simp) o e
 item:=by
  intro X y hw U hc i pins s σ H E I hf st hg;subst y hw U;obtain ⟨xs,x,g,hx⟩:=hg;obtain ⟨J,S,p,hz⟩:=I.list g;obtain ⟨u,hu,ru⟩:=S.get hx;obtain ⟨L,G,Z,W,Y,O⟩:=hf it (by simp);refine wpAny_pyNext_list_item st p.isList (x:=u) (by simpa using hu) fun h' f sb=>?_;have I1:Inv X pins σ H { s with heap:=h' }:=I.turned (t':=s.toks) (fun b o hb e=>(sb.2 b hb).trans e) L G W Y O;obtain ⟨o,e,c,d⟩:=id f;exact ⟨u,rfl,jK (s:={ s with heap:=h' }) e c d (by decide) ⟨x,H,I1,ru,⟨rfl,fun ys hy=>by rw [I.list_inj hy g];exact hx⟩,f,fun b hb=>(hf b hb).1⟩⟩
 done:=by
  intro X y hw U hc i pins s σ H E I hf st hg;subst y hw U;obtain ⟨xs,g,hx⟩:=hg;obtain ⟨J,S,p,hz⟩:=I.list g;obtain ⟨L,G,Z,W,Y,O⟩:=hf it (by simp);have hl:=S.length;exact wpAny_pyNext_list_end (I.ok.hd hc) st p.isList (by simp;lia) fun h' eb=>⟨rfl,I.turned (t':=s.toks) (fun b o hb e=>eb b o hb e) L G W Y O⟩
 self:=fun _ _ _ _ _ st h=>wpAny_pyIter_listiter st h
theorem jL{tg:Expr}(a it:Addr):Turn P w K tg (Itt K a) [it] it (fun i h=>h.IsTupleIter it a i) where
 mem:=by simp
 obj:=fun i h st b hb=>by
  have e:b=it:=by simpa using hb
  subst e;obtain ⟨o,e,c,d⟩:=st;exact ⟨o,e,fun v z=>by rw [d] at z;cases z⟩
 keep:=fun i h h' st k=>st.at fun o e=>k it (by simp) o e
 item:=by
  intro X G hw U hc i pins s σ H E I hf st hg;subst G hw U;obtain ⟨xs,x,y,hx⟩:=hg;obtain ⟨f,S,p,hz⟩:=I.tuple y;obtain ⟨u,hu,ru⟩:=S.get hx;obtain ⟨L,J,Z,W,Y,O⟩:=hf it (by simp);refine wpAny_pyNext_tuple_item st (show s.heap.IsTuple a f.toArray from p) (x:=u) (by simpa using hu) fun h' g sb=>?_;have I1:Inv X pins σ H { s with heap:=h' }:=I.turned (t':=s.toks) (fun b o hb e=>(sb.2 b hb).trans e) L J W Y O;obtain ⟨o,e,c,d⟩:=id g;exact ⟨u,rfl,jK (s:={ s with heap:=h' }) e c d (by decide) ⟨x,H,I1,ru,⟨rfl,fun ys hy=>by rw [I.tuple_inj hy y];exact hx⟩,g,fun b hb=>(hf b hb).1⟩⟩
 done:=by
  intro X G hw U hc i pins s σ H E I hf st hg;subst G hw U;obtain ⟨xs,y,hx⟩:=hg;obtain ⟨f,S,p,hz⟩:=I.tuple y;obtain ⟨L,J,Z,W,Y,O⟩:=hf it (by simp);have hl:=S.length;exact wpAny_pyNext_tuple_end (I.ok.hd hc) st (show s.heap.IsTuple a f.toArray from p) (by simp;lia) fun h' eb=>⟨rfl,I.turned (t':=s.toks) (fun b o hb e=>eb b o hb e) L J W Y O⟩
 self:=fun _ _ _ _ _ st h=>wpAny_pyIter_tupleiter st h
theorem jM{tg:Expr}(it:Addr)(lo:Int)(n:Nat):Turn P w K tg (Itr lo n) [it] it (fun i h=>IsRangeIter h it (lo + (i:Nat) * 1) ((n:Int) - (i:Nat)) 1) where
 mem:=by simp
 obj:=fun i h st b hb=>by
  have e:b=it:=by simpa using hb
  subst e;exact ⟨_,st,fun v z=>by
   have z':Data.fields _=Data.cell v:=z;cases z'⟩
 keep:=fun i h h' st k=>k it (by simp) _ st
 item:=by
  intro X f hw J hc i pins s σ H E I hf st hg;subst f hw J;obtain ⟨y,g,S,L,O,G⟩:=hf it (by simp);have W:=Walks.range (prog:=X.prog) (w:=X.w) (I.ok.hd hc) it lo 1 n;refine W.item i s _ _ hg st fun v h' tk hv d U=>?_;obtain ⟨t,rfl⟩:=hv;have Y:Inv X pins σ H { s with heap:=h',toks:=tk }:=I.turned (fun b o hb e=>U b o (by simpa using hb) e) y g L O G;refine ⟨_,rfl,jK (s:={ s with heap:=h',toks:=tk }) (n := "range_iterator") d rfl rfl (by decide) ⟨.int (lo + i),H,Y,⟨t,?_⟩,⟨rfl,rfl⟩,d,fun b hb=>(hf b hb).1⟩⟩;rw [Int.mul_one]
 done:=by
  intro X f hw J hc i pins s σ H E I hf st hg;subst f hw J;obtain ⟨y,g,S,L,O,G⟩:=hf it (by simp);exact wpAny_pyNext_range_end (I.ok.hd hc) st (by have:n<=i:=hg;lia) fun h' Z=>⟨rfl,I.turned (t':=s.toks) (fun b o hb e=>Z b o hb e) y g L O G⟩
 self:=fun _ _ _ _ _ st h=>wpAny_pyIter_rangeiter st h
section
variable {X:Cx}{tg:Expr}
inductive yA(K:PySem.W.Frag)(R:It->Hp->Prop)(x:V)(H1:Hp):Prop
 | mk (a:_):(x=.ref a)->((∃xs,SqL K H1 a xs))->(R (Itl K a) H1)->yA K R x H1
def Zb5(K:PySem.W.Frag)(tl:TE):TI:=fun σ H R=>tl σ H fun x H1=>yA K R x H1
inductive g9(K:PySem.W.Frag)(R:It->Hp->Prop)(x:V)(H1:Hp):Prop
 | mk (a:_):(x=.ref a)->((∃xs,SqT K H1 a xs))->(R (Itt K a) H1)->g9 K R x H1
def iTup(K:PySem.W.Frag)(tl:TE):TI:=fun σ H R=>tl σ H fun x H1=>g9 K R x H1
theorem uH{l:Expr}{tl:TE}(hl:PE X l tl):PI X tg l (Zb5 X.K tl):=by
 intro pins s σ H R I h;refine thn (hl pins s σ H _ I h) fun v f ⟨x,H1,d,G,E⟩=>?_;obtain ⟨a,e,⟨xs,y⟩,q⟩:=E;subst e;cases G;obtain ⟨g,J,p,L⟩:=d.list y;refine Qc4 p.isList ?_;refine ⟨f.heap.objs.size,[f.heap.objs.size],_,_,H1,rfl,d.kept (t':=f.toks) fun b o e=>Qac _ e,y9 a _,⟨_,Qau _ rfl,rfl,rfl⟩,fun b hb=>?_,q⟩;have e:b=f.heap.objs.size:=by simpa using hb
 subst e;exact d.fpOk (Qao _) (d.hok.fresh (Qao _))
theorem pi_tup{l:Expr}{tl:TE}(hl:PE X l tl):PI X tg l (iTup X.K tl):=by
 intro pins s σ H R I h;refine thn (hl pins s σ H _ I h) fun v d ⟨x,H1,f,G,E⟩=>?_;obtain ⟨a,e,⟨xs,y⟩,q⟩:=E;subst e;cases G;obtain ⟨g,J,p,L⟩:=f.tuple y;refine Qdm (show d.heap.IsTuple a g.toArray from p) ?_;refine ⟨d.heap.objs.size,[d.heap.objs.size],_,_,H1,rfl,f.kept (t':=d.toks) fun b o e=>Qac _ e,jL a _,⟨_,Qau _ rfl,rfl,rfl⟩,fun b hb=>?_,q⟩;have e:b=d.heap.objs.size:=by simpa using hb
 subst e;exact f.fpOk (Qao _) (f.hok.fresh (Qao _))
theorem kO{pins:List (Addr × Obj)}{σ:St}{H:Hp}{s:Shared}{R:It->Hp->Prop}{lo hi:Int}{t u v:Tok}{tk:Nat}(I:Inv X pins σ H s)(h1:-(2 ^ 62)<=lo)(h2:lo < 2 ^ 62)(g:-(2 ^ 62)<=hi)(f:hi < 2 ^ 62)
  (q:R (Itr lo (hi - lo).toNat) H):wpAny (model X.prog X.w) X.A (pyIter (.ref s.heap.objs.size)) (PIE X pins σ tg R) Q { s with heap:=s.heap.push { cls:=.type "range",data:=.fields #[.int lo t,.int hi u,.int 1 v] },toks:=tk }:=by
 refine wpAny_pyIter_range (IsRange.new ..) (small_one h1 h2 g f) ?_;have d:Inv X pins σ H { s with heap:=s.heap.push { cls:=.type "range",data:=.fields #[.int lo t,.int hi u,.int 1 v] },toks:=tk }:=I.kept fun b o e=>Qac _ e;refine ⟨(s.heap.push { cls:=.type "range",data:=.fields #[.int lo t,.int hi u,.int 1 v] }).objs.size,[(s.heap.push { cls:=.type "range",data:=.fields #[.int lo t,.int hi u,.int 1 v] }).objs.size],_,_,H,rfl,
  d.kept (t':=tk) fun b o e=>Qac _ e,jM _ lo (hi - lo).toNat,?_,fun b hb=>?_,q⟩
 ·have e1:lo + ((0:Nat):Int) * 1=lo:=by simp
  have e2:(((hi - lo).toNat:Nat):Int) - ((0:Nat):Int)=Builtin.Range.rangeSize lo hi 1:=by rw [rangeSize_one];split <;> lia
  show IsRangeIter _ _ (lo + ((0:Nat):Int) * 1) ((((hi - lo).toNat:Nat):Int) - ((0:Nat):Int)) 1;rw [e1,e2];exact Qau _ rfl
 ·have e:b=(s.heap.push { cls:=.type "range",data:=.fields #[.int lo t,.int hi u,.int 1 v] }).objs.size:=by simpa using hb
  subst e;exact d.fpOk (Qao _) (d.hok.fresh (Qao _))
inductive yB(R:It->Hp->Prop)(vs:List V)(H1:Hp):Prop
 | mk (j:Int):(vs=[.int j])->(-(2 ^ 62)<=j)->(j < 2 ^ 62)->(R (Itr 0 j.toNat) H1)->yB R vs H1
def uI(ta:TA):TI:=fun σ H R=>ta σ H fun d H1=>yB R d H1
inductive uJ(R:It->Hp->Prop)(vs:List V)(H1:Hp):Prop
 | mk (i j:Int):(vs=[.int i,.int j])->((-(2 ^ 62)<=i/\i < 2 ^ 62/\-(2 ^ 62)<=j/\j < 2 ^ 62))->(R (Itr i (j - i).toNat) H1)->uJ R vs H1
theorem yC {a:Expr} {ta:TA} {pos:Pos} (hg:Gl X "range") (hm:X.mg "range" = none) (ha:PA X [a] ta) (hs:starEach [a] X.env=[(false,eval a X.env)]:=by rfl):PI X tg (.Call (.Name "range" p) [a] [] pos) (uI ta):=by
 intro pins s σ H R I h;refine Call_ (GP I hg hm boot_range (Qct (thn (ha pos pins s σ H _ I h) fun J L ⟨G,H1,f,g,d⟩=>?_) hs rfl));obtain ⟨j,e,d,E,q⟩:=d;subst e;cases g with
 | cons r y =>
  cases y;obtain ⟨t,rfl⟩:=r;exact call_range_1 (kO f (by lia) (by lia) d E (by simpa using q))
def tFor(wi:TI)(g:TG)(tb:TS):TS:=fun D σ H=>wi σ H fun J H1=>∃W:Nat->Nat->St->Hp->Prop,(∃m,W 0 m σ H1)/\∀i m σ H,W i m σ H ->
 (J.stop i H/\D.nx σ H)\/(J.go i H/\∃N:St->Hp->Prop,(∀d H',N d H'->∃y,y < m/\W (i + 1) y d H')/\∀x H',J.yld i H x H'->g x σ H' fun f H2=>tb { D with nx:=N,ct:=N,bk:=D.nx } f H2)
def JV(fp:List Addr)(h:Heap):List (Addr × Obj):=fp.filterMap fun b=>(h.get? b).map fun o=>(b,o)
theorem Yo{fp:List Addr}{b:Addr}{o:Obj}(hb:b∈fp)(e:h.get? b=some o):(b,o)∈JV fp h:=Qdn.mpr ⟨b,hb,by rw [e];rfl⟩
theorem yD{fp:List Addr}{p:Addr × Obj}(hp:p∈JV fp h):p.1∈fp/\h.get? p.1=some p.2:=by
 obtain ⟨b,hb,e⟩:=Qdn.mp hp;cases q:h.get? b with
 | none=>rw [q] at e;cases e
 | some o =>
  rw [q] at e;have d:(b,o)=p:=Option.some.inj e;subst d;exact ⟨hb,q⟩
theorem Inv.pinned{σ:St}{H:Hp}{s:Shared}{fp:List Addr}(I:Inv X E σ H s)(hf:∀b∈fp,JN X E H b)(ho:∀b∈fp,∃o,s.heap.get? b=some o/\∀v,o.data≠.cell v):Inv X (E++JV fp s.heap) σ H s :=
 I.pins_of fun p hp=>(Qam.mp hp).elim (fun z=>I.pin p (Qaf _ z)) fun z=>by
  obtain ⟨hb,e⟩:=yD z;obtain ⟨G,y,g,_⟩:=hf p.1 hb;obtain ⟨o,f,d⟩:=ho p.1 hb;rw [e] at f;cases f;exact ⟨e,G,y,g,d⟩
theorem Inv.unpinned{d:List (Addr × Obj)}{σ:St}{H:Hp}{s:Shared}(I:Inv X (E++d) σ H s):Inv X E σ H s:=I.pins_of fun p hp=>I.pin p (Qaf _ (Qay _ hp))
theorem ps_for{iter:Expr}{body:List Stmt}{wi:TI}{g:TG}{tb:TS}{pos:Pos}(hp:PassesOwn (model X.prog X.w) X.A X.env X.xe)(hc:X.calm=true)(hi:PI X tg iter wi)(hg:PG X tg g)(hb:PSs X body tb)
  (hs:∀x,foldedSetIterable iter X.env x=pure x:=by intro _;rfl):PS X (.For tg iter body [] pos) (tFor wi g tb):=by
 intro pins s σ H D I h;refine wpAny_For (thn (hi pins s σ H _ I h) fun v s1 h1=>thn h1 fun itv s2 h2=>?_) hs;obtain ⟨it,fp,tn,J,H2,e,I2,T,st2,f2,W,⟨m0,w0⟩,turn⟩:=h2;subst e;have O:∀{H':Hp},(∀b∈fp,H' b=none)->∀b∈fp,JN X pins H' b:=fun hn b hb=>⟨hn b hb,(f2 b hb).2⟩;refine codeAny_forLoop_any (fun n s'=>∃i G H',Inv X pins G H' s'/\tn i s'.heap/\(∀b∈fp,H' b=none)/\W i n G H') ?_ m0 ⟨0,σ,H2,I2,st2,fun b hb=>(f2 b hb).1,w0⟩;rintro n s3 ⟨i,E,H3,I3,st3,fr3,w3⟩;rcases turn i n E H3 w3 with ⟨stop,qn⟩ | ⟨go,N,hN,step⟩
 ·refine Qc3 hp (thn (T.done X rfl rfl rfl hc i pins s3 E H3 X.xe I3 (O fr3) st3 stop) fun r s4 ⟨hr,I4⟩=>?_)
  subst hr;exact Qdo ⟨E,H3,I4,qn⟩
 ·refine Qc3 hp (thn (T.item X rfl rfl rfl hc i pins s3 E H3 X.xe I3 (O fr3) st3 go) fun r s4 ⟨u,hr,h4⟩=>?_)
  subst hr;refine Qc3 hp (thn h4 fun _ s5 ⟨x,H5,I5,r5,y5,Y,fr5⟩=>?_);have I5':=I5.pinned (O fr5) (T.obj _ _ Y);refine Qc3 hp (thn (hg _ s5 E H5 x u _ I5' r5 (step x H5 y5)) fun _ s6 ⟨σ6,H6,I6,q6⟩=>?_);refine Qc3 hp (thn (hb _ s6 σ6 H6 _ I6 q6) fun f s7 U=>?_);have again:∀{y:St} {L:Hp},Inv X (pins++JV fp s5.heap) y L s7->N y L->∃m,m < n/\∃i G H',Inv X pins G H' s7/\tn i s7.heap/\(∀b∈fp,H' b=none)/\W i m G H':=fun {y L} S Z=>by
   obtain ⟨m',hm,w7⟩:=hN y L Z;refine ⟨m',hm,i + 1,y,L,S.unpinned,T.keep _ _ _ Y fun b hb o e=>(S.pin (b,o) (Qaf _ (Qaf _ (Yo hb e)))).1,fun b hb=>?_,w7⟩;obtain ⟨o,e,d⟩:=T.obj _ _ Y b hb;exact (S.pin (b,o) (Qaf _ (Qaf _ (Yo hb e)))).2.1
  cases f with
  | next=>obtain ⟨y,L,S,Z⟩:=U;exact again S Z
  | cont=>obtain ⟨y,L,S,Z⟩:=U;exact again S Z
  | brk=>obtain ⟨y,L,S,U⟩:=U;exact ⟨y,L,S.unpinned,U⟩
  | ret v=>obtain ⟨x7,y,L,S,r7,U⟩:=U;exact ⟨x7,y,L,S.unpinned,r7,U⟩
end
theorem WK{xs:List V}{g:TG}{tb:TS}{D:Ends}{σ:St}{H:Hp}(d:Nat->St->Hp->Prop)(L:d 0 σ H)(hl:∀i σ H,i<=xs.length->d i σ H->SqL K H a xs)
  (hs:∀i x σ H,xs[i]?=some x->d i σ H->g x σ H fun f H2=>tb { D with nx:=d (i + 1),ct:=d (i + 1),bk:=D.nx } f H2) (hd:∀σ H,d xs.length σ H->D.nx σ H) :
  ∃W:Nat->Nat->St->Hp->Prop,(∃m,W 0 m σ H)/\∀i m σ H,W i m σ H ->
   ((Itl K a).stop i H/\D.nx σ H)\/((Itl K a).go i H/\∃N:St->Hp->Prop,(∀E H',N E H'->∃I,I < m/\W (i + 1) I E H')/\∀x H',(Itl K a).yld i H x H'->g x σ H' fun f H2=>tb { D with nx:=N,ct:=N,bk:=D.nx } f H2):=by
 refine ⟨fun i m σ H=>m=xs.length - i/\i<=xs.length/\d i σ H,⟨xs.length,by simp,Qa8 _,L⟩,?_⟩;rintro i m σ H ⟨rfl,hi,p⟩;have q:=hl i σ H hi p
 by_cases G:i < xs.length
 ·refine .inr ⟨⟨xs,xs[i],q,by simp [G]⟩,d (i + 1),fun E H' J=>⟨xs.length - (i + 1),by lia,rfl,G,J⟩,fun x H' y=>?_⟩
  obtain ⟨e,y⟩:=y;subst e;exact hs i x σ _ (y xs q) p
 ·have e:i=xs.length:=by lia
  subst e;exact .inl ⟨⟨xs,q,Qao _⟩,hd σ H p⟩
theorem W3{xs:List V}{g:TG}{tb:TS}{D:Ends}{σ:St}{H:Hp}(d:Nat->St->Hp->Prop)(L:d 0 σ H)(hl:∀i σ H,i<=xs.length->d i σ H->SqT K H a xs)
  (hs:∀i x σ H,xs[i]?=some x->d i σ H->g x σ H fun f H2=>tb { D with nx:=d (i + 1),ct:=d (i + 1),bk:=D.nx } f H2) (hd:∀σ H,d xs.length σ H->D.nx σ H) :
  ∃W:Nat->Nat->St->Hp->Prop,(∃m,W 0 m σ H)/\∀i m σ H,W i m σ H ->
   ((Itt K a).stop i H/\D.nx σ H)\/((Itt K a).go i H/\∃N:St->Hp->Prop,(∀E H',N E H'->∃I,I < m/\W (i + 1) I E H')/\∀x H',(Itt K a).yld i H x H'->g x σ H' fun f H2=>tb { D with nx:=N,ct:=N,bk:=D.nx } f H2):=by
 refine ⟨fun i m σ H=>m=xs.length - i/\i<=xs.length/\d i σ H,⟨xs.length,by simp,Qa8 _,L⟩,?_⟩;rintro i m σ H ⟨rfl,hi,p⟩;have q:=hl i σ H hi p
 by_cases G:i < xs.length
 ·refine .inr ⟨⟨xs,xs[i],q,by simp [G]⟩,d (i + 1),fun E H' J=>⟨xs.length - (i + 1),by lia,rfl,G,J⟩,fun x H' y=>?_⟩
  obtain ⟨e,y⟩:=y;subst e;exact hs i x σ _ (y xs q) p
 ·have e:i=xs.length:=by lia
  subst e;exact .inl ⟨⟨xs,q,Qao _⟩,hd σ H p⟩
theorem JW{lo:Int}{g:TG}{tb:TS}{D:Ends}{σ:St}{H:Hp}(G:Nat->St->Hp->Prop)(L:G 0 σ H)
  (hs:∀i σ H,i < n->G i σ H->g (.int (lo + i)) σ H fun d H2=>tb { D with nx:=G (i + 1),ct:=G (i + 1),bk:=D.nx } d H2) (hd:∀σ H,G n σ H->D.nx σ H) :
  ∃W:Nat->Nat->St->Hp->Prop,(∃m,W 0 m σ H)/\∀i m σ H,W i m σ H ->
   ((Itr lo n).stop i H/\D.nx σ H)\/((Itr lo n).go i H/\∃N:St->Hp->Prop,(∀E H',N E H'->∃I,I < m/\W (i + 1) I E H')/\∀x H',(Itr lo n).yld i H x H'->g x σ H' fun d H2=>tb { D with nx:=N,ct:=N,bk:=D.nx } d H2):=by
 refine ⟨fun i m σ H=>m=n - i/\i<=n/\G i σ H,⟨n,by simp,Qa8 _,L⟩,?_⟩;rintro i m σ H ⟨rfl,hi,p⟩
 by_cases f:i < n
 ·refine .inr ⟨f,G (i + 1),fun E H' J=>⟨n - (i + 1),by lia,rfl,f,J⟩,fun x H' y=>?_⟩
  obtain ⟨e,y⟩:=y;subst e y;exact hs i σ _ f p
 ·have e:i=n:=by lia
  subst e;exact .inl ⟨Qao _,hd σ H p⟩
abbrev R2:=V->V->Hp->VK->Prop
def OpR(X:Cx)(f:Value->Value->Sem Value)(r:R2):Prop :=
 ∀(pins:List (Addr × Obj)) (s:Shared) (σ:St) (H:Hp) (x y:V) (v u:Value) (Q:VK),Inv X pins σ H s->RelV x v->RelV y u->r x y H Q ->
  wpAny (model X.prog X.w) X.A (f v u) (EP X pins σ Q) X.xe s
def UnR(X:Cx)(f:Value->Sem Value)(r:V->Hp->VK->Prop):Prop :=
 ∀(pins:List (Addr × Obj)) (s:Shared) (σ:St) (H:Hp) (x:V) (v:Value) (Q:VK),Inv X pins σ H s->RelV x v->r x H Q ->
  wpAny (model X.prog X.w) X.A (f v) (EP X pins σ Q) X.xe s
def Xk(X:Cx)(f:Value)(r:List V->Hp->VK->Prop):Prop :=
 ∀(pins:List (Addr × Obj)) (s:Shared) (σ:St) (H:Hp) (xs:List V) (d:List Value) (Q:VK),Inv X pins σ H s->Vals xs d->r xs H Q ->
  wpAny (model X.prog X.w) X.A (call f d) (EP X pins σ Q) X.xe s
def tOp(r:R2)(ta tb:TE):TE:=fun σ H Q=>ta σ H fun x H1=>tb σ H1 fun y H2=>r x y H2 Q
def tUn(r:V->Hp->VK->Prop)(ta:TE):TE:=fun σ H Q=>ta σ H fun x H1=>r x H1 Q
inductive rI_i(C:Int->Int->Prop)(g:Int->Int->V)(x:V)(y:V)(H:Hp)(Q:VK):Prop
 | mk (i j:_):(x=.int i)->(y=.int j)->(C i j)->(Q (g i j) H)->rI_i C g x y H Q
def rI(C:Int->Int->Prop)(g:Int->Int->V):R2:=fun x y H Q=>rI_i C g x y H Q
inductive Zb6(g:Int->Int->V)(x:V)(y:V)(H:Hp)(Q:VK):Prop
 | mk (i j:_):(x=.int i)->(y=.int j)->(Q (g i j) H)->Zb6 g x y H Q
def rI0(g:Int->Int->V):R2:=fun x y H Q=>Zb6 g x y H Q
inductive rU_i(g:Int->V)(x:V)(H:Hp)(Q:VK):Prop
 | mk (i:_):(x=.int i)->(Q (g i) H)->rU_i g x H Q
def rU(g:Int->V):V->Hp->VK->Prop:=fun x H Q=>rU_i g x H Q
section
variable {X:Cx}{a b c:Expr}{ta tb tc:TE}{pos:Pos}
theorem binT(ha:PE X a ta)(hb:PE X b tb){s:Shared}{σ:St}{H:Hp}{R:V->V->Hp->Prop}(I:Inv X E σ H s)
  (h:ta σ H fun x H1=>tb σ H1 fun y H2=>R x y H2)  {f:Value->Value->Sem Value}
  (hf:∀v u g x y H2,Inv X E σ H2 g->RelV x v->RelV y u->R x y H2->wpAny (model X.prog X.w) X.A (f v u) Q X.xe g) :
  wpAny (model X.prog X.w) X.A (eval a X.env) (fun v d=>wpAny (model X.prog X.w) X.A (eval b X.env) (fun u s₂=>wpAny (model X.prog X.w) X.A (f v u) Q X.xe s₂) X.xe d) X.xe s:=by
 refine thn (ha E s σ H _ I h) fun v L ⟨x,H1,G,S,O⟩=>?_;refine thn (hb E L σ H1 _ G O) fun u g ⟨y,H2,J,W,U⟩=>?_;exact hf v u g x y H2 J S W U
theorem pe_op{d:Operator}{r:R2}(ho:OpR X (binaryOp d) r)(ha:PE X a ta)(hb:PE X b tb):PE X (.BinOp a d b pos) (tOp r ta tb):=by
 intro pins s σ H Q I h;exact wpAny_BinOp (binT ha hb I h fun v u G x y H2 g E f q=>ho pins G σ H2 x y v u Q g E f q)
theorem pe_un{d:UnaryOp}{r:V->Hp->VK->Prop}(ho:UnR X (unaryOp d) r)(ha:PE X a ta):PE X (.UnaryOp d a pos) (tUn r ta):=by
 intro pins s σ H Q I h;exact UnaryOp_ (thn (ha pins s σ H _ I h) fun v g ⟨x,H1,f,E,y⟩=>ho pins g σ H1 x v Q f E y)
theorem opI{f:Value->Value->Sem Value}{C:Int->Int->Prop}{g:Int->Int->Int}
  (rule:∀(i j:Int) (t u:Tok) (s:Shared) (Q:Value->Shared->Prop) (E:Value->Shared->Prop),C i j->Q (.int (g i j) s.toks) { s with toks:=s.toks + 1 }->wpAny (model X.prog X.w) X.A (f (.int i t) (.int j u)) Q E s) :
  OpR X f (rI C fun i j=>.int (g i j)):=by
 intro pins s σ H x y v u Q I G d h;obtain ⟨i,j,rfl,rfl,hc,q⟩:=h;obtain ⟨t,rfl⟩:=G;obtain ⟨t',rfl⟩:=d;exact rule i j t t' s _ _ hc ⟨.int (g i j),H,I.tok _,⟨_,rfl⟩,q⟩
theorem opI0{f:Value->Value->Sem Value}{g:Int->Int->Int}
  (rule:∀(i j:Int) (t u:Tok) (s:Shared) (Q:Value->Shared->Prop) (E:Value->Shared->Prop),Q (.int (g i j) s.toks) { s with toks:=s.toks + 1 }->wpAny (model X.prog X.w) X.A (f (.int i t) (.int j u)) Q E s) :
  OpR X f (rI0 fun i j=>.int (g i j)):=by
 intro pins s σ H x y v u Q I G d h;obtain ⟨i,j,rfl,rfl,q⟩:=h;obtain ⟨t,rfl⟩:=G;obtain ⟨t',rfl⟩:=d;exact rule i j t t' s _ _ ⟨.int (g i j),H,I.tok _,⟨_,rfl⟩,q⟩
theorem Zc5{f:Value->Value->Sem Value}{g:Int->Int->Bool}
  (rule:∀(i j:Int) (t u:Tok) (s:Shared) (Q:Value->Shared->Prop) (E:Value->Shared->Prop),Q (.bool (g i j)) s->wpAny (model X.prog X.w) X.A (f (.int i t) (.int j u)) Q E s) :
  OpR X f (rI0 fun i j=>.bl (g i j)):=by
 intro pins s σ H x y v u Q I G d h;obtain ⟨i,j,rfl,rfl,q⟩:=h;obtain ⟨t,rfl⟩:=G;obtain ⟨t',rfl⟩:=d;exact rule i j t t' s _ _ ⟨.bl (g i j),H,I,rfl,q⟩
def CPow(i j:Int):Prop:=0<=j/\j<=1000000/\i.natAbs < 2 ^ 64
def CMul(i j:Int):Prop:=(-(2 ^ 64) < i/\i < 2 ^ 64)\/(-(2 ^ 64) < j/\j < 2 ^ 64)
theorem CMul.ok{i:Int}(h:CMul i j):IntMulOk i j:=by
 rcases h with ⟨h1,h2⟩ | ⟨h1,h2⟩
 ·exact .of_left (intBits_le_64 h1 h2)
 ·exact .of_right (intBits_le_64 h1 h2)
theorem YC:OpR X (binaryOp .Add) (rI0 fun i j=>.int (i + j)):=opI0 fun _ _ _ _ _ _ _ q=>add_int q
theorem Jz:OpR X (binaryOp .Sub) (rI0 fun i j=>.int (i - j)):=opI0 fun _ _ _ _ _ _ _ q=>sub_int q
theorem ZM:OpR X (binaryOp .Mod) (rI (fun _ j=>0 < j) fun i j=>.int (i % j)):=opI fun i j _ _ _ _ _ hc q=>by
 have h1:(0:Int) < j:=hc;exact mod_int' (by lia) (by rw [Int.fmod_eq_emod_of_nonneg i (by lia)];exact q)
theorem zR:OpR X (binaryOp .Pow) (rI CPow fun i j=>.int (i ^ j.toNat)):=opI fun _ _ _ _ _ _ _ hc q=>pow_int_small hc.1 hc.2.1 hc.2.2 q
theorem unI{f:Value->Sem Value}{g:Int->Int}
  (rule:∀(i:Int) (t:Tok) (s:Shared) (Q:Value->Shared->Prop) (E:Value->Shared->Prop),Q (.int (g i) s.toks) { s with toks:=s.toks + 1 }->wpAny (model X.prog X.w) X.A (f (.int i t)) Q E s) :
  UnR X f (rU fun i=>.int (g i)):=by
 intro pins s σ H x v Q I d h;obtain ⟨i,rfl,q⟩:=h;obtain ⟨t,rfl⟩:=d;exact rule i t s _ _ ⟨.int (g i),H,I.tok _,⟨_,rfl⟩,q⟩
theorem JX:UnR X (unaryOp .USub) (rU fun i=>.int (-i)):=unI fun _ _ _ _ _ q=>neg_int q
end
def scal:V->V->Bool
 | .non,.non=>true | .non,.int _=>true | .int _,.non=>true | .non,.bl _=>true | .bl _,.non=>true | .non,.str _=>true | .str _,.non=>true
 | .int _,.int _=>true | .bl _,.bl _=>true | .str _,.str _=>true | .byt _,.byt _=>true
 | .int _,.str _=>true | .str _,.int _=>true | .bl _,.str _=>true | .str _,.bl _=>true
 | _,_=>false
inductive Zb7(x:V)(y:V)(H:Hp)(Q:VK):Prop
 | mk  : (scal x y=true)->(Q (.bl (decide (x=y))) H)->Zb7 x y H Q
def rEq  : R2:=fun x y H Q=>Zb7 x y H Q
inductive Zb8(x:V)(y:V)(H:Hp)(Q:VK):Prop
 | mk  : (scal x y=true)->(Q (.bl (!decide (x=y))) H)->Zb8 x y H Q
def rNe  : R2:=fun x y H Q=>Zb8 x y H Q
theorem yE{i:Int}:decide (V.int i=V.int j)=(i == j):=by
 rw [Qbu];simp
theorem gA{i j:Bool}:decide (V.bl i=V.bl j)=(i == j):=by
 rw [Qbu];simp
theorem yF{i j:Str}:decide (V.str i=V.str j)=(i == j):=by
 rw [Qbu];simp
theorem yG{i j:Array UInt8}:decide (V.byt i=V.byt j)=(i.toList == j.toList):=by
 rw [Qbu];cases i;cases j;simp
section
variable {X:Cx}{a b c:Expr}{ta tb tc:TE}{pos:Pos}
theorem Z3{σ:St}{H:Hp}{s:Shared}{Q:VK}{k:Bool}(I:Inv X E σ H s)(q:Q (.bl k) H)(e:k=m):EP X E σ Q (.bool m) s:=by
 subst e;exact ⟨.bl k,H,I,rfl,q⟩
theorem ZH:OpR X (compareOp .Eq) rEq:=by
 intro pins s σ H x y v u Q I f d h;obtain ⟨hs,q⟩:=h;cases x with
 | non =>
  cases f;cases y with
  | non=>cases d;exact PySem.EqNone.eq_none_none (Z3 I q (by simp))
  | bl j=>cases d;exact PySem.EqNone.eq_none_bool (Z3 I q (by simp))
  | int j=>obtain ⟨t',rfl⟩:=d;exact PySem.EqNone.eq_none_int (Z3 I q (by simp))
  | str j=>obtain ⟨t',rfl⟩:=d;exact PySem.EqNone.eq_none_str (Z3 I q (by simp))
  | _=>exact absurd (show false=true from hs) Qav
 | bl i =>
  cases f;cases y with
  | non=>cases d;exact PySem.EqNone.eq_bool_none (Z3 I q (by simp))
  | bl j=>cases d;exact eq_bool (Z3 I q gA)
  | str j=>obtain ⟨t',rfl⟩:=d;exact PySem.EqMixed.eq_bool_str (Z3 I q (by simp))
  | _=>exact absurd (show false=true from hs) Qav
 | int i =>
  obtain ⟨t,rfl⟩:=f;cases y with
  | non=>cases d;exact PySem.EqNone.eq_int_none (Z3 I q (by simp))
  | int j=>obtain ⟨t',rfl⟩:=d;exact eq_int (Z3 I q yE)
  | str j=>obtain ⟨t',rfl⟩:=d;exact PySem.EqMixed.eq_int_str (Z3 I q (by simp))
  | _=>exact absurd (show false=true from hs) Qav
 | str i =>
  obtain ⟨t,rfl⟩:=f;cases y with
  | non=>cases d;exact PySem.EqNone.eq_str_none (Z3 I q (by simp))
  | bl j=>cases d;exact PySem.EqMixed.eq_str_bool (Z3 I q (by simp))
  | int j=>obtain ⟨t',rfl⟩:=d;exact PySem.EqMixed.eq_str_int (Z3 I q (by simp))
  | str j=>obtain ⟨t',rfl⟩:=d;exact eq_str (Z3 I q yF)
  | _=>exact absurd (show false=true from hs) Qav
 | byt i =>
  obtain ⟨t,rfl⟩:=f;cases y with
  | byt j=>obtain ⟨t',rfl⟩:=d;exact PySem.W.eq_bytes (Z3 I q yG)
  | _=>exact absurd (show false=true from hs) Qav
 | _=>cases y <;> exact absurd (show false=true from hs) Qav
theorem Zb9:OpR X (compareOp .NotEq) rNe:=by
 intro pins s σ H x y v u Q I f d h;obtain ⟨hs,q⟩:=h;cases x with
 | non =>
  cases f;cases y with
  | non=>cases d;exact PySem.EqNone.ne_none_none (Z3 I q (by simp))
  | bl j=>cases d;exact PySem.EqNone.ne_none_bool (Z3 I q (by simp))
  | int j=>obtain ⟨t',rfl⟩:=d;exact PySem.EqNone.ne_none_int (Z3 I q (by simp))
  | str j=>obtain ⟨t',rfl⟩:=d;exact PySem.EqNone.ne_none_str (Z3 I q (by simp))
  | _=>exact absurd (show false=true from hs) Qav
 | bl i =>
  cases f;cases y with
  | non=>cases d;exact PySem.EqNone.ne_bool_none (Z3 I q (by simp))
  | bl j=>cases d;exact ne_bool (Z3 I q (congrArg not gA))
  | str j=>obtain ⟨t',rfl⟩:=d;exact PySem.EqMixed.ne_bool_str (Z3 I q (by simp))
  | _=>exact absurd (show false=true from hs) Qav
 | int i =>
  obtain ⟨t,rfl⟩:=f;cases y with
  | non=>cases d;exact PySem.EqNone.ne_int_none (Z3 I q (by simp))
  | int j=>obtain ⟨t',rfl⟩:=d;exact ne_int (Z3 I q (congrArg not yE))
  | str j=>obtain ⟨t',rfl⟩:=d;exact PySem.EqMixed.ne_int_str (Z3 I q (by simp))
  | _=>exact absurd (show false=true from hs) Qav
 | str i =>
  obtain ⟨t,rfl⟩:=f;cases y with
  | non=>cases d;exact PySem.EqNone.ne_str_none (Z3 I q (by simp))
  | bl j=>cases d;exact PySem.EqMixed.ne_str_bool (Z3 I q (by simp))
  | int j=>obtain ⟨t',rfl⟩:=d;exact PySem.EqMixed.ne_str_int (Z3 I q (by simp))
  | str j=>obtain ⟨t',rfl⟩:=d;exact ne_str (Z3 I q (congrArg not yF))
  | _=>exact absurd (show false=true from hs) Qav
 | byt i =>
  obtain ⟨t,rfl⟩:=f;cases y with
  | byt j=>obtain ⟨t',rfl⟩:=d;exact PySem.W.ne_bytes (Z3 I q (congrArg not yG))
  | _=>exact absurd (show false=true from hs) Qav
 | _=>cases y <;> exact absurd (show false=true from hs) Qav
theorem uK:OpR X (compareOp .Lt) (rI0 fun i j=>.bl (decide (i < j))):=Zc5 fun _ _ _ _ _ _ _ q=>lt_int q
theorem uL:OpR X (compareOp .LtE) (rI0 fun i j=>.bl (decide (i<=j))):=Zc5 fun _ _ _ _ _ _ _ q=>le_int q
theorem uM:OpR X (compareOp .Gt) (rI0 fun i j=>.bl (decide (j < i))):=Zc5 fun _ _ _ _ _ _ _ q=>gt_int q
theorem op_ge:OpR X (compareOp .GtE) (rI0 fun i j=>.bl (decide (j<=i))):=Zc5 fun _ _ _ _ _ _ _ q=>ge_int q
theorem yH:OpR X (compareOp .In) (fun x y H Q=>∃i j,x=.str i/\y=.str j/\Q (.bl (!(Builtin.Str.occurrences j i 0 j.length 1).isEmpty)) H):=by
 intro pins s σ H x y v u Q I f d h;obtain ⟨i,j,rfl,rfl,q⟩:=h;obtain ⟨t,rfl⟩:=f;obtain ⟨t',rfl⟩:=d;exact in_str (Z3 I q rfl)
theorem xZ:OpR X (compareOp .IsNot) (fun x y H Q=>y=.non/\Q (.bl (!decide (x=.non))) H):=by
 intro pins s σ H x y v u Q I d f h;obtain ⟨rfl,q⟩:=h;cases f;refine isnot_none_gen (Z3 I q ?_);cases x <;> first
  | (cases d;rfl)
  | (obtain ⟨t,rfl⟩:=d;rfl)
theorem OpR.or{f:Value->Value->Sem Value}{r E:R2}(h:OpR X f r)(h':OpR X f E):OpR X f (fun x y H Q=>r x y H Q\/E x y H Q):=by
 intro pins s σ H x y v u Q I g d q;rcases q with q | q
 ·exact h pins s σ H x y v u Q I g d q
 ·exact h' pins s σ H x y v u Q I g d q
theorem Zt(b:Expr){d:CmpOp}(h:d≠.In:=by decide)(h2:d≠.NotIn:=by decide):behindInMarks d b=false:=by
 have e1:(d == CmpOp.In)=false:=by cases d <;> first | rfl | exact absurd rfl h
 have e2:(d == CmpOp.NotIn)=false:=by cases d <;> first | rfl | exact absurd rfl h2
 cases b <;> simp [behindInMarks,e1,e2]
theorem uN{d:CmpOp}{r:R2}(ho:OpR X (compareOp d) r)(ha:PE X a ta)(hb:PE X b tb)(hm:behindInMarks d b=false):PE X (.Compare a [d] [b] pos) (tOp r ta tb):=by
 intro pins s σ H Q I h;exact wpAny_Compare1 (binT ha hb I h fun v u G x y H2 g E f q=>ho pins G σ H2 x y v u Q g E f q) hm
inductive yI(Q:Bool->Hp->Prop)(x:V)(H':Hp):Prop
 | mk (k:_):(x=.bl k)->(Q k H')->yI Q x H'
def Zca(t:TE):TT:=fun σ H Q=>t σ H fun x H'=>yI Q x H'
theorem uO{d:CmpOp}{r:R2}(ho:OpR X (compareOp d) r)(ha:PE X a ta)(hb:PE X b tb)(hm:behindInMarks d b=false):PT X (.Compare a [d] [b] pos) (Zca (tOp r ta tb)):=by
 intro pins s σ H Q I h;refine wpAny_isTrue_Compare1 (thn (ha pins s σ H _ I h) fun v G ⟨x,H1,g,O,J⟩=>thn (hb pins G σ H1 _ g J) fun u Y ⟨y,H2,E,Z,W⟩ =>
  thn (ho pins Y σ H2 x y v u _ E O Z W) fun c s3 ⟨z,L,f,S,k,e,U⟩=>?_) hm
 subst e;cases S;exact Qdr ⟨L,f,U⟩
theorem GQ:(sizeLine:Nat) < 2 ^ 63:=by rw [Qdz];decide
theorem Wd:OpR X (binaryOp .Add) (fun x y H Q=>∃i j,x=.str i/\y=.str j/\i.length + j.length<=sizeLine/\Q (.str (i++j)) H):=by
 intro pins s σ H x y v u Q I g d h;obtain ⟨i,j,rfl,rfl,f,q⟩:=h;obtain ⟨t,rfl⟩:=g;obtain ⟨t',rfl⟩:=d;exact add_str (fun t' tk=>⟨.str (i++j),H,I.tok _,⟨_,rfl⟩,q⟩) f
theorem vals1{x:V}{d:List Value}(r:Vals [x] d):∃u,d=[u]/\RelV x u:=by
 cases r with
 | cons f g=>cases g;exact ⟨_,rfl,f⟩
theorem vals2{x y:V}{f:List Value}(r:Vals [x,y] f):∃u d,f=[u,d]/\RelV x u/\RelV y d:=by
 cases r with
 | cons g I =>
  cases I with
  | cons E G=>cases G;exact ⟨_,_,rfl,g,E⟩
theorem yJ (hc:X.calm=true):Xk X (.builtin "max") (fun xs H Q=>∃i j,xs=[.int i,.int j]/\Q (.int (if j > i then j else i)) H):=by
 intro pins s σ H xs g Q I r h;obtain ⟨i,j,rfl,q⟩:=h;obtain ⟨u,f,rfl,⟨t,rfl⟩,⟨t',rfl⟩⟩:=vals2 r;refine max_two_ints (I.ok.hd hc) fun h' tk k=>⟨_,H,I.kept k,?_,q⟩
 by_cases d:j > i
 ·rw [Qa4 d,Qa4 d];exact ⟨_,rfl⟩
 ·rw [Qa5 d,Qa5 d];exact ⟨_,rfl⟩
theorem yK (hc:X.calm=true):Xk X (.builtin "min") (fun xs H Q=>∃i j,xs=[.int i,.int j]/\Q (.int (if j < i then j else i)) H):=by
 intro pins s σ H xs g Q I r h;obtain ⟨i,j,rfl,q⟩:=h;obtain ⟨u,f,rfl,⟨t,rfl⟩,⟨t',rfl⟩⟩:=vals2 r;refine min_two_ints (I.ok.hd hc) fun h' tk k=>⟨_,H,I.kept k,?_,q⟩
 by_cases d:j < i
 ·rw [Qa4 d,Qa4 d];exact ⟨_,rfl⟩
 ·rw [Qa5 d,Qa5 d];exact ⟨_,rfl⟩
theorem yL:Xk X (.type "int") (fun xs H Q=>(∃i,xs=[.int i]/\Q (.int i) H)\/∃k,xs=[.bl k]/\Q (.int (if k then 1 else 0)) H):=by
 intro pins s σ H xs f Q I r h;rcases h with ⟨i,rfl,q⟩ | ⟨k,rfl,q⟩
 ·obtain ⟨u,rfl,t,rfl⟩:=vals1 r
  exact call_int_int ⟨.int i,H,I,⟨_,rfl⟩,q⟩
 ·obtain ⟨u,rfl,d⟩:=vals1 r
  cases d;exact call_int_bool ⟨.int (if k then 1 else 0),H,I.tok _,⟨_,rfl⟩,q⟩
end
structure ObjM(h:Heap)(x dx C:Addr)(mA:Str->Option Value):Prop where
 obj:h.get? x=some (PySem.W.instObj C dx)
 ns:h.Ns1 dx mA
 ne:dx≠x
theorem yM(n:h.Ns1 C T):∃od,h.get? C=some od/\∀name,PySem.W.lookIn name od=some (T name):=by
 obtain ⟨o,es,ep,ho,hd,hk,_,hm⟩:=n;refine ⟨o,ho,fun name=>?_⟩;have e:=hm name;unfold nsFind findBy at e;rw [<-Array.find?_toList] at e;unfold PySem.W.lookIn;rw [hd];dsimp only
 split
 ·rename_i y q
  rw [q] at e;exact congrArg some e
 ·rename_i q
  rw [q] at e;have a:es.toList.any (·.refKey)=false:=by
   rw [List.any_eq_false];intro y g;obtain ⟨z,t,d⟩:=hk y (Array.mem_toList_iff.mp g);simp [DictEntry.refKey,d]
  have f:¬es.toList.any (·.refKey)=true:=by rw [a];exact Qav
  rw [Qa5 f];exact congrArg some e
theorem ObjM.look{x:Addr}(I:ObjM h x a C T):∃od,PySem.W.InstAt h x (PySem.W.instObj C a) C (some od)/\∀name,PySem.W.lookIn name od=some (T name) :=
 let ⟨od,ho,hl⟩:=yM I.ns
 ⟨od,⟨I.obj,rfl,rfl,ho⟩,hl⟩
section
variable {prog:Program}{w:World}{A:Around}{E:Value->Shared->Prop}{s:Shared}{K:PySem.W.Frag}{x dx C f:Addr}{mA:Str->Option Value}{name:Str}{v:Value}
end
theorem xc.some_of{v:V}{o:Option Value}(r:xc (some v) o):∃u,o=some u/\RelV v u:=by
 cases o with
 | none=>exact (show False from r).elim
 | some u=>exact ⟨u,rfl,r⟩
theorem xc.none_of{o:Option Value}(r:xc none o):o=none:=by
 cases o with
 | none=>rfl
 | some u=>exact (show False from r).elim
section
variable {P:Program}{w:World}{H H':Hp}{h h':Heap}{a C dx:Addr}{fs fs':List (Str × V)}
theorem uP(g:HOk P w H h)(e:H a=some (.ins C dx fs)):∃mA,ObjM h a dx C mA/\(∀f,xc (fs.lookup f) (mA f))/\PySem.Within mA (fs.map (·.1))/\fs.length<=1000/\H dx=some (.own a):=by
 obtain ⟨d,z,ne,ob,mA,n,r,q⟩:=(show Yc P w H h a (.ins C dx fs) from g a _ e);exact ⟨mA,⟨ob,n,ne⟩,r,q,z,d⟩
end
structure Cls(K:PySem.W.Frag)(C:Addr):Prop where
 pg:PySem.W.plainGet K C Str.empty=true
 hd:PySem.W.hasDictIn K C=true
 po:PySem.W.plainOver K C=true
 sa:PySem.W.findIn K (.ref C) "__setattr__" = some (some (.builtin "object.__setattr__"))
theorem Cls.get(c:Cls K C)(f:Str):PySem.W.plainGet K C f=true:=c.pg
structure Con(K:PySem.W.Frag)(C:Addr)(f:Str)(v:V)(u:Value):Prop where
 at_:PySem.W.findIn K (.ref C) f=some (some u)
 rel:RelV v u
 get:PySem.W.specialIn K u "__get__" = some none
 cp:PySem.W.copiedNames.contains f=false
structure Meth(K:PySem.W.Frag)(C:Addr)(m:Str)(f:Addr):Prop where
 at_:PySem.W.findIn K (.ref C) m=some (some (.ref f))
 fn:PySem.W.isFn K (.ref f)=true
 kp:PySem.W.keepIn K (.ref f)=true
section
variable {X:Cx}{pins:List (Addr × Obj)}{σ:St}{H:Hp}{s:Shared}{a C dx:Addr}{fs:List (Str × V)}{f:Str}{v:V}{A:Around}{E:Value->Shared->Prop}
theorem Inv.made(I:Inv X pins σ H s):Inv X pins σ (upd (upd H s.heap.objs.size (.own (s.heap.objs.size + 1))) (s.heap.objs.size + 1) (.ins C s.heap.objs.size []))
  { s with heap:=(s.heap.push PySem.W.emptyDict).push (PySem.W.instObj C s.heap.objs.size) }:=by
 have e1:(s.heap.push PySem.W.emptyDict).get? s.heap.objs.size=some PySem.W.emptyDict:=Qau s.heap rfl;have e2:((s.heap.push PySem.W.emptyDict).push (PySem.W.instObj C s.heap.objs.size)).get? (s.heap.objs.size + 1)=some (PySem.W.instObj C s.heap.objs.size):=by
  have:=Qau (s.heap.push PySem.W.emptyDict) (o:=PySem.W.instObj C s.heap.objs.size) rfl
  rwa [Qbv] at this
 have e3:(s.heap.push PySem.W.emptyDict).Ns s.heap.objs.size (fun _=>none):=⟨PySem.W.emptyDict,#[],_,e1,rfl,(fun e he=>absurd he (by simp)),fun _=>rfl⟩;have d:=I.laid (a:=s.heap.objs.size) (o:=.own (s.heap.objs.size + 1)) (h':=s.heap.push PySem.W.emptyDict) (t':=s.toks) (fun b u q=>Qac _ q) (Qao _) ⟨_,e1⟩;refine d.laid (a:=s.heap.objs.size + 1) (o:=.ins C s.heap.objs.size []) (t':=s.toks) (fun b u q=>Qac _ q) (Qd1 (Qbv _ _)) ?_;have ne:s.heap.objs.size≠s.heap.objs.size + 1:=Qbf (Qdg _);refine ⟨by rw [Zs ne,Zc],Qa8 _,ne,e2,fun _=>none,(Heap.Ns1.of_empty e3).at fun o q=>Qac _ q,fun _=>True.intro,fun y f=>absurd rfl f⟩
end
section
variable {X:Cx}{o e value:Expr}{f:Str}{pos pos' tpos:Pos}{ta tv:TE}
end
section
variable {X:Cx}{pins:List (Addr × Obj)}{σ:St}{H:Hp}{s:Shared}{A:Around}{E:Value->Shared->Prop}{Q:Value->Shared->Prop}{c:Value}{b:Bool}
inductive jN(K:PySem.W.Frag)(H:Hp):V->Value->Prop where
 | non:jN K H .non (.type "NoneType")
 | bl (x:Bool):jN K H (.bl x) (.type "bool")
 | int (i:Int):jN K H (.int i) (.type "int")
 | str (x:Str):jN K H (.str x) (.type "str")
 | flt (x:UInt64):jN K H (.flt x) (.type "float")
 | lst {a:Addr} {xs:List V} (e:H a=some (.lst xs)):jN K H (.ref a) (.type "list")
 | frz {a:Addr} {o:Obj} {xs:List V} (e:H a=some (.frz o (.lst xs))):jN K H (.ref a) (.type "list")
 | tup {a:Addr} {xs:List V} (e:H a=some (.tup xs)):jN K H (.ref a) (.type "tuple")
 | dK {a:Addr} {kvs:List (Key × V)} (e:H a=some (.dK kvs)):jN K H (.ref a) (.type "dict")
 | dT {a:Addr} {kvs:List (List Key × V)} (e:H a=some (.dT kvs)):jN K H (.ref a) (.type "dict")
 | ins {a C dx:Addr} {fs:List (Str × V)} (e:H a=some (.ins C dx fs)) (cl:Cls K C) (ha:PySem.W.findIn K (.ref C) "__class__" = some (some (.builtin "object.__class__")))
   (hn:PySem.W.specialIn K (.builtin "object.__class__") "__get__" = some (some (.builtin "getset_descriptor.__get__"))) (htk:PySem.W.takesIn K (.builtin "object.__class__")=some true)
   (hm:PySem.W.mroIn K C (.type "object")=some true):jN K H (.ref a) (.ref C)
theorem yN{x:V}{u:Value}(I:Inv X pins σ H s)(f:RelV x u)(ty:jN X.K H x v)(e:PySem.W.kitOne X.K v c=some b)(h:∀tk,Q (.bool b) { s with toks:=tk }) :
  wpAny (model X.prog X.w) A (call (.builtin "isinstance") [u,c]) Q E s:=by
 cases ty with
 | non=>cases (show u=Value.none from f);exact Qbs Qed I.kIn True.intro e (fun z=>nomatch z) h
 | bl y=>cases (show u=Value.bool y from f);exact Qbs PySem.W.kitx_bool I.kIn True.intro e (fun z=>nomatch z) h
 | int i=>obtain ⟨v,q⟩:=(show ∃v,u=Value.int i v from f);cases q;exact Qbs PySem.W.kitx_int I.kIn True.intro e (fun z=>nomatch z) h
 | str y=>obtain ⟨v,q⟩:=(show ∃v,u=Value.str y v from f);cases q;exact Qbs PySem.W.kitx_str I.kIn True.intro e (fun z=>nomatch z) h
 | flt y=>obtain ⟨v,q⟩:=(show ∃v,u=Value.float y v from f);cases q;exact Qbs PySem.W.kitx_float I.kIn True.intro e (fun z=>nomatch z) h
 | @lst a xs d =>
  cases (show u=Value.ref a from f);obtain ⟨_,_,n,_,h1⟩:=(show Yc X.prog X.w H s.heap a (.lst xs) from I.hok a _ d);exact Qbs PySem.W.kitx_list I.kIn ⟨_,h1,rfl⟩ e (fun z=>nomatch z) h
 | @frz a ob xs d =>
  cases (show u=Value.ref a from f);obtain ⟨_,_,_,n,_,h1⟩:=(show Yc X.prog X.w H s.heap a (.frz ob (.lst xs)) from I.hok a _ d);exact Qbs PySem.W.kitx_list I.kIn ⟨_,h1,rfl⟩ e (fun z=>nomatch z) h
 | @tup a xs d =>
  cases (show u=Value.ref a from f);obtain ⟨_,_,_,p⟩:=(show Yc X.prog X.w H s.heap a (.tup xs) from I.hok a _ d);obtain ⟨o,h1,h2,_⟩:=p;exact Qbs PySem.W.kitx_tuple I.kIn ⟨o,h1,h2⟩ e (fun z=>nomatch z) h
 | @dK a kvs d =>
  cases (show u=Value.ref a from f);obtain ⟨_,_,G,_,p⟩:=(show Yc X.prog X.w H s.heap a (.dK kvs) from I.hok a _ d);obtain ⟨o,es,ep,h1,h2,_⟩:=p;exact Qbs PySem.W.kitx_dict I.kIn ⟨o,h1,h2.1⟩ e (fun z=>nomatch z) h
 | @dT a kvs d =>
  cases (show u=Value.ref a from f);obtain ⟨_,_,xs,_,o,es,ep,h1,h2,_⟩:=(show Yc X.prog X.w H s.heap a (.dT kvs) from I.hok a _ d);exact Qbs PySem.W.kitx_dict I.kIn ⟨o,h1,h2.1⟩ e (fun z=>nomatch z) h
 | @ins a C dx fs d cl ha hn g hm =>
  cases (show u=Value.ref a from f);obtain ⟨mA,O,_⟩:=uP I.hok d;obtain ⟨od,J,_⟩:=O.look;exact Qbs (PySem.W.kitx_own (cl.get _) cl.hd ha hn g hm) I.kIn J e (fun z=>nomatch z) h
end
structure WJ(k:Nat)(A:Around):Prop where
 hd:A.handled=none
 dp:A.depth + 3 * k + 5 < recursionLimit
 un:A.units + 16 * k + 200 < cLine
theorem WJ.mono{j k:Nat}{A:Around}(r:WJ k A)(h:j<=k):WJ j A:=⟨r.hd,by have:=r.dp;lia,by have:=r.un;lia⟩
theorem WJ.deeper{k:Nat}{A:Around}(r:WJ (k + 1) A)(env:Env):WJ k (A.deeper env) :=
 ⟨r.hd,by have:=r.dp;show A.depth + 1 + 3 * k + 5 < _;lia,by have:=r.un;show A.units + 3 + 16 * k + 200 < _;lia⟩
theorem WJ.in1{k:Nat}{A:Around}(r:WJ (k + 1) A):WJ k A.in1 :=
 ⟨r.hd,by have:=r.dp;show A.depth + 3 * k + 5 < _;lia,by have:=r.un;show A.units + 1 + 16 * k + 200 < _;lia⟩
theorem WJ.depth{k:Nat}{A:Around}(r:WJ k A):A.depth < recursionLimit:=by have:=r.dp;lia
theorem WJ.units{k:Nat}{A:Around}(r:WJ k A):A.units + 64 < cLine:=by have:=r.un;lia
theorem WJ.units0{k:Nat}{A:Around}(r:WJ k A):A.units < cLine:=by have:=r.un;lia
def uQ:TA:=fun _ H Q=>Q [] H
def GD(ta:TE)(d:TA):TA:=fun σ H Q=>ta σ H fun x H1=>d σ H1 fun xs H2=>Q (x::xs) H2
section
variable {X:Cx}{e:Expr}{es:List Expr}{te:TE}{t:TA}{pos:Pos}
theorem pa_nil:PA X [] uQ:=fun _ _ _ _ H Q I h=>Qfh ⟨[],H,I,.nil,h⟩
theorem uR(ha:PE X e te)(hr:PA X es t)(hs:starEach (e::es) X.env=(false,eval e X.env)::starEach es X.env:=by rfl):PA X (e::es) (GD te t):=by
 intro pos pins s σ H Q I h;rw [hs];show wpAny _ _ (spliced ((false,eval e X.env)::backTo pos (starEach es X.env))) _ _ s;refine Qd3 (thn (ha pins s σ H _ I h) fun u g ⟨x,H1,d,E,y⟩=>?_);exact thn (hr pos pins g σ H1 _ d y) fun L O ⟨xs,H2,f,J,G⟩=>⟨x::xs,H2,f,.cons E J,G⟩
inductive gB(Q:VK)(xs:List V)(H1:Hp):Prop
 | mk  : (xs.length<=sizeLine)->(∀p,H1 p=none->Q (.ref p) (upd H1 p (.tup xs)))->gB Q xs H1
def gC(t:TA):TE:=fun σ H Q=>t σ H fun xs H1=>gB Q xs H1
inductive gD(Q:VK)(xs:List V)(H1:Hp):Prop
 | mk  : (xs.length<=sizeLine)->(∀p,H1 p=none->Q (.ref p) (upd H1 p (.lst xs)))->gD Q xs H1
def tLst(t:TA):TE:=fun σ H Q=>t σ H fun xs H1=>gD Q xs H1
theorem pe_tup{E:_}(h:PA X es t):PE X (.Tuple es E pos) (gC t):=by
 intro pins s σ H Q I y;refine wpAny_Tuple_spliced (thn (h pos pins s σ H _ I y) fun g d ⟨xs,H1,f,r,z,q⟩=>⟨by rw [<-r.length];exact z,?_⟩);have hf:H1 d.heap.objs.size=none:=f.hok.fresh (Qao _);refine ⟨.ref d.heap.objs.size,upd H1 d.heap.objs.size (.tup xs),f.laid (t':=d.toks) (fun b u e=>Qac _ e) (Qao _) ?_,rfl,q _ hf⟩;exact ⟨z,g,r,jJ.new _ _⟩
theorem pe_lst(h:PA X es t):PE X (.List es pos) (tLst t):=by
 intro pins s σ H Q I y;refine wpAny_List_spliced (thn (h pos pins s σ H _ I y) fun g d ⟨xs,H1,f,r,z,q⟩=>⟨by rw [<-r.length];exact z,?_⟩);have hf:H1 d.heap.objs.size=none:=f.hok.fresh (Qao _);refine ⟨.ref d.heap.objs.size,upd H1 d.heap.objs.size (.lst xs),f.laid (t':=d.toks) (fun b u e=>Qac _ e) (Qao _) ?_,rfl,q _ hf⟩;exact ⟨z,g,0,r,Qau _ rfl⟩
end
abbrev Sp:=List V->Hp->VK->XK->Prop
abbrev CXT:=List Env->Hp->Shared->XK->Value->Shared->Prop
structure gE(P:Program)(w:World)(K:PySem.W.Frag)(mg:Str->Option Value)(base:Heap)(A:Around)(outer:List Env)(s:Shared)(H:Hp):Prop where
 frames:A.frames=some outer
 mod:Mod K mg base
 bs:∀b o,base.get? b=some o->s.heap.get? b=some o/\H b=none
 bsz:base.objs.size<=s.heap.objs.size
 funs:s.heap.FunFrames base outer
 frf:∀b∈frs outer,H b=none
 hok:HOk P w H s.heap
 bare:AllBare s.gens
def CE(outer:List Env)(P:Program)(w:World)(H:Hp)(s:Shared)(Q:VK)(u:Value)(s':Shared):Prop :=
 ∃v H',s'.os=s.os/\AllBare s'.gens/\Un (frs outer) [] H H' s.heap s'.heap/\HOk P w H' s'.heap/\RelV v u/\Q v H'
def CR(CX:CXT)(outer:List Env)(P:Program)(w:World)(H:Hp)(s:Shared)(Q:VK)(E:XK)(r:Result)(s':Shared):Prop :=
 match r with
 | .ok (.ret u)=>CE outer P w H s Q u s'
 | .ok _=>False
 | .error e=>CX outer H s E e s'
structure Z5(P:Program)(w:World)(K:PySem.W.Frag)(mg:Str->Option Value)(base:Heap)(CX:CXT)(k:Nat)(f:Addr)(fd:FuncData)(ps:List Str)(sp:Sp):Prop where
 len:∀vs H Q E,sp vs H Q E->vs.length=ps.length
 run:∀(A:Around) (outer:List Env) (s:Shared) (H:Hp) (args:Args) (us:List Value) (vs:List V) (Q:VK) (E:XK),WJ k A->gE P w K mg base A outer s H->BindsTo s fd args (ps.zip us)->Vals vs us->sp vs H Q E ->
  codeAny (model P w) A (.call (.ref f) args) (CR CX outer P w H s Q E) s
theorem Z5.mono{P:Program}{w:World}{K:PySem.W.Frag}{mg:Str->Option Value}{base:Heap}{CX:CXT}{j k:Nat}{f:Addr}{fd:FuncData}{ps:List Str}{sp:Sp}(F:Z5 P w K mg base CX j f fd ps sp)(h:j<=k) :
  Z5 P w K mg base CX k f fd ps sp:=⟨F.len,fun A outer s H args g d Q E hr=>F.run A outer s H args g d Q E (hr.mono h)⟩
theorem Z5.imp{mg:Str->Option Value}{base:Heap}{CX:CXT}{k:Nat}{fd:FuncData}{ps:List Str}{sp f:Sp}(F:Z5 P w K mg base CX k a fd ps sp)
  (h:∀d H Q E,f d H Q E->sp d H Q E):Z5 P w K mg base CX k a fd ps f :=
 ⟨fun d H Q E q=>F.len d H Q E (h _ _ _ _ q),fun A outer s H args g d Q E hr he hb hv hs=>F.run A outer s H args g d Q E hr he hb hv (h _ _ _ _ hs)⟩
theorem gE.in1{P:Program}{w:World}{K:PySem.W.Frag}{mg:Str->Option Value}{base:Heap}{A:Around}{outer:List Env}{s:Shared}{H:Hp}(e:gE P w K mg base A outer s H) :
  gE P w K mg base A.in1 outer s H:=⟨e.frames,e.mod,e.bs,e.bsz,e.funs,e.frf,e.hok,e.bare⟩
section
variable {X:Cx}{pins:List (Addr × Obj)}{σ:St}{H:Hp}{s s':Shared}
theorem Inv.env0(I:Inv X pins σ H s):gE X.prog X.w X.K X.mg X.base X.A X.stack s H :=
 ⟨I.ok.frames,I.ok.mod,I.bs,Qa0 I.ok.bsz I.sz,I.stack,I.stkFree,I.hok,I.bare⟩
theorem Inv.after{Q:VK}{u:Value}(I:Inv X pins σ H s)(h:CE X.stack X.prog X.w H s Q u s'):EP X pins σ Q u s':=by
 obtain ⟨v,H',os,f,un,y,r,q⟩:=h;obtain ⟨hh,g,d,t,E⟩:=s';obtain rfl:E=s.os:=os;exact ⟨v,H',I.call (h':=hh) (g':=g) (d':=d) (t':=t) (ch:=[]) un y f (fun b z=>absurd z (by simp)),r,q⟩
end
def uS(sp:Sp)(dvs:List V)(E:XK)(t:TA):TE:=fun σ H Q=>t σ H fun d H1=>sp (d++dvs) H1 Q E
def Binds(K:PySem.W.Frag)(fd:FuncData)(ps:List Str)(ds:List Value):Prop :=
 ∀(s:Shared) (d:List Value),K.In s.heap->(d++ds).length=ps.length->BindsTo s fd ⟨d,[]⟩ (ps.zip (d++ds))
theorem Binds.all{fd:FuncData}{ps:List Str}(h:∀d:List Value,d.length=ps.length->bindArgs fd ⟨d,[]⟩=pure (ps.zip d)):Binds K fd ps []:=fun s d _ hl=>by
 rw [Qax] at hl ⊢;exact .of_eq (h d hl)
def Passes(CX:CXT)(X:Cx)(E:XK):Prop:=∀(pins:List (Addr × Obj)) (σ:St) (H:Hp) (s:Shared) (e:Value) (s':Shared),Inv X pins σ H s->CX X.stack H s E e s'->X.xe e s'
section
variable {X:Cx}{CX:CXT}{k:Nat}{f C:Addr}{fd:FuncData}{ps:List Str}{sp:Sp}{dvs:List V}{ds:List Value}{E:XK}{x m:Str}{p pos apos:Pos}{e o:Expr}{es:List Expr}{ta:TE}{t:TA}
theorem run_fn{pins:List (Addr × Obj)}{σ:St}{H:Hp}{s:Shared}{Q:VK}{d:List Value}{y:List V}(F:Z5 X.prog X.w X.K X.mg X.base CX k f fd ps sp)(hr:WJ k X.A)(hb:Binds X.K fd ps ds)(hd:Vals dvs ds)(hx:Passes CX X E)
  (I:Inv X pins σ H s) (r:Vals y d) (h:sp (y++dvs) H Q E):wpAny (model X.prog X.w) X.A (call (.ref f) d) (EP X pins σ Q) X.xe s:=by
 have G:Vals (y++dvs) (d++ds):=r.append hd;have hl:(d++ds).length=ps.length:=by rw [<-G.length];exact F.len _ _ _ _ h
 refine Qf7 (Qfy (F.run X.A X.stack s H ⟨d,[]⟩ (d++ds) (y++dvs) Q E hr I.env0 (hb s d I.kIn hl) G h) fun r s' g=>?_);cases r with
 | error e=>exact hx pins σ H s e s' I g
 | ok J =>
  cases J with
  | ret u=>exact I.after g
  | next=>exact False.elim g
  | brk=>exact False.elim g
  | cont=>exact False.elim g
theorem uT(F:Z5 X.prog X.w X.K X.mg X.base CX k f fd ps sp)(hr:WJ k X.A)(hg:Gl X x)(hm:X.mg x=some (.ref f))(hk:PySem.W.keepIn X.K (.ref f)=true)(hb:Binds X.K fd ps ds)(hd:Vals dvs ds)(hx:Passes CX X E)
  (ha:PA X (e::es) t) (hdb:(x == ("__debug__" : Str))=false:=by decide) (he:starEach (e::es) X.env=(false,eval e X.env)::starEach es X.env:=by rfl) (d:(backTo pos (starEach es X.env)).any (·.1)=false:=by rfl) :
  PE X (.Call (.Name x p) (e::es) [] pos) (uS sp dvs E t):=by
 intro pins s σ H Q I h;refine Qd4 (JU I hg hm ?_ hdb);refine PySem.W.callWith_K (h₀:=X.base) I.ok.mod.kin hk (thn (ha pos pins s σ H _ I h) fun G J ⟨y,H1,g,r,q⟩=>⟨g.kIn,?_⟩) he d;exact run_fn F hr hb hd hx g r q
structure Mk(K:PySem.W.Frag)(C f:Addr):Prop where
 makes:PySem.W.makesIn K C=true
 init:PySem.W.findIn K (.ref C) "__init__" = some (some (.ref f))
 fn:PySem.W.isFn K (.ref f)=true
 kp:PySem.W.keepIn K (.ref C)=true
end
section
variable {X:Cx}{CX:CXT}{k:Nat}{f C:Addr}{fd:FuncData}{ps ks:List Str}{sp:Sp}{E:XK}{x m:Str}{p pos apos kpos:Pos}{e o:Expr}{es:List Expr}{kws:List Keyword}{te ta:TE}{t tk:TA}{nm:Option Str}
structure KBinds(K:PySem.W.Frag)(fd:FuncData)(ps ks:List Str)(g:List Value->List Value->List Value)(gV:List V->List V->List V):Prop where
 to:∀(s:Shared) (us ws:List Value),K.In s.heap->(g us ws).length=ps.length->BindsTo s fd ⟨us,ks.zip ws⟩ (ps.zip (g us ws))
 rel:∀{vs:List V} {us:List Value} {zs:List V} {ws:List Value},Vals vs us->Vals zs ws->Vals (gV vs zs) (g us ws)
variable {g:List Value->List Value->List Value}{gV:List V->List V->List V}
end
structure Zz(N P:List Str)(sc:Scope):Prop where
 kind:sc.kind=.function
 co:sc.isCoroutine=false
 gen:sc.isGenerator=false
 nd:N.Nodup
 pre:N.take P.length=P
 par:∀x∈P,sc.names.lookup x=some .local\/sc.names.lookup x=some .cell
 nofree:∀y∈sc.names,y.2≠.free
theorem xh{kindOf:Str->Option NameKind}{x:Str}:∀{binds:List (Str × Value)} {m:Str->Option Value},(∀v,(x,v)∉binds)->bindL kindOf binds m x=m x
 | [],_,_=>rfl
 | (n,v)::r,m,h=>by
  unfold bindL;rw [xh fun w hw=>h w (Qar _ hw)]
  split
  ·have:x≠n:=by rintro rfl;exact h v Qaq
   simp [this]
  ·rfl
theorem xi{kindOf:Str->Option NameKind}{x:Str}:∀{binds:List (Str × Value)} {m:Str->Option Value},(∀v,(x,v)∉binds)->bindC kindOf binds m x=m x
 | [],_,_=>rfl
 | (n,v)::r,m,h=>by
  unfold bindC;rw [xi fun w hw=>h w (Qar _ hw)]
  split
  ·rfl
  ·have:x≠n:=by rintro rfl;exact h v Qaq
   simp [this]
theorem xj{kindOf:Str->Option NameKind}{x:Str}{v:Value}:∀{P:List Str} {d:List Value} {i:Nat} {m:Str->Option Value},P.Nodup->P[i]?=some x->d[i]?=some v->kindOf x=some .local ->
  bindL kindOf (P.zip d) m x=some v
 | [],_,_,_,_,h,_,_=>by simp at h
 | _::_,[],_,_,_,_,h,_=>by simp at h
 | p::P,w::d,0,m,f,h1,h2,hk=>by
  simp at h1 h2;subst h1;subst h2;show bindL kindOf ((p,w)::P.zip d) m p=_;unfold bindL;rw [xh fun v hv=>(Qco.mp f).1 (Qfz hv).1,Qa4 hk];simp
 | p::P,w::d,i + 1,m,f,h1,h2,hk=>by
  show bindL kindOf ((p,w)::P.zip d) m x=_;unfold bindL;exact xj (i:=i) (Qco.mp f).2 (by simpa using h1) (by simpa using h2) hk
theorem xk{kindOf:Str->Option NameKind}{x:Str}{v:Value}:∀{P:List Str} {d:List Value} {i:Nat} {m:Str->Option Value},P.Nodup->P[i]?=some x->d[i]?=some v->kindOf x≠some .local ->
  bindC kindOf (P.zip d) m x=some v
 | [],_,_,_,_,h,_,_=>by simp at h
 | _::_,[],_,_,_,_,h,_=>by simp at h
 | p::P,w::d,0,m,f,h1,h2,hk=>by
  simp at h1 h2;subst h1;subst h2;show bindC kindOf ((p,w)::P.zip d) m p=_;unfold bindC;rw [xi fun v hv=>(Qco.mp f).1 (Qfz hv).1,Qa5 hk];simp
 | p::P,w::d,i + 1,m,f,h1,h2,hk=>by
  show bindC kindOf ((p,w)::P.zip d) m x=_;unfold bindC;exact xk (i:=i) (Qco.mp f).2 (by simpa using h1) (by simpa using h2) hk
def start(N:List Str)(d:List V):St:=d.map some++List.replicate (N.length - d.length) none
def yO(CX:CXT)(P:Program)(w:World)(K:PySem.W.Frag)(mg:Str->Option Value)(base:Heap)(N:List Str)(qual:Str)(scope:Scope)(f:Addr)(g:Value)(A:Around)(outer:List Env)(s:Shared)(H:Hp)(E:XK):Cx where
 prog:=P
 w:=w
 K:=K
 mg:=mg
 base:=base
 A:=A.deeper (envOfC qual scope s.heap.objs.size f g)
 N:=N
 s₀:=s
 H₀:=H
 env:=envOfC qual scope s.heap.objs.size f g
 outer:=outer
 stack:=envOfC qual scope s.heap.objs.size f g::outer
 ex:=[]
 calm:=true
 fn:=fun _=>true
 pn:=[]
 xe:=fun e s'=>wpAny (model P w) (A.deeper (envOfC qual scope s.heap.objs.size f g)) (leaving (envOfC qual scope s.heap.objs.size f g) e) (fun _ d=>CX outer H s E e d) (fun y d=>CX outer H s E y d) s'
theorem zS{d:Scope}(h:d.names.lookup x=some .cell):∃c,(cellsFrom n d.names []).lookup x=some c:=by
 have q:=PySem.W.cellsFrom_some d.names n [] (.inl h);exact Option.isSome_iff_exists.mp q
theorem yP{CX:CXT}{mg:Str->Option Value}{base:Heap}{ps:List Str}{qual:Str}{scope:Scope}{A:Around}{outer:List Env}{s L:Shared}{H:Hp}{E:XK}{J:List Value}{f:List V}
  (S:Zz N ps scope) (hd:A.handled=none) (d:gE P w K mg base A outer s H) (hl:f.length=ps.length) (r:Vals f J)
  (x:InCallC s s.heap.objs.size (bindL (envOfC qual scope s.heap.objs.size C M).kindOf (ps.zip J) fun _=>none) (cellsFrom (s.heap.objs.size + 1) scope.names []) (bindC (envOfC qual scope s.heap.objs.size C M).kindOf (ps.zip J) fun _=>none) L) :
  Inv (yO CX P w K mg base N qual scope C M A outer s H E) [] (start N f) H L:=by
 have U:ps.length<=N.length:=by have:=congrArg List.length S.pre;rw [Qcr] at this;lia
 obtain ⟨h1,tk,rfl,hk⟩:=x.done;have g:∀b:Addr,b∉(yO CX P w K mg base N qual scope C M A outer s H E).ex:=fun b z=>absurd (show b∈([]:List Addr) from z) (by simp);refine ⟨⟨d.mod,S.kind,rfl,rfl,Qao _,fun y z c h1 h2=>?_,fun y G=>?_,fun y c _ h=>?_,fun _=>hd,Around.frames_deeper d.frames,.inr ⟨rfl,rfl⟩,fun b z=>absurd z (g b),d.bs,d.bsz,fun b _ _=>g b,fun b z=>absurd z (g b),d.funs,d.frf⟩,
  rfl,d.bare,Un.kept hk,⟨_,x.toInCall.ns,fun i y v h1 h2 W=>?_⟩,fun y c h=>⟨_,x.cell y c h⟩,d.hok.fresh (Qao _),fun y c h=>?_,fun p hp=>absurd (show p∈([]:List (Addr × Obj)) from hp) (by simp),d.hok.kept hk,?_⟩
 ·exact name_of_addr x.apart (Qda h1) (Qda h2)
 ·have G:scope.names.lookup y=some .cell\/scope.names.lookup y=some .free:=G
  rcases G with G | G
  ·exact zS G
  ·exact absurd rfl (S.nofree _ (Qda G))
 ·exact Qbg (x.above y c (Qda h))
 ·have hi:i < f.length:=by
   unfold start at h2
   by_cases hi:i < f.length
   ·exact hi
   ·rw [Qcv (by simpa using hi)] at h2
    rw [List.getElem?_replicate] at h2
    split at h2 <;> cases h2
  have ha:f[i]?=some v:=by
   unfold start at h2;rw [Qdx (by simpa using hi),Qbc] at h2;cases e:f[i]? with
   | none=>rw [e] at h2;cases h2
   | some a=>rw [e] at h2;cases h2;rfl
  obtain ⟨u,hu,O⟩:=r.get ha;have hp:ps[i]?=some y:=by
   rw [<-S.pre,List.getElem?_take_of_lt (by lia)];exact h1
  have I:ps.Nodup:=by rw [<-S.pre];exact S.nd.sublist (List.take_sublist _ _)
  refine ⟨u,O,?_⟩;rcases S.par y (Qae hp) with k | k
  ·exact .inl ⟨k,xj I hp hu k⟩
  ·obtain ⟨c,e⟩:=zS (n:=s.heap.objs.size + 1) k
   refine .inr ⟨.inl k,c,e,?_⟩;have q:=x.cell y c e;rw [xk I hp hu (by show scope.names.lookup y≠_;rw [k];decide)] at q;exact q
 ·exact d.hok.fresh (Qbg (x.above y c (Qda h)))
 ·unfold start
  show _=N.length;rw [Qab,Qaz,Qc0];lia
theorem Zcb{CX:CXT}{mg:Str->Option Value}{base:Heap}{k:Nat}{name qual:Str}{params:Arguments}{body:List Stmt}{scope:Scope}{kV U pm d ct oc:Value}{an od:Option Addr}
  {osl:Array (Option Value)} {ps:List Str} {sp:Sp} (lk:K.lookup a=some ⟨oc,od,.func (PySem.W.fnOf name qual params body scope M kV U pm an d ct),osl⟩) (hcd:PySem.W.codeIn K d qual=true) (S:Zz N ps scope)
  (len:∀f H Q E,sp f H Q E->f.length=ps.length)
  (G:∀(A:Around) (outer:List Env) (s:Shared) (H:Hp) (f:List V) (Q:VK) (E:XK),WJ k (A.deeper (envOfC qual scope s.heap.objs.size a d))->sp f H Q E ->
   ∃t,PSs (yO CX P w K mg base N qual scope a d A outer s H E) body t/\t { nx:=fun _ H'=>Q .non H',rt:=Q } (start N f) H) :
  Z5 P w K mg base CX (k + 1) a (PySem.W.fnOf name qual params body scope M kV U pm an d ct) ps sp:=by
 refine ⟨len,fun A outer s H args us f Q E hr O hb r Y=>?_⟩;have hl:=len _ _ _ _ Y;have KX:K.In s.heap:=O.mod.kin.keeps fun b o e=>(O.bs b o e).1;have Z:s.heap.NoLimit:=O.mod.nolimit.keeps fun b o e=>(O.bs b o e).1;have L:∀y∈ps.zip us,scope.names.lookup y.1=some .local\/(scope.names.lookup y.1=some .cell/\((cellsFrom (s.heap.objs.size + 1) scope.names []).lookup y.1).isSome=true):=fun ⟨n,v⟩ hy=>by
  rcases S.par n (Qfz hy).1 with q | q
  ·exact .inl q
  ·exact .inr ⟨q,PySem.W.cellsFrom_some _ _ _ (.inl q)⟩
 refine codeAny_call_function hr.depth (KX _ _ lk) rfl S.co S.gen rfl (PySem.W.codeRec_of KX hcd) (hb _ _ _ _ ?_);refine wpAny_newFunctionEnv_cells S.kind L fun env he s1 x=>?_;subst he;refine ⟨Z.keeps x.toInCall.keep,codeAny_func ?_⟩;obtain ⟨t,ht,hq⟩:=G A outer s H f Q E (hr.deeper _) Y;have I:Inv (yO CX P w K mg base N qual scope a d A outer s H E) [] (start N f) H s1:=yP S hr.hd O hl r x;refine Qcg (ht [] s1 (start N f) H _ I hq) (fun fl s' hs=>?_) fun e s' hs=>hs;have fin:∀{g:St} {H':Hp} {v:V} {u:Value},Inv (yO CX P w K mg base N qual scope a d A outer s H E) [] g H' s'->RelV v u->Q v H'->CE outer P w H s Q u s' :=
  fun {g H' v u} J rv q=>⟨v,H',J.os,J.bare,J.base,J.hok,rv,q⟩
 cases fl with
 | ret u =>
  obtain ⟨v,g,H',J,rv,q⟩:=hs;exact fin J rv q
 | next =>
  obtain ⟨g,H',J,q⟩:=hs;exact fin (v:=V.non) (u:=Value.none) J rfl q
 | brk =>
  obtain ⟨_,_,_,q⟩:=hs;exact False.elim q
 | cont =>
  obtain ⟨_,_,_,q⟩:=hs;exact False.elim q
section
variable {X:Cx}{x:Str}{p pos:Pos}{e:Expr}{es:List Expr}{t:TA}{id T:String}{r:List V->Hp->VK->Prop}
def tCB(r:List V->Hp->VK->Prop)(t:TA):TE:=fun σ H Q=>t σ H fun d H1=>r d H1 Q
theorem kP (hc:Xk X (.builtin id) r) (hg:Gl X x) (hm:X.mg x=none) (hv:bootBuiltins x=some (.builtin id)) (ha:PA X (e::es) t) (hn:x ≠ "__name__" := by decide) (hdb:(x == ("__debug__" : Str))=false:=by decide)
  (he:starEach (e::es) X.env=(false,eval e X.env)::starEach es X.env:=by rfl) (d:(backTo pos (starEach es X.env)).any (·.1)=false:=by rfl):PE X (.Call (.Name x p) (e::es) [] pos) (tCB r t):=by
 intro pins s σ H Q I h;refine Qd4 (GP I hg hm hv ?_ hn hdb);exact PyProof.Rows.callWith_builtin1 (thn (ha pos pins s σ H _ I h) fun g E ⟨f,H1,y,J,G⟩=>hc pins E σ H1 f g Q y J G) he d
theorem yQ (hc:Xk X (.type T) r) (hg:Gl X x) (hm:X.mg x=none) (hv:bootBuiltins x=some (.type T)) (ha:PA X (e::es) t) (hn:x ≠ "__name__" := by decide) (hdb:(x == ("__debug__" : Str))=false:=by decide)
  (he:starEach (e::es) X.env=(false,eval e X.env)::starEach es X.env:=by rfl) (d:(backTo pos (starEach es X.env)).any (·.1)=false:=by rfl):PE X (.Call (.Name x p) (e::es) [] pos) (tCB r t):=by
 intro pins s σ H Q I h;refine Qd4 (GP I hg hm hv ?_ hn hdb);exact Qct (thn (ha pos pins s σ H _ I h) fun g E ⟨f,H1,y,J,G⟩=>hc pins E σ H1 f g Q y J G) he d
end
end L2
variable {H S:L2.Hp}
variable {b:L2.Cx}
variable {u B:List L2.V}
variable {y:L2.V}
variable {c:L2.St}
variable {d Y:L2.TE}
variable {g Z:L2.TS}
variable {I:L2.TT}
variable {O:L2.Ends}
variable {R:L2.VK}
namespace HT
open PySem PyProof.Rows
section
open PySem.SeqAt
open PySem.AutoSeq1 (wpAny_loadPart')
open PySem.MeetsSeq PySem.MeetsSeq2 PySem.MeetsSeq3
end
section
variable {prog:Program}{w:World}{A:Around}{E:Value->Shared->Prop}{s:Shared}
theorem cat_tup{b:Addr}{d:List Value}(S:IsTup s.heap a r.toArray)(hb:IsTup s.heap b d.toArray)(hv:r≠[])
  (h1:d=[]->Q (.ref a) s) (h2:d≠[]->Q (.ref s.heap.objs.size) { s with heap:=s.heap.push { cls:=.type "tuple",data:=.seq (r++d).toArray } })
  (hsz:r.length + d.length<=sizeLine):wpAny (model prog w) A (binaryOp .Add (.ref a) (.ref b)) Q E s:=by
 obtain ⟨⟨cls,dd,data,J⟩,ho,hc,n,hd⟩:=id S;obtain ⟨⟨L,g,data2,G⟩,f,y,O,I⟩:=id hb;simp only at hc hd y I;subst hc hd y I;have e:r.toArray++d.toArray=(r++d).toArray:=by simp
 by_cases hw:d=[]
 ·exact concat_meets ⟨_,ho,rfl⟩ ⟨_,f,rfl⟩ Qen Qfl Qch Qce (Qb7 _ _)
   (tuple_addW1 a b r.toArray d.toArray n O dd g J G (by simpa using hv) (by simp [hw])) ⟨ho,f,h1 hw⟩
 ·refine concat_meets ⟨_,ho,rfl⟩ ⟨_,f,rfl⟩ Qen Qfl Qch Qce (Qb7 _ _)
   (tuple_addW2 a b r.toArray d.toArray n O dd g J G (by simpa using hv) (by simpa using hw) (by rw [Qak,Qak];exact hsz)) ⟨ho,f,?_⟩
  rw [e];exact h2 hw
def sIx(n d:Nat):Option Int->Nat
 | none=>d
 | some v=>if v < 0 then (v + (n:Int)).toNat else min v.toNat n
theorem sIx_none(n d:Nat):sIx n d none=d:=rfl
theorem sIx_nat(n d k:Nat):sIx n d (some (k:Int))=min k n:=by
 show (if (k:Int) < 0 then ((k:Int) + (n:Int)).toNat else min (k:Int).toNat n)=min k n;rw [Qa5 (by lia),Qbw]
theorem sIx_le(n d:Nat)(hd:d<=n)(o:Option Int):sIx n d o<=n:=by
 cases o with
 | none=>exact hd
 | some v =>
  show (if v < 0 then (v + (n:Int)).toNat else min v.toNat n)<=n
  by_cases hv:v < 0
  ·rw [Qa4 hv];lia
  ·rw [Qa5 hv];exact Nat.min_le_right _ _
theorem yR(v:Int)(n d:Nat):(if v < 0 then max (v + (n:Int)) 0 else min v (n:Int))=((sIx n d (some v):Nat):Int):=by
 show (if v < 0 then max (v + (n:Int)) 0 else min v (n:Int))=(((if v < 0 then (v + (n:Int)).toNat else min v.toNat n):Nat):Int)
 by_cases hv:v < 0
 ·simp only [Qa4 hv];lia
 ·simp only [Qa5 hv];lia
theorem jO(lo hi:Option Int)(n:Nat):Builtin.Slice.sliceAdjust lo hi 1 (n:Int)=(((sIx n 0 lo:Nat):Int),((sIx n n hi:Nat):Int)):=by
 have h1:¬((1:Int) < 0):=by lia
 unfold Builtin.Slice.sliceAdjust;simp only [h1,Qfm];refine Prod.ext ?_ ?_
 ·cases lo with
  | none=>rfl
  | some v=>exact yR v n 0
 ·cases hi with
  | none=>rfl
  | some v=>exact yR v n n
theorem jP(i j:Nat):Builtin.Slice.slicePlaces (i:Int) (j:Int) 1=j - i:=by
 unfold Builtin.Slice.slicePlaces;have h1:(1:Int) > 0:=by lia
 simp only [h1,Qf9,Qb8]
 split <;> lia
theorem GR{o:Option Int}{Q:Option Int->Shared->Prop}(p:IsPart v o)(h:Q o s):wpAny (model prog w) A (Builtin.Slice.slicePartIndex v) Q E s:=by
 cases p with
 | none=>exact slicePart_none h
 | int i t=>exact slicePart_int h
theorem X8{vu:Value}{lo hi:Option Int}{Q:Int × Int × Nat->Shared->Prop}(hs:s.heap.IsSliceOf a v vu .none)(g:IsPart v lo)(y:IsPart vu hi)
  (h:Q (((sIx n 0 lo:Nat):Int),1,sIx n n hi - sIx n 0 lo) s):wpAny (model prog w) A (Builtin.Slice.sliceApplied (.ref a) (pure (n:Int))) Q E s:=by
 obtain ⟨os,f,G,d⟩:=id hs;unfold Builtin.Slice.sliceApplied Builtin.Slice.sliceFields;refine Qaa (Qaa (Qa2 f d (x:=v) rfl (Qaa (Qa2 f d (x:=vu) rfl (Qaa (Qa2 f d (x:=.none) rfl (Qaj ?_)))))));refine Qaa (slicePart_none ?_);show wpAny _ _ (if ((1:Int) == 0)=true then _ else _) _ _ s;rw [Qa5 (by decide)];refine Qaa (GR g (Qaa (GR y (Qaa (Qaj ?_)))));show wpAny _ _ (match Builtin.Slice.sliceAdjust lo hi 1 (n:Int) with | (lo,hi)=>pure (lo,(1:Int),Builtin.Slice.slicePlaces lo hi 1)) _ _ s;rw [jO lo hi n];show wpAny _ _ (pure (((sIx n 0 lo:Nat):Int),(1:Int),Builtin.Slice.slicePlaces ((sIx n 0 lo:Nat):Int) ((sIx n n hi:Nat):Int) 1)) _ _ s;rw [jP];exact Qaj h
theorem kQ(xs:Array Value)(i k:Nat):((List.range k).filterMap fun (m:Nat)=>xs[((i:Int) + (m:Int) * 1).toNat]?).toArray=((xs.toList.drop i).take k).toArray:=by
 have e:(fun (m:Nat)=>xs[((i:Int) + (m:Int) * 1).toNat]?)=fun m=>xs[i + m]?:=by
  funext m
  have:((i:Int) + (m:Int) * 1).toNat=i + m:=by lia
  rw [this]
 rw [e];have:=pick_run xs i k;rw [List.filterMap_map] at this;have e2:((fun x=>xs[x]?) ∘ fun x=>i + x)=fun m=>xs[i + m]?:=rfl;rw [e2] at this;rw [this]
theorem getItem_tuple_cut{items:Array Value}{vu:Value}{lo hi:Option Int}(f:IsTup s.heap a items)(hs:s.heap.IsSliceOf C v vu .none)(L:IsPart v lo)(O:IsPart vu hi)
  (hw:¬(sIx items.size 0 lo=0/\sIx items.size items.size hi=items.size))
  (h:Q (.ref s.heap.objs.size) { s with heap:=s.heap.push { cls:=.type "tuple",data:=.seq ((items.toList.drop (sIx items.size 0 lo)).take (sIx items.size items.size hi - sIx items.size 0 lo)).toArray } })
  (hsz:items.size<=sizeLine):wpAny (model prog w) A (getItem (.ref a) (.ref C)) Q E s:=by
 have d:sizeOk (.seq ((items.toList.drop (sIx items.size 0 lo)).take (sIx items.size items.size hi - sIx items.size 0 lo)).toArray):=by
  show ((items.toList.drop (sIx items.size 0 lo)).take (sIx items.size items.size hi - sIx items.size 0 lo)).toArray.size<=sizeLine;rw [Qak,Qcr,Qfr,Qc9];lia
 have U:sIx items.size items.size hi<=items.size:=sIx_le _ _ (Qao _) hi;obtain ⟨os,g,G,J⟩:=id hs;have y:s.TypeIs (.ref C) "slice" := ⟨os,g,G⟩;unfold getItem
 try with_reducible refine Qb3 ?_
 first | refine Qaa (Qaj ?_) | skip
 refine Qaa (wpAny_sequenceKey f.typeIs (by decide) ?_);refine Qaa (wpAny_callSpecial?_slot (name:=Str.ofString "__getitem__") f.typeIs Qbe
  (Qbr Qbe f.typeIs entry_tuple_getitem ?_ (args_tuple_getitem _ _)))
 show wpAny _ _ (Builtin.Tuple.tupleItemsOf (.ref a) >>= _) _ _ s;refine Qaa (tupleItemsOf_ f ?_);refine Qaa (wpAny_typeOf y ?_);rw [Qa4 (by decide)];refine Qaa (X8 hs L O ?_);have I:¬((((sIx items.size 0 lo:Nat):Int) == 0 && (1:Int) == 1 && (sIx items.size items.size hi - sIx items.size 0 lo) == items.size)=true):=by
  intro q;rw [Qa1,Qa1] at q;have S:((sIx items.size 0 lo:Nat):Int)=0:=eq_of_beq q.1.1;have W:sIx items.size items.size hi - sIx items.size 0 lo=items.size:=eq_of_beq q.2;exact hw ⟨by lia,by lia⟩
 show wpAny _ _ (if (((sIx items.size 0 lo:Nat):Int) == 0 && (1:Int) == 1 && (sIx items.size items.size hi - sIx items.size 0 lo) == items.size)=true then _ else _) _ _ s;rw [Qa5 I,kQ]
 first
  | exact Qaa (m:=Builtin.Tuple.tupleExact _) (Qbh (Qaj ⟨_,rfl,Qaj h⟩) d)
  | exact Qaa (m:=Builtin.Tuple.tupleExact _) (Qbh (Qaa (Qaj (Qaj ⟨_,rfl,Qaj h⟩))) d)
  | exact Qaa (Qaa (m:=Builtin.Tuple.tupleExact _) (Qbh (Qaj (Qaj ⟨_,rfl,Qaj h⟩)) d))
  | exact Qaa (Qaa (m:=Builtin.Tuple.tupleExact _) (Qbh (Qaj ⟨_,rfl,Qaj h⟩) d))
end
end HT
namespace L2
open PySem PySem.Spec PyProof.Rows
abbrev TO:=St->Hp->(Option Int->Hp->Prop)->Prop
def PO(X:Cx)(e:Option Expr)(t:TO):Prop :=
 ∀(pins:List (Addr × Obj)) (s:Shared) (σ:St) (H:Hp) (Q:Option Int->Hp->Prop),Inv X pins σ H s->t σ H Q ->
  wpAny (model X.prog X.w) X.A (evalPart e X.env) (fun u s'=>∃o H',Inv X pins σ H' s'/\IsPart u o/\Q o H') X.xe s
def yS:TO:=fun _ H Q=>Q none H
inductive yT(Q:Option Int->Hp->Prop)(x:V)(H1:Hp):Prop
 | mk (i:_):(x=.int i)->(Q (some i) H1)->yT Q x H1
def Zcc(t:TE):TO:=fun σ H Q=>t σ H fun x H1=>yT Q x H1
section
variable {X:Cx}{e:Expr}{te:TE}{lo hi:Option Expr}{tl th:TO}{pos p2:Pos}
theorem uU:PO X none yS:=by
 intro pins s σ H Q I h;rw [evalPart_none];exact Qaj ⟨none,H,I,.none,h⟩
theorem uV(h:PE X e te):PO X (some e) (Zcc te):=by
 intro pins s σ H Q I hw;rw [evalPart_some];refine thn (h pins s σ H _ I hw) fun u y ⟨x,H1,d,g,f⟩=>?_;obtain ⟨i,rfl,q⟩:=f;obtain ⟨t,rfl⟩:=g;exact ⟨some i,H1,d,.int i t,q⟩
def SlR(X:Cx)(r:V->Option Int->Option Int->Hp->VK->Prop):Prop :=
 ∀(pins:List (Addr × Obj)) (s:Shared) (σ:St) (H:Hp) (x:V) (v d vu:Value) (lo hi:Option Int) (f:Addr) (Q:VK),Inv X pins σ H s->RelV x v->s.heap.IsSliceOf f d vu .none->IsPart d lo->IsPart vu hi->r x lo hi H Q ->
  ∃T id,typeLookup (.type T) "__getitem__" = pure (some (.builtin id))/\s.TypeIs v T/\wpAny (model X.prog X.w) X.A (getItem v (.ref f)) (EP X pins σ Q) X.xe s
theorem SlR.or{r G:V->Option Int->Option Int->Hp->VK->Prop}(h:SlR X r)(h':SlR X G):SlR X (fun x lo hi H Q=>r x lo hi H Q\/G x lo hi H Q):=by
 intro pins s σ H x v f vu lo hi g Q I y hs d E q;rcases q with q | q
 ·exact h pins s σ H x v f vu lo hi g Q I y hs d E q
 ·exact h' pins s σ H x v f vu lo hi g Q I y hs d E q
def tSl(r:V->Option Int->Option Int->Hp->VK->Prop)(te:TE)(tl th:TO):TE:=fun σ H Q=>te σ H fun x H1=>tl σ H1 fun l H2=>th σ H2 fun u d=>r x l u d Q
theorem kR{r:V->Option Int->Option Int->Hp->VK->Prop}(hr:SlR X r)(he:PE X e te)(hl:PO X lo tl)(hu:PO X hi th):PE X (.Subscript e (.Slice lo hi none p2) pos) (tSl r te tl th):=by
 intro pins s σ H Q I h;refine Subscript_ (thn (he pins s σ H _ I h) fun v Y ⟨x,H1,y,Z,G⟩=>?_);refine wpAny_Slice (thn (hl pins Y σ H1 _ y G) fun f s2 ⟨l,H2,E,W,q2⟩=>thn (hu pins s2 σ H2 _ E q2) fun vu d ⟨u,g,S,pu,O⟩=>?_);rw [evalPart_none];refine Qaj ?_;have U:Inv X pins σ g { d with heap:=d.heap.push { cls:=.type "slice",data:=.fields #[f,vu,.none] } }:=S.kept (t':=d.toks) fun b ob q=>Qac _ q;obtain ⟨T,id,L,J,hg⟩:=hr pins { d with heap:=d.heap.push { cls:=.type "slice",data:=.fields #[f,vu,.none] } } σ g x v f vu l u d.heap.objs.size Q U Z (Heap.IsSliceOf.new ..) W pu O;show wpAny (model X.prog X.w) X.A (subscriptTail e (.Slice lo hi none p2) v (.ref d.heap.objs.size)) (EP X pins σ Q) X.xe { d with heap:=d.heap.push { cls:=.type "slice",data:=.fields #[f,vu,.none] } };exact tail_any (ops:=[.ref d.heap.objs.size,v]) J L hg (by with_unfolding_all rfl)
def xg(xs:List V)(lo hi:Option Int):List V:=(xs.drop (HT.sIx xs.length 0 lo)).take (HT.sIx xs.length xs.length hi - HT.sIx xs.length 0 lo)
theorem za(xs:List V)(lo hi:Option Int):(xg xs lo hi).length<=xs.length:=by
 unfold xg;rw [Qcr,Qfr];lia
inductive gF(K:PySem.W.Frag)(x:V)(lo:Option Int)(hi:Option Int)(H:Hp)(Q:VK):Prop
 | mk (a xs:_):(x=.ref a)->(SqT K H a xs)->(¬(HT.sIx xs.length 0 lo=0/\HT.sIx xs.length xs.length hi=xs.length))->(∀p,H p=none->Q (.ref p) (upd H p (.tup (xg xs lo hi))))->gF K x lo hi H Q
def rSlT(K:PySem.W.Frag):V->Option Int->Option Int->Hp->VK->Prop:=fun x lo hi H Q=>gF K x lo hi H Q
theorem Wk:SlR X (rSlT X.K):=by
 intro pins s σ H x v L vu lo hi O Q I G hs E J h;obtain ⟨a,xs,rfl,hx,hw,q⟩:=h;cases G;obtain ⟨f,r,g,y⟩:=I.tuple hx;have d:f.toArray.size=xs.length:=by rw [Qak];exact r.length.symm
 refine ⟨"tuple",_,Qbe.lookup,g.typeIs,?_⟩;refine HT.getItem_tuple_cut g hs E J (by rw [d];exact hw) ?_ (by rw [d];exact y);rw [d];refine ⟨.ref s.heap.objs.size,_,I.laid (t':=s.toks) (o:=.tup (xg xs lo hi)) (fun b ob q=>Qac _ q) (Qao _) ?_,rfl,q _ (I.hok.fresh (Qao _))⟩;exact ⟨Qa0 (za xs lo hi) y,_,(r.drop (HT.sIx xs.length 0 lo)).take (HT.sIx xs.length xs.length hi - HT.sIx xs.length 0 lo),jJ.new _ _⟩
inductive uW(K:PySem.W.Frag)(x:V)(y:V)(H:Hp)(Q:VK):Prop
 | mk (a b xs ys:_):(x=.ref a)->(y=.ref b)->(SqT K H a xs)->(SqT K H b ys)->(xs≠[])->(xs.length + ys.length<=sizeLine)->((ys=[]->Q (.ref a) H))->((ys≠[]->∀p,H p=none->Q (.ref p) (upd H p (.tup (xs++ys)))))->uW K x y H Q
theorem Vals.nil_iff{xs:List V}{d:List Value}(r:Vals xs d):d=[]↔xs=[]:=by
 cases r with
 | nil=>simp
 | cons _ _=>simp
end
end L2
namespace L2
open PySem PySem.Spec PyProof.Rows
def ixN(n:Nat)(i:Int):Option Nat:=if 0<=i then (if i < n then some i.toNat else none) else if -(n:Int)<=i then some (i + n).toNat else none
def atI(xs:List D)(i:Int):Option D:=(ixN xs.length i).bind fun j=>xs[j]?
theorem yU{i:Int}{j:Nat}(h:ixN n i=some j):seqIndex? i n=some j/\j < n/\-(n:Int)<=i/\i < n:=by
 unfold ixN at h
 by_cases d:0<=i
 ·rw [Qa4 d] at h
  by_cases h1:i < n
  ·rw [Qa4 h1] at h
   have e:i.toNat=j:=Option.some.inj h;exact ⟨by rw [Qf8 d h1,e],by lia,by lia,h1⟩
  ·rw [Qa5 h1] at h;cases h
 ·rw [Qa5 d] at h
  by_cases h1:-(n:Int)<=i
  ·rw [Qa4 h1] at h
   have e:(i + n).toNat=j:=Option.some.inj h;exact ⟨by rw [seqIndex_neg (by lia) h1,e],by lia,h1,by lia⟩
  ·rw [Qa5 h1] at h;cases h
theorem zc{xs:List D}{i:Int}{v:D}(h:atI xs i=some v):∃j,seqIndex? i xs.length=some j/\xs[j]?=some v/\j < xs.length/\-(xs.length:Int)<=i/\i < xs.length:=by
 unfold atI at h;cases e:ixN xs.length i with
 | none=>rw [e] at h;cases h
 | some j =>
  rw [e] at h;obtain ⟨h1,h2,f,d⟩:=yU e;exact ⟨j,h1,h,h2,f,d⟩
theorem Yk{xs:List D}{j:Nat}{v:D}(h:xs[j]?=some v):atI xs (j:Int)=some v:=by
 have d:j < xs.length:=(Qah.mp h).1;have e:ixN xs.length (j:Int)=some j:=by
  unfold ixN;rw [Qa4 (by lia),Qa4 (by lia)];simp
 unfold atI;rw [e];exact h
def yV(b:Expr):Prop:=∀o i,subscripted b false o i=operate [o,i] (getItem o i)
def IxR(X:Cx)(r:R2):Prop :=
 ∀(value d:Expr) (pins:List (Addr × Obj)) (s:Shared) (σ:St) (H:Hp) (x y:V) (v u:Value) (Q:VK),Inv X pins σ H s->RelV x v->RelV y u->r x y H Q ->
  subscripted d false v u=operate [v,u] (getItem v u)->wpAny (model X.prog X.w) X.A (subscriptTail value d v u) (EP X pins σ Q) X.xe s
def MtR(X:Cx)(id:String)(r:V->List V->Hp->VK->Prop):Prop :=
 ∀(pins:List (Addr × Obj)) (s:Shared) (σ:St) (H:Hp) (x:V) (xs:List V) (v:Value) (d:List Value) (Q:VK),Inv X pins σ H s->RelV x v->Vals xs d->r x xs H Q ->
  wpAny (model X.prog X.w) X.A (call (.builtin id) (v::d)) (EP X pins σ Q) X.xe s
section
variable {X:Cx}{a b:Expr}{ta tb:TE}{pos:Pos}
theorem IxR.or{r E:R2}(h:IxR X r)(h':IxR X E):IxR X (fun x y H Q=>r x y H Q\/E x y H Q):=by
 intro value d pins s σ H x y v u Q I g f q hs;rcases q with q | q
 ·exact h value d pins s σ H x y v u Q I g f q hs
 ·exact h' value d pins s σ H x y v u Q I g f q hs
theorem MtR.or{id:String}{r y:V->List V->Hp->VK->Prop}(h:MtR X id r)(h':MtR X id y):MtR X id (fun x xs H Q=>r x xs H Q\/y x xs H Q):=by
 intro pins s σ H x xs v d Q I f g q;rcases q with q | q
 ·exact h pins s σ H x xs v d Q I f g q
 ·exact h' pins s σ H x xs v d Q I f g q
theorem pe_ix{r:R2}(hr:IxR X r)(ha:PE X a ta)(hb:PE X b tb)(hs:yV b):PE X (.Subscript a b pos) (tOp r ta tb):=by
 intro pins s σ H Q I h;exact Subscript_ (binT ha hb I h fun v u E x y H2 f g d q=>hr a b pins E σ H2 x y v u Q f g d q (hs _ _))
inductive gG(K:PySem.W.Frag)(x:V)(y:V)(H:Hp)(Q:VK):Prop
 | mk (p xs i v:_):(x=.ref p)->(y=.int i)->(SqL K H p xs)->(atI xs i=some v)->(Q v H)->gG K x y H Q
def rIxL(K:PySem.W.Frag):R2:=fun x y H Q=>gG K x y H Q
inductive gH(K:PySem.W.Frag)(x:V)(y:V)(H:Hp)(Q:VK):Prop
 | mk (p xs i v:_):(x=.ref p)->(y=.int i)->(SqT K H p xs)->(atI xs i=some v)->(Q v H)->gH K x y H Q
def Zc6(K:PySem.W.Frag):R2:=fun x y H Q=>gH K x y H Q
inductive gI(x:V)(y:V)(H:Hp)(Q:VK):Prop
 | mk (z i c:_):(x=.str z)->(y=.int i)->(z.length<=sizeLine)->(atI z.cps.toList i=some c)->(Q (.str ⟨#[c]⟩) H)->gI x y H Q
def rIxS  : R2:=fun x y H Q=>gI x y H Q
theorem ZQ:IxR X (rIxL X.K):=by
 intro value d pins s σ H x y v u Q I U Y h hs;obtain ⟨p,xs,i,z,rfl,rfl,W,he,q⟩:=h;cases U;obtain ⟨t,rfl⟩:=Y;obtain ⟨f,r,g,Z⟩:=I.list W;obtain ⟨j,h1,h2,h3,S,O⟩:=zc he;obtain ⟨w,L,G⟩:=r.get h2;have hl:=r.length;have hn:=GQ;have fin:EP X pins σ Q w s:=⟨z,H,I,G,q⟩
 by_cases J:0<=i
 ·have E:i.toNat=j:=by
   rw [Qf8 J O] at h1;exact Option.some.inj h1
  exact item_listR g.isList J (by lia) (by rw [E];simpa using L) fin hs
 ·have E:(i + (f.toArray.size:Int)).toNat=j:=by
   rw [seqIndex_neg (by lia) S] at h1;rw [Qak,<-hl];exact Option.some.inj h1
  exact subscriptTail_builtinR (x:=w) g.isList.typeIs slot_list_getitem.lookup
   (wpAny_getItem_list_neg (Q:=fun r s'=>r=w/\EP X pins σ Q r s') g.isList (by lia) (by rw [Qak] <;> lia) (by lia) (by rw [E];simpa using L) ⟨rfl,fin⟩) hs
theorem ZU:IxR X (Zc6 X.K):=by
 intro value d pins s σ H x y v u Q I E L h hs;obtain ⟨p,xs,i,z,rfl,rfl,J,he,q⟩:=h;cases E;obtain ⟨t,rfl⟩:=L;obtain ⟨G,r,g,W⟩:=I.tuple J;obtain ⟨j,h1,h2,Y,U,S⟩:=zc he;obtain ⟨w,O,f⟩:=r.get h2;have hl:=r.length;have hn:=GQ;have fin:EP X pins σ Q w s:=⟨z,H,I,f,q⟩;exact subscriptTail_builtinR (x:=w) g.typeIs slot_tuple_getitem.lookup
  (getItem_tuple (j:=j) (Q:=fun r s'=>r=w/\EP X pins σ Q r s') g (by lia) (by lia) (by rw [Qak,<-hl];exact h1) (by simpa using O) ⟨rfl,fin⟩) hs
theorem gJ:IxR X rIxS:=by
 intro value d pins s σ H x y v u Q I G g h hs;obtain ⟨z,i,c,rfl,rfl,J,he,q⟩:=h;obtain ⟨t,rfl⟩:=G;obtain ⟨t',rfl⟩:=g;obtain ⟨j,h1,h2,L,E,f⟩:=zc he;have hl:z.cps.toList.length=z.length:=by simp [Str.length]
 rw [hl] at h1 E f;have hn:=GQ;exact tail_any (typeIs_str s z t) slot_str_getitem.lookup (getItem_str (c:=c) (by
  have e1:decide (i < -(2 ^ 63:Int))=false:=Qal (by lia);have e2:decide (i>=2 ^ 63)=false:=Qal (by lia);rw [e1,e2,Bool.or_false]) (by rw [h1];simpa using h2) ⟨.str ⟨#[c]⟩,H,I.tok _,⟨_,rfl⟩,q⟩) hs
theorem jQ (d:List Value) (n j:Nat) (u:Value):Obj.mapSeq (·.setIfInBounds j u) { cls:=.type "list",data:=.seq d.toArray n }={ cls:=.type "list",data:=.seq (d.set j u).toArray n }:=by
 simp [Obj.mapSeq]
theorem Inv.lst{pins:List (Addr × Obj)}{σ:St}{H:Hp}{s:Shared}{p:Addr}{xs:List V}(I:Inv X pins σ H s)(h:H p=some (.lst xs)) :
  ∃(d:List Value) (n:Nat),Vals xs d/\s.heap.get? p=some { cls:=.type "list",data:=.seq d.toArray n }/\xs.length<=sizeLine:=by
 obtain ⟨z,d,n,r,e⟩:=I.hok p _ h;exact ⟨d,n,r,e,z⟩
theorem Inv.lstUpd{σ:St}{s:Shared}{p:Addr}{xs ys:List V}{d its':List Value}{f:Obj->Obj}(I:Inv X E σ H s)(h:H p=some (.lst xs))
  (ho:s.heap.get? p=some { cls:=.type "list",data:=.seq d.toArray n }) (hf:f { cls:=.type "list",data:=.seq d.toArray n }={ cls:=.type "list",data:=.seq its'.toArray i }) (r:Vals ys its') (g:ys.length<=sizeLine) (t:Nat) :
  Inv X E σ (upd H p (.lst ys)) { s with heap:=s.heap.update p f,toks:=t }:=by
 have e:(s.heap.update p f).get? p=some { cls:=.type "list",data:=.seq its'.toArray i }:=by
  rw [Qb9 f ho (by rw [hf] <;> rfl),hf]
 refine I.write (x:=p) (e:=p) (by rw [h];trivial) (.inl rfl) (fun b u hb q=>(Qby _ _ (Qcd hb)).trans q) ⟨_,e⟩ ?_;exact ⟨g,its',i,r,e⟩
inductive yW(o:V)(i:V)(v:V)(H:Hp)(Q:(Hp->Prop)):Prop
 | mk (p xs k j:_):(o=.ref p)->(i=.int k)->(H p=some (.lst xs))->(ixN xs.length k=some j)->(Q (upd H p (.lst (xs.set j v))))->yW o i v H Q
def rSetL  : V->V->V->Hp->(Hp->Prop)->Prop:=fun o i v H Q=>yW o i v H Q
theorem set_list:PSet X rSetL:=by
 intro pins s σ H o i v U Y u Q I G J L h;obtain ⟨p,xs,k,j,rfl,rfl,hp,O,q⟩:=h;cases G;obtain ⟨t,rfl⟩:=J;obtain ⟨d,n,r,ho,S⟩:=I.lst hp;obtain ⟨h1,h2,E,y⟩:=yU O;have hl:=r.length;have hn:=GQ;have g:Inv X pins σ (upd H p (.lst (xs.set j v))) { s with heap:=s.heap.update p (Obj.mapSeq (·.setIfInBounds j u)) } :=
  I.lstUpd hp ho (jQ d n j u) (r.set L j) (by rw [Qf0];exact S) s.toks
 by_cases f:0<=k
 ·have hk:k.toNat=j:=by
   rw [Qf8 f y] at h1;exact Option.some.inj h1
  exact PySem.W.ki_setAt ho f (by lia) (by rw [Qak,<-hl];exact y) (by rw [hk];exact ⟨_,g,q⟩)
 ·have hk:(k + (d.toArray.size:Int)).toNat=j:=by
   rw [seqIndex_neg (by lia) E] at h1;rw [Qak,<-hl];exact Option.some.inj h1
  exact PySem.W.ki_setBack ho (by lia) (by rw [Qak,<-hl];exact E) (by lia) (by rw [hk];exact ⟨_,g,q⟩)
inductive rSlL_i(K:PySem.W.Frag)(x:V)(lo:Option Int)(hi:Option Int)(H:Hp)(Q:VK):Prop
 | mk (a xs:_):(x=.ref a)->(SqL K H a xs)->(∀p,H p=none->Q (.ref p) (upd H p (.lst (xg xs lo hi))))->rSlL_i K x lo hi H Q
def Yv:V->Bool
 | .non=>true
 | .bl _=>true
 | .int _=>true
 | .str _=>true
 | _=>false
def eqV:V->V->Bool
 | .non,.non=>true
 | .bl a,.bl b=>a == b
 | .bl a,.int b=>(if a then 1 else 0) == b
 | .int a,.bl b=>a == (if b then 1 else 0)
 | .int a,.int b=>a == b
 | .str a,.str b=>a == b
 | _,_=>false
theorem zT{A:Around}{s:Shared}{x:V}{u:Value}(f:RelV y u)(d:RelV x v)(E:Yv y=true)(g:Yv x=true):SeqAt.EqAt A s u v (eqV y x):=by
 cases y with
 | non =>
  cases f;cases x with
  | non=>cases d;exact Qf1 _
  | bl b=>cases d;exact SeqAt.EqAt.none_bool b
  | int b=>obtain ⟨t,rfl⟩:=d;exact SeqAt.EqAt.none_int b t
  | str b=>obtain ⟨t,rfl⟩:=d;exact SeqAt.EqAt.none_str b t
  | _=>exact absurd (show false=true from g) Qav
 | bl a =>
  cases f;cases x with
  | non=>cases d;exact SeqAt.EqAt.bool_none a
  | bl b=>cases d;exact SeqAt.EqAt.bool_bool a b
  | int b=>obtain ⟨t,rfl⟩:=d;exact SeqAt.EqAt.bool_int a b t
  | str b=>obtain ⟨t,rfl⟩:=d;exact SeqAt.EqAt.bool_str a b t
  | _=>exact absurd (show false=true from g) Qav
 | int a =>
  obtain ⟨t',rfl⟩:=f;cases x with
  | non=>cases d;exact SeqAt.EqAt.int_none a t'
  | bl b=>cases d;exact SeqAt.EqAt.int_bool a t' b
  | int b=>obtain ⟨t,rfl⟩:=d;exact SeqAt.EqAt.int_int a t' b t
  | str b=>obtain ⟨t,rfl⟩:=d;exact SeqAt.EqAt.int_str a t' b t
  | _=>exact absurd (show false=true from g) Qav
 | str a =>
  obtain ⟨t',rfl⟩:=f;cases x with
  | non=>cases d;exact SeqAt.EqAt.str_none a t'
  | bl b=>cases d;exact SeqAt.EqAt.str_bool a t' b
  | int b=>obtain ⟨t,rfl⟩:=d;exact SeqAt.EqAt.str_int a t' b t
  | str b=>obtain ⟨t,rfl⟩:=d;exact SeqAt.EqAt.str_str a t' b t
  | _=>exact absurd (show false=true from g) Qav
 | _=>exact absurd (show false=true from E) Qav
def eqU(x:V)(u:Value):Bool:=match u with
 | .none=>eqV .non x
 | .bool b=>eqV (.bl b) x
 | .int i _=>eqV (.int i) x
 | .str z _=>eqV (.str z) x
 | _=>false
theorem gK{x:V}{u:Value}(r:RelV y u)(f:Yv y=true):eqU x u=eqV y x:=by
 cases y with
 | non=>cases r;rfl
 | bl b=>cases r;rfl
 | int i=>obtain ⟨t,rfl⟩:=r;rfl
 | str z=>obtain ⟨t,rfl⟩:=r;rfl
 | _=>exact absurd (show false=true from f) Qav
theorem zd{x:V}:∀{xs:List V} {d:List Value},Vals xs d->xs.all Yv=true->d.any (eqU x)=xs.any fun y=>eqV y x
 | _,_,.nil,_=>rfl
 | y::xs,u::d,.cons r t,f=>by
  rw [Qcl,Qa1] at f;rw [Qet,Qet,gK r f.1,zd t f.2]
theorem qp{A:Around}{s:Shared}{x:V}{v:Value}(g:RelV x v)(E:Yv x=true):∀{xs:List V} {d:List Value},Vals xs d->xs.all Yv=true->∀u∈d,SeqAt.EqAt A s u v (eqU x u)
 | _,_,.nil,_=>fun u hu=>by cases hu
 | y::xs,u::d,.cons r t,f=>fun G hu=>by
  rw [Qcl,Qa1] at f;rcases Qas.mp hu with rfl | hu
  ·rw [gK r f.1];exact zT r g f.1 E
  ·exact qp g E t f.2 G hu
def inV(x:V)(xs:List V):Bool:=xs.any fun y=>eqV y x
inductive Zcd(K:PySem.W.Frag)(neg:Bool)(x:V)(y:V)(H:Hp)(Q:VK):Prop
 | mk (p xs:_):(y=.ref p)->((SqL K H p xs\/SqT K H p xs))->(Yv x=true)->(xs.all Yv=true)->(Q (.bl (if neg then !inV x xs else inV x xs)) H)->Zcd K neg x y H Q
def rIn(K:PySem.W.Frag)(neg:Bool):R2:=fun x y H Q=>Zcd K neg x y H Q
theorem YN:OpR X (compareOp .In) (rIn X.K false):=by
 intro pins s σ H x y v u Q I E J h;obtain ⟨p,xs,rfl,f,G,fs,q⟩:=h;cases J;rcases f with f | f
 ·obtain ⟨d,r,g,L⟩:=I.list f
  refine SeqAt.in_listAt (eqU x) g.isList (fun w hw=>qp E G r fs w (by simpa using hw)) ⟨.bl _,H,I,rfl,?_⟩;rw [show d.toArray.any (eqU x)=d.any (eqU x) by simp,zd r fs];exact q
 ·obtain ⟨d,r,g,L⟩:=I.tuple f
  refine SeqAt.in_tupleAt (eqU x) g (fun w hw=>qp E G r fs w (by simpa using hw)) ⟨.bl _,H,I,rfl,?_⟩;rw [show d.toArray.any (eqU x)=d.any (eqU x) by simp,zd r fs];exact q
theorem ZE:Xk X (.builtin "len") (fun xs H Q=>∃p ys,xs=[.ref p]/\(SqL X.K H p ys\/SqT X.K H p ys)/\Q (.int ys.length) H):=by
 intro pins s σ H xs L Q I r h;obtain ⟨p,ys,rfl,f,q⟩:=h;obtain ⟨u,rfl,J⟩:=vals1 r;cases J;have hn:=GQ;rcases f with f | f
 ·obtain ⟨g,E,y,G⟩:=I.list f
  have d:=E.length;exact Calls.call_len_list y.isList (by simp only [Qak] <;> lia) ⟨.int ys.length,H,I.tok _,⟨s.toks + 1,by rw [Qak,d]⟩,q⟩
 ·obtain ⟨g,E,y,G⟩:=I.tuple f
  have d:=E.length;exact len_tuple y (by simp only [Qak] <;> lia) ⟨.int ys.length,H,I.tok _,⟨s.toks + 1,by rw [Qak,d]⟩,q⟩
theorem J0:Xk X (.builtin "len") (fun xs H Q=>∃z,xs=[.str z]/\z.length<=sizeLine/\Q (.int z.length) H):=by
 intro pins s σ H xs f Q I r h;obtain ⟨z,rfl,d,q⟩:=h;obtain ⟨u,rfl,t,rfl⟩:=vals1 r;have hn:=GQ;exact len_str (by lia) ⟨.int z.length,H,I.tok _,⟨_,rfl⟩,q⟩
theorem Xk.or{r g:List V->Hp->VK->Prop}(h:Xk X v r)(h':Xk X v g):Xk X v (fun xs H Q=>r xs H Q\/g xs H Q):=by
 intro pins s σ H xs d Q I f q;rcases q with q | q
 ·exact h pins s σ H xs d Q I f q
 ·exact h' pins s σ H xs d Q I f q
theorem J2:Xk X (.type "list") (fun xs H Q=>∃p ys,xs=[.ref p]/\(SqL X.K H p ys\/SqT X.K H p ys)/\∀l,H l=none->Q (.ref l) (upd H l (.lst ys))):=by
 intro pins s σ H xs S Q I r h;obtain ⟨p,ys,rfl,G,q⟩:=h;obtain ⟨u,rfl,O⟩:=vals1 r;cases O;have fin:∀(d:List Value),Vals ys d->ys.length<=sizeLine->∀(h':Heap) (f:Nat),(∀b o',s.heap.get? b=some o'->h'.get? b=some o') ->
   h'.get? s.heap.objs.size=some { cls:=.type "list",dict:=none,data:=.seq d.toArray f,slots:=#[] }->EP X pins σ Q (.ref s.heap.objs.size) { s with heap:=h' }:=fun d g J h' f E e =>
  ⟨.ref s.heap.objs.size,_,I.laid (t':=s.toks) E (Qao _) (show Yc X.prog X.w _ h' _ (.lst ys) from ⟨J,d,f,g,e⟩),rfl,q _ (I.hok.fresh (Qao _))⟩
 rcases G with G | G
 ·obtain ⟨d,g,L,J⟩:=I.list G
  have y:=g.length;obtain ⟨o,ho,hc,n,hd⟩:=L.isList;exact call_list_seq p (.inl rfl) ho hc hd (fun h' f E e=>fin d g J h' f E e) (by simp only [Qak] <;> lia)
 ·obtain ⟨d,g,L,J⟩:=I.tuple G
  have y:=g.length;obtain ⟨o,ho,hc,n,hd⟩:=L;exact call_list_seq p (.inr rfl) ho hc hd (fun h' f E e=>fin d g J h' f E e) (by simp only [Qak] <;> lia)
theorem qq:Xk X (.type "tuple") (fun xs H Q=>∃p ys,xs=[.ref p]/\((SqL X.K H p ys/\∀l,H l=none->Q (.ref l) (upd H l (.tup ys)))\/(SqT X.K H p ys/\Q (.ref p) H))):=by
 intro pins s σ H xs U Q I r h;obtain ⟨p,ys,rfl,h⟩:=h;obtain ⟨u,rfl,S⟩:=vals1 r;cases S;rcases h with ⟨g,q⟩ | ⟨g,q⟩
 ·obtain ⟨d,y,f,J⟩:=I.list g
  have E:=y.length;refine call_tuple_list f.isList (fun h' O=>?_) (by simp only [Qak] <;> lia);have G:Inv X pins σ H { s with heap:=h' }:=I.kept (t':=s.toks) O;have L:Inv X pins σ (upd H h'.objs.size (.tup ys)) { s with heap:=h'.push { cls:=.type "tuple",data:=.seq d.toArray } } :=
   G.laid (t':=s.toks) (fun b o e=>Qac _ e) (Qao _) (show Yc X.prog X.w _ _ _ (.tup ys) from ⟨J,d,y,jJ.new _ _⟩)
  exact ⟨.ref h'.objs.size,_,L,rfl,q _ (G.hok.fresh (Qao _))⟩
 ·obtain ⟨d,y,f,J⟩:=I.tuple g
  exact call_tuple_same f ⟨.ref p,H,I,rfl,q⟩
def tyV(K:PySem.W.Frag)(T:String)(x:V)(H:Hp):Prop:=match x with
 | .str _=>T = "str"
 | .int _=>T = "int"
 | .ref p=>(T = "list" /\ ∃xs,SqL K H p xs)\/(T = "tuple" /\ ∃o,K.lookup p=some o/\o.cls=.type "tuple" /\ o.dict=none) \/
   (T = "dict" /\ ((∃kvs,H p=some (.dK kvs))\/∃kvs,H p=some (.dT kvs)))\/(T = "set" /\ ∃S n,H p=some (.set S n))
 | _=>False
theorem gL{σ:St}{s:Shared}{T:String}{x:V}(I:Inv X E σ H s)(r:RelV x v)(ty:tyV X.K T x H) :
  s.TypeIs v T/\∀a,v=.ref a->∃ob,s.heap.get? a=some ob/\ob.dict=none:=by
 cases x with
 | str z =>
  obtain ⟨t,rfl⟩:=r;cases (show T = "str" from ty);exact ⟨typeIs_str s z t,fun _ e=>nomatch e⟩
 | int i =>
  obtain ⟨t,rfl⟩:=r;cases (show T = "int" from ty);exact ⟨typeIs_int s i t,fun _ e=>nomatch e⟩
 | ref p =>
  cases r;rcases ty with ⟨rfl,xs,g⟩ | ⟨rfl,o,hk,hc,hd⟩ | ⟨rfl,hk⟩ | ⟨rfl,S,n,hk⟩
  ·obtain ⟨f,_,d,_⟩:=I.list g
   refine ⟨d.isList.typeIs,fun a e=>?_⟩;cases e;obtain ⟨o,n,e,c,hd,_⟩:=d;exact ⟨o,e,hd⟩
  ·refine ⟨⟨o,I.kIn p o hk,hc⟩,fun a e=>?_⟩
   cases e;exact ⟨o,I.kIn _ o hk,hd⟩
  ·have z:∃o,s.heap.get? p=some o/\o.ExactDict:=by
    rcases hk with ⟨kvs,hk⟩ | ⟨kvs,hk⟩
    ·obtain ⟨_,_,_,_,o,_,_,e,ex,_⟩:=I.hok p _ hk
     exact ⟨o,e,ex⟩
    ·obtain ⟨_,_,_,_,o,_,_,e,ex,_⟩:=I.hok p _ hk
     exact ⟨o,e,ex⟩
   obtain ⟨o,e,ex⟩:=z;refine ⟨⟨o,e,ex.1⟩,fun a e2=>?_⟩;cases e2;exact ⟨o,e,ex.2.1⟩
  ·obtain ⟨o,_,_,_,e,ex,_⟩:=I.hok p _ hk
   refine ⟨⟨o,e,ex.1⟩,fun a e2=>?_⟩;cases e2;exact ⟨o,e,ex.2.1⟩
 | _=>exact False.elim ty
inductive gM(K:PySem.W.Frag)(T:String)(r:V->List V->Hp->VK->Prop)(Q:VK)(x:V)(H1:Hp):Prop
 | mk  : (tyV K T x H1)->(r x [] H1 Q)->gM K T r Q x H1
def tBM0(K:PySem.W.Frag)(T:String)(r:V->List V->Hp->VK->Prop)(to:TE):TE:=fun σ H Q=>to σ H fun x H1=>gM K T r Q x H1
inductive Zce(K:PySem.W.Frag)(T:String)(r:V->List V->Hp->VK->Prop)(t:TA)(σ:St)(Q:VK)(x:V)(H1:Hp):Prop
 | mk  : (tyV K T x H1)->(t σ H1 fun xs H2=>r x xs H2 Q)->Zce K T r t σ Q x H1
def tBM(K:PySem.W.Frag)(T:String)(r:V->List V->Hp->VK->Prop)(to:TE)(t:TA):TE:=fun σ H Q=>to σ H fun x H1=>Zce K T r t σ Q x H1
variable {o e:Expr}{es:List Expr}{to:TE}{t:TA}{name:Str}{apos cpos:Pos}{T id:String}{r:V->List V->Hp->VK->Prop}
theorem pe_bm0 (pa:PlainAttrs T) (slot:Slot T name id) (hty:typeOf (.builtin id)=pure (.type "method_descriptor")) (hm:MtR X id r) (ho:PE X o to)
  (hbase:attributeBase o name X.env (eval o X.env)=eval o X.env:=by rfl) (hline:(apos.endLine == cpos.line)=true:=by rfl):PE X (.Call (.Attribute o name apos) [] [] cpos) (tBM0 X.K T r to):=by
 intro pins s σ H Q I h;refine wpAny_Call_method0_late hbase hline (thn (ho pins s σ H _ I h) fun v g ⟨x,H1,d,f,ty,y⟩=>?_);obtain ⟨h1,h2⟩:=gL d f ty;exact ⟨T,id,pa,slot,hty,h1,h2,Qeb rfl (PySem.evalArgs_none (hm pins g σ H1 x [] v [] Q d f .nil y))⟩
theorem pe_bm (pa:PlainAttrs T) (slot:Slot T name id) (hty:typeOf (.builtin id)=pure (.type "method_descriptor")) (hm:MtR X id r) (ho:PE X o to) (ha:PA X (e::es) t)
  (hbase:attributeBase o name X.env (eval o X.env)=eval o X.env:=by rfl)
  (f:((backTo cpos (starEach (e::es) X.env)).all (fun x=>!x.1) && (backToKw cpos (keywordEach [] X.env)).all (fun x=>x.1.isSome)
   && decide ((e::es).length + ([]:List Keyword).length + (if ([]:List Keyword).isEmpty then 0 else 1) < 30))=true:=by rfl)
  (hline:(apos.endLine == cpos.line)=true:=by rfl) (hs:starEach (e::es) X.env=(false,eval e X.env)::starEach es X.env:=by rfl) (d:(backTo cpos (starEach es X.env)).any (·.1)=false:=by rfl) :
  PE X (.Call (.Attribute o name apos) (e::es) [] cpos) (tBM X.K T r to t):=by
 intro pins s σ H Q I h;refine wpAny_Call_method_late hbase f hline rfl (thn (ho pins s σ H _ I h) fun v O ⟨x,H1,g,E,ty,S⟩=>?_);obtain ⟨h1,h2⟩:=gL g E ty;refine ⟨T,id,pa,slot,hty,h1,h2,?_⟩;have y:=ha cpos pins O σ H1 _ g S;rw [hs] at y ⊢;refine Qeb (by show (false || (backTo cpos (starEach es X.env)).any (·.1))=false;rw [d] <;> rfl) (Qep ?_);exact thn y fun J W ⟨G,H2,L,Y,U⟩=>hm pins W σ H2 x G v J Q L E Y U
end
end L2
namespace L2
open PySem PySem.Spec PyProof.Rows
def MtM(X:Cx)(id:String)(r:V->List V->Hp->VK->Prop):Prop :=
 ∀(pins:List (Addr × Obj)) (s:Shared) (σ:St) (H:Hp) (x:V) (xs:List V) (v:Value) (d:List Value) (Q:VK),Inv X pins σ H s->RelV x v->Vals xs d->r x xs H Q ->
  wpAny (model X.prog X.w) X.A (call (.builtin id) (v::d)) (EP X pins σ Q) X.xe s
theorem Vals.one:∀{x:V} {d:List Value},Vals [x] d->∃u,d=[u]/\RelV x u
 | _,_,.cons r .nil=>⟨_,rfl,r⟩
theorem Vals.two:∀{x y:V} {d:List Value},Vals [x,y] d->∃u v,d=[u,v]/\RelV x u/\RelV y v
 | _,_,_,.cons r (.cons q .nil)=>⟨_,_,rfl,r,q⟩
theorem Vals.zero:∀{d:List Value},Vals [] d->d=[]
 | _,.nil=>rfl
theorem Vals.dropLast{xs:List V}{d:List Value}(h:Vals xs d):Vals xs.dropLast d.dropLast:=by
 induction h with
 | nil=>exact .nil
 | cons r t f =>
  cases t with
  | nil=>exact .nil
  | cons q t'=>exact .cons r f
theorem Vals.eraseIdx:∀{xs:List V} {d:List Value} (i:Nat),Vals xs d->Vals (xs.eraseIdx i) (d.eraseIdx i)
 | _,_,_,.nil=>.nil
 | _,_,0,.cons _ t=>t
 | _,_,i + 1,.cons r t=>.cons r (Vals.eraseIdx i t)
theorem Vals.reverse{xs:List V}{d:List Value}(h:Vals xs d):Vals xs.reverse d.reverse:=by
 induction h with
 | nil=>exact .nil
 | cons r t f=>rw [Qds,Qds];exact Vals.append f (.cons r .nil)
theorem jR(l:List D):l.eraseIdx (l.length - 1)=l.dropLast:=by
 induction l with
 | nil=>rfl
 | cons a r d =>
  cases r with
  | nil=>rfl
  | cons b r =>
   have e:(a::b::r).length - 1=((b::r).length - 1) + 1:=by
    have h1:(a::b::r).length=r.length + 2:=rfl;have h2:(b::r).length=r.length + 1:=rfl;lia
   rw [e,List.eraseIdx_cons_succ,d]
   all_goals rfl
theorem xl{α:Type}:∀(l:List α) (i:Nat),(l.eraseIdx i).length<=l.length
 | [],_=>Qao _
 | _::_,0=>Qey _
 | _::r,i + 1=>Qfs (xl r i)
section
variable {X:Cx}{pins:List (Addr × Obj)}{σ:St}{H:Hp}{s:Shared}{l b:Addr}{xs ys zs:List V}
theorem Inv.lset{its':List Value}{f:Array Value->Array Value}{t':Nat}(I:Inv X pins σ H s)(g:H l=some (.lst xs))
  (e:s.heap.get? l=some { cls:=.type "list",data:=.seq r.toArray n }) (hf:f r.toArray=its'.toArray) (hv:Vals ys its') (d:ys.length<=sizeLine) :
  Inv X pins σ (upd H l (.lst ys)) { s with heap:=s.heap.update l (Obj.mapSeq f),toks:=t' }:=by
 have q:=PySem.IsL.update e f;rw [hf] at q;refine I.write (x:=l) (e:=l) (by rw [g];exact trivial) (.inl rfl) (fun y u hb hu=>(Qby s.heap (Obj.mapSeq f) (Qcd hb)).trans hu) ⟨_,q⟩ ?_;exact ⟨d,its',_,hv,q⟩
theorem Inv.lnew{t':Nat}(I:Inv X pins σ H s)(hv:Vals ys r)(d:ys.length<=sizeLine) :
  Inv X pins σ (upd H s.heap.objs.size (.lst ys)) { s with heap:=s.heap.push { cls:=.type "list",data:=.seq r.toArray },toks:=t' } :=
 I.laid (fun _ _ q=>Qac _ q) (Qao _) ⟨d,r,0,hv,Qau _ rfl⟩
theorem Inv.fresh(I:Inv X pins σ H s):H s.heap.objs.size=none:=I.hok.fresh (Qao _)
theorem Inv.lstM (I:Inv X pins σ H s) (f:H l=some (.lst xs)):xs.length<=sizeLine/\∃(d:List Value) (n:Nat),Vals xs d/\xs.length=d.length/\s.heap.get? l=some { cls:=.type "list",data:=.seq d.toArray n }:=by
 obtain ⟨z,d,n,r,e⟩:=I.hok l _ f;exact ⟨z,d,n,r,r.length,e⟩
theorem kS(h:n<=sizeLine):Builtin.List.listTooLong n=false:=by
 unfold Builtin.List.listTooLong;exact Qal (by lia)
end
section
variable {X:Cx}
inductive xm(x:V)(vs:List V)(H:Hp)(Q:VK):Prop
 | mk (l xs y:_):(x=.ref l)->(vs=[y])->(H l=some (.lst xs))->(xs.length < sizeLine)->(Q .non (upd H l (.lst (xs++[y]))))->xm x vs H Q
def uX  : V->List V->Hp->VK->Prop:=fun x d H Q=>xm x d H Q
theorem Xl:MtM X "list.append" uX:=by
 intro pins s σ H x J v L Q I E g h;obtain ⟨l,xs,y,rfl,rfl,f,O,q⟩:=h;cases E;obtain ⟨u,rfl,G⟩:=g.one;obtain ⟨z,d,n,r,hl,e⟩:=I.lstM f;refine Qee F.slot_list_append ⟨_,e,rfl⟩ F.entry_list_append (F.args_list_append_2 _ _) (PySem.list_append l d.toArray n u (by rw [Qak];lia)) ⟨e,?_⟩;refine ⟨.non,_,I.lset (its':=d++[u]) f e (by simp) (r.append (.cons G .nil)) ?_,rfl,q⟩;rw [Qab,List.length_singleton];lia
inductive xn(x:V)(vs:List V)(H:Hp)(Q:VK):Prop
 | mk (l b xs zs:_):(x=.ref l)->(vs=[.ref b])->(H l=some (.lst xs))->(H b=some (.lst zs))->(xs.length + zs.length<=sizeLine)->(Q .non (upd H l (.lst (xs++zs))))->xn x vs H Q
def uY  : V->List V->Hp->VK->Prop:=fun x d H Q=>xn x d H Q
theorem yX:MtM X "list.extend" uY:=by
 intro pins s σ H x W v Z Q I O J h;obtain ⟨l,b,xs,zs,rfl,rfl,y,S,hz,q⟩:=h;cases O;obtain ⟨u,rfl,L⟩:=J.one;cases L;obtain ⟨z,f,n,r,hl,e⟩:=I.lstM y;obtain ⟨Y,d,E,G,U,e2⟩:=I.lstM S;have hsz:f.toArray.size + d.toArray.size<=sizeLine:=by rw [Qak,Qak];lia
 have g:¬(!f.toArray.isEmpty && Builtin.List.listTooLong (f.toArray.size + d.toArray.size))=true:=by
  rw [kS hsz,Qe9];exact Qav
 refine Qee F.slot_list_extend ⟨_,e,rfl⟩ F.entry_list_extend (F.args_list_extend_2 _ _)
  (AutoSeq1.list_extend_list_list_0 l f.toArray n b d.toArray E g (by rw [Qak];lia) (by lia)) ⟨e,e2,?_⟩
 refine ⟨.non,_,I.lset (its':=f++d) y e (by simp) (r.append G) ?_,rfl,q⟩;rw [Qab];lia
inductive gN(x:V)(vs:List V)(H:Hp)(Q:VK):Prop
 | mk (l xs y:_):(x=.ref l)->(vs=[])->(H l=some (.lst xs))->(xs[xs.length - 1]?=some y)->(Q y (upd H l (.lst xs.dropLast)))->gN x vs H Q
def rPop  : V->List V->Hp->VK->Prop:=fun x d H Q=>gN x d H Q
theorem mt_pop:MtM X "list.pop" rPop:=by
 intro pins s σ H x S v U Q I L J h;obtain ⟨l,xs,y,rfl,rfl,E,O,q⟩:=h;cases L;have g:=J.zero;subst g;obtain ⟨z,d,n,r,hl,e⟩:=I.lstM E;obtain ⟨u,hu,G⟩:=r.get O;have f:d.toArray[d.toArray.size - 1]?=some u:=by
  show d.toArray[d.length - 1]?=some u;rw [<-Qei,<-hl];exact hu
 refine Qee F.slot_list_pop ⟨_,e,rfl⟩ F.entry_list_pop (F.args_list_pop_1 _) (MeetsSeq.list_pop_last l d.toArray n u f (by rw [Qak];lia)) ⟨e,?_⟩;refine ⟨y,_,I.lset (its':=d.dropLast) E e ?_ r.dropLast ?_,G,q⟩
 ·show d.toArray.eraseIdxIfInBounds (d.toArray.size - 1)=d.dropLast.toArray
  rw [Qak,Qef,jR]
 ·rw [List.length_dropLast]
  lia
inductive zU(x:V)(vs:List V)(H:Hp)(Q:VK):Prop
 | mk (l xs i k y:_):(x=.ref l)->(vs=[.int i])->(H l=some (.lst xs))->(-(2 ^ 63)<=i)->(i < 2 ^ 63)->(seqIndex? i xs.length=some k)->(xs[k]?=some y)->(Q y (upd H l (.lst (xs.eraseIdx k))))->zU x vs H Q
def rPopAt  : V->List V->Hp->VK->Prop:=fun x d H Q=>zU x d H Q
theorem kT:MtM X "list.pop" rPopAt:=by
 intro pins s σ H x O v S Q I G E h;obtain ⟨l,xs,i,k,y,rfl,rfl,g,h1,h2,hk,L,q⟩:=h;cases G;obtain ⟨u,rfl,J⟩:=E.one;obtain ⟨t,rfl⟩:=J;obtain ⟨z,d,n,r,hl,e⟩:=I.lstM g;obtain ⟨w,hw,f⟩:=r.get L;refine Qee F.slot_list_pop ⟨_,e,rfl⟩ F.entry_list_pop (F.args_list_pop_2 _ _)
  (MeetsSeq.list_pop_at l d.toArray n i t k w (fitsIndex_both h1 h2) (by rw [Qak,<-hl];exact hk) (by rw [<-Qei];exact hw) (by rw [Qak];lia)) ⟨e,?_⟩
 refine ⟨y,_,I.lset (its':=d.eraseIdx k) g e ?_ (r.eraseIdx k) ?_,f,q⟩
 ·show d.toArray.eraseIdxIfInBounds k=(d.eraseIdx k).toArray
  rw [Qef]
 ·have:=xl xs k
  lia
inductive gO(x:V)(y:V)(H:Hp)(Q:VK):Prop
 | mk (l b xs zs:_):(x=.ref l)->(y=.ref b)->(H l=some (.lst xs))->(H b=some (.lst zs))->(xs.length + zs.length<=sizeLine)->(∀p,H p=none->Q (.ref p) (upd H p (.lst (xs++zs))))->gO x y H Q
def rCat  : R2:=fun x y H Q=>gO x y H Q
theorem op_cat:OpR X (binaryOp .Add) rCat:=by
 intro pins s σ H x y v u Q I O g h;obtain ⟨l,b,xs,zs,rfl,rfl,E,G,W,q⟩:=h;cases O;cases g;obtain ⟨z,f,n,r,hl,e⟩:=I.lstM E;obtain ⟨U,d,Y,J,S,e2⟩:=I.lstM G;refine PySem.P.add_list e e2 ?_ (by rw [Qak,Qak];lia);have L:f.toArray++d.toArray=(f++d).toArray:=by simp
 rw [L];exact ⟨.ref _,_,I.lnew (t':=s.toks) (r.append J) (by rw [Qab];lia),rfl,q _ I.fresh⟩
inductive rRep_i(x:V)(y:V)(H:Hp)(Q:VK):Prop
 | mk (l k xs:_):(x=.ref l)->(y=.int k)->(H l=some (.lst xs))->(-(2 ^ 63)<=k)->(k < 2 ^ 63)->(xs.length * k.toNat<=sizeLine)->(∀p,H p=none->Q (.ref p) (upd H p (.lst (List.replicate k.toNat xs).flatten)))->rRep_i x y H Q
end
section
variable {prog:Program}{w:World}{A:Around}{E:Value->Shared->Prop}{s:Shared}
end
section
variable {X:Cx}
end
end L2
namespace Att
open PySem PySem.W PySem.Calls PyProof.Rows
theorem JY{P:Params}:∀(d:List Int) (f:List Value),WellAll P h f (d.map WData.int)->IntsAre f d:=by
 intro d
 induction d with
 | nil =>
  intro f w;rw [List.map_nil] at w;cases w;exact .nil
 | cons n d g =>
  intro f w;rw [Qa3] at w;cases w with
  | cons a b =>
   cases a;exact .cons _ _ (g _ b)
theorem yY{l:OpenLaw}(hn:l.most=some n){P:Params}{args:List WData}{y:List Value}
  (g:l.row.toRowW.claim.pre args=true) (L:WellAll P h y args) :
  ∃a S f,y=[Value.ref a]/\args=[WData.list (f.map WData.int)]/\h.get? a=some { cls:=.type "list",data:=.seq S.toArray }/\IntsAre S f/\f.length<=n:=by
 have O:WShape.hasAll [] args [.list .int]=true:=(pre_splitW g).1;have hc:l.pre.holds [] { args:=args }=true:=(pre_splitW g).2;obtain ⟨d,r,rfl,h1,h2⟩:=hasAllW_cons O;obtain rfl:=hasAllW_nil h2;obtain ⟨xs,rfl,Y⟩:=hasW_list h1;obtain ⟨f,rfl⟩:=items_int Y;have E:f.length<=n:=by
  unfold OpenLaw.pre at hc;have J:(WTm.not (.lt (.lit (.int (n:Int))) (.len (.arg 0)))).holds [] { args:=[.list (f.map .int)] }=true:=by
   have J:=(holds_andW hc).1;rw [hn] at J;exact J
  have I:=condW_of J (w_not (w_lt w_lit (w_len_list (w_arg rfl))));rw [Qaz] at I;refine Nat.le_of_not_lt fun q=>?_;have q':(n:Int) < ((f.length:Nat):Int):=by lia
  first
   | (rw [Qad q'] at I;exact absurd I (by decide))
   | (simp at I;lia)
 cases L with
 | cons U W =>
  cases W;cases U with
  | list ho G=>exact ⟨_,_,f,rfl,rfl,ho,JY f _ G,E⟩
theorem yZ(l:OpenLaw)(args:List WData):l.row.toRowW.claim.post args (.bool true) args=true :=
 postW_of (r:=l.row.toRowW) (X:=(true == true))
  (show WShape.has [] (.bool true) .bool=true by first | rfl | decide | simp [WShape.has,WShape.arms,WShape.armsAll])
  (show (WTm.eq .res (.lit (.bool true))).value [] { args:=args,res:=some (.bool true),after:=args }=some (.bool (true == true)) from w_eq_bool (w_res rfl) w_lit) rfl
theorem attach_call{l:OpenLaw}{q:Program}{XP:(Str->Option Value)->Heap->Prop}{YP:World->Heap->Prop}{d:DefRec}
  (hn:l.most=some n) (hdf:d.params.defaults=[])
  (call:∀(w:World) (s₀ g:Shared) (mg mb:Str->Option Value) (O:Addr) (o:Obj) (pm U E:Value) (a:Addr) (I:List Value) (W:List Int),
   Ground q N [] XP w s₀ mg mb g.heap->YP w g.heap ->
   g.heap.get? O=some o->o.data=.func (docDef d.name d.params d.body d.scope pm U E)->g.heap.CodeRec U d.name->mg d.name=some (.ref O) ->
   g.heap.get? a=some { cls:=.type "list",data:=.seq I.toArray }->IntsAre I W->W.length<=n->g.gens=#[] ->
   codeAny (model l.prog w) callerA (.call (.ref O) ⟨[.ref a],[]⟩) (fun r s'=>r=.ok (.ret (.bool true))/\OldK g.heap s'.heap/\s'.os=g.os/\AllBare s'.gens) g) :
  WalkO q N XP YP l.row.toRowW d [] (fun f I=>PySem.call f I):=by
 intro w s₀ g mg mb G Y O o pm U E dV kV ho hd hcd hD Z hg args vals as S hlay hrd hwl hlo;obtain rfl:dV=.none:=Dflts.none hD hdf;obtain rfl:kV=.none:=Dflts.noKw hD;obtain ⟨a,I,W,rfl,rfl,L,y,J⟩:=yY hn S hwl;refine enter_call (Qfy (call w s₀ g mg mb O o pm U E a I W G Y ho (fd_plain hd) hcd Z L y J hg) fun r s' hq=>?_);obtain ⟨rfl,h2,h3,h4⟩:=hq;exact ⟨.inl ⟨.bool true,.bool true,[],rfl,fun _=>rfl,.bool true,yZ l _,fun _=>⟨List.Pairwise.nil,fun _ hm=>(nomatch hm)⟩⟩,h2,h3,h4⟩
section
variable {prog:Program}{w:World}{A:Around}{E:Value->Shared->Prop}{s:Shared}{K:Frag}
end
end Att
namespace L2
open PySem PySem.Spec PyProof.Rows
theorem xo:∀{d:List Value} {f:List Int},IntsAre d f->Vals (f.map V.int) d
 | _,_,.nil=>.nil
 | _,_,.cons n t h=>.cons ⟨t,rfl⟩ (xo h)
def Only(H:Hp):Prop:=∀b,H b=none\/∃o xs,H b=some (.frz o (.lst xs))
theorem kU{mg:Str->Option Value}{CX:CXT}{k:Nat}{fd:FuncData}{sp:Sp}{G:List Value}
  (KX:K.In f.heap) (U:f.heap.Ns mainGlobals mg) (hb:f.heap.Ns builtinsNs T) (hbb:∀x:Str,x ≠ "__name__" -> T x=bootBuiltins x) (J:f.heap.NoLimit) (hg:f.gens=#[])
  (ha:f.heap.get? a=some { cls:=.type "list",data:=.seq G.toArray }) (hi:IntsAre G A) (hl:A.length<=sizeLine) (hr:WJ k callerA)
  (F:∀base:Heap,K.In base->base.Ns mainGlobals mg->Z5 P w K mg base CX k C fd [x] sp) (I:∀(s:Shared) (u:Value),BindsTo s fd ⟨[u],[]⟩ [(x,u)])
  (hsp:∀H:Hp,Only H->SqL K H a (A.map V.int)->sp [.ref a] H (fun v _=>v=.bl true) fun _ _ _=>False)
  (hCX:∀H e s',CX [] H f (fun _ _ _=>False) e s'->False) :
  codeAny (model P w) callerA (.call (.ref C) ⟨[.ref a],[]⟩) (fun r s'=>r=.ok (.ret (.bool true))/\OldK f.heap s'.heap/\s'.os=f.os/\AllBare s'.gens) f:=by
 have rv:=xo hi;have O:=hi.length;have E:∀H:Hp,Only H->SqL K H a (A.map V.int)->HOk P w H f.heap->(∀b,H b≠none->b=a)->(H a≠none->K.lookup a=none) ->
   codeAny (model P w) callerA (.call (.ref C) ⟨[.ref a],[]⟩) (fun r s'=>r=.ok (.ret (.bool true))/\OldK f.heap s'.heap/\s'.os=f.os/\AllBare s'.gens) f:=by
  intro H hO hS S hA hK;have g:∀{b:Addr} {o:Obj},f.heap.get? b=some o->H b=none->(kJ f.heap H).get? b=some o:=fun e n=>kK e n;have noA:∀{b:Addr} {o:Obj} {es:Array DictEntry} {ep:Nat},f.heap.get? b=some o->o.data=.dict es ep->H b=none:=fun {b o es ep} e d=>by
   cases q:H b with
   | none=>rfl
   | some u =>
    have e':b=a:=hA b (by rw [q];simp);subst e';rw [ha] at e;cases e;have d':Data.seq G.toArray _=Data.dict es ep:=d;cases d'
  have y:∀{b:Addr} {m:Str->Option Value},f.heap.Ns b m->(kJ f.heap H).Ns b m:=fun {b m} ⟨o,es,ep,e,d,r⟩=>⟨o,es,ep,g e (noA e d),d,r⟩;have W:K.In (kJ f.heap H):=fun b o e=>g (KX b o e) (by
   cases q:H b with
   | none=>rfl
   | some u =>
    have e':b=a:=hA b (by rw [q];simp);subst e';rw [hK (by rw [q];simp)] at e;cases e)
  have hM:Mod K mg (kJ f.heap H):=⟨W,y U,⟨T,y hb,hbb⟩,let ⟨mc,h1,h2⟩:=J;⟨mc,y h1,h2⟩⟩;have e0:gE P w K mg (kJ f.heap H) callerA [] f H:=⟨rfl,hM,fun b o e=>ux e,Qd1 (yz _ _),trivial,fun b hb=>absurd (show b∈([]:List Addr) from hb) (by simp),S,.of_eq hg⟩;refine Qfy ((F _ W (y U)).run callerA [] f H ⟨[.ref a],[]⟩ [.ref a] [.ref a] _ _ hr e0 (I f (.ref a)) (.cons rfl .nil) (hsp H hO hS)) fun r s' h=>?_;cases r with
  | error e=>exact (hCX H e s' h).elim
  | ok fl =>
   cases fl with
   | next=>exact False.elim h
   | brk=>exact False.elim h
   | cont=>exact False.elim h
   | ret u =>
    obtain ⟨v,H',os,Y,un,Z,r',q⟩:=h;have q':v=.bl true:=q;subst q';obtain rfl:u=Value.bool true:=r';refine ⟨rfl,OldK.of_keep fun b o e=>?_,os,Y⟩;cases q:H b with
    | none=>exact un.keep b o e q (by intro z;exact absurd (show b∈([]:List Addr) from z) (by simp)) (by simp)
    | some u =>
     rcases hO b with z | ⟨ob,xs,z⟩
     ·rw [q] at z;cases z
     ·have z2:=un.frzs b ob _ z
      obtain ⟨e1,_⟩:=S b _ z;obtain ⟨e2,_⟩:=Z b _ z2;rw [e] at e1;cases e1;exact e2
 cases hk:K.lookup a with
 | some o =>
  have e:=KX a o hk;rw [ha] at e;cases e;refine E (fun _=>none) (fun _=>.inl rfl) (.inr ⟨_,G.toArray,_,hk,rfl,rfl,rfl,by rw [Qak,O];exact hl,by simpa using rv⟩) (fun b u z=>by have L:(none:Option HO)=some u:=z;cases L) (fun b z=>absurd rfl z) fun z=>absurd rfl z
 | none =>
  refine E (fun b=>if b=a then some (.frz { cls:=.type "list",data:=.seq G.toArray } (.lst (A.map V.int))) else none) (fun b=>?_) (.inl (.inr ⟨{ cls:=.type "list",data:=.seq G.toArray },Qa4 rfl⟩)) (fun b u z=>?_) (fun b z=>?_) fun _=>hk
  ·by_cases hb:b=a
   ·exact .inr ⟨_,_,Qa4 hb⟩
   ·exact .inl (Qa5 hb)
  ·by_cases hb:b=a
   ·have L:=(Qa4 hb).symm.trans z
    cases L;subst hb;exact ⟨ha,by rw [Qaz];exact hl,G,_,rv,ha⟩
   ·have L:=(Qa5 hb).symm.trans z
    cases L
  ·by_cases hb:b=a
   ·exact hb
   ·exact absurd (Qa5 hb) z
theorem walk_of{l:PySem.W.OpenLaw}{k:Nat}{q:Program}{XP:(Str->Option Value)->Heap->Prop}{YP:World->Heap->Prop}{d:DefRec}{K:Params->PySem.W.Frag}{CX:World->CXT}{sp:World->Sp}
  (hn:l.most=some n) (hn2:n<=sizeLine) (U:d.params.defaults=[]) (hr:WJ k callerA)
  (hY:∀(w:World) (h:Heap),YP w h->(K w.params).In h)
  (F:∀(w:World) (mg:Str->Option Value) (L:Addr) (h:Heap),(K w.params).In h->h.Ns mainGlobals mg->mg d.name=some (.ref L) ->
   ∃fd:FuncData,(∀(s:Shared) (u:Value),BindsTo s fd ⟨[u],[]⟩ [(x,u)]) /\
    ∀base:Heap,(K w.params).In base->base.Ns mainGlobals mg->Z5 l.prog w (K w.params) mg base (CX w) k L fd [x] (sp w))
  (hsp:∀(w:World) (H:Hp) (a:Addr) (O:List Int),O.length<=n->Only H->SqL (K w.params) H a (O.map V.int)->sp w [.ref a] H (fun v _=>v=.bl true) fun _ _ _=>False)
  (Z:∀(w:World) (H:Hp) (s:Shared) (e:Value) (s':Shared),CX w [] H s (fun _ _ _=>False) e s'->False) :
  PySem.W.WalkO q N XP YP l.row.toRowW d [] (fun f vs=>PySem.call f vs):=by
 refine Att.attach_call hn U fun w s₀ I mg mb L o pm cd doc a vs O G Y ho hd hcd S J E y hg=>?_;have KX:=hY w _ Y;obtain ⟨fd,hb,hF⟩:=F w mg L _ KX G.T.g S;exact kU KX G.T.g G.T.b G.T.builtins G.T.nolimit hg J E (Qa0 y hn2) hr hF hb (fun H hO hS=>hsp w H a O y hO hS) fun H e s'=>Z w H I e s'
def W4(s:Stmt):Arguments:=match s with
 | .FunctionDef _ a _ _ _ _ _ _ _ _=>a
 | _=>{ posonlyargs:=[],args:=[],vararg:=none,kwonlyargs:=[],kw_defaults:=[],kwarg:=none,defaults:=[] }
def Xw(s:Stmt):List Stmt:=match s with
 | .FunctionDef _ _ b _ _ _ _ _ _ _=>b
 | _=>[]
def Zm(s:Stmt):Scope:=match s with
 | .FunctionDef _ _ _ _ _ _ d _ _ _=>d
 | _=>{ kind:=.function,names:=[],isGenerator:=false,isCoroutine:=false }
abbrev CX0:CXT:=fun _ _ _ _ _ _=>False
abbrev E0:XK:=fun _ _ _=>False
theorem Z1{X:Cx}:Passes CX0 X E0:=fun _ _ _ _ _ _ _ h=>h.elim
structure Fun(K:PySem.W.Frag)(x qual:Str)(st:Stmt)(f:Addr)(fd:FuncData):Prop where
 ex:∃(oc:Value) (od:Option Addr) (kV doc pm:Value) (an:Option Addr) (cdv ct:Value) (osl:Array (Option Value)),
  fd=PySem.W.fnOf x qual (W4 st) (Xw st) (Zm st) .none kV doc pm an cdv ct/\K.lookup f=some ⟨oc,od,.func fd,osl⟩/\PySem.W.codeIn K cdv qual=true
 kp:PySem.W.keepIn K (.ref f)=true
section
variable {P:Program}{w:World}{K:PySem.W.Frag}{mg:Str->Option Value}{base:Heap}
theorem Fun.ok{qual:Str}{st:Stmt}{fd:FuncData}{ps:List Str}{k:Nat}{sp:Sp}(F:Fun K x qual st a fd)(S:Zz N ps (Zm st))(len:∀f H Q E,sp f H Q E->f.length=ps.length)
  (g:∀(d:Value) (A:Around) (outer:List Env) (s:Shared) (H:Hp) (f:List V) (Q:VK) (E:XK),WJ k (A.deeper (envOfC qual (Zm st) s.heap.objs.size a d))->sp f H Q E ->
   ∃t,PSs (yO CX0 P w K mg base N qual (Zm st) a d A outer s H E).nox (Xw st) t/\t { nx:=fun _ H'=>Q .non H',rt:=Q } (start N f) H):Z5 P w K mg base CX0 (k + 1) a fd ps sp:=by
 obtain ⟨oc,od,kV,J,L,O,d,ct,G,rfl,I,hcd⟩:=F.ex;refine Zcb I hcd S len fun A outer s H f Q E hr y=>?_;obtain ⟨t,h,q⟩:=g d A outer s H f Q E hr y;exact ⟨t,h.nox,q⟩
theorem Fun.binds{qual:Str}{st:Stmt}{fd:FuncData}{ps:List Str}(F:Fun K x qual st a fd)
  (h:∀(kV f y:Value) (E:Option Addr) (d ct:Value) (g:List Value),g.length=ps.length->bindArgs (PySem.W.fnOf x qual (W4 st) (Xw st) (Zm st) .none kV f y E d ct) ⟨g,[]⟩=pure (ps.zip g)):Binds K fd ps []:=by
 obtain ⟨oc,od,kV,f,y,E,d,ct,G,rfl,I,hcd⟩:=F.ex;exact .all (h kV f y E d ct)
theorem gP{qual:Str}{st:Stmt}{od E:Option Addr}{g:Array (Option Value)}{f y d ct:Value}(l:K.lookup a=some ⟨v,od,.func (PySem.W.fnOf x qual (W4 st) (Xw st) (Zm st) .none M f y E d ct),g⟩)
  (c:PySem.W.codeIn K d qual=true) (k:PySem.W.keepIn K (.ref a)=true):Fun K x qual st a (PySem.W.fnOf x qual (W4 st) (Xw st) (Zm st) .none M f y E d ct):=⟨⟨v,od,M,f,y,E,d,ct,g,rfl,l,c⟩,k⟩
end
theorem Yd{A:Around}{k:Nat}(hr:WJ k A):A.units + 1 < cLine:=Qd5 (Nat.add_le_add_left (by decide:1<=64) _) hr.units
theorem Zv(h:n<=1000):n < sizeLine:=Qd5 h (by decide)
section
variable {X:Cx}
theorem pv (i:Nat)  {pos:Pos} (hN:X.N[i]?=some x:=by rfl) (hv:Vis X.env.scope x:=by first | exact Or.inl rfl | exact Or.inr (Or.inl rfl) | exact Or.inr (Or.inr rfl)) (hd:(x == ("__debug__" : Str))=false:=by decide)
  (hcd:(x == ("__classdict__" : Str))=false:=by decide):PE X (.Name x pos) (zQ i):=pe_var hN hv hd hcd
end
theorem Yt{A B:Prop}(h:B):if false=true then A else B:=by
 rw [Qa5 Qav];exact h
theorem Yq{A B:Prop}(h:A):if true=true then A else B:=by
 rw [Qa4 rfl];exact h
theorem Yw{c A B:Prop}[Decidable c](h1:c->A)(h2:¬c->B):if c then A else B:=by
 by_cases h:c
 ·rw [Qa4 h]
  exact h1 h
 ·rw [Qa5 h]
  exact h2 h
def Z0(H H':Hp):Prop:=∀b o,H b=some o->H' b=some o
theorem Z0.refl(H:Hp):Z0 H H:=fun _ _ h=>h
theorem Z0.trans{H2:Hp}(a:Z0 H S)(b:Z0 S H2):Z0 H H2:=fun c o h=>b c o (a c o h)
theorem Z0.free(e:Z0 H S){l:Addr}(h:S l=Option.none):H l=Option.none:=by
 cases q:H l with
 | none=>rfl
 | some o =>
  rw [e l o q] at h;cases h
theorem Z0.seq{xs:List V}(e:Z0 H S)(h:SqL K H a xs):SqL K S a xs:=by
 rcases h with (h | ⟨o,h⟩) | h
 ·exact .inl (.inl (e _ _ h))
 ·exact .inl (.inr ⟨o,e _ _ h⟩)
 ·exact .inr h
section
variable {X:Cx}
def uZ(i j:Int):Prop:=0 < j/\j.natAbs.log2 < 9000
theorem Y1:OpR X (binaryOp .FloorDiv) (rI uZ fun i j=>.int (i / j)):=opI fun i j _ _ _ _ _ hc q=>by
 have h1:(0:Int) < j:=hc.1;exact floordiv_int (by lia) (by rw [Int.fdiv_eq_ediv_of_nonneg i (by lia)];exact q) (.inl (PyProof.noPylong_of_log2 hc.2))
theorem uZ.of{i:Int}(h1:0 < j)(h2:j < 2 ^ 250):uZ i j:=by
 refine ⟨h1,?_⟩;have f:j.natAbs < 2 ^ 250:=by lia
 have d:j.natAbs≠0:=by lia
 have:=(Nat.log2_lt d).mpr f;lia
def Zaa(i j:Int):Prop:=(i.natAbs < 2 ^ 250/\j.natAbs < 2 ^ 250)\/CMul i j
theorem Zaa.ok{i j:Int}(h:Zaa i j):IntMulOk i j:=by
 rcases h with ⟨h1,h2⟩ | h
 ·refine IntMulOk.of_bits (Qa0 (PyProof.Rows.intBits_le h1) (by decide)) (Qa0 (PyProof.Rows.intBits_le h2) (by decide))
 ·exact h.ok
theorem Xx:OpR X (binaryOp .Mult) (rI Zaa fun i j=>.int (i * j)):=opI fun _ _ _ _ _ _ _ hc q=>mul_int q hc.ok
inductive gQ(K:PySem.W.Frag)(xs:List V)(H:Hp)(Q:VK):Prop
 | mk (x T t b:_):(xs=[x,.ty T])->(jN K H x t)->(PySem.W.kitOne K t (.type T)=some b)->(Q (.bl b) H)->gQ K xs H Q
def rIsi(K:PySem.W.Frag):List V->Hp->VK->Prop:=fun xs H Q=>gQ K xs H Q
theorem kW:Xk X (.builtin "isinstance") (rIsi X.K):=by
 intro pins s σ H xs g Q I r h;obtain ⟨x,T,t,b,rfl,ty,e,q⟩:=h;obtain ⟨u,f,rfl,d,rt⟩:=vals2 r;cases rt;exact yN I d ty e fun tk=>⟨.bl b,H,I.tok tk,rfl,q⟩
end
def ZX:Expr->Bool
 | .Starred _ _=>false
 | _=>true
theorem Zx{env:Env}(h:ZX e=true):starEach (e::L) env=(false,eval e env)::starEach L env:=by
 cases e <;> first
  | rfl
  | cases h
theorem XJ{pos:Pos}{env:Env}:∀{es:List Expr},es.all ZX=true->(backTo pos (starEach es env)).any (·.1)=false
 | [],_=>rfl
 | e::es,h=>by
  rw [Qcl,Qa1] at h;rw [Zx h.1];show (false || (backTo pos (starEach es env)).any (·.1))=false;rw [XJ h.2]
  rfl
theorem all_plain{pos:Pos}{env:Env}:∀{es:List Expr},es.all ZX=true->(backTo pos (starEach es env)).all (fun x=>!x.1)=true
 | [],_=>rfl
 | e::es,h=>by
  rw [Qcl,Qa1] at h;rw [Zx h.1];show (true && (backTo pos (starEach es env)).all (fun x=>!x.1))=true;rw [all_plain h.2]
  rfl
section
variable {X:Cx}{CX:CXT}{k:Nat}{f C:Addr}{fd:FuncData}{ps:List Str}{sp:Sp}{dvs:List V}{ds:List Value}{E:XK}{x m:Str}{p pos apos:Pos}{e o:Expr}{es:List Expr}{ta te:TE}{t:TA}{id T:String}{r:List V->Hp->VK->Prop}
theorem pa_c(ha:PE X e te)(hr:PA X es t)(hp:ZX e=true:=by rfl):PA X (e::es) (GD te t):=uR ha hr (Zx hp)
theorem kX(F:Z5 X.prog X.w X.K X.mg X.base CX k f fd ps sp)(hr:WJ k X.A)(hg:Gl X x)(hm:X.mg x=some (.ref f))(hk:PySem.W.keepIn X.K (.ref f)=true)(hb:Binds X.K fd ps ds)(hd:Vals dvs ds)(hx:Passes CX X E)
  (ha:PA X (e::es) t) (hdb:(x == ("__debug__" : Str))=false:=by decide) (hp:(e::es).all ZX=true:=by rfl):PE X (.Call (.Name x p) (e::es) [] pos) (uS sp dvs E t):=by
 rw [Qcl,Qa1] at hp;exact uT F hr hg hm hk hb hd hx ha hdb (Zx hp.1) (XJ hp.2)
theorem va (hc:Xk X (.builtin id) r) (hg:Gl X x) (hm:X.mg x=none) (hv:bootBuiltins x=some (.builtin id)) (ha:PA X (e::es) t) (hn:x ≠ "__name__" := by decide) (hdb:(x == ("__debug__" : Str))=false:=by decide)
  (hp:(e::es).all ZX=true:=by rfl):PE X (.Call (.Name x p) (e::es) [] pos) (tCB r t):=by
 rw [Qcl,Qa1] at hp;exact kP hc hg hm hv ha hn hdb (Zx hp.1) (XJ hp.2)
theorem vb (hc:Xk X (.type T) r) (hg:Gl X x) (hm:X.mg x=none) (hv:bootBuiltins x=some (.type T)) (ha:PA X (e::es) t) (hn:x ≠ "__name__" := by decide) (hdb:(x == ("__debug__" : Str))=false:=by decide)
  (hp:(e::es).all ZX=true:=by rfl):PE X (.Call (.Name x p) (e::es) [] pos) (tCB r t):=by
 rw [Qcl,Qa1] at hp;exact yQ hc hg hm hv ha hn hdb (Zx hp.1) (XJ hp.2)
theorem vc {tg a:Expr} (hg:Gl X "range") (hm:X.mg "range" = none) (ha:PA X [a] t) (hp:ZX a=true:=by rfl):PI X tg (.Call (.Name "range" p) [a] [] pos) (uI t) :=
 yC hg hm ha (by rw [Zx hp];rfl)
theorem pe_bmF {name:Str}   {g:V->List V->Hp->VK->Prop} (pa:PlainAttrs T) (slot:Slot T name id) (hty:typeOf (.builtin id)=pure (.type "method_descriptor")) (hm:MtR X id g) (ho:PE X o d) (ha:PA X (e::es) t)
  (hbase:attributeBase o name X.env (eval o X.env)=eval o X.env:=by rfl) (hline:(apos.endLine == J.line)=true:=by rfl) (hp:(e::es).all ZX=true:=by rfl) (hl:(e::es).length < 30:=by decide) :
  PE X (.Call (.Attribute o name apos) (e::es) [] J) (tBM X.K T g d t):=by
 have f:=hp;rw [Qcl,Qa1] at f;refine pe_bm pa slot hty hm ho ha hbase ?_ hline (Zx f.1) (XJ f.2);rw [all_plain hp];show decide ((e::es).length + 0 + 0 < 30)=true;exact Qad hl
end
theorem XM:bootBuiltins "len" = some (.builtin "len"):=by decide +kernel
theorem YG:bootBuiltins "isinstance" = some (.builtin "isinstance"):=by decide +kernel
theorem bt_all:bootBuiltins "all" = some (.builtin "all"):=by decide +kernel
theorem bt_int:bootBuiltins "int" = some (.type "int"):=by decide +kernel
theorem bt_str:bootBuiltins "str" = some (.type "str"):=by decide +kernel
theorem ve:bootBuiltins "list" = some (.type "list"):=by decide +kernel
theorem kY:bootBuiltins "tuple" = some (.type "tuple"):=by decide +kernel
theorem ze :PySem.W.kitOne K (.type "str") (.type "str")=some true:=by rfl
theorem zf :PySem.W.kitOne K (.type "int") (.type "str")=some false:=by with_unfolding_all rfl
structure QE(X:Cx)(e:Expr)(t:TE):Prop where
 out:PE X e t
structure QT(X:Cx)(e:Expr)(t:TT):Prop where
 out:PT X e t
structure QW(X:Cx)(e:Expr)(t:TT):Prop where
 out:PW X e t
structure QA(X:Cx)(e:List Expr)(t:TA):Prop where
 out:PA X e t
structure QSs(X:Cx)(e:List Stmt)(t:TS):Prop where
 out:PSs X e t
structure QS(X:Cx)(e:Stmt)(t:TS):Prop where
 out:PS X e t
structure QG(X:Cx)(e:Expr)(t:TG):Prop where
 out:PG X e t
structure QI(X:Cx)(tg e:Expr)(t:TI):Prop where
 out:PI X tg e t
structure QO(X:Cx)(e:Option Expr)(t:TO):Prop where
 out:PO X e t
theorem qv {X:Cx} (i:Nat)  {pos:Pos} (hN:X.N[i]?=some x:=by rfl) (hv:Vis X.env.scope x:=by first | exact Or.inl rfl | exact Or.inr (Or.inl rfl) | exact Or.inr (Or.inr rfl)) (hd:(x == ("__debug__" : Str))=false:=by decide) (hcd:(x == ("__classdict__" : Str))=false:=by decide):QE X (.Name x pos) (zQ i):=⟨pv (i:=i) (hN:=hN) (hv:=hv) (hd:=hd) (hcd:=hcd)⟩
theorem Ze{X:Cx}{i j pos:_}:QE X (.Constant (.int i) j pos) (tC (.int i)):=⟨pe_int ⟩
theorem jS{X:Cx}{b j pos:_}:QE X (.Constant (.bool b) j pos) (tC (.bl b)):=⟨pe_bl ⟩
theorem WL{X:Cx}{j pos:_}:QE X (.Constant .none j pos) (tC .non):=⟨pe_non ⟩
theorem Zg{X:Cx}{x j pos:_}:QE X (.Constant (.str x) j pos) (tC (.str x)):=⟨pe_str ⟩
theorem ZY {X:Cx}  {v:V} {u:Value} {pos:Pos} (hg:Gl X x) (hm:X.mg x=some u) (r:RelV v u) (hd:(x == ("__debug__" : Str))=false:=by decide):QE X (.Name x pos) (tC v):=⟨uz (hg:=hg) (hm:=hm) (r:=r) (hd:=hd)⟩
theorem vg {X:Cx}  {v:V} {u:Value} {pos:Pos} (hg:Gl X x) (hm:X.mg x=none) (hv:bootBuiltins x=some u) (r:RelV v u) (hn:x ≠ "__name__" := by decide) (hd:(x == ("__debug__" : Str))=false:=by decide):QE X (.Name x pos) (tC v):=⟨uA (hg:=hg) (hm:=hm) (hv:=hv) (r:=r) (hn:=hn) (hd:=hd)⟩
theorem Zl{X:Cx}{a:Expr}{b:Expr}{pos:Pos}{f:Operator}{r:R2}(ho:OpR X (binaryOp f) r)(ha:QE X a d)(hb:QE X b Y):QE X (.BinOp a f b pos) (tOp r d Y):=⟨pe_op (ho:=ho) (ha:=ha.out) (hb:=hb.out)⟩
theorem zg{X:Cx}{a:Expr}{pos:Pos}{f:UnaryOp}{r:V->Hp->VK->Prop}(ho:UnR X (unaryOp f) r)(ha:QE X a d):QE X (.UnaryOp f a pos) (tUn r d):=⟨pe_un (ho:=ho) (ha:=ha.out)⟩
theorem XN{X:Cx}{a:Expr}{b:Expr}{pos:Pos}{f:CmpOp}{r:R2}(ho:OpR X (compareOp f) r)(ha:QE X a d)(hb:QE X b Y)(hm:behindInMarks f b=false):QE X (.Compare a [f] [b] pos) (tOp r d Y):=⟨uN (ho:=ho) (ha:=ha.out) (hb:=hb.out) (hm:=hm)⟩
theorem Zk{X:Cx}{a:Expr}{b:Expr}{pos:Pos}{f:CmpOp}{r:R2}(ho:OpR X (compareOp f) r)(ha:QE X a d)(hb:QE X b Y)(hm:behindInMarks f b=false):QT X (.Compare a [f] [b] pos) (Zca (tOp r d Y)):=⟨uO (ho:=ho) (ha:=ha.out) (hb:=hb.out) (hm:=hm)⟩
theorem WM{X:Cx}(h:QE X e d)(he:∀f,isTrue e X.env f=(do let v <-f;standAt e.pos;holding [v] (truthy v)):=by intro _;rfl):QT X e (tB d):=⟨pt_val (h:=h.out) (he:=he)⟩
theorem ZI{X:Cx}{a:Expr}{pos:Pos}(ha:QT X a I):QW X (.BoolOp .And [a] pos) I:=⟨uB (ha:=ha.out)⟩
theorem vh{X:Cx}{a:Expr}{pos:Pos}(ha:QT X a I):QW X (.BoolOp .Or [a] pos) I:=⟨pw_or1 (ha:=ha.out)⟩
theorem ZJ{X:Cx}{a:Expr}{b:Expr}{pos:Pos}{tB':TT}(ha:QT X a I)(hb:QW X (.BoolOp .And (b::L) pos) tB'):QW X (.BoolOp .And (a::b::L) pos) (tAnd I tB'):=⟨pw_and (ha:=ha.out) (hb:=hb.out)⟩
theorem Zab{X:Cx}{a:Expr}{b:Expr}{pos:Pos}{tB':TT}(ha:QT X a I)(hb:QW X (.BoolOp .Or (b::L) pos) tB'):QW X (.BoolOp .Or (a::b::L) pos) (tOr I tB'):=⟨pw_or (ha:=ha.out) (hb:=hb.out)⟩
theorem zV{X:Cx}{a:Expr}{pos:Pos}(ha:QT X a I):QT X (.UnaryOp .Not a pos) (tNot I):=⟨pt_not (ha:=ha.out)⟩
theorem xq{X:Cx}{a:Expr}{pos:Pos}{f:_}(h:QE X a d):QE X (.BoolOp f [a] pos) d:=⟨pe_one (h:=h.out)⟩
theorem zW{X:Cx}{a:Expr}{b:Expr}{pos:Pos}(ha:QE X a d)(hb:QE X (.BoolOp .And (b::L) pos) Y):QE X (.BoolOp .And (a::b::L) pos) (Zb0 d Y):=⟨pe_and (ha:=ha.out) (hb:=hb.out)⟩
theorem qe_or{X:Cx}{a:Expr}{b:Expr}{pos:Pos}(ha:QE X a d)(hb:QE X (.BoolOp .Or (b::L) pos) Y):QE X (.BoolOp .Or (a::b::L) pos) (tOrV d Y):=⟨pe_or (ha:=ha.out) (hb:=hb.out)⟩
theorem kZ{X:Cx}{a:Expr}{b:Expr}{pos:Pos}{c:Expr}(hc:QT X c I)(ha:QE X a d)(hb:QE X b Y):QE X (.IfExp c a b pos) (tIf I d Y):=⟨kL (hc:=hc.out) (ha:=ha.out) (hb:=hb.out)⟩
theorem Zu{X:Cx}:QSs X [] Zb1:=⟨uE ⟩
theorem Za{X:Cx}{st:Stmt}{rest:List Stmt}{u:TS}(h1:QS X st g)(h2:QSs X rest u):QSs X (st::rest) (ZA g u):=⟨kM (h1:=h1.out) (h2:=h2.out)⟩
theorem Zh{X:Cx}{st:Stmt}(h1:QS X st g):QSs X [st] g:=⟨uF (h1:=h1.out)⟩
theorem W5{X:Cx}{pos:Pos}(he:QE X e d)(hs:swapsWith e none pos.line X.env=pure false:=by rfl):QS X (.Expr e pos) (Zb2 d):=⟨uG (he:=he.out) (hs:=hs)⟩
theorem Zp{X:Cx}{pos:Pos}(he:QE X e d):QS X (.Return (some e) pos) (tRet d):=⟨ps_ret (he:=he.out)⟩
theorem ZF{X:Cx}{u:TS}{pos:Pos}{c:Expr}{a b:List Stmt}(hc:QT X c I)(ha:QSs X a g)(hb:QSs X b u):QS X (.If c a b pos) (tIfS I g u):=⟨ps_if (hc:=hc.out) (ha:=ha.out) (hb:=hb.out)⟩
theorem Z8{X:Cx}{pos:Pos}(hN:X.N.Nodup)(hi:X.N[i]?=some x)(hx:Loc X.env.scope x)(hf:X.fn x=true\/X.env.scope.names.lookup x=some .local:=by first | exact .inl rfl | exact .inr rfl | assumption):QG X (.Name x pos) (W0 i):=⟨W2 (hN:=hN) (hi:=hi) (hx:=hx) (hf:=hf)⟩
theorem qg_sub{X:Cx}{pos:Pos}{i:Expr}{t:Zc4}(ho:QE X o d)(hi:QE X i Y)(hs:PSet X t)(ha:∀v,assign (.Subscript o i pos) X.env v=(do
   let f <-holding [v] (eval o X.env);let g <-holding [v,f] (eval i X.env)
   standAt pos
   holding [v,f,g] (setItem f g v)
   release [v,f,g] []):=by intro _;rfl):QG X (.Subscript o i pos) (gSub d Y t):=⟨pg_sub (ho:=ho.out) (hi:=hi.out) (hs:=hs) (ha:=ha)⟩
theorem gR{X:Cx}{pos:Pos}{g:TG}(he:QE X e d)(hg:QG X o g)(hs:swapsWithSole [o] e pos.line X.env=pure false:=by rfl)(hw:swappedStores [o] e X.env=pure none:=by rfl)(h1:(assignEach [o] X.env).map (·.2)=[assign o X.env]:=by rfl):QS X (.Assign [o] e pos) (Zbu d g):=⟨ps_asg (he:=he.out) (hg:=hg.out) (hs:=hs) (hw:=hw) (h1:=h1)⟩
theorem Zo{X:Cx}{pos:Pos}(hN:X.N.Nodup)(hi:X.N[i]?=some x)(hx:Loc X.env.scope x)(he:QE X e d)(hs:swapsWith e (some (.Name x p)) pos.line X.env=pure false:=by rfl)(hf:X.fn x=true\/X.env.scope.names.lookup x=some .local:=by first | exact .inl rfl | exact .inr rfl | assumption):QS X (.Assign [.Name x p] e pos) (Zbu d (W0 i)):=⟨ps_set (hN:=hN) (hi:=hi) (hx:=hx) (he:=he.out) (hs:=hs) (hf:=hf)⟩
theorem zX{X:Cx}{pos:Pos}{c:Expr}{body:List Stmt}(hp:PassesOwn (model X.prog X.w) X.A X.env X.xe)(hc:QT X c I)(hb:QSs X body g):QS X (.While c body [] pos) (y8 I g):=⟨kN (hp:=hp) (hc:=hc.out) (hb:=hb.out)⟩
theorem Xy{X:Cx}{l:Expr}(hl:QE X l d):QI X e l (Zb5 X.K d):=⟨uH (hl:=hl.out)⟩
theorem Wl{X:Cx}{l:Expr}(hl:QE X l d):QI X e l (iTup X.K d):=⟨pi_tup (hl:=hl.out)⟩
theorem Y6{X:Cx}{iter:Expr}{body:List Stmt}{wi:TI}{g:TG}{pos:Pos}(hp:PassesOwn (model X.prog X.w) X.A X.env X.xe)(hc:X.calm=true)(hi:QI X e iter wi)(hg:QG X e g)(hb:QSs X body Z)(hs:∀x,foldedSetIterable iter X.env x=pure x:=by intro _;rfl):QS X (.For e iter body [] pos) (tFor wi g Z):=⟨ps_for (hp:=hp) (hc:=hc) (hi:=hi.out) (hg:=hg.out) (hb:=hb.out) (hs:=hs)⟩
theorem Zr{X:Cx}{t:TA}{pos:Pos}{d:_}(h:QA X L t):QE X (.Tuple L d pos) (gC t):=⟨pe_tup (h:=h.out)⟩
theorem XO{X:Cx}{t:TA}{pos:Pos}(h:QA X L t):QE X (.List L pos) (tLst t):=⟨pe_lst (h:=h.out)⟩
theorem Zb{X:Cx}:QA X [] uQ:=⟨pa_nil ⟩
theorem Zj{X:Cx}{t:TA}(ha:QE X e d)(hr:QA X L t)(hp:ZX e=true:=by rfl):QA X (e::L) (GD d t):=⟨pa_c (ha:=ha.out) (hr:=hr.out) (hp:=hp)⟩
theorem Zi {X:Cx} {CX:CXT} {k:Nat}  {fd:FuncData} {ps:List Str} {sp:Sp}   {E:XK}   {pos:Pos}   {t:TA} (F:Z5 X.prog X.w X.K X.mg X.base CX k a fd ps sp) (hr:WJ k X.A) (hg:Gl X x) (hm:X.mg x=some (.ref a)) (hk:PySem.W.keepIn X.K (.ref a)=true) (hb:Binds X.K fd ps r) (hd:Vals u r) (hx:Passes CX X E) (ha:QA X (e::L) t) (hdb:(x == ("__debug__" : Str))=false:=by decide) (hp:(e::L).all ZX=true:=by rfl):QE X (.Call (.Name x p) (e::L) [] pos) (uS sp u E t):=⟨kX (F:=F) (hr:=hr) (hg:=hg) (hm:=hm) (hk:=hk) (hb:=hb) (hd:=hd) (hx:=hx) (ha:=ha.out) (hdb:=hdb) (hp:=hp)⟩
theorem Z4 {X:Cx}   {pos:Pos}   {t:TA} {id:String} {r:List V->Hp->VK->Prop} (hc:Xk X (.builtin id) r) (hg:Gl X x) (hm:X.mg x=none) (hv:bootBuiltins x=some (.builtin id)) (ha:QA X (e::L) t) (hn:x ≠ "__name__" := by decide) (hdb:(x == ("__debug__" : Str))=false:=by decide) (hp:(e::L).all ZX=true:=by rfl):QE X (.Call (.Name x p) (e::L) [] pos) (tCB r t):=⟨va (hc:=hc) (hg:=hg) (hm:=hm) (hv:=hv) (ha:=ha.out) (hn:=hn) (hdb:=hdb) (hp:=hp)⟩
theorem WN {X:Cx}   {pos:Pos}   {t:TA} {T:String} {r:List V->Hp->VK->Prop} (hc:Xk X (.type T) r) (hg:Gl X x) (hm:X.mg x=none) (hv:bootBuiltins x=some (.type T)) (ha:QA X (e::L) t) (hn:x ≠ "__name__" := by decide) (hdb:(x == ("__debug__" : Str))=false:=by decide) (hp:(e::L).all ZX=true:=by rfl):QE X (.Call (.Name x p) (e::L) [] pos) (tCB r t):=⟨vb (hc:=hc) (hg:=hg) (hm:=hm) (hv:=hv) (ha:=ha.out) (hn:=hn) (hdb:=hdb) (hp:=hp)⟩
theorem xr {X:Cx}  {pos:Pos} {t:TA} {a:Expr} (hg:Gl X "range") (hm:X.mg "range" = none) (ha:QA X [a] t) (hp:ZX a=true:=by rfl):QI X e (.Call (.Name "range" p) [a] [] pos) (uI t):=⟨vc (hg:=hg) (hm:=hm) (ha:=ha.out) (hp:=hp)⟩
theorem Wm {X:Cx}     {t:TA} {id:String} {T:String} {name:Str}   {f:V->List V->Hp->VK->Prop} (pa:PlainAttrs T) (slot:Slot T name id) (hty:typeOf (.builtin id)=pure (.type "method_descriptor")) (hm:MtR X id f) (ho:QE X o d) (ha:QA X (e::L) t) (hbase:attributeBase o name X.env (eval o X.env)=eval o X.env:=by rfl) (hline:(p.endLine == J.line)=true:=by rfl) (hp:(e::L).all ZX=true:=by rfl) (hl:(e::L).length < 30:=by decide):QE X (.Call (.Attribute o name p) (e::L) [] J) (tBM X.K T f d t):=⟨pe_bmF (pa:=pa) (slot:=slot) (hty:=hty) (hm:=hm) (ho:=ho.out) (ha:=ha.out) (hbase:=hbase) (hline:=hline) (hp:=hp) (hl:=hl)⟩
theorem qe_bm0 {X:Cx}   {name:Str}   {T:String} {id:String} {r:V->List V->Hp->VK->Prop} (pa:PlainAttrs T) (slot:Slot T name id) (hty:typeOf (.builtin id)=pure (.type "method_descriptor")) (hm:MtR X id r) (ho:QE X o d) (hbase:attributeBase o name X.env (eval o X.env)=eval o X.env:=by rfl) (hline:(p.endLine == J.line)=true:=by rfl):QE X (.Call (.Attribute o name p) [] [] J) (tBM0 X.K T r d):=⟨pe_bm0 (pa:=pa) (slot:=slot) (hty:=hty) (hm:=hm) (ho:=ho.out) (hbase:=hbase) (hline:=hline)⟩
theorem Jg{X:Cx}:QO X none yS:=⟨uU ⟩
theorem Yr{X:Cx}(h:QE X e d):QO X (some e) (Zcc d):=⟨uV (h:=h.out)⟩
theorem Y2{X:Cx}{lo:Option Expr}{hi:Option Expr}{tl:TO}{th:TO}{pos:Pos}{r:V->Option Int->Option Int->Hp->VK->Prop}(hr:SlR X r)(he:QE X e d)(hl:QO X lo tl)(hu:QO X hi th):QE X (.Subscript e (.Slice lo hi none p) pos) (tSl r d tl th):=⟨kR (hr:=hr) (he:=he.out) (hl:=hl.out) (hu:=hu.out)⟩
theorem ZD{X:Cx}{a:Expr}{b:Expr}{pos:Pos}{r:R2}(hr:IxR X r)(ha:QE X a d)(hb:QE X b Y)(hs:yV b):QE X (.Subscript a b pos) (tOp r d Y):=⟨pe_ix (hr:=hr) (ha:=ha.out) (hb:=hb.out) (hs:=hs)⟩
theorem YO{X:Cx}(h:QW X e I):QT X e I:=⟨h.out.pt⟩
end L2
set_option maxHeartbeats 4000000
namespace L2
open PySem PySem.Spec PyProof.Rows
def GS(cells:List (Str × Addr)):List (Str × NameKind)->List (Str × Addr)->List (Str × Addr)
 | [],acc=>acc
 | (n,k)::r,acc=>GS cells r (if (k == NameKind.free)=true then (n,(cells.lookup n).getD 0)::acc else acc)
theorem GU{env:Env}:∀(names:List (Str × NameKind)) (acc:List (Str × Addr)),(∀y∈names,y.2=.free->∃c,env.cells.lookup y.1=some c) ->
  (forIn names acc fun (x:Str × NameKind) (r:List (Str × Addr))=>match x with
   | (name,kind)=>if (kind == NameKind.free)=true then do let a <-cellOf env name;pure (ForInStep.yield ((name,a)::r)) else pure (ForInStep.yield r):Sem (List (Str × Addr)))=pure (GS env.cells names acc)
 | [],acc,_=>rfl
 | (n,k)::r,acc,h=>by
  rw [Qd6];have g:=fun d=>GU (env:=env) r d fun y E=>h y (Qar _ E)
  by_cases hk:(k == NameKind.free)=true
  ·obtain ⟨c,hc⟩:=h (n,k) Qaq (by simpa using hk)
   have f:env.cells.lookup n=some c:=hc;have e:cellOf env n=pure c:=by unfold cellOf;rw [f]
   simp only [hk,Qf9,e];rw [GS,Qa4 hk,f];exact g ((n,c)::acc)
  ·rw [GS,Qa5 hk]
   simp only [hk,Qfm];exact g acc
theorem Jh{scope:Scope}{env:Env}(h:∀y∈scope.names,y.2=.free->∃c,env.cells.lookup y.1=some c):closureFor scope env=pure (GS env.cells scope.names []):=by
 have e:=GU (env:=env) scope.names [] h;unfold closureFor;show (do let r <-_;pure r)=_;rw [show (forIn scope.names ([]:List (Str × Addr)) fun (x:Str × NameKind) (r:List (Str × Addr))=>match x with
   | (name,kind)=>if (kind == NameKind.free)=true then do let a <-cellOf env name;pure (ForInStep.yield ((name,a)::r)) else pure (ForInStep.yield r):Sem (List (Str × Addr)))=pure (GS env.cells scope.names []) from e]
 rfl
theorem zY{cells:List (Str × Addr)}:∀{names:List (Str × NameKind)} {acc:List (Str × Addr)},(∀y∈names,y.2=.free->∃c,cells.lookup y.1=some c)->(∀x c,acc.lookup x=some c->cells.lookup x=some c) ->
  ∀x c,(GS cells names acc).lookup x=some c->cells.lookup x=some c
 | [],acc,_,ha,x,c,h=>ha x c h
 | (n,k)::r,acc,hf,ha,x,c,h=>by
  rw [GS] at h;refine zY (names:=r) (fun y g=>hf y (Qar _ g)) (fun y d hd=>?_) x c h
  by_cases hk:(k == NameKind.free)=true
  ·rw [Qa4 hk] at hd
   obtain ⟨e,he⟩:=hf (n,k) Qaq (by simpa using hk);have f:cells.lookup n=some e:=he;rw [f,Qbi] at hd;cases g:y == n with
   | true =>
    rw [g] at hd;have E:y=n:=by simpa using g
    rw [E,f];exact hd
   | false =>
    rw [g] at hd;exact ha y d hd
  ·rw [Qa5 hk] at hd
   exact ha y d hd
theorem xu{cells:List (Str × Addr)}:∀{names:List (Str × NameKind)} {acc:List (Str × Addr)} {x:Str},(∃c,acc.lookup x=some c)->∃c,(GS cells names acc).lookup x=some c
 | [],acc,x,h=>h
 | (n,k)::r,acc,x,h=>by
  rw [GS];refine xu (names:=r) ?_
  by_cases hk:(k == NameKind.free)=true
  ·rw [Qa4 hk,Qbi]
   cases hx:x == n with
   | true=>exact ⟨_,rfl⟩
   | false=>exact h
  ·rw [Qa5 hk];exact h
theorem Xz{cells:List (Str × Addr)}:∀{names:List (Str × NameKind)} {acc:List (Str × Addr)} {x:Str},names.lookup x=some .free->∃c,(GS cells names acc).lookup x=some c
 | [],acc,x,h=>by cases h
 | (n,k)::r,acc,x,h=>by
  rw [GS];rw [Qbi] at h;cases hx:x == n with
  | true =>
   rw [hx] at h;have hk:k=.free:=Option.some.inj h;refine xu (names:=r) ?_;rw [hk,Qa4 (show (NameKind.free == NameKind.free)=true by rfl),Qbi,hx];exact ⟨_,rfl⟩
  | false =>
   rw [hx] at h;exact Xz (names:=r) h
theorem YZ{scope:Scope}{env:Env}(hk:env.scope.kind=.function):∀{names:List (Str × NameKind)} {x:Str},names.lookup x=some .free->env.kindOf x=some .cell ->
  (names.map fun (n,k)=>if (k == NameKind.free && env.scope.kind == .function && env.kindOf n == some .cell)=true then (n,NameKind.cell) else (n,k)).lookup x=some .cell
 | [],_,h,_=>by cases h
 | (n,k)::r,x,h,hc=>by
  rw [Qbi] at h;show List.lookup x ((if (k == NameKind.free && env.scope.kind == .function && env.kindOf n == some .cell)=true then (n,NameKind.cell) else (n,k))::_)=_;cases hx:x == n with
  | true =>
   rw [hx] at h;have d:k=.free:=Option.some.inj h;have f:x=n:=by simpa using hx
   rw [d,hk,<-f,hc];simp [Qbi]
  | false =>
   rw [hx] at h;have y:=YZ (scope:=scope) hk (names:=r) h hc
   by_cases g:(k == NameKind.free && env.scope.kind == .function && env.kindOf n == some .cell)=true
   ·rw [Qa4 g,Qbi,hx];exact y
   ·rw [Qa5 g,Qbi,hx];exact y
theorem YH{env:Env}:∀{names:List (Str × NameKind)} {x:Str},names.lookup x=some .free->env.kindOf x=some .free ->
  (names.map fun (n,k)=>if (k == NameKind.free && env.scope.kind == .function && env.kindOf n == some .cell)=true then (n,NameKind.cell) else (n,k)).lookup x=some .free
 | [],_,h,_=>by cases h
 | (n,k)::r,x,h,hc=>by
  rw [Qbi] at h;show List.lookup x ((if (k == NameKind.free && env.scope.kind == .function && env.kindOf n == some .cell)=true then (n,NameKind.cell) else (n,k))::_)=_;cases hx:x == n with
  | true =>
   rw [hx] at h;have f:k=.free:=Option.some.inj h;have g:x=n:=by simpa using hx
   have d:¬(k == NameKind.free && env.scope.kind == .function && env.kindOf n == some .cell)=true:=by
    rw [<-g,hc,Qa1];exact fun z=>absurd z.2 (by decide)
   rw [Qa5 d,Qbi,hx,f]
  | false =>
   rw [hx] at h;have y:=YH (names:=r) h hc
   by_cases d:(k == NameKind.free && env.scope.kind == .function && env.kindOf n == some .cell)=true
   ·rw [Qa4 d,Qbi,hx];exact y
   ·rw [Qa5 d,Qbi,hx];exact y
theorem Xa{env:Env}:∀{names:List (Str × NameKind)} {x:Str},(∀y∈names,y.2≠.cell) ->
    ((names.map fun (n,k)=>if (k == NameKind.free && env.scope.kind == .function && env.kindOf n == some .cell)=true then (n,NameKind.cell) else (n,k)).lookup x=some .cell \/
     (names.map fun (n,k)=>if (k == NameKind.free && env.scope.kind == .function && env.kindOf n == some .cell)=true then (n,NameKind.cell) else (n,k)).lookup x=some .free)->names.lookup x=some .free
  | [],_,_,h=>by rcases h with h | h <;> cases h
  | (n,k)::r,x,hn,h=>by
    have f:=Xa (env:=env) (names:=r) (x:=x) fun y g=>hn y (Qar _ g);rw [Qa3] at h;rw [Qbi]
    by_cases d:(k == NameKind.free && env.scope.kind == .function && env.kindOf n == some .cell)=true
    · have hk:k=.free:=by
        rw [Qa1,Qa1] at d;simpa using d.1.1
      simp only [d,Qf9,Qbi] at h;cases hx:x == n with
      | true=>rw [hk]
      | false =>
        rw [hx] at h;exact f h
    · simp only [d,Qc1,Qfm,Qbi] at h
      cases hx:x == n with
      | true =>
        rw [hx] at h;rcases h with h | h
        · exact absurd (Option.some.inj h) (hn (n,k) Qaq)
        · exact h
      | false =>
        rw [hx] at h;exact f h
def cxC(X:Cx)(N':List Str)(scope:Scope)(C:Addr)(s₂:Shared)(H₂:Hp)(ex:List Addr):Cx :=
 { X with N:=N',s₀:=s₂,H₀:=H₂,env:=compEnvC scope (GS X.env.cells scope.names []) C X.env,outer:=X.stack,stack:=X.stack,ex:=ex,fn:=fun _=>false,pn:=[],xe:=fun _ _=>False }
def xw(is:List Nat)(σ:St)(v:Option V):St:=v::is.map fun i=>(σ[i]?).getD none
structure ZZ(S scope:Scope)(N:List Str)(x:Str)(ys:List Str)(is:List Nat):Prop where
 kind:scope.kind=.function
 cell:∀y∈scope.names,y.2≠.cell
 names:∀y∈scope.names,y.2=.local->scope.names.lookup y.1=some .local
 own:scope.names.lookup x=some .local
 free:∀y∈scope.names,y.2=.free->S.names.lookup y.1=some .cell\/S.names.lookup y.1=some .free
 vis:∀p∈ys.zip is,N[p.2]?=some p.1/\scope.names.lookup p.1=some .free
 len:ys.length=is.length
 nd:(x::ys).Nodup
def PF(X:Cx)(ifs:List Expr)(t:TT):Prop :=
 ∀(pins:List (Addr × Obj)) (s:Shared) (σ:St) (H:Hp) (Q:Bool->Hp->Prop),Inv X pins σ H s->t σ H Q ->
  wpAny (model X.prog X.w) X.A (forIn ifs true fun c r=>if r=true then do let ok <-isTrue c X.env (eval c X.env);pure (ForInStep.yield ok) else pure (ForInStep.yield r)) (TP X pins σ Q) X.xe s
structure QF(X:Cx)(ifs:List Expr)(t:TT):Prop where
 out:PF X ifs t
def Zbv:TT:=fun _ H Q=>Q true H
theorem zZ{X:Cx}:QF X [] Zbv:=⟨fun _ _ _ H _ I h=>wpAny_tests_nil ⟨H,I,h⟩⟩
theorem vi{X:Cx}{c:Expr}(h:QT X c I):QF X [c] I:=⟨fun pins s σ H Q d hw=>wpAny_tests_one (h.out pins s σ H Q d hw)⟩
section
variable {X:Cx}{S scope:Scope}{N:List Str}{x:Str}{ys:List Str}{is:List Nat}{pins:List (Addr × Obj)}{σ:St}{H₂:Hp}{s₂:Shared}{fp:List Addr}
theorem ZZ.cellOf'(K:ZZ S scope N x ys is)(f:X.env.scope=S)(ok:X.Ok):∀y∈scope.names,y.2=.free->∃c,X.env.cells.lookup y.1=some c:=fun y d h =>
 ok.has y.1 (by show X.env.scope.names.lookup y.1=_\/X.env.scope.names.lookup y.1=_;rw [f];exact K.free y d h)
theorem ZZ.cl(K:ZZ S scope N x ys is)(d:X.env.scope=S)(ok:X.Ok):∀y c,(GS X.env.cells scope.names []).lookup y=some c->X.env.cells.lookup y=some c :=
 zY (K.cellOf' d ok) fun _ _ z=>by cases z
theorem qr{names:List (Str × NameKind)}{y:Str}{k:NameKind}(h:names.lookup y=some k):(y,k)∈names:=by
 induction names with
 | nil=>cases h
 | cons p r d =>
  obtain ⟨n,f⟩:=p;rw [Qbi] at h;cases hx:y == n with
  | true =>
   rw [hx] at h;have e1:y=n:=by simpa using hx
   have e2:f=k:=Option.some.inj h;rw [e1,e2];exact Qaq
  | false =>
   rw [hx] at h;exact Qar _ (d h)
theorem vj(K:ZZ S scope N x ys is)(g:X.env.scope=S)(I:Inv X pins σ H₂ s₂)(E:s₂.heap.objs.size<=C)(d:∀b∈fp,JN X pins H₂ b)(f:∀b∈fp,b < s₂.heap.objs.size):(cxC X (x::ys) scope C s₂ H₂ fp).Ok where
 mod:=I.ok.mod
 kind:=K.kind
 glob:=I.ok.glob
 blt:=I.ok.blt
 above:=E
 inj:=fun y z c h1 h2=>I.ok.inj y z c (K.cl g I.ok y c h1) (K.cl g I.ok z c h2)
 has:=fun y G=>Xz (Xa (env:=X.env) K.cell G)
 cab:=fun y c h=>by cases h
 hd:=I.ok.hd
 frames:=I.ok.frames
 stk:=.inl rfl
 exf:=fun b hb=>⟨fun e=>absurd (Qaw (f b hb) (Qa0 E (Qd1 (Eq.symm e)))) (Qa6 _),fun y c h=>(d b hb).2.2.2.2.1 y c (K.cl g I.ok y c h)⟩
 bs:=I.bs
 bsz:=Qa0 I.ok.bsz I.sz
 noex:=fun b o e hb=>by
  rcases (d b hb).2.2.2.1 with z | z
  ·exact I.ok.noex b o e z
  ·exact absurd (Qaw (Qat e) (Qa0 I.ok.bsz z)) (Qa6 _)
 exfs:=fun b hb z=>by
  rcases Qas.mp (I.stkSub b z) with e | e
  ·exact (d b hb).2.1 e
  ·exact (d b hb).2.2.1 e
 funs:=I.stack
 frf:=I.stkFree
theorem Zac(K:ZZ S scope N x ys is)(E:X.env.scope=S)(hN:X.N=N)(hk:S.kind=.function)(I:Inv X pins σ H₂ s₂){D:Addr}{tk:Nat}{L:Obj}(hC:s₂.heap.objs.size<=C)(hD:s₂.heap.objs.size<=D)(Y:D≠C)
  (hfp:∀b∈fp,JN X pins H₂ b) (W:∀b∈fp,b < s₂.heap.objs.size) (old:∀b o,s₂.heap.get? b=some o->U.get? b=some o) (hn:U.Ns C fun _=>none) (G:U.get? D=some L) (hod:∀v,L.data≠.cell v) :
  Inv (cxC X (x::ys) scope C s₂ H₂ fp) [(D,L)] (xw is σ none) H₂ { s₂ with heap:=U,toks:=tk }:=by
 have ok:=vj K E I hC hfp W;refine ⟨ok,rfl,I.bare,Un.kept old,⟨_,hn,fun i y v h1 h2 h3=>?_⟩,fun y c h=>?_,I.hok.fresh hC,fun y c h=>I.freeC y c (K.cl E I.ok y c h),fun p hp=>?_,I.hok.kept old,?_⟩
 ·cases i with
  | zero =>
   have d:some (none:Option V)=some (some v):=h2;cases d
  | succ i =>
   have h1':ys[i]?=some y:=h1;have d:(is.map fun i=>(σ[i]?).getD none)[i]?=some (some v):=h2;rw [Qbc] at d;cases hj:is[i]? with
   | none=>rw [hj] at d;cases d
   | some j =>
    rw [hj] at d;have f:(σ[j]?).getD none=some v:=Option.some.inj d;have Z:σ[j]?=some (some v):=by
     cases q:σ[j]? with
     | none=>rw [q] at f;cases f
     | some z=>rw [q] at f;exact congrArg some f
    have hz:(y,j)∈ys.zip is:=by
     obtain ⟨a1,e1⟩:=Qah.mp h1';obtain ⟨a2,e2⟩:=Qah.mp hj;rw [<-e1,<-e2,<-Qft (h:=by rw [Qf2];lia)];exact Qb4 _
    obtain ⟨v1,O⟩:=K.vis _ hz;have g:X.env.kindOf y=some .cell\/X.env.kindOf y=some .free:=by show X.env.scope.names.lookup y=_\/X.env.scope.names.lookup y=_;rw [E];exact K.free _ (qr O) rfl
    obtain ⟨m,hm,hl⟩:=I.loc;obtain ⟨u,r,l⟩:=hl j y v (by rw [hN];exact v1) Z (.inr g);refine ⟨u,r,.inr ?_⟩;rcases l with ⟨l1,_⟩ | ⟨_,c,l2,l3⟩
    ·rcases g with g | g <;> rw [g] at l1 <;> cases l1
    ·obtain ⟨c',J⟩:=Xz (cells:=X.env.cells) (acc:=[]) O
     have e:c'=c:=by have:=K.cl E I.ok y c' J;rw [l2] at this;exact (Option.some.inj this).symm
     subst e;refine ⟨g.imp (YZ (scope:=scope) (by rw [E];exact hk) O) (YH O),c',J,?_⟩;obtain ⟨o,ho,hd⟩:=l3;exact ⟨o,old _ _ ho,hd⟩
 ·obtain ⟨v,o,ho,hd⟩:=I.cell y c (K.cl E I.ok y c h)
  exact ⟨v,o,old _ _ ho,hd⟩
 ·have e:p=(D,L):=by simpa [cxC] using hp
  subst e;refine ⟨G,I.hok.fresh hD,Y,fun z=>?_,hod⟩;obtain ⟨_,o,ho,_⟩:=ok.funs.mem z;exact absurd (Qaw (Qat ho) hD) (Qa6 _)
 ·show (xw is σ none).length=(x::ys).length
  unfold xw;rw [Qan,Qaz,Qan,K.len]
theorem zh(I:Inv X pins σ H₂ s₂){D:Addr}{N':List Str}{L:St}{s':Shared}(G:Inv (cxC X N' scope C s₂ H₂ fp) E L H s')(O:s₂.heap.objs.size<=D)(y:H D=none)
  (f:∀b∈fp,JN X pins H₂ b)  {g:List Value}  (S:B.length<=sizeLine) (r:Vals B g) (hd:s'.heap.get? D=some { cls:=.type "list",data:=.seq g.toArray n }) :
  Inv X pins σ (upd H D (.lst B)) s':=by
 have b:Un (frs X.stack) fp H₂ H s₂.heap s'.heap:=G.base;have ne:∀c o,s₂.heap.get? c=some o->c≠D:=fun c o e z=>absurd (Qaw (Qat e) (Qa0 O (Qd1 (Eq.symm z)))) (Qa6 _);have J:H₂ D=none:=I.hok.fresh O;refine I.call' G.os ⟨b.keep,b.slot,fun c o e n hx=>?_,b.there,fun c xs e=>?_,fun c o u e=>?_,fun c ps e=>?_⟩ (fun c u e=>?_) G.bare fun c hc=>⟨(f c hc).2.2.2.1,(f c hc).2.1,(f c hc).2.2.2.2.1,(f c hc).2.2.2.2.2⟩
 ·rw [Zs (ne c o e)];exact b.free c o e n hx
 ·rw [Zs (Z9 e J)];exact b.tups c xs e
 ·rw [Zs (Z9 e J)];exact b.frzs c o u e
 ·rw [Zs (Z9 e J)];exact b.tbls c ps e
 ·by_cases hc:c=D
  ·subst hc
   rw [Zc] at e;cases e;exact ⟨S,g,n,r,hd⟩
  ·rw [Zs hc] at e
   exact (G.hok c u e).stay (fun _ _ _ q=>q) (fun d q=>by rw [Zs (Z9 q y)];exact q) fun d xs q=>by rw [Zs (Z9 q y)];exact q
end
section
variable {prog:Program}{w:World}{A:Around}{R:Result->Shared->Prop}{s:Shared}
theorem JZ{d iter:Expr}{scope:Scope}{pos:Pos}{it acc:Value}{env:Env}(I:Nat->Shared->Prop)
  (Z:∀n s,I n s->wpAny (model prog w) A (pyNext it) (fun r y=>match r with
   | none=>R (.ok .next) y
   | some v=>wpAny (model prog w) A (letOwnedTupleGo d it v) (fun _ f=>wpAny (model prog w) A (assign d env v) (fun _ s₂ =>
     wpAny (model prog w) A (forIn L true fun c r=>if r=true then do let ok <-isTrue c env (eval c env);pure (ForInStep.yield ok) else pure (ForInStep.yield r)) (fun ok g =>
      if ok=true then wpAny (model prog w) A (eval o env) (fun x J =>
       wpAny (model prog w) A (call (.builtin "list.append") [acc,x]) (fun _ G=>∃m,m < n/\I m G) (fun _ _=>False) J) (fun _ _=>False) g
      else ∃m,m < n/\I m g) (fun _ _=>False) s₂) (fun _ _=>False) f) (fun _ _=>False) y) (fun _ _=>False) s)
  (n:Nat) (h:I n s) :
  codeAny (model prog w) A (.compLoop (.ListComp o [⟨d,iter,L,0⟩] scope pos) 0 it acc env) R s:=by
 refine codeAny_loop rfl I (fun n s hI=>?_) n h;show wpAny _ A ((compTurn (.ListComp o [⟨d,iter,L,0⟩] scope pos) 0 it acc env).onRaise (fun x=>do noteFrame x env;theTreesLotGoes x)) _ _ s;refine wpAny_noted ?_;rw [compTurn_list];have W:∀{E:Value->Shared->Prop} (e:Value) (s':Shared),False->E e s':=fun _ _ z=>z.elim;refine Qaa (Qes (Qaa (Qcg (Z n s hI) (fun r y S=>?_) W)));cases r with
 | none=>exact Qaj S
 | some v =>
  refine Qaa (Qcg S (fun _ f U=>?_) W);refine Qaa (Qcg U (fun _ s₂ h₂=>Qaa (Qcg h₂ (fun ok g O=>?_) W)) W);cases ok with
  | false=>exact Qaj ⟨rfl,O⟩
  | true =>
   exact Qaa (Qaa (Qcg O (fun x J Y=>Qaa (Qcg Y (fun _ G h₅=>Qaj (Qaj ⟨rfl,h₅⟩)) W)) W))
end
def wa(is:List Nat)(tc:TT)(te:TE)(σ:St)(Q:VK)(J:It)(H1:Hp):Prop:=∃W:Nat->Nat->List V->Hp->Prop,(∃m,W 0 m [] H1)/\∀i m zs H,W i m zs H ->
 (J.stop i H/\zs.length<=sizeLine/\∀p,H p=none->Q (.ref p) (upd H p (.lst zs))) \/
 (J.go i H/\zs.length<=sizeLine/\∀x H',J.yld i H x H'->tc (xw is σ (some x)) H' fun b H2=>if b=true then te (xw is σ (some x)) H2 fun y f=>∃d,d < m/\W (i + 1) d (zs++[y]) f else ∃d,d < m/\W (i + 1) d zs H2)
def tComp(wi:TI)(is:List Nat)(tc:TT)(te:TE):TE:=fun σ H Q=>wi σ H (wa is tc te σ Q)
section
variable {X:Cx}{S scope:Scope}{N:List Str}{x:Str}{ys:List Str}{is:List Nat}{pins:List (Addr × Obj)}{σ:St}{H₂:Hp}{s₂:Shared}{fp:List Addr}{elt iter:Expr}{px pos:Pos}{ifs:List Expr}{tc:TT}{te:TE}
theorem jT{J:It}{it:Addr}{tn:Nat->Heap->Prop}{Q:VK}{RR:Value->Addr->Result->Shared->Prop}{E:Value->Shared->Prop}(K:ZZ S scope N x ys is)(hX:X.env.scope=S)(hN:X.N=N)(hk:S.kind=.function)(hc:X.calm=true)
  (hf:∀C s₂ H₂ ex,QF (cxC X (x::ys) scope C s₂ H₂ ex) ifs tc) (he:∀C s₂ H₂ ex,QE (cxC X (x::ys) scope C s₂ H₂ ex) elt te)
  (I:Inv X pins σ H₂ s₂) (T:Turn X.prog X.w X.K (.Name x px) J fp it tn) (st:tn 0 s₂.heap) (Z:∀b∈fp,JN X pins H₂ b)
  {W:Nat->Nat->List V->Hp->Prop} {m0:Nat} (w0:W 0 m0 [] H₂)
  (turn:∀i m zs H,W i m zs H->(J.stop i H/\zs.length<=sizeLine/\∀p,H p=none->Q (.ref p) (upd H p (.lst zs))) \/
   (J.go i H/\zs.length<=sizeLine/\∀x H',J.yld i H x H'->tc (xw is σ (some x)) H' fun b H2=>if b=true then te (xw is σ (some x)) H2 fun y H3=>∃O,O < m/\W (i + 1) O (zs++[y]) H3 else ∃O,O < m/\W (i + 1) O zs H2))
  (fin:∀D C s' H' O,Inv X pins σ H' s'->JN X pins H' C->s'.heap.Ns C O->Q (.ref D) H'->RR (.ref D) C (.ok .next) s') :
  wpAny (model X.prog X.w) X.A (newList []) (fun acc L=>wpAny (model X.prog X.w) X.A (newFunctionEnv scope X.env.globals (GS X.env.cells scope.names []) [] X.env.qual none .none (some X.env)) (fun cenv s₄ =>
   codeAny (model X.prog X.w) X.A (.compStart (.ListComp elt [⟨.Name x px,iter,ifs,0⟩] scope pos) 0 (.ref it) acc { cenv with scope:=relabel scope X.env }) (RR acc cenv.locals) s₄) E L) E s₂:=by
 refine Qbh (Qeq K.cell (by intro y hy;simp at hy) (fun U G f=>?_) K.kind);dsimp only at G f ⊢;generalize hH2:s₂.heap.push { cls:=.type "list",dict:=none,data:=.seq ([]:List Value).toArray }=H2 at G f ⊢;have hCs:H2.objs.size=s₂.heap.objs.size + 1:=by rw [<-hH2,Qbv]
 have Y:s₂.heap.objs.size≠H2.objs.size:=by rw [hCs];exact Qbf (Qdg _)
 have hC:s₂.heap.objs.size<=H2.objs.size:=by rw [hCs];exact Qey _
 have hlt:∀b∈fp,b < s₂.heap.objs.size:=fun b hb=>by obtain ⟨o,e,_⟩:=T.obj 0 _ st b hb;exact Qat e
 have old:∀b o,s₂.heap.get? b=some o->U.get? b=some o:=fun b o e=>f.extBut b o (by rw [hCs];exact Qbf (Qeg (Qat e))) (Qac _ (hH2 ▸ Qac _ e));have hacc:U.get? s₂.heap.objs.size=some { cls:=.type "list",data:=.seq ([]:List Value).toArray 0 }:=f.extBut _ _ Y (Qac _ (hH2 ▸ Qau _ rfl));have st₁:tn 0 U:=T.keep _ _ _ st fun b _ o e=>old b o e;have fpC:∀{H':Hp} {pl:List (Addr × Obj)},(∀p∈pl,∀b∈fp,p.1≠b)->(∀b∈fp,H' b=none)->∀b∈fp,JN (cxC X (x::ys) scope H2.objs.size s₂ H₂ fp) pl H' b:=fun {H' pl} hpl hn b hb=>by
  have ok:=vj K hX I hC Z hlt;exact ⟨hn b hb,(ok.exf b hb).1,ok.exfs b hb,.inl hb,(ok.exf b hb).2,fun p hp=>hpl p hp b hb⟩
 have Dfp:∀(o:Obj),∀p∈[(s₂.heap.objs.size,o)],∀b∈fp,p.1≠b:=fun o p hp b hb e=>by
  have e1:p=(s₂.heap.objs.size,o):=by simpa using hp
  subst e1;exact absurd (hlt b hb) (by rw [<-e];exact Qa6 _)
 have loop:∀L:Shared,L={ s₂ with heap:=U,toks:=s₂.toks + ([]:List (Str × Value)).length } ->
   codeAny (model X.prog X.w) X.A (.compLoop (.ListComp elt [⟨.Name x px,iter,ifs,0⟩] scope pos) 0 (.ref it) (.ref s₂.heap.objs.size) (compEnvC scope (GS X.env.cells scope.names []) H2.objs.size X.env))
    (RR (.ref s₂.heap.objs.size) H2.objs.size) L:=by
  rintro L rfl;have I0:=Zac K hX hN hk I (tk:=s₂.toks + ([]:List (Str × Value)).length) hC (Qao _) Y Z hlt old G hacc (fun v z=>by cases z);refine JZ (fun n s'=>∃(i:Nat) (v0:Option V) (zs:List V) (g:List Value) (k:Nat) (H':Hp),Inv (cxC X (x::ys) scope H2.objs.size s₂ H₂ fp) [(s₂.heap.objs.size,{ cls:=.type "list",data:=.seq g.toArray k })] (xw is σ v0) H' s' /\
   Vals zs g/\tn i s'.heap/\(∀b∈fp,H' b=none)/\W i n zs H') ?_ m0 ⟨0,none,[],[],0,H₂,I0,.nil,st₁,fun b hb=>(Z b hb).1,w0⟩
  rintro n s3 ⟨i,v0,zs,g,k,H3,I3,rv,st3,fr3,w3⟩;have hD3:=I3.pin _ (Qaf _ (Qai.mpr rfl));rcases turn i n zs H3 w3 with ⟨stop,hz,q⟩ | ⟨go,hz,step⟩
  ·refine thn (T.done (cxC X (x::ys) scope H2.objs.size s₂ H₂ fp) rfl rfl rfl hc i _ s3 _ H3 _ I3 (fpC (Dfp _) fr3) st3 stop) fun r s4 ⟨hr,I4⟩=>?_
   subst hr;have hD4:=I4.pin _ (Qaf _ (Qai.mpr rfl));have I5:=zh I I4 (Qao _) hD4.2.1 Z hz rv hD4.1;obtain ⟨O,hm',_⟩:=I4.loc;refine fin _ _ s4 _ O I5 ?_ hm' (q _ hD4.2.1);refine I.fpOk hC ?_;rw [Zs (Qcd Y)];exact I4.free
  ·refine thn (T.item (cxC X (x::ys) scope H2.objs.size s₂ H₂ fp) rfl rfl rfl hc i _ s3 _ H3 _ I3 (fpC (Dfp _) fr3) st3 go) fun r s4 ⟨u,hr,h4⟩=>?_
   subst hr;refine thn h4 fun _ s5 ⟨xv,H5,I5,r5,y5,st5,fr5⟩=>?_;have I5':=I5.pinned (fpC (Dfp _) fr5) (T.obj _ _ st5);have pg:PG (cxC X (x::ys) scope H2.objs.size s₂ H₂ fp) (.Name x px) (W0 0):=W2 K.nd rfl (.inl (Qbj K.own)) (.inr (Qbj K.own));refine thn (pg _ s5 _ H5 xv u (fun σ2 H2=>σ2=xw is σ (some xv)/\H2=H5) I5' r5 ⟨rfl,rfl⟩) fun _ s6 ⟨σ6,H6,I6,e6,e6'⟩=>?_;subst e6;subst e6';have back:∀{s7:Shared} {H7:Hp},Inv (cxC X (x::ys) scope H2.objs.size s₂ H₂ fp) ([(s₂.heap.objs.size,{ cls:=.type "list",data:=.seq g.toArray k })]++JV fp s5.heap) (xw is σ (some xv)) H7 s7 ->
     tn (i + 1) s7.heap/\(∀b∈fp,H7 b=none)/\s7.heap.get? s₂.heap.objs.size=some { cls:=.type "list",data:=.seq g.toArray k }/\H7 s₂.heap.objs.size=none:=fun {s7 H7} I7=>by
    refine ⟨T.keep _ _ _ st5 fun b hb o e=>(I7.pin (b,o) (Qaf _ (Qaf _ (Yo hb e)))).1,fun b hb=>?_,?_,?_⟩
    ·obtain ⟨o,e,d⟩:=T.obj _ _ st5 b hb
     exact (I7.pin (b,o) (Qaf _ (Qaf _ (Yo hb e)))).2.1
    ·exact (I7.pin (s₂.heap.objs.size,{ cls:=.type "list",data:=.seq g.toArray k }) (Qaf _ (Qay _ (Qai.mpr rfl)))).1
    ·exact (I7.pin (s₂.heap.objs.size,{ cls:=.type "list",data:=.seq g.toArray k }) (Qaf _ (Qay _ (Qai.mpr rfl)))).2.1
   refine thn ((hf _ _ _ _).out _ s6 _ H6 _ I6 (step xv H6 y5)) fun b s7 ⟨H7,I7,q7⟩=>?_;cases b with
   | false =>
    have q7':∃O,O < n/\W (i + 1) O zs H7:=by simpa using q7
    obtain ⟨O,hm',w7⟩:=q7';obtain ⟨b1,b2,b3,b4⟩:=back I7;rw [Qa5 Qav];exact ⟨O,hm',i + 1,some xv,zs,g,k,H7,I7.unpinned,rv,b1,b2,w7⟩
   | true =>
    rw [Qa4 rfl];have q7':=q7;rw [Qa4 rfl] at q7';refine thn ((he _ _ _ _).out _ s7 _ H7 _ I7 q7') fun yv s8 ⟨y,H8,I8,r8,O,hm',w8⟩=>?_;obtain ⟨b1,b2,b3,b4⟩:=back I8;refine append_at b3 (fun h9 sb9 e9=>?_) (by rw [Qak,<-rv.length];exact hz);have ok:=vj K hX I hC Z hlt;have I8':Inv (cxC X (x::ys) scope H2.objs.size s₂ H₂ fp) [] (xw is σ (some xv)) H8 s8:=I8.pins_of fun p hp=>by cases hp
    have I9:Inv (cxC X (x::ys) scope H2.objs.size s₂ H₂ fp) [] (xw is σ (some xv)) H8 { s8 with heap:=h9 }:=I8'.turned (t':=s8.toks) (it:=s₂.heap.objs.size) (fun b o hb e=>(sb9.2 b hb).trans e) b4 Y (.inr (Qao _))
     (fun y c h z=>by
      obtain ⟨v,o,ho,_⟩:=I.cell y c (K.cl hX I.ok y c h);have:=Qat ho;rw [z] at this;exact Qa6 _ this) (fun p hp=>by cases hp)
    refine ⟨O,hm',i + 1,some xv,zs++[y],g++[yv],k + 1,H8,?_,rv.append (.cons r8 .nil),T.keep _ _ _ b1 fun b hb o e=>(sb9.2 b fun z=>absurd (hlt b hb) (by rw [z];exact Qa6 _)).trans e,b2,w8⟩;refine I9.pins_of fun p hp=>?_;have e1:p=(s₂.heap.objs.size,{ cls:=.type "list",data:=.seq (g++[yv]).toArray (k + 1) }):=by simpa using hp
    subst e1;refine ⟨by rw [e9,Qfi],b4,Y,fun z=>?_,fun v z=>by cases z⟩;obtain ⟨_,o,ho,_⟩:=ok.funs.mem z;exact absurd (Qat ho) (Qa6 _)
 exact Qec (loop _ rfl) (T.self _ 0 _ _ _ st₁ (loop _ rfl))
end
section
variable {X:Cx}{S scope:Scope}{N:List Str}{x:Str}{ys:List Str}{is:List Nat}{elt iter:Expr}{px pos:Pos}{ifs:List Expr}{wi:TI}{tc:TT}{te:TE}
theorem qt(K:ZZ S scope N x ys is)(hi:QI X (.Name x px) iter wi)(hf:∀C s₂ H₂ ex,QF (cxC X (x::ys) scope C s₂ H₂ ex) ifs tc)(he:∀C s₂ H₂ ex,QE (cxC X (x::ys) scope C s₂ H₂ ex) elt te)
  (hc:X.calm=true:=by rfl) (E:X.env.scope=S:=by rfl) (hN:X.N=N:=by rfl) (hk:S.kind=.function:=by rfl) (hs:∀v,foldedSetIterable iter X.env v=pure v:=by intro _;rfl) :
  QE X (.ListComp elt [⟨.Name x px,iter,ifs,0⟩] scope pos) (tComp wi is tc te):=by
 refine ⟨fun pins s σ H Q I h=>?_⟩;rw [eval_ListComp];refine Qd2 (use:=none) rfl hs (Jh (K.cellOf' E I.ok)) K.kind K.names (thn (hi.out pins s σ H _ I h) fun v s1 h1=>thn h1 fun Y s2 h2=>?_);obtain ⟨it,fp,tn,J,H2,rfl,U,T,f,G,W,⟨m0,w0⟩,d⟩:=h2;refine jT (RR:=fun acc C=>compPost (model X.prog X.w) X.A X.xe none (EP X pins σ Q) acc C) K E hN hk hc hf he U T f G w0 d ?_;intro D C s' H' Z O fC y q;obtain ⟨f0,f1,f3,f4,f5,L⟩:=fC;exact ⟨Z,y,fun h' g=>⟨.ref D,H',O.turned (t':=s'.toks) (fun b o hb e=>(g.2 b hb).trans e) f0 f1 f4 f5 L,rfl,q⟩⟩
end
theorem qu{xs:List V}{is:List Nat}{σ:St}{Q:VK}(f:Nat->List V->Hp->Prop)(L:f 0 [] H)(hl:∀i zs H,f i zs H->zs.length<=sizeLine)(E:∀i zs H,f i zs H->SqT K H a xs)
  (hs:∀i x zs H (R:List V->Hp->Prop),(∀zs H,f (i + 1) zs H->R zs H)->xs[i]?=some x->f i zs H->I (xw is σ (some x)) H fun b H2=>if b=true then d (xw is σ (some x)) H2 fun y J=>R (zs++[y]) J else R zs H2)
  (hd:∀zs H,f xs.length zs H->∀p,H p=none->Q (.ref p) (upd H p (.lst zs))) :
  wa is I d σ Q (Itt K a) H:=by
 refine ⟨fun i m zs H=>m=xs.length - i/\i<=xs.length/\f i zs H,⟨xs.length,by simp,Qa8 _,L⟩,?_⟩;rintro i m zs H ⟨rfl,hi,p⟩
 by_cases g:i < xs.length
 ·refine .inr ⟨⟨xs,xs[i],E i zs H p,Qag g⟩,hl i zs H p,fun x H' y=>?_⟩
  obtain ⟨e,y⟩:=y;subst e;exact hs i x zs _ (fun zs H=>∃G,G < xs.length - i/\G=xs.length - (i + 1)/\i + 1<=xs.length/\f (i + 1) zs H) (fun zs H q=>⟨xs.length - (i + 1),by lia,rfl,g,q⟩) (y xs (E i zs _ p)) p
 ·have e:i=xs.length:=by lia
  exact .inl ⟨⟨xs,E i zs H p,by lia⟩,hl _ _ _ p,by rw [e] at p;exact hd zs H p⟩
end L2
namespace HT
open PySem PySem.Spec PyProof.Rows
section
variable {prog:Program}{w:World}{A:Around}{E:Value->Shared->Prop}{s:Shared}
end
end HT
namespace L2
open PySem PySem.Spec PyProof.Rows
section
variable {X:Cx}{e st:Expr}{te ts:TE}{pos p2:Pos}
end
theorem We{k:Nat}{A:Around}(hr:WJ k A):A.units < cLine:=hr.units0
end L2
namespace RvT
open PySem PySem.Spec PyProof.Rows
theorem vk:Manifest.owners.lookup (String.ofList ['d','e','s','r','e','v','e','r'].reverse)=some Manifest.sig_reversed:=by kernel_rfl
theorem slot_next:Slot "reversed" "__next__" "reversed.__next__" :=
 .of (owner := "reversed") (n := "__next__") (by rw [Qf3,Qej];kernel_rfl) (by decide +kernel) (by decide +kernel) (by decide +kernel)
  (by first | exact .inl (by decide +kernel) | exact .inr (by decide +kernel)) (by rw [Qfa];kernel_rfl)
theorem entry_next:entryFor table "reversed.__next__" = some Builtin.«reversed.__next__»:=entryFor_of_tree (by kernel_rfl)
theorem args_next (a:Value):argsOk "reversed.__next__" ⟨[a],[]⟩:=by
 unfold argsOk;rw [signature?_of (id := "reversed.__next__") (n:=['_','_','t','x','e','n','_','_']) (o:=['d','e','s','r','e','v','e','r']) (by kernel_rfl) vk];kernel_rfl
theorem zi:typeLookup (.type "tuple") "__reversed__" = pure none:=by rw [Qf3,Qej];kernel_rfl
theorem sub_tuple_dict:isSubtype (.type "tuple") (.type "dict")=pure false:=by rw [Qfa];kernel_rfl
def revObj (t:Addr) (i:Int):Obj:={ cls:=.type "reversed",data:=.fields #[.ref t,rawInt i] }
def xx (h:Heap) (a t:Addr) (i:Int):Prop:=∃o,h.get? a=some o/\o.cls=.type "reversed" /\ o.data=.fields #[.ref t,rawInt i]
theorem xx.typeIs {s:Shared}  {i:Int} (x:xx s.heap a C i):s.TypeIs (.ref a) "reversed" := let ⟨o,ho,hc,_⟩:=x;⟨o,ho,hc⟩
theorem xx.at{h':Heap}{i:Int}(x:xx h a C i)(e:∀o,h.get? a=some o->h'.get? a=some o):xx h' a C i:=let ⟨o,ho,r⟩:=x;⟨o,e _ ho,r⟩
section
variable {prog:Program}{w:World}{A:Around}{E:Value->Shared->Prop}{s:Shared}
theorem Xm(t:Addr)(items:Array Value)(f:items.size < 2 ^ 63) :
  Meets (Builtin.«reversed.__new__» ⟨[.type "reversed",.ref t],[]⟩) (fun _ R s=>IsTup s.heap t items/\∀tk,R (.ok (.ret (.ref s.heap.objs.size))) { s with heap:=s.heap.push (revObj t ((items.size:Int) - 1)),toks:=tk }) :=
 .of_wp fun prog w A R s h=>by
  obtain ⟨d,h⟩:=h;unfold Builtin.«reversed.__new__»;refine Qaa (Qcu (newClass_reversed _) ?_)
  try dsimp only
  refine Qaa (Qcu (a:=()) (by first | rfl | kernel_rfl) ?_);refine Qaa (Qcu (a:=()) (by first | rfl | kernel_rfl) ?_)
  try dsimp only
  refine Qaa (Qc5 d.typeIs zi ?_)
  try dsimp only
  refine Qaa ?_;show wpAny _ _ (isInstance (Value.ref t) (.type "dict") >>= _) _ _ _;refine Qaa (Qcs (T := "tuple") (b:=false) d.typeIs sub_tuple_dict ?_);simp only [Qc1,Qfm];refine Qaa (Qc5 d.typeIs Qbe.lookup ?_)
  try dsimp only
  rw [Qa4 (by decide +kernel)];refine Qaj ?_;simp only [Bool.not_true,Qc1,Qfm];refine Qaa (len_tuple d (by lia) ?_);refine Qaa (Qcu (a:=some (items.size:Int)) rfl ?_)
  try dsimp only
  refine Qaa (m:=newObj (.type "reversed") (.fields #[.ref t,rawInt ((items.size:Int) - 1)])) (Qbh ?_);exact Qaj ⟨_,rfl,h _⟩
theorem next_item{it:Addr}{x:Value}{Q:Option Value->Shared->Prop}(d:xx s.heap it C (i:Int))(f:IsTup s.heap C q)(hi:(i:Int) < 2 ^ 63)(hx:q[i]?=some x)(y:C≠it)
  (g:∀h' tk,xx h' it C ((i:Int) - 1)->Heap.SameBut it s.heap h'->Q (some x) { s with heap:=h',toks:=tk }):wpAny (model prog w) A (pyNext (.ref it)) Q E s:=by
 obtain ⟨o,ho,hc,hd⟩:=id d;unfold pyNext;refine Qaa (Qcm (wpAny_callSpecial?_slot (name:=Str.ofString "__next__") d.typeIs slot_next
  (Qbr slot_next d.typeIs entry_next ?_ (args_next _))))
 unfold Builtin.«reversed.__next__»;refine Qaa (Qcu (a:=(Value.ref it,[])) rfl ?_)
 try dsimp only
 refine Qaa (Qa2 ho hd (x:=.ref C) rfl ?_);refine Qaa (Qa2 ho hd (x:=rawInt (i:Int)) rfl ?_);show wpAny _ _ (if (i:Int) < 0 then _ else _) _ _ s;rw [Qa5 (by lia)];refine Qaa (Qc5 f.typeIs Qbe.lookup ?_);simp only [Option.isNone_some,Qc1,Qfm];refine Qaa (Qez ?_);have hsz:=(Qcw.mp hx).1;refine Qaa (Qcm (getItem_tuple (s:={ s with toks:=s.toks + 1 }) (j:=i) f (by lia) hi (by rw [Qf8 (by lia) (by lia),Qbw]) hx ?_));show wpAny _ _ (field (.ref it) 1 >>= _) _ _ _;refine Qaa (Qa2 (s:={ s with toks:=s.toks + 1 }) ho hd (x:=rawInt (i:Int)) rfl ?_);show wpAny _ _ (setField (.ref it) 1 (rawInt ((i:Int) - 1)) >>= _) _ _ _;refine Qaa (Qcn (s:={ s with toks:=s.toks + 1 }) ho hd (by simp) ?_);refine Qaj ⟨x,rfl,Qaj (g _ _ ?_ (Qdb ..))⟩;exact ⟨_,Qb9 _ ho (Qcp (Qbn hd _)),(Qdt ..).trans hc,by
  rw [Qbn hd];simp⟩
theorem next_end{it:Addr}{Q:Option Value->Shared->Prop}(hh:A.handled=none)(d:xx s.heap it C (-1))
  (g:∀h',(∀b o,b≠it->s.heap.get? b=some o->h'.get? b=some o)->Q none { s with heap:=h' }):wpAny (model prog w) A (pyNext (.ref it)) Q E s:=by
 obtain ⟨o,ho,hc,hd⟩:=id d;unfold pyNext;refine Qaa (Qcm (wpAny_callSpecial?_slot (name:=Str.ofString "__next__") d.typeIs slot_next
  (Qbr slot_next d.typeIs entry_next ?_ (args_next _))))
 unfold Builtin.«reversed.__next__»;refine Qaa (Qcu (a:=(Value.ref it,[])) rfl ?_)
 try dsimp only
 refine Qaa (Qa2 ho hd (x:=.ref C) rfl ?_);refine Qaa (Qa2 ho hd (x:=rawInt (-1)) rfl ?_);show wpAny _ _ (if (-1:Int) < 0 then _ else _) _ _ s;rw [Qa4 (by decide)];refine Qaa (Qdj ?_);refine Qaa ?_;show wpAny _ _ (setField (.ref it) 1 (rawInt (-1)) >>= _) _ _ _;refine Qaa (Qcn ho hd (by simp) ?_);have f:=Qb9 (Obj.mapFields (·.setIfInBounds 1 (rawInt (-1)))) ho (Qcp (Qbn hd _));refine Qcn f (Qbn hd _) (by simp) ?_
 first
 | show wpAny _ _ (newExc (.type "StopIteration") [] >>= _) _ _ _
 | (refine Qaa ?_;show wpAny _ _ (newExc (.type "StopIteration") [] >>= _) _ _ _)
 refine Qaa ?_;simp only [newExc,newTuple];refine Qaa (Qbh ?_ (by size_fits));refine Qaa (m:=firstArgMember _ _) (Qcu (a:=Value.none) (by first | rfl | (simp only [firstArgMember];rfl)) ?_);refine Qbh ?_ (by size_fits);simp only [raiseNew];refine Qaa (wpAny_handled ?_)
 first | rw [show A.in1.handled=none from hh] | rw [hh]
 refine Qaa (Qaj (wpAny_throw ?_));refine Qaa (Qcs (T := "StopIteration") (b:=true) ⟨_,Qau _ rfl,rfl⟩ Qfb ?_);refine Qaj (g _ fun b ob hb e=>?_);exact Qac _ (Qac _ ((Qby _ _ (Qcd hb)).trans ((Qby _ _ (Qcd hb)).trans e)))
end
end RvT
namespace L2
open PySem PySem.Spec PyProof.Rows
def Itv(K:PySem.W.Frag)(a:Addr)(n:Nat):It :=
 ⟨fun i H=>∃xs x,SqT K H a xs/\xs.length=n/\xs.reverse[i]?=some x,fun i H x H'=>H'=H/\∀xs,SqT K H a xs->xs.reverse[i]?=some x,fun i _=>i=n⟩
inductive iRev_i(K:PySem.W.Frag)(R:It->Hp->Prop)(x:V)(H1:Hp):Prop
 | mk (a xs:_):(x=.ref a)->(SqT K H1 a xs)->(R (Itv K a xs.length) H1)->iRev_i K R x H1
end L2
namespace HT
open PySem PySem.Spec PyProof.Rows
section
variable {prog:Program}{w:World}{A:Around}{E:Value->Shared->Prop}{s:Shared}
theorem getItem_tuple_whole{vu:Value}{lo hi:Option Int}(f:IsTup s.heap a q)(hs:s.heap.IsSliceOf C v vu .none)(I:IsPart v lo)(L:IsPart vu hi)
  (hw:sIx q.size 0 lo=0/\sIx q.size q.size hi=q.size) (h:Q (.ref a) s):wpAny (model prog w) A (getItem (.ref a) (.ref C)) Q E s:=by
 obtain ⟨os,G,y,J⟩:=id hs;have g:s.TypeIs (.ref C) "slice" := ⟨os,G,y⟩;unfold getItem
 try with_reducible refine Qb3 ?_
 first | refine Qaa (Qaj ?_) | skip
 refine Qaa (wpAny_sequenceKey f.typeIs (by decide) ?_);refine Qaa (wpAny_callSpecial?_slot (name:=Str.ofString "__getitem__") f.typeIs Qbe
  (Qbr Qbe f.typeIs entry_tuple_getitem ?_ (args_tuple_getitem _ _)))
 show wpAny _ _ (Builtin.Tuple.tupleItemsOf (.ref a) >>= _) _ _ s;refine Qaa (tupleItemsOf_ f ?_);refine Qaa (wpAny_typeOf g ?_);rw [Qa4 (by decide)];refine Qaa (X8 hs I L ?_);have d:(((sIx q.size 0 lo:Nat):Int) == 0 && (1:Int) == 1 && (sIx q.size q.size hi - sIx q.size 0 lo) == q.size)=true:=by
  rw [hw.1,hw.2];simp
 show wpAny _ _ (if (((sIx q.size 0 lo:Nat):Int) == 0 && (1:Int) == 1 && (sIx q.size q.size hi - sIx q.size 0 lo) == q.size)=true then _ else _) _ _ s;rw [Qa4 d];refine Qaa (m:=Builtin.Tuple.tupleIsExact (.ref a)) (Qaa (wpAny_typeOf f.typeIs (Qaj ?_)));rw [Qa4 (by decide)]
 first
  | exact Qaa (Qdj (Qaa (Qaj (Qaj ⟨_,rfl,Qaj h⟩))))
  | exact Qaa (Qdj (Qaj ⟨_,rfl,Qaj h⟩))
  | exact Qaa (Qdj (Qaa (Qaj ⟨_,rfl,Qaj h⟩)))
end
end HT
namespace L2
open PySem PySem.Spec PyProof.Rows
section
variable {X:Cx}
inductive gS(K:PySem.W.Frag)(x:V)(lo:Option Int)(hi:Option Int)(H:Hp)(Q:VK):Prop
 | mk (a xs:_):(x=.ref a)->(SqT K H a xs)->((HT.sIx xs.length 0 lo=0/\HT.sIx xs.length xs.length hi=xs.length))->(Q (.ref a) H)->gS K x lo hi H Q
def rSlW(K:PySem.W.Frag):V->Option Int->Option Int->Hp->VK->Prop:=fun x lo hi H Q=>gS K x lo hi H Q
theorem Xf:SlR X (rSlW X.K):=by
 intro pins s σ H x v J vu lo hi L Q I E hs y G h;obtain ⟨a,xs,rfl,hx,hw,q⟩:=h;cases E;obtain ⟨f,r,g,O⟩:=I.tuple hx;have d:f.toArray.size=xs.length:=by rw [Qak];exact r.length.symm
 refine ⟨"tuple",_,Qbe.lookup,g.typeIs,?_⟩;exact HT.getItem_tuple_whole g hs y G (by rw [d];exact hw) ⟨.ref a,H,I,rfl,q⟩
end
theorem vm{xs:List V}{is:List Nat}{σ:St}{Q:VK}(f:Nat->List V->Hp->Prop)(L:f 0 [] H)(hl:∀i zs H,f i zs H->zs.length<=sizeLine)(E:∀i zs H,f i zs H->SqL K H a xs)
  (hs:∀i x zs H (R:List V->Hp->Prop),(∀zs H,f (i + 1) zs H->R zs H)->xs[i]?=some x->f i zs H->I (xw is σ (some x)) H fun b H2=>if b=true then d (xw is σ (some x)) H2 fun y J=>R (zs++[y]) J else R zs H2)
  (hd:∀zs H,f xs.length zs H->∀p,H p=none->Q (.ref p) (upd H p (.lst zs))) :
  wa is I d σ Q (Itl K a) H:=by
 refine ⟨fun i m zs H=>m=xs.length - i/\i<=xs.length/\f i zs H,⟨xs.length,by simp,Qa8 _,L⟩,?_⟩;rintro i m zs H ⟨rfl,hi,p⟩
 by_cases g:i < xs.length
 ·refine .inr ⟨⟨xs,xs[i],E i zs H p,Qag g⟩,hl i zs H p,fun x H' y=>?_⟩
  obtain ⟨e,y⟩:=y;subst e;exact hs i x zs _ (fun zs H=>∃G,G < xs.length - i/\G=xs.length - (i + 1)/\i + 1<=xs.length/\f (i + 1) zs H) (fun zs H q=>⟨xs.length - (i + 1),by lia,rfl,g,q⟩) (y xs (E i zs _ p)) p
 ·have e:i=xs.length:=by lia
  exact .inl ⟨⟨xs,E i zs H p,by lia⟩,hl _ _ _ p,by rw [e] at p;exact hd zs H p⟩
def Its(x:Str):It:=⟨fun i _=>i < x.cps.size,fun i H v H'=>H'=H/\∃c,x.cps[i]?=some c/\v=.str ⟨#[c]⟩,fun i _=>i=x.cps.size⟩
theorem wb    {tg:Expr} (it:Addr) (x:Str) (t:Tok) (T:String) (Y:T = "str_ascii_iterator" \/ T = "str_iterator"):Turn P w K tg (Its x) [it] it (fun i h=>h.IsStrIter it T x t i) where
 mem:=by simp
 obj:=fun i h st b hb=>by
  have e:b=it:=by simpa using hb
  subst e;obtain ⟨o,e,c,d⟩:=st;exact ⟨o,e,fun v z=>by rw [d] at z;cases z⟩
 keep:=fun i h h' st k=>let ⟨o,ho,r⟩:=st;⟨o,k it (by simp) o ho,r⟩
 item:=by
  intro X Z hw hK hc i pins s σ H E I hf st hg;subst Z hw hK;obtain ⟨J,G,f2,O,S,L⟩:=hf it (by simp);rcases Y with rfl | rfl
  ·refine (Walks.strAscii (prog:=X.prog) (w:=X.w) (I.ok.hd hc) it x t).item i s _ _ hg st fun v h' tk hv f g=>?_
   obtain ⟨c,u,y,rfl⟩:=hv;have W:Inv X pins σ H { s with heap:=h',toks:=tk }:=I.turned (fun b o hb e=>g b o (by simpa using hb) e) J G O S L;obtain ⟨o,e,U,d⟩:=id f;exact ⟨_,rfl,jK (s:={ s with heap:=h',toks:=tk }) e U d (by decide) ⟨.str ⟨#[c]⟩,H,W,⟨_,rfl⟩,⟨rfl,c,y,rfl⟩,f,fun b hb=>(hf b hb).1⟩⟩
  ·refine (Walks.strWide (prog:=X.prog) (w:=X.w) (I.ok.hd hc) it x t).item i s _ _ hg st fun v h' tk hv f g=>?_
   obtain ⟨c,u,y,rfl⟩:=hv;have W:Inv X pins σ H { s with heap:=h',toks:=tk }:=I.turned (fun b o hb e=>g b o (by simpa using hb) e) J G O S L;obtain ⟨o,e,U,d⟩:=id f;exact ⟨_,rfl,jK (s:={ s with heap:=h',toks:=tk }) e U d (by decide) ⟨.str ⟨#[c]⟩,H,W,⟨_,rfl⟩,⟨rfl,c,y,rfl⟩,f,fun b hb=>(hf b hb).1⟩⟩
 done:=by
  intro X Z hw hK hc i pins s σ H E I hf st hg;subst Z hw hK;obtain ⟨J,G,f2,O,S,L⟩:=hf it (by simp);have hg':i=x.cps.size:=hg;subst hg';rcases Y with rfl | rfl
  ·exact (Walks.strAscii (prog:=X.prog) (w:=X.w) (I.ok.hd hc) it x t).done s _ _ st fun h' tk g=>⟨rfl,I.turned (t':=tk) (fun b o hb e=>g b o (by simpa using hb) e) J G O S L⟩
  ·exact (Walks.strWide (prog:=X.prog) (w:=X.w) (I.ok.hd hc) it x t).done s _ _ st fun h' tk g=>⟨rfl,I.turned (t':=tk) (fun b o hb e=>g b o (by simpa using hb) e) J G O S L⟩
 self:=fun A i s Q E st h=>by
  rcases Y with rfl | rfl
  ·exact wpAny_pyIter_striter_ascii st h
  ·exact wpAny_pyIter_striter_wide st h
inductive gT(R:It->Hp->Prop)(v:V)(H1:Hp):Prop
 | mk (x:_):(v=.str x)->(R (Its x) H1)->gT R v H1
def iStr(te:TE):TI:=fun σ H R=>te σ H fun v H1=>gT R v H1
theorem qi_str{X:Cx}{tg l:Expr}(hl:QE X l d):QI X tg l (iStr d):=by
 refine ⟨fun pins s σ H R I h=>?_⟩;refine thn (hl.out pins s σ H _ I h) fun v f ⟨y,H1,g,J,G⟩=>?_;obtain ⟨x,rfl,q⟩:=G;obtain ⟨t,rfl⟩:=J;have E:∀(o:Obj) (T:String),(T = "str_ascii_iterator" \/ T = "str_iterator")->(f.heap.push o).IsStrIter f.heap.objs.size T x t 0->PIE X pins σ tg R (.ref f.heap.objs.size) { f with heap:=f.heap.push o }:=fun o T L st =>
  ⟨f.heap.objs.size,[f.heap.objs.size],_,_,H1,rfl,g.kept (t':=f.toks) fun b o e=>Qac _ e,wb _ x t T L,st,fun b hb=>by
   have e:b=f.heap.objs.size:=by simpa using hb
   subst e;exact g.fpOk (Qao _) (g.hok.fresh (Qao _)),q⟩
 cases ha:x.cps.all (· < 128)
 ·exact wpAny_pyIter_wide ha (E _ "str_iterator" (.inr rfl) ⟨_,Qau _ rfl,rfl,rfl⟩)
 ·exact wpAny_pyIter_ascii ha (E _ "str_ascii_iterator" (.inl rfl) ⟨_,Qau _ rfl,rfl,rfl⟩)
section
variable {X:Cx}
theorem vn (hc:X.calm=true):Xk X (.builtin "all") (fun xs H Q=>∃(p:Addr) (bs:List Bool),xs=[.ref p]/\SqL X.K H p (bs.map V.bl)/\Q (.bl (bs.all id)) H):=by
 intro pins s σ H xs us Q I r h;obtain ⟨p,bs,rfl,U,q⟩:=h;obtain ⟨u,rfl,L⟩:=vals1 r;cases L;obtain ⟨f,J,S,hz⟩:=I.list U;have hl:=S.isList;have E:p < s.heap.objs.size:=by obtain ⟨_,e,_⟩:=hl;exact Qat e
 have d:=J.length;rw [Qaz] at d;refine call_all_walk (Qc4 hl ?_);refine ⟨s.heap.objs.size,[s.heap.objs.size,p],[s.heap.objs.size],f.toArray.size,_,_,fun i=>(bs[i]?).getD true,rfl,Walks.list (A:=X.A.in1) (I.ok.hd hc) _ p (Qbf E) f.toArray,
  ⟨⟨_,Qau _ rfl,rfl,rfl⟩,hl.push _⟩,fun i v s' Y Z O G=>?_,fun h' tk hk=>?_⟩
 ·have hi:f[i]?=some v:=by simpa using O
  have hb:i < bs.length:=by rw [d];exact (Qah.mp hi).1
  obtain ⟨W,e1,e2⟩:=J.get (show (bs.map V.bl)[i]?=some (V.bl bs[i]) by rw [Qbc,Qag hb];rfl);rw [hi] at e1;cases e1;cases e2;simp only [Qag hb,Option.getD_some] at G;exact Qdr G
 ·have e:((List.range f.toArray.size).all fun i=>(bs[i]?).getD true)=bs.all id:=by
   rw [Qak,<-d,Qbu,Qbt,Qbt]
   constructor
   ·intro z b hb
    obtain ⟨i,hi,rfl⟩:=List.getElem_of_mem hb;have:=z i (Qck.mpr hi);simpa [Qag hi] using this
   ·intro z i hi
    have g:=Qck.mp hi;have:=z _ (Qb4 g);simpa [Qag g] using this
  rw [e];refine ⟨.bl (bs.all id),H,I.kept (t':=tk) (fun b o y=>hk b o (fun hm=>?_) (Qac _ y)),rfl,q⟩;rw [Qai.mp hm] at y;exact absurd (Qat y) (Qa6 _)
end
theorem bt_max:bootBuiltins "max" = some (.builtin "max"):=by decide +kernel
theorem bt_min:bootBuiltins "min" = some (.builtin "min"):=by decide +kernel
theorem take_snoc{xs:List D}{x:D}(h:xs[i]?=some x):xs.take (i + 1)=xs.take i++[x]:=by
 rw [List.take_succ,h]
 rfl
section
variable {κ:Type}[DecidableEq κ]
def Y9(kvs:List (κ × V))(k:κ):Option V:=(kvs.find? fun d=>decide (d.1=k)).map (·.2)
def putK(kvs:List (κ × V))(k:κ)(v:V):List (κ × V) :=
 if (kvs.any fun d=>decide (d.1=k))=true then kvs.map (fun d=>if d.1=k then (d.1,v) else d) else kvs++[(k,v)]
def Zcf(kvs:List (κ × V))(k:κ):List (κ × V):=kvs.filter fun d=>decide (d.1≠k)
theorem Ye{p:κ × V}{r:List (κ × V)}{k:κ}(e:p.1=k):Y9 (p::r) k=some p.2:=by simp [Y9,Qc6,e]
theorem ZV{p:κ × V}{r:List (κ × V)}{k:κ}(e:¬p.1=k):Y9 (p::r) k=Y9 r k:=by simp [Y9,Qc6,e]
theorem JO(k:κ):∀kvs:List (κ × V),(kvs.any fun d=>decide (d.1=k))=(Y9 kvs k).isSome
 | []=>rfl
 | p::r=>by
  rw [Qet]
  by_cases e:p.1=k
  ·simp only [Ye e,Qad e,Bool.true_or,Option.isSome_some]
  ·rw [ZV e,Qal e,Bool.false_or];exact JO k r
theorem ja(k j:κ)(y:V):∀kvs:List (κ × V),Y9 (kvs.map fun d=>if d.1=k then (d.1,y) else d) j=(Y9 kvs j).map fun x=>if j=k then y else x
 | []=>rfl
 | p::r=>by
  have f:=ja k j y r;rw [Qa3]
  by_cases h:p.1=k
  ·rw [Qa4 h]
   by_cases e:p.1=j
   ·rw [Ye (p:=(p.1,y)) e,Ye e,Qe0,Qa4 (e.symm.trans h)]
   ·rw [ZV (p:=(p.1,y)) e,ZV e,f]
  ·rw [Qa5 h]
   by_cases e:p.1=j
   ·rw [Ye (p:=p) e,Ye e,Qe0,Qa5 (fun z=>h (e.trans z))]
   ·rw [ZV (p:=p) e,ZV e,f]
theorem xy(k j:κ)(y:V):∀kvs:List (κ × V),Y9 kvs k=none->Y9 (kvs++[(k,y)]) j=if j=k then some y else Y9 kvs j
 | [],_=>by
  by_cases e:k=j
  ·rw [Qa4 e.symm];exact Ye (p:=(k,y)) e
  ·rw [Qa5 (fun z=>e z.symm)];exact ZV (p:=(k,y)) e
 | p::r,hn=>by
  rw [List.cons_append];have hk:¬p.1=k:=fun z=>by rw [Ye z] at hn;cases hn
  rw [ZV hk] at hn;have d:=xy k j y r hn
  by_cases e:p.1=j
  ·rw [Ye e,Ye e,Qa5 (fun z=>hk (e.trans z))]
  ·rw [ZV e,ZV e,d]
theorem Wf(kvs:List (κ × V))(k j:κ)(y:V):Y9 (putK kvs k y) j=if j=k then some y else Y9 kvs j:=by
 unfold putK
 by_cases a:(kvs.any fun d=>decide (d.1=k))=true
 ·rw [Qa4 a,ja]
  rw [JO] at a
  by_cases e:j=k
  ·obtain ⟨x,hx⟩:=Option.isSome_iff_exists.mp a
   rw [Qa4 e,e,hx,Qe0,Qa4 rfl]
  ·rw [Qa5 e]
   cases Y9 kvs j with
   | none=>rfl
   | some x=>rw [Qe0,Qa5 e]
 ·rw [Qa5 a]
  refine xy k j y kvs ?_;rw [JO] at a;cases q:Y9 kvs k with
  | none=>rfl
  | some x=>rw [q] at a;exact (a rfl).elim
theorem zj(kvs:List (κ × V))(k:κ)(v:V):(putK kvs k v).length<=kvs.length + 1:=by
 unfold putK
 split
 ·rw [Qaz];lia
 ·rw [Qab,Qan,Qe1];lia
theorem xc.isSome_eq{o:Option V}{u:Option Value}(r:xc o u):o.isSome=u.isSome:=by
 cases o with
 | none=>cases u with
  | none=>rfl
  | some _=>exact (show False from r).elim
 | some _=>cases u with
  | none=>exact (show False from r).elim
  | some _=>rfl
theorem xc.getD{o:Option V}{u:Option Value}{d:V}{d':Value}(r:xc o u)(f:RelV d d'):RelV (o.getD d) (u.getD d'):=by
 cases o with
 | none=>cases u with
  | none=>exact f
  | some _=>exact (show False from r).elim
 | some _=>cases u with
  | none=>exact (show False from r).elim
  | some _=>exact r
theorem KV.val{kvs:List (κ × V)}{g:List (κ × Value)}(r:KV kvs g)(k:κ):xc (Y9 kvs k) (valueAt g k):=by
 unfold KV at r
 induction r with
 | nil=>exact True.intro
 | @cons p q ps f h t y =>
  obtain ⟨h1,h2⟩:=h
  by_cases e:p.1=k
  ·have d:q.1=k:=h1.symm.trans e
   have b:valueAt (q::f) k=some q.2:=by simp [valueAt,Qc6,d]
   rw [Ye e,b];exact h2
  ·have d:¬q.1=k:=fun z=>e (h1.trans z)
   have b:valueAt (q::f) k=valueAt f k:=by simp [valueAt,Qc6,d]
   rw [ZV e,b];exact y
theorem KV.any{kvs:List (κ × V)}{f:List (κ × Value)}(r:KV kvs f)(k:κ):(kvs.any fun d=>decide (d.1=k))=f.any fun d=>decide (d.1=k):=by
 unfold KV at r
 induction r with
 | nil=>rfl
 | cons h t g=>rw [Qet,Qet,g,h.1]
theorem KV.repl{kvs:List (κ × V)}{f:List (κ × Value)}(r:KV kvs f)(k:κ){u:Value}(E:RelV y u) :
  KV (kvs.map fun d=>if d.1=k then (d.1,y) else d) (f.map fun d=>if d.1=k then (d.1,u) else d):=by
 unfold KV at r ⊢
 induction r with
 | nil=>exact .nil
 | @cons p q ps G h t g =>
  rw [Qa3,Qa3];refine .cons ?_ g;obtain ⟨h1,h2⟩:=h
  by_cases e:p.1=k
  ·rw [Qa4 e,Qa4 (h1.symm.trans e)];exact ⟨h1,E⟩
  ·rw [Qa5 e,Qa5 (fun z=>e (h1.trans z))];exact ⟨h1,h2⟩
theorem KV.put{kvs:List (κ × V)}{d:List (κ × Value)}(r:KV kvs d)(k:κ){u:Value}(f:RelV y u):KV (putK kvs k y) (stored d k u):=by
 unfold putK stored;rw [r.any k]
 by_cases e:(d.any fun g=>decide (g.1=k))=true
 ·rw [Qa4 e,Qa4 e];exact r.repl k f
 ·rw [Qa5 e,Qa5 e];exact Paired.snoc r ⟨rfl,f⟩
theorem KV.drop{kvs:List (κ × V)}{d:List (κ × Value)}(r:KV kvs d)(k:κ):KV (Zcf kvs k) (without d k):=by
 unfold KV at r ⊢;unfold Zcf without
 induction r with
 | nil=>exact .nil
 | @cons p q ps y h t f =>
  obtain ⟨h1,h2⟩:=h;rw [Qfu,Qfu]
  by_cases e:p.1=k
  ·have a:¬decide (p.1≠k)=true:=by simp [e]
   have b:¬decide (q.1≠k)=true:=by simp [h1.symm.trans e]
   rw [Qa5 a,Qa5 b];exact f
  ·have g:¬q.1=k:=fun z=>e (h1.trans z)
   have a:decide (p.1≠k)=true:=by simp [e]
   have b:decide (q.1≠k)=true:=by simp [g]
   rw [Qa4 a,Qa4 b];exact .cons ⟨h1,h2⟩ f
theorem KV.keys{kvs:List (κ × V)}{d:List (κ × Value)}(r:KV kvs d):kvs.map (·.1)=d.map (·.1):=by
 unfold KV at r
 induction r with
 | nil=>rfl
 | cons h t f=>rw [Qa3,Qa3,f,h.1]
theorem KV.length{kvs:List (κ × V)}{d:List (κ × Value)}(r:KV kvs d):kvs.length=d.length:=Paired.length r
end
theorem vo{k:Key}{u:Value}(r:RelV (kV k) u):(ZT P w).is k u=true:=by
 cases k with
 | inl i=>obtain ⟨t,e⟩:=(show ∃t,u=Value.int i t from r);subst e;exact xY P w i t
 | inr x=>obtain ⟨t,e⟩:=(show ∃t,u=Value.str x t from r);subst e;exact Wz P w x t
theorem x4{P:Program}{w:World}:∀{ks:List Key} {d:List Value},Vals (ks.map kV) d->ItemsAre (ZT P w) ks d
 | [],_,r=>by rw [List.map_nil] at r;cases r;exact .nil
 | k::ks,_,r=>by
  rw [Qa3] at r;cases r with
  | cons h t=>exact .cons (vo h) (x4 t)
abbrev KT(H:Hp):List (List Key × V)->List (List Key × Addr × Value)->Prop:=Paired fun p q=>p.1=q.1/\H q.2.1=some (.tup (p.1.map kV))/\RelV p.2 q.2.2
theorem KT.val{kvs:List (List Key × V)}{xs:List (List Key × Addr × Value)}(r:KT H kvs xs)(k:List Key):xc (Y9 kvs k) ((atKey xs k).map (·.2)):=by
 induction r with
 | nil=>exact True.intro
 | @cons p q ps f h t g =>
  obtain ⟨h1,_,h2⟩:=h
  by_cases e:p.1=k
  ·have d:q.1=k:=h1.symm.trans e
   have b:atKey (q::f) k=some q.2:=by simp [atKey,Qc6,d]
   rw [Ye e,b];exact h2
  ·have d:¬q.1=k:=fun z=>e (h1.trans z)
   have b:atKey (q::f) k=atKey f k:=by simp [atKey,Qc6,d]
   rw [ZV e,b];exact g
theorem KT.repl{kvs:List (List Key × V)}{xs:List (List Key × Addr × Value)}(r:KT H kvs xs)(k:List Key){u:Value}(f:RelV y u) :
  KT H (kvs.map fun d=>if d.1=k then (d.1,y) else d) (xs.map (putAt k u)):=by
 induction r with
 | nil=>exact .nil
 | @cons p q ps G h t g =>
  rw [Qa3,Qa3];refine .cons ?_ g;obtain ⟨h1,h2,E⟩:=h;unfold putAt
  by_cases e:p.1=k
  ·rw [Qa4 e,Qa4 (h1.symm.trans e)];exact ⟨h1,h2,f⟩
  ·rw [Qa5 e,Qa5 (fun z=>e (h1.trans z))];exact ⟨h1,h2,E⟩
theorem KT.put{kvs:List (List Key × V)}{xs:List (List Key × Addr × Value)}(r:KT H kvs xs)(k:List Key){b:Addr}{u:Value}(hb:H b=some (.tup (k.map kV)))(d:RelV y u) :
  KT H (putK kvs k y) (storedH xs k b u):=by
 have e:(kvs.any fun f=>decide (f.1=k))=(atKey xs k).isSome:=by
  rw [JO,(r.val k).isSome_eq,Option.isSome_map]
 unfold putK storedH;rw [e]
 by_cases q:(atKey xs k).isSome=true
 ·rw [Qa4 q,Qa4 q];exact r.repl k d
 ·rw [Qa5 q,Qa5 q];exact Paired.snoc r ⟨rfl,hb,d⟩
theorem KT.keeps{kvs:List (List Key × V)}{xs:List (List Key × Addr × Value)}(r:KT H kvs xs)(d:∀b ys,H b=some (.tup ys)->S b=some (.tup ys)):KT S kvs xs :=
 Paired.mapP r fun _ _ z=>⟨z.1,d _ _ z.2.1,z.2.2⟩
section
variable {P:Program}{w:World}{H:Hp}{h:Heap}{a:Addr}
theorem Zcg{u:HO}(ok:HOk P w H h)(e:Rd H a u):Yc P w H h a u:=e.ok ok
theorem Zad{kvs:List (Key × V)}(ok:HOk P w H h)(e:Rd H a (.dK kvs)):kvs.length<=sizeLine/\(a == sysModules)=false/\∃d,KV kvs d/\h.DictOf (ZT P w) a d :=
 show Yc P w H h a (.dK kvs) from Zcg ok e
theorem Zch{kvs:List (Key × V)}(ok:HOk P w H h)(e:H a=some (.dK kvs)):kvs.length<=sizeLine/\(a == sysModules)=false/\∃d,KV kvs d/\h.DictOf (ZT P w) a d:=Zad ok (.inl e)
theorem gU{ks:List Key}(ok:HOk P w H h)(e:H a=some (.tup (ks.map kV))):(tupleKind (ZT P w)).is h ks a:=by
 obtain ⟨_,d,r,o,h1,h2,⟨n,f⟩,_⟩:=(show Yc P w H h a (.tup (ks.map kV)) from ok a _ e);exact ⟨o,d.toArray,n,h1,h2,f,by simpa using x4 r⟩
theorem Zci{kvs:List (List Key × V)}(ok:HOk P w H h)(e:Rd H a (.dT kvs)):kvs.length<=sizeLine/\(a == sysModules)=false /\
  ∃xs,KT H kvs xs/\h.DictOfH (tupleKind (ZT P w)) a xs:=by
 obtain ⟨z,y,xs,r,o,es,ep,h1,h2,g,G,f⟩:=(show Yc P w H h a (.dT kvs) from Zcg ok e);refine ⟨z,y,xs,r,o,es,ep,h1,h2,g,G,fun x hx=>?_,f⟩;have all:∀{l:List (List Key × V)} {m:List (List Key × Addr × Value)},KT H l m->∀x∈m,(tupleKind (ZT P w)).is h x.1 x.2.1:=by
  intro l m q
  induction q with
  | nil=>intro x hx;exact nomatch hx
  | @cons p q ps I d t E =>
   intro x hx;rcases Qas.mp hx with e | hx
   ·subst e
    exact gU ok (by rw [<-d.1];exact d.2.1)
   ·exact E x hx
 exact all r x hx
end
def gW(H:Hp)(a:Addr)(y:V)(r:Option V):Prop :=
 (∃kvs k,Rd H a (.dK kvs)/\y=kV k/\r=Y9 kvs k)\/∃kvs k b,Rd H a (.dT kvs)/\y=.ref b/\H b=some (.tup (k.map kV))/\r=Y9 kvs k
def Zcj(H:Hp)(a:Addr)(y v:V)(H':Hp):Prop :=
 (∃kvs k,H a=some (.dK kvs)/\y=kV k/\kvs.length < sizeLine/\H'=upd H a (.dK (putK kvs k v))) \/
 ∃kvs k b,H a=some (.dT kvs)/\y=.ref b/\H b=some (.tup (k.map kV))/\kvs.length < sizeLine/\H'=upd H a (.dT (putK kvs k v))
theorem gW.k{H:Hp}{a:Addr}{kvs:List (Key × V)}{k:Key}(e:H a=some (.dK kvs)):gW H a (kV k) (Y9 kvs k):=.inl ⟨kvs,k,.inl e,rfl,rfl⟩
theorem gW.t{b:Addr}{kvs:List (List Key × V)}{k:List Key}(e:H a=some (.dT kvs))(d:H b=some (.tup (k.map kV))):gW H a (.ref b) (Y9 kvs k):=.inr ⟨kvs,k,b,.inl e,rfl,d,rfl⟩
theorem Zcj.k{H:Hp}{a:Addr}{kvs:List (Key × V)}{k:Key}{v:V}(e:H a=some (.dK kvs))(hl:kvs.length < sizeLine):Zcj H a (kV k) v (upd H a (.dK (putK kvs k v))):=.inl ⟨kvs,k,e,rfl,hl,rfl⟩
theorem Zcj.t{b:Addr}{kvs:List (List Key × V)}{k:List Key}{v:V}(e:H a=some (.dT kvs))(d:H b=some (.tup (k.map kV)))(hl:kvs.length < sizeLine) :
  Zcj H a (.ref b) v (upd H a (.dT (putK kvs k v))):=.inr ⟨kvs,k,b,e,rfl,d,hl,rfl⟩
section
variable {X:Cx}{pins:List (Addr × Obj)}{σ:St}{H:Hp}{s:Shared}{a:Addr}{y v:V}{u r:Value}{o:Option V}{A:Around}{E:Value->Shared->Prop}
theorem Inv.big(I:Inv X pins σ H s):sysModules < s.heap.objs.size:=by
 have h:mainGlobals < s.heap.objs.size:=(I.mod.glob.keeps I.bk).lt;exact Nat.lt_trans (by decide) h
theorem vp(hu:A.units + 1 < cLine)(I:Inv X pins σ H s)(g:gW H a y (some v))(O:RelV y u)(h:∀G s',Inv X pins σ H s'->RelV v G->Q G s') :
  wpAny (model X.prog X.w) A (getItem (.ref a) u) Q E s:=by
 rcases g with ⟨kvs,k,e,L,l⟩ | ⟨kvs,k,b,e,L,U,l⟩
 ·subst L
  obtain ⟨z,hd,S,f,dd⟩:=Zad I.hok e;obtain ⟨G,hw,d⟩:=xc.some_of (v:=v) (o:=valueAt S k) (by rw [l];exact f.val k);exact wpAny_getItem_of (vo O) dd.mapOf hw (h G _ (I.tok _) d)
 ·subst L
  cases (show u=Value.ref b from O);obtain ⟨z,hd,xs,f,dd⟩:=Zci I.hok e;obtain ⟨G,hw,d⟩:=xc.some_of (v:=v) (o:=(atKey xs k).map (·.2)) (by rw [l];exact f.val k);obtain ⟨p,hp,J⟩:=Option.map_eq_some_iff.mp hw;refine wpAny_getItem_heap (tupleKind_room_in1 hu) (gU I.hok U) dd hp ?_;rw [J];exact h G _ (I.tok _) d
theorem Zae{h':Heap}{t':Nat}{ob:HO}(I:Inv X pins σ H s)(d:Mut (H a))(hs:Heap.SameBut a s.heap h')(he:∃q,h'.get? a=some q)(new:Yc X.prog X.w (upd H a ob) h' a ob) :
  Inv X pins σ (upd H a ob) { s with heap:=h',toks:=t' } :=
 I.write (x:=a) (e:=a) d (.inl rfl) (fun b q hb z=>(hs.2 b hb).trans z) he new
theorem dk_new{h':Heap}{kvs:List (Key × V)}{d:List (Key × Value)}(z:kvs.length<=sizeLine)(hd:(a == sysModules)=false)(f:KV kvs d)(dd:h'.DictOf (ZT P w) a d) :
  Yc P w S h' a (.dK kvs):=⟨z,hd,d,f,dd⟩
end
section
variable {X:Cx}{pins:List (Addr × Obj)}{σ:St}{H:Hp}{s:Shared}{a:Addr}{kvs:List (Key × V)}{k:Key}{u:Value}{A:Around}{E:Value->Shared->Prop}
end
def NoSl(i:Expr):Prop:=∀f d,subscripted i false f d=operate [f,d] (getItem f d)
theorem Zaf{prog:Program}{A:Around}{E:Value->Shared->Prop}{s:Shared}{env:Env}{d:Expr}{pos:Pos}{T id:String}
  (hl:typeLookup (.type T) "__getitem__" = pure (some (.builtin id))) (hs:NoSl d)
  (h:wpAny (model prog w) A (eval e env) (fun o y=>wpAny (model prog w) A (eval d env) (fun i s₂=>s₂.TypeIs o T/\wpAny (model prog w) A (getItem o i) Q E s₂) E y) E s) :
  wpAny (model prog w) A (eval (.Subscript e d pos) env) Q E s:=by
 refine Subscript_ (Qcg h (fun o y I=>Qcg I (fun i s₂ f=>?_) fun _ _ x=>x) fun _ _ x=>x);obtain ⟨J,f⟩:=f;unfold subscriptTail;refine Qaa ?_;rw [getitemInPython_of_ne J.not_modules];refine Qaa (Qc5 J hl ?_);have fin:wpAny (model prog w) A (subscripted d false o i) (fun r g=>wpAny (model prog w) A (letTemporaryGo e o r >>= fun _=>pure r) Q E g) E s₂:=by
  rw [hs o i];exact wpAny_operating (Qcg f (fun r g G=>Qaa (wpAny_letTemporaryGo (Qaj G))) fun _ _ x=>x)
 first
  | exact Qaj (Qaa fin)
  | exact Qaa (Qaj (Qaa fin))
  | exact Qaa fin
theorem zk {X:Cx}  {σ:St}  {s:Shared}   {o:Option V} (I:Inv X E σ H s) (g:gW H a y o):s.TypeIs (.ref a) "dict" := by
 rcases g with ⟨kvs,k,e,_,_⟩ | ⟨kvs,k,b,e,_,_,_⟩
 ·obtain ⟨_,_,d,_,dd⟩:=Zad I.hok e
  exact dd.typeIs
 ·obtain ⟨_,_,xs,_,dd⟩:=Zci I.hok e
  exact dd.typeIs
inductive vq(Q:VK)(x:V)(y:V)(H2:Hp):Prop
 | mk (a v:_):(x=.ref a)->(gW H2 a y (some v))->(Q v H2)->vq Q x y H2
def Zck(td ty:TE):TE:=fun σ H Q=>td σ H fun x H1=>ty σ H1 fun y H2=>vq Q x y H2
inductive Zag(D:Ends)(σ:St)(v:V)(x:V)(y:V)(H3:Hp):Prop
 | mk (a H4:_):(x=.ref a)->(Zcj H3 a y v H4)->(D.nx σ H4)->Zag D σ v x y H3
section
variable {X:Cx}{o i e value:Expr}{pos pos' tpos:Pos}{td ty tv:TE}
theorem Zah(hu:X.A.units + 1 < cLine)(ho:PE X o td)(hi:PE X i ty)(hs:NoSl i):PE X (.Subscript o i pos) (Zck td ty):=by
 intro pins s σ H Q I h;refine Zaf PySem.F.slot_dict_getitem.lookup hs (thn (ho pins s σ H _ I h) fun u L ⟨x,H1,G,S,O⟩=>thn (hi pins L σ H1 _ G O) fun Z s2 ⟨y,H2,f,J,a,v,ex,g,U⟩=>?_);subst ex;obtain rfl:u=Value.ref a:=S;exact ⟨zk f g,vp hu f g J fun W Y E d=>⟨v,H2,E,d,U⟩⟩
end
theorem wc    (h:Heap) (hb:sysModules < h.objs.size):Yc P w H (h.push { cls:=.type "dict",data:=.dict #[] }) h.objs.size (.dK []) :=
 ⟨Qa8 _,Qc8.mpr (Qcd (Qbf hb)),[],.nil,Heap.DictOf.new h⟩
def gX:TE:=fun _ H Q=>∀p,H p=none->Q (.ref p) (upd H p (.dK []))
section
variable {X:Cx}{pos:Pos}
theorem we:PE X (.Dict [] [] pos) gX:=fun pins s σ H Q I h =>
 wpAny_Dict_empty ⟨.ref s.heap.objs.size,_,I.laid (a:=s.heap.objs.size) (o:=.dK []) (t':=s.toks) (fun _ _ q=>Qac _ q) (Qao _) (wc s.heap I.big),rfl,h _ (I.hok.fresh (Qao _))⟩
end
def gY:List (TE × TE)->St->Hp->(List (V × V)->Hp->Prop)->Prop
 | [],_,H,Q=>Q [] H
 | (tk,tv)::r,σ,H,Q=>tk σ H fun x H1=>tv σ H1 fun y H2=>gY r σ H2 fun ps d=>Q ((x,y)::ps) d
abbrev VV:List (V × V)->List (Value × Value)->Prop:=Paired fun p q=>RelV p.1 q.1/\RelV p.2 q.2
def PPs(X:Cx)(pos:Pos)(keys:List (Option Expr))(d:List Expr)(f:List (TE × TE)):Prop :=
 ∀(pins:List (Addr × Obj)) (s:Shared) (σ:St) (H:Hp) (Q:List (V × V)->Hp->Prop),Inv X pins σ H s->gY f σ H Q ->
  wpAny (model X.prog X.w) X.A (evalPairs (pairTrees keys d X.env pos)) (fun g s'=>∃ps H',Inv X pins σ H' s'/\VV ps g/\Q ps H') X.xe s
structure M1(X:Cx)(o:Expr)(m:Str)(apos:Pos)(e:Expr)(cpos:Pos):Prop where
 base:attributeBase o m X.env (eval o X.env)=eval o X.env
 few:((backTo cpos (starEach [e] X.env)).all (fun x=>!x.1) && (backToKw cpos (keywordEach [] X.env)).all (fun x=>x.1.isSome)
  && decide (([e]:List Expr).length + ([]:List Keyword).length + (if ([]:List Keyword).isEmpty then 0 else 1) < 30))=true
 line:(apos.endLine == cpos.line)=true
 trees:backTo cpos (starEach [e] X.env)=[(false,eval e X.env)]
structure M2(X:Cx)(o:Expr)(m:Str)(apos:Pos)(e f:Expr)(cpos:Pos):Prop where
 base:attributeBase o m X.env (eval o X.env)=eval o X.env
 few:((backTo cpos (starEach [e,f] X.env)).all (fun x=>!x.1) && (backToKw cpos (keywordEach [] X.env)).all (fun x=>x.1.isSome)
  && decide (([e,f]:List Expr).length + ([]:List Keyword).length + (if ([]:List Keyword).isEmpty then 0 else 1) < 30))=true
 line:(apos.endLine == cpos.line)=true
 trees:backTo cpos (starEach [e,f] X.env)=[(false,eval e X.env),(false,eval f X.env)]
section
variable {X:Cx}{pins:List (Addr × Obj)}{σ:St}{H:Hp}{s:Shared}{a:Addr}{y d:V}{u r:Value}{o:Option V}{A:Around}{E:Value->Shared->Prop}
end
section
variable {X:Cx}{o e f:Expr}{apos cpos:Pos}{td ty tx:TE}
end
section
variable {X:Cx}{pins:List (Addr × Obj)}{σ:St}{H:Hp}{s:Shared}{a:Addr}{kvs:List (Key × V)}{A:Around}{E:Value->Shared->Prop}
end
section
variable {X:Cx}{pins:List (Addr × Obj)}{σ:St}{H:Hp}{s:Shared}{a:Addr}{y:V}{u:Value}{A:Around}{E:Value->Shared->Prop}
end
section
variable {X:Cx}
end
end L2
namespace EnT
open PySem PySem.Spec PyProof.Rows
open AutoSeq1 (wpAny_loadPart')
def tIt (l:Addr):Obj:={ cls:=.type "tuple_iterator",data:=.fields #[.ref l,.int 0 0] }
def enO (it:Addr):Obj:={ cls:=.type "enumerate",data:=.fields #[.none,.bool false,.ref it,rawInt 0,.none,.none] }
theorem Xm(l:Addr)(items:Array Value) :
  Meets (Builtin.«enumerate.__new__» ⟨[.type "enumerate",.ref l],[]⟩) (fun _ R s=>s.heap.IsTuple l items /\
   R (.ok (.ret (.ref (s.heap.push (tIt l)).objs.size))) { s with heap:=(s.heap.push (tIt l)).push (enO s.heap.objs.size) }) :=
 .of_wp fun prog w A R s h=>by
  obtain ⟨hp,g,d,tk,os⟩:=s;obtain ⟨f,h⟩:=h;have y:=sub_enumerate;obtain ⟨⟨oc,od,G,E⟩,hl,hc,n,hd⟩:=id f;simp only at hc hd;subst hc hd
  wp_walk using wpAny_loadPart' hl
  refine wpAny_stack_any fun st=>Qaj ?_
  split
  ·rename_i c _ _ _ _ _
   cases (c == Value.type "enumerate")
   ·wp_walk using wpAny_loadPart' hl,Qdm f
    exact ⟨_,rfl,h⟩
   ·wp_walk using wpAny_loadPart' hl,Qdm f
    exact ⟨_,rfl,h⟩
  ·wp_walk using wpAny_loadPart' hl,Qdm f
   exact ⟨_,rfl,h⟩
section
variable {prog:Program}{w:World}{A:Around}{E:Value->Shared->Prop}{s:Shared}
theorem next_of{it l:Addr}{items:_}{x:Value}(d:s.heap.IsTupleIter it l i)(hl:s.heap.IsTuple l items)(hx:items[i]?=some x)
  (y:∀h',h'.IsTupleIter it l (i + 1)->Heap.SameBut it s.heap h'->Q x { s with heap:=h' }):wpAny (model prog w) A (Builtin.SmallTypes.nextOf (.ref it)) Q E s:=by
 obtain ⟨o,ho,hc,hd⟩:=id d;obtain ⟨I,f,_,G,g⟩:=hl;unfold Builtin.SmallTypes.nextOf;refine Qaa (wpAny_callSpecial?_slot (name:=Str.ofString "__next__") d.typeIs Qcx (Qbr Qcx d.typeIs Qe2 ?_ (Qeu _)));show wpAny _ _ (field (.ref it) 0 >>= _) _ _ s;refine Qaa (Qa2 ho hd (x:=.ref l) rfl ?_);show wpAny _ _ (if (Value.ref l == Value.none)=true then _ else _) _ _ s;rw [Qa5 (show ¬((Value.ref l == Value.none)=true) from Qav)];show wpAny _ _ (field (.ref it) 1 >>= _) _ _ s;refine Qaa (Qa2 ho hd (x:=.int i 0) rfl ?_);show wpAny _ _ (seqItems? (.ref l) >>= _) _ _ s;refine Qaa (Qb2 f g ?_);simp only [Qbw,hx];refine Qaa (Qcn ho hd (by simp) (Qaj ⟨x,rfl,Qaj (y _ ⟨_,Qb9 _ ho (Qcp (Qbn hd _)),(Qdt ..).trans hc,?_⟩ (Qdb ..))⟩));rw [Qbn hd];simp [rawInt]
theorem next_no{it l:Addr}{items:_}(hh:A.handled=none)(d:s.heap.IsTupleIter it l i)(hl:s.heap.IsTuple l items)(hx:items[i]?=none)
  (y:∀h' e,Heap.ExtBut it s.heap h'->(∃o,h'.get? e=some o/\o.cls=.type "StopIteration")->E (.ref e) { s with heap:=h' }):wpAny (model prog w) A (Builtin.SmallTypes.nextOf (.ref it)) Q E s:=by
 obtain ⟨o,ho,hc,hd⟩:=id d;obtain ⟨I,g,_,G,f⟩:=hl;unfold Builtin.SmallTypes.nextOf;refine Qaa (wpAny_callSpecial?_slot (name:=Str.ofString "__next__") d.typeIs Qcx (Qbr Qcx d.typeIs Qe2 ?_ (Qeu _)));show wpAny _ _ (field (.ref it) 0 >>= _) _ _ s;refine Qaa (Qa2 ho hd (x:=.ref l) rfl ?_);show wpAny _ _ (if (Value.ref l == Value.none)=true then _ else _) _ _ s;rw [Qa5 (show ¬((Value.ref l == Value.none)=true) from Qav)];show wpAny _ _ (field (.ref it) 1 >>= _) _ _ s;refine Qaa (Qa2 ho hd (x:=.int i 0) rfl ?_);show wpAny _ _ (seqItems? (.ref l) >>= _) _ _ s;refine Qaa (Qb2 g f ?_);simp only [Qbw,hx];refine Qaa (Qdj (Qaa (Qcn ho hd (by simp) ?_)));show wpAny _ _ (newExc (.type "StopIteration") [] >>= _) _ _ _;refine Qaa ?_;simp only [newExc,newTuple];refine Qaa (Qbh ?_ (by size_fits));refine Qaa (m:=firstArgMember _ _) (Qcu (a:=Value.none) (by first | rfl | (simp only [firstArgMember];rfl)) ?_);refine Qbh ?_ (by size_fits);simp only [raiseNew];refine Qaa (wpAny_handled ?_)
 first | rw [show A.in1.handled=none from hh] | rw [hh]
 refine Qaa (Qaj (wpAny_throw ?_));exact y _ _ (((Qdb ..).extBut.push _).push _) ⟨_,Qau _ rfl,rfl⟩
theorem zm{e it l:Addr}{x:Value}
  (he:IsEnum s.heap e it i M) (hit:s.heap.IsTupleIter it l i) (hl:s.heap.IsTuple l q) (hx:q[i]?=some x) (hne:e≠it)
  (hQ:∀h',IsEnumOut h' e it ((i:Int) + 1) x s.heap.objs.size->h'.IsTupleIter it l (i + 1) ->
   h'.get? s.heap.objs.size=some { cls:=.type "tuple",data:=.seq #[.int i s.toks,x] }->h'.objs.size=s.heap.objs.size + 1 ->
   (∀b o,b≠e->b≠it->s.heap.get? b=some o->h'.get? b=some o)->Q (.ref s.heap.objs.size) { s with heap:=h',toks:=s.toks + 1 }) :
  wpAny (model prog w) A (Builtin.«enumerate.__next__» ⟨[.ref e],[]⟩) (fun fin s'=>∃v,fin=.done (.ret v)/\Q v s') E s:=by
 obtain ⟨hp,g,d,tk,os⟩:=s;show wpAny _ _ (field (.ref e) 2 >>= _) _ _ _;refine Qaa (Qa2 he rfl (x:=.ref it) rfl ?_);refine Qaa (next_of hit hl hx fun O hit₁ y=>?_)
 replace y:Heap.SameBut it hp O:=y
 have he₁:IsEnum O e it i M:=(y.2 e hne).trans he;show wpAny _ _ (field (.ref e) 3 >>= _) _ _ ⟨O,g,d,tk,os⟩;refine Qaa (Qa2 he₁ rfl (x:=rawInt i) rfl ?_);show wpAny _ _ (field (.ref e) 4 >>= _) _ _ ⟨O,g,d,tk,os⟩;refine Qaa (Qa2 he₁ rfl (x:=.none) rfl ?_);show wpAny _ _ (mkInt i >>= _) _ _ ⟨O,g,d,tk,os⟩;refine Qaa (Qez ?_);show wpAny _ _ (setField (.ref e) 3 (rawInt ((i:Int) + 1)) >>= _) _ _ ⟨O,g,d,tk + 1,os⟩;refine Qaa (Qa9 he₁ (by simp) fun h₂ Y L=>?_)
 replace L:Heap.SameBut e O h₂:=L
 replace Y:IsEnum h₂ e it ((i:Int) + 1) M:=Y
 show wpAny _ _ (setField (.ref e) 4 .none >>= _) _ _ ⟨h₂,g,d,tk + 1,os⟩;refine Qaa (Qa9 Y (by simp) fun S Z J=>?_)
 replace J:Heap.SameBut e h₂ S:=J
 replace Z:IsEnum S e it ((i:Int) + 1) M:=Z
 show wpAny _ _ (newTuple [.int i tk,x] >>= _) _ _ ⟨S,g,d,tk + 1,os⟩;refine Qaa (Qfc ?_);have W:IsEnum (S.push { cls:=.type "tuple",data:=.seq #[.int i tk,x] }) e it ((i:Int) + 1) M:=Qac _ Z;generalize hh₄:S.push { cls:=.type "tuple",data:=.seq #[.int i tk,x] }=U at W;have hsz:S.objs.size=hp.objs.size:=by rw [J.1,L.1,y.1]
 have hel:e < hp.objs.size:=Qat he;have ht₄:U.get? hp.objs.size=some { cls:=.type "tuple",data:=.seq #[.int i tk,x] }:=by rw [<-hh₄,<-hsz];exact Qau _ rfl
 have hz₄:U.objs.size=hp.objs.size + 1:=by rw [<-hh₄,Qbv,hsz]
 have hk₄:∀b o,b≠e->b≠it->hp.get? b=some o->U.get? b=some o:=fun b o hbe hbi hb=>by
  rw [<-hh₄];exact Qac _ (J.extBut b o hbe (L.extBut b o hbe (y.extBut b o hbi hb)))
 have hit₄:U.IsTupleIter it l (i + 1):=by
  rw [<-hh₄];obtain ⟨o,ho,r⟩:=(hit₁.extBut L.extBut (Qcd hne)).extBut J.extBut (Qcd hne);exact ⟨o,Qac _ ho,r⟩
 show wpAny _ _ (Builtin.SmallTypes.ownedTupleIsFree (.ref e) >>= _) _ _ ⟨U,g,d,tk + 1,os⟩;rw [hsz];clear hh₄ Z J Y L he₁ y hit₁ hsz S h₂ O;refine Qaa ?_
 ·unfold Builtin.SmallTypes.ownedTupleIsFree
  refine Qaa (Qa2 W rfl (x:=.none) rfl (Qaj ?_));simp only [Qf9];refine Qaa (Qdj ?_);refine Qaa (Qa2 W rfl (x:=M) rfl ?_);refine Qaa (Qa9 W (by simp) fun h₅ he₅ f=>?_)
  replace f:Heap.SameBut e U h₅:=f
  replace he₅:IsEnum h₅ e it ((i:Int) + 1) x:=he₅
  show wpAny _ _ (Builtin.SmallTypes.ownedTupleHandOut (.ref e) (.ref hp.objs.size) >>= _) _ _ ⟨h₅,g,d,tk + 1,os⟩;refine Qaa ?_
  ·unfold Builtin.SmallTypes.ownedTupleHandOut
   refine Qaa (Qa9 he₅ (by simp) fun h₆ he₆ G=>?_)
   replace G:Heap.SameBut e h₅ h₆:=G
   replace he₆:IsEnumOut h₆ e it ((i:Int) + 1) x hp.objs.size:=he₆
   refine Qa9 he₆ (by simp) fun h₇ he₇ I=>?_
   replace I:Heap.SameBut e h₆ h₇:=I
   replace he₇:IsEnumOut h₇ e it ((i:Int) + 1) x hp.objs.size:=he₇
   refine Qaa (Qfn (Qaj ⟨_,rfl,hQ h₇ he₇ ?_ ?_ ?_ ?_⟩))
   ·exact ((hit₄.extBut f.extBut (Qcd hne)).extBut G.extBut (Qcd hne)).extBut I.extBut (Qcd hne)
   ·exact I.extBut _ _ (Qcz hel) (G.extBut _ _ (Qcz hel) (f.extBut _ _ (Qcz hel) ht₄))
   ·rw [I.1,G.1,f.1,hz₄]
   ·exact fun b o hbe hbi hb=>I.extBut b o hbe (G.extBut b o hbe (f.extBut b o hbe (hk₄ b o hbe hbi hb)))
theorem next_item{e it l:Addr}{x:Value}{Q:Option Value->Shared->Prop}
  (he:IsEnum s.heap e it i v) (f:s.heap.IsTupleIter it l i) (hl:s.heap.IsTuple l q) (hx:q[i]?=some x) (g:e≠it)
  (G:∀h',IsEnumOut h' e it ((i:Int) + 1) x s.heap.objs.size->h'.IsTupleIter it l (i + 1) ->
   h'.get? s.heap.objs.size=some { cls:=.type "tuple",data:=.seq #[.int i s.toks,x] }->h'.objs.size=s.heap.objs.size + 1 ->
   (∀b o,b≠e->b≠it->s.heap.get? b=some o->h'.get? b=some o)->Q (some (.ref s.heap.objs.size)) { s with heap:=h',toks:=s.toks + 1 }) :
  wpAny (model prog w) A (pyNext (.ref e)) Q E s:=by
 have y:s.TypeIs (.ref e) "enumerate" := ⟨_,he,rfl⟩;unfold pyNext;exact Qaa (Qcm (wpAny_callSpecial?_slot (name:=Str.ofString "__next__") y Qb0 (Qbr Qb0 y Qdl
   (zm he f hl hx g fun h' a b c d k=>Qaj (G h' a b c d k)) (Qdc _))))
theorem next_end{e it l:Addr}{Q:Option Value->Shared->Prop}(hh:A.handled=none)
  (he:IsEnum s.heap e it i v) (f:s.heap.IsTupleIter it l i) (hl:s.heap.IsTuple l q) (hx:q[i]?=none)
  (G:∀h',Heap.ExtBut it s.heap h'->Q none { s with heap:=h' }):wpAny (model prog w) A (pyNext (.ref e)) Q E s:=by
 have y:s.TypeIs (.ref e) "enumerate" := ⟨_,he,rfl⟩;unfold pyNext;refine Qaa (Qcm (wpAny_callSpecial?_slot (name:=Str.ofString "__next__") y Qb0 (Qbr Qb0 y Qdl ?_ (Qdc _))));show wpAny _ _ (field (.ref e) 2 >>= _) _ _ _;refine Qaa (Qa2 he rfl (x:=.ref it) rfl ?_);refine Qaa (next_no hh f hl hx fun h' x d g=>?_);obtain ⟨o,ho,hc⟩:=g;refine Qaa (Qcs (T := "StopIteration") (b:=true) ⟨o,ho,hc⟩ Qfb ?_);exact Qaj (G _ d)
theorem call_new{l:Addr}(hl:s.heap.IsTuple l q)
  (h:∀h',IsEnum h' (s.heap.objs.size + 1) s.heap.objs.size 0 .none->h'.IsTupleIter s.heap.objs.size l 0->h'.objs.size=s.heap.objs.size + 2 ->
   (∀b o,s.heap.get? b=some o->h'.get? b=some o)->Q (.ref (s.heap.objs.size + 1)) { s with heap:=h' }):wpAny (model prog w) A (call (.type "enumerate") [.ref l]) Q E s:=by
 refine callType_new F.called_enumerate (by decide) (F.typeCall_enumerate_1 _) (F.newCall_enumerate_1 _) (fun d=>F.args_object_init_2 d _) F.entry_enumerate_new (Xm l q) ⟨hl,?_⟩;have f:(s.heap.push (tIt l)).objs.size=s.heap.objs.size + 1:=Qbv ..;show _/\_;rw [f];have he:IsEnum ((s.heap.push (tIt l)).push (enO s.heap.objs.size)) (s.heap.objs.size + 1) s.heap.objs.size 0 .none:=by
  have:=Qau (s.heap.push (tIt l)) (o:=enO s.heap.objs.size) rfl;rw [f] at this;exact this
 refine ⟨⟨_,he,rfl⟩,h _ he ⟨_,Qac _ (Qau _ rfl),rfl,rfl⟩ (by rw [Qbv,f]) fun b o x=>Qac _ (Qac _ x)⟩
end
end EnT
namespace L2
open PySem PySem.Spec PyProof.Rows
theorem jU{X:Cx}{σ:St}{s:Shared}{h':Heap}{t':Nat}{fp:List Addr}(I:Inv X E σ H s)(hf:∀b∈fp,JN X E H b)(k:∀b o,b∉fp->s.heap.get? b=some o->h'.get? b=some o):Inv X E σ H { s with heap:=h',toks:=t' }:=by
 have d:∀b u,H b=some u->b∉fp:=fun b u e z=>by rw [(hf b z).1] at e;cases e
 refine I.step (g':=s.gens) (d':=s.drawn) (ch:=fp) (fun b hb=>⟨(hf b hb).2.2.2.1,(hf b hb).2.1,(hf b hb).2.2.2.2.1,(hf b hb).2.2.2.2.2⟩) (fun b o _ _ hc e _=>k b o hc e) (fun b o _ _ hc e _=>⟨o.slots,k b o hc e⟩) (fun _ _ _ _ n=>n)
  (fun b o hc e=>⟨o,k b o hc e⟩) (fun _ _ e=>e) (fun _ _ _ e=>e) (fun b ps e=>⟨#[],by rw [e];simp⟩) (fun m hm=>?_) (fun b u e=>?_) I.bare
 ·obtain ⟨o,es,ep,ho,r⟩:=hm
  exact ⟨o,es,ep,k _ o (fun z=>(hf _ z).2.1 rfl) ho,r⟩
 ·refine (I.hok b u e).stay (fun c v hc q=>k c v ?_ q) (fun _ q=>q) fun _ _ q=>q
  rcases hc with z | z
  ·rw [z]
   exact d b u e
  ·exact d c _ z
theorem x5:bootBuiltins "enumerate" = some (.type "enumerate"):=by decide +kernel
theorem Ga{X:Cx}{y:Str}{pos:Pos}{k:Nat}{t1 t2:TG}(hc:X.calm=true)(h1:QG X (.Name x p) t1)(h2:QG X (.Name y J) t2):QG X (.Tuple [.Name x p,.Name y J] k pos) (Zb3 X.K 2 (JD t1 (JD t2 Zbt))) :=
 ⟨y7 hc (YF h1.out (YF h2.out qo))⟩
section
variable {X:Cx}
theorem Zai{i:Expr}{pos:Pos}(hu:X.A.units + 1 < cLine)(ho:QE X o d)(hi:QE X i Y)(hs:NoSl i):QE X (.Subscript o i pos) (Zck d Y):=⟨Zah hu ho.out hi.out hs⟩
theorem Zaj{pos:Pos}:QE X (.Dict [] [] pos) gX:=⟨we⟩
inductive rDIn_i(neg:Bool)(y:V)(x:V)(H:Hp)(Q:VK):Prop
 | mk (a o:_):(x=.ref a)->(gW H a y o)->(Q (.bl (if neg then !o.isSome else o.isSome)) H)->rDIn_i neg y x H Q
theorem qw{x:V}(h:Yv x=true):eqV x x=true:=by
 cases x <;> first
  | exact Qb5 _
  | rfl
  | cases h
inductive rNeD_i(x:V)(y:V)(H:Hp)(Q:VK):Prop
 | mk (a b kvs:_):(x=.ref a)->(y=.ref b)->(Rd H a (.dK kvs))->(Rd H b (.dK kvs))->((∀p∈kvs,Yv p.2=true))->(Q (.bl false) H)->rNeD_i x y H Q
def Itd(a:Addr)(o:Obj)(kvs:List (Key × V)):It:=⟨fun i H=>i < kvs.length/\H a=some (.frz o (.dK kvs)),fun i H v H'=>H'=H/\∃p,kvs[i]?=some p/\v=kV p.1,fun i H=>i=kvs.length/\H a=some (.frz o (.dK kvs))⟩
inductive Zak(R:It->Hp->Prop)(x:V)(H1:Hp):Prop
 | mk (a kvs:_):(x=.ref a)->(Rd H1 a (.dK kvs))->(∀o,R (Itd a o kvs) (upd H1 a (.frz o (.dK kvs))))->Zak R x H1
end
inductive KTab(P:Params):List DictEntry->List (Str × Int)->Prop
 | nil:KTab P [] []
 | cons {k:Str} {v:Int} {t u:Tok} {es:List DictEntry} {l:List (Str × Int)}:KTab P es l->KTab P ({ hash:=PyData.keyHash P k,key:=.str k t,val:=.int v u }::es) ((k,v)::l)
structure KD(K:PySem.W.Frag)(w:World)(a:Addr)(l:List (Str × Int)):Prop where
 ex:∃es ep,K.lookup a=some { cls:=.type "dict",dict:=none,data:=.dict es ep,slots:=#[] }/\KTab w.params es.toList l
 nd:(l.map (·.1)).Nodup
 ns:(a == sysModules)=false
def kvsOf(l:List (Str × Int)):List (Key × V):=l.map fun p=>((Sum.inr p.1:Key),V.int p.2)
theorem KTab.pairs{es:List DictEntry}{l:List (Str × Int)}(h:KTab w.params es l):(∃d,KV (kvsOf l) d/\Pairs (ZT P w) es d)/\∀e∈es,∃k,(ZT P w).is k e.key=true/\e.hash=(ZT P w).hash k:=by
 induction h with
 | nil=>exact ⟨⟨[],.nil,.nil⟩,fun _ h=>nomatch h⟩
 | @cons k v t u es l _ f =>
  obtain ⟨⟨d,r,p⟩,q⟩:=f;refine ⟨⟨(.inr k,.int v u)::d,.cons ⟨rfl,⟨u,rfl⟩⟩ r,.cons (Wz P w k t) rfl p⟩,fun e he=>?_⟩;rcases Qas.mp he with rfl | he
  ·exact ⟨.inr k,Wz P w k t,rfl⟩
  ·exact q e he
section
variable {X:Cx}{pins:List (Addr × Obj)}{σ:St}{H:Hp}{s:Shared}{a:Addr}{l:List (Str × Int)}{k:Key}{u:Value}{A:Around}{E:Value->Shared->Prop}
theorem KD.of(I:Inv X pins σ H s)(d:KD X.K X.w a l):∃f,KV (kvsOf l) f/\s.heap.DictOf (ZT X.prog X.w) a f:=by
 obtain ⟨es,ep,hk,t⟩:=d.ex;obtain ⟨⟨f,r,p⟩,q⟩:=t.pairs (P:=X.prog);refine ⟨f,r,_,es,ep,I.kIn a _ hk,⟨rfl,rfl,rfl⟩,rfl,fun e he=>q e (by simpa using he),p,?_⟩;rw [<-r.keys];unfold kvsOf;rw [Qdp];have:=d.nd;rw [List.nodup_iff_pairwise_ne] at *;rw [List.pairwise_map] at *;exact this.imp fun h z=>h (Sum.inr.inj z)
theorem kd_in(I:Inv X pins σ H s)(d:KD X.K X.w a l)(g:RelV (kV k) u)(h:∀s',Inv X pins σ H s'->Q (.bool (Y9 (kvsOf l) k).isSome) s'):wpAny (model X.prog X.w) A (compareOp .In u (.ref a)) Q E s:=by
 obtain ⟨y,f,dd⟩:=d.of I;refine wpAny_in_of (vo g) d.ns dd.mapOf ?_;rw [<-(f.val k).isSome_eq];exact h _ (I.tok _)
theorem Zal{z:V}{r:Value}(I:Inv X pins σ H s)(d:KD X.K X.w a l)(G:RelV (kV k) u)(y:RelV z r)(h:∀g s',Inv X pins σ H s'->RelV ((Y9 (kvsOf l) k).getD z) g->Q g s') :
  wpAny (model X.prog X.w) A (call (.builtin "dict.get") [.ref a,u,r]) Q E s:=by
 obtain ⟨J,f,dd⟩:=d.of I;exact call_meetsIn PySem.F.slot_dict_get dd.typeIs PySem.F.entry_dict_get (PySem.F.args_dict_get_3 _ _ _) (meets_dict_get_default (ZT X.prog X.w) a (vo G) d.ns r) ⟨_,dd.mapOf,h _ _ (I.tok _) ((f.val k).getD y)⟩
end
section
variable {X:Cx}
def rKIn(K:PySem.W.Frag)(w:World):R2:=fun y x H Q=>∃a l k,x=.ref a/\KD K w a l/\y=kV k/\Q (.bl (Y9 (kvsOf l) k).isSome) H
theorem zo:OpR X (compareOp .In) (rKIn X.K X.w):=by
 intro pins s σ H x y v u Q I E g h;obtain ⟨a,l,k,rfl,d,rfl,q⟩:=h;cases g;exact kd_in I d E fun s' f=>⟨.bl _,H,f,rfl,q⟩
def tKGet(K:PySem.W.Frag)(w:World)(td ty tx:TE):TE:=fun σ H Q=>td σ H fun x H1=>∃a l,x=.ref a/\KD K w a l/\ty σ H1 fun y H2=>tx σ H2 fun z d=>∃k,y=kV k/\Q ((Y9 (kvsOf l) k).getD z) d
theorem m2_of{f:Expr}{m:Str}(he:ZX e=true)(hf:ZX f=true)(hb:attributeBase o m X.env (eval o X.env)=eval o X.env)(hl:(p.endLine == J.line)=true):M2 X o m p e f J where
 base:=hb
 few:=by
  rw [all_plain (by rw [Qcl,he,Qcl,hf];rfl)]
  rfl
 line:=hl
 trees:=by
  rw [Zx he,Zx hf]
  rfl
theorem zp {f:Expr}  {tx:TE} (ho:QE X o d) (he:QE X e Y) (hf:QE X f tx) (h1:ZX e=true:=by rfl) (h2:ZX f=true:=by rfl) (hb:attributeBase o "get" X.env (eval o X.env)=eval o X.env:=by rfl) (hl:(p.endLine == J.line)=true:=by rfl) :
  QE X (.Call (.Attribute o "get" p) [e,f] [] J) (tKGet X.K X.w d Y tx):=by
 have m:=m2_of (X:=X) (m := "get") (o:=o) h1 h2 hb hl;refine ⟨fun pins s σ H Q I h=>?_⟩;refine wpAny_Call_method m.base m.few m.line PySem.F.plainAttrs_dict PySem.F.slot_dict_get PySem.F.type_dict_get (thn (ho.out pins s σ H _ I h) fun u s1 ⟨x,H1,G,W,a,l,ex,g,S⟩=>?_);subst ex;obtain rfl:u=Value.ref a:=W;obtain ⟨vs,rel,dd⟩:=g.of G;refine ⟨dd.typeIs,fun b q=>?_,?_⟩
 ·cases q
  obtain ⟨ob,_,_,Z,L,_⟩:=dd;exact ⟨ob,Z,L.2.1⟩
 rw [m.trees];refine Qeb rfl (Qep (Qd3 (thn (he.out pins s1 σ H1 _ G S) fun iv s2 ⟨y,H2,O,ry,q2⟩=>Qd3 (thn (hf.out pins s2 σ H2 _ O q2) fun fv s3 ⟨z,H3,I3,rz,k,ey,U⟩=>Qfh ?_))));subst ey;exact Zal I3 g ry rz fun w' s4 I4 E=>⟨_,H3,I4,E,U⟩
end
theorem wg{is:List Nat}{σ:St}{Q:VK}(f:Nat->V)(I:x.cps.size<=sizeLine)
  (he:∀c∈x.cps.toList,∀R:VK,R (f c) H->d (xw is σ (some (.str ⟨#[c]⟩))) H R)
  (hd:∀l,H l=none->Q (.ref l) (upd H l (.lst (x.cps.toList.map f)))):wa is Zbv d σ Q (Its x) H:=by
 refine ⟨fun i m zs H'=>m=x.cps.size - i/\i<=x.cps.size/\zs=(x.cps.toList.take i).map f/\H'=H,⟨x.cps.size,by simp,Qa8 _,rfl,rfl⟩,?_⟩;rintro i m zs H' ⟨rfl,hi,rfl,rfl⟩;have hl:((x.cps.toList.take i).map f).length<=sizeLine:=by
  rw [Qaz,Qcr];lia
 by_cases E:i < x.cps.size
 ·refine .inr ⟨E,hl,fun v H2 y=>?_⟩
  obtain ⟨e,c,hc,rfl⟩:=y;subst e;have g:x.cps.toList[i]?=some c:=by rw [Qei];exact hc
  unfold Zbv;dsimp only;rw [Qa4 rfl];refine he c (Qae g) _ ⟨x.cps.size - (i + 1),by lia,rfl,E,?_,rfl⟩;rw [take_snoc g,Qa7]
  rfl
 ·have e:i=x.cps.size:=by lia
  refine .inl ⟨e,hl,fun l G=>?_⟩;rw [List.take_of_length_le (by rw [Qc9];lia)];exact hd l G
def jV:List V->List V->Bool
 | [],[]=>true
 | x::xs,y::ys=>eqV x y && jV xs ys
 | _,_=>false
def eqJ(xs ys:List V)(j:Nat):Bool:=match xs[j]?,ys[j]? with
 | some a,some b=>eqV a b
 | _,_=>true
theorem Wg:∀xs ys:List V,((List.range (min xs.length ys.length)).all (eqJ xs ys) && xs.length == ys.length)=jV xs ys
 | [],[]=>rfl
 | [],y::ys=>by simp [jV]
 | x::xs,[]=>by simp [jV]
 | x::xs,y::ys=>by
  have d:=Wg xs ys;have e1:min (x::xs).length (y::ys).length=min xs.length ys.length + 1:=by
   simp only [Qan];lia
  have e2:((x::xs).length == (y::ys).length)=(xs.length == ys.length):=by simp
  rw [e1,e2,List.range_succ_eq_map,Qcl,List.all_map,Bool.and_assoc];show (eqV x y && ((List.range (min xs.length ys.length)).all (eqJ xs ys) && xs.length == ys.length))=(eqV x y && jV xs ys);rw [d]
theorem x6{A:Around}{s:Shared}{xs ys:List V}{g d:List Value}(r:Vals xs g)(J:Vals ys d)(f:xs.all Yv=true)(L:ys.all Yv=true):∀j (h1:j < g.toArray.size) (h2:j < d.toArray.size),SeqAt.EqAt A s g.toArray[j] d.toArray[j] (eqJ xs ys j):=by
 intro j h1 h2;have W:=r.length;have Z:=J.length;have E:j < xs.length:=by rw [W];simpa using h1
 have y:j < ys.length:=by rw [Z];simpa using h2
 obtain ⟨u,e1,Y⟩:=r.get (Qag E);obtain ⟨O,e2,q2⟩:=J.get (Qag y);have U:Yv xs[j]=true:=Qbt.mp f _ (Qb4 E);have S:Yv ys[j]=true:=Qbt.mp L _ (Qb4 y);have G:g.toArray[j]=u:=by
  have:g[j]?=some g[j]:=Qag (by simpa using h1);rw [e1] at this;simpa using (Option.some.inj this).symm
 have I:d.toArray[j]=O:=by
  have:d[j]?=some d[j]:=Qag (by simpa using h2);rw [e2] at this;simpa using (Option.some.inj this).symm
 have e3:eqJ xs ys j=eqV xs[j] ys[j]:=by
  unfold eqJ;rw [Qag E,Qag y]
 rw [G,I,e3];exact zT (A:=A) (s:=s) Y q2 U S
section
variable {X:Cx}
inductive gZ(K:PySem.W.Frag)(neg:Bool)(x:V)(y:V)(H:Hp)(Q:VK):Prop
 | mk (a c xs ys:_):(x=.ref a)->(y=.ref c)->(SqT K H a xs)->(SqT K H c ys)->(xs.all Yv=true)->(ys.all Yv=true)->(Q (.bl (if neg then !jV xs ys else jV xs ys)) H)->gZ K neg x y H Q
def rEqT(K:PySem.W.Frag)(neg:Bool):R2:=fun x y H Q=>gZ K neg x y H Q
theorem qx(hu:X.A.units < cLine):OpR X (compareOp .Eq) (rEqT X.K false):=by
 intro pins s σ H x y v u Q I L J h;obtain ⟨a,c,xs,ys,rfl,rfl,ha,hc,f,E,q⟩:=h;cases L;cases J;obtain ⟨G,r,p,_⟩:=I.tuple ha;obtain ⟨d,g,p2,_⟩:=I.tuple hc;refine SeqAt.eq_tupleAt (e:=eqJ xs ys) p p2 hu (x6 r g f E) (Z3 I q ?_);show jV xs ys=_;rw [Qak,Qak,<-r.length,<-g.length,Wg]
theorem Zam(hu:X.A.units < cLine):OpR X (compareOp .NotEq) (rEqT X.K true):=by
 intro pins s σ H x y v u Q I L J h;obtain ⟨a,c,xs,ys,rfl,rfl,ha,hc,f,E,q⟩:=h;cases L;cases J;obtain ⟨G,r,p,_⟩:=I.tuple ha;obtain ⟨d,g,p2,_⟩:=I.tuple hc;refine SeqAt.RcNeAt.tuples (e:=eqJ xs ys) p p2 hu (x6 r g f E) X.prog X.w _ _ (Z3 I q ?_);show (!jV xs ys)=_;rw [Qak,Qak,<-r.length,<-g.length,Wg]
inductive rEqL_i(K:PySem.W.Frag)(neg:Bool)(x:V)(y:V)(H:Hp)(Q:VK):Prop
 | mk (a c xs ys:_):(x=.ref a)->(y=.ref c)->(SqL K H a xs)->(SqL K H c ys)->(xs.all Yv=true)->(ys.all Yv=true)->(Q (.bl (if neg then !jV xs ys else jV xs ys)) H)->rEqL_i K neg x y H Q
end
def tx:Value->Str
 | .str x _=>x
 | _=>⟨#[]⟩
section
variable {prog:Program}{w:World}{A:Around}{E:Value->Shared->Prop}{s:Shared}
def ins(S:List Str)(x:Str):List Str:=if x∈S then S else S++[x]
end
section
variable {prog:Program}{w:World}{A:Around}{R:Result->Shared->Prop}{I:Addr}{fp wr:List Addr}{G:Array GenState->Array GenState->Prop}{n:Nat}{P:Nat->Value->Prop}{St:Nat->Shared->Prop}
end
section
variable {prog:Program}{w:World}{A:Around}{E:Value->Shared->Prop}{s:Shared}
end
def Zan(h:Heap)(a:Addr)(es:Array (Int × Value))(ep:Nat)(t:SetTable):Prop:=∃o,h.get? a=some o/\o.ExactSet/\o.data=.set es ep t/\t.fits es.size=true
def Gb (h:Heap) (I a:Addr) (first:Value) (i n ep:Nat):Prop:=∃o,h.get? I=some o/\o.cls=.type "set_iterator" /\ o.data=.fields #[first,.int i 0,.ref a,.int n 0,.int ep 0]
section
variable {prog:Program}{w:World}{A:Around}{E:Value->Shared->Prop}{s:Shared}
theorem Gb.typeIs  {first:Value} {ep:Nat} (x:Gb s.heap C a first i n ep):s.TypeIs (.ref C) "set_iterator" := let ⟨o,ho,hc,_⟩:=x;⟨o,ho,hc⟩
theorem Gb.at{h':Heap}{first:Value}{ep:Nat}(x:Gb h C a first i n ep)(e:∀o,h.get? C=some o->h'.get? C=some o):Gb h' C a first i n ep:=let ⟨o,ho,r⟩:=x;⟨o,e _ ho,r⟩
theorem Zan.at{h':Heap}{es:Array (Int × Value)}{t:SetTable}(x:Zan h a es i t)(e:∀o,h.get? a=some o->h'.get? a=some o):Zan h' a es i t:=let ⟨o,ho,r⟩:=x;⟨o,e _ ho,r⟩
def Txs(d:List (Int × Value))(i:Nat)(v:Value):Prop:=∃e,d[i]?=some e/\v=e.2
structure SetW(prog:Program)(w:World)(h h':Heap)(I a:Addr)(es:Array (Int × Value))(ord:List (Int × Value))(fp:List Addr)(St:Nat->Heap->Prop):Prop where
 old:∀b o,h.get? b=some o->h'.get? b=some o
 new:h.objs.size<=I
 perm:ord.Perm es.toList
 lt:∀b∈fp,b < h'.objs.size
 mem:I∈fp
 st:St 0 h'
 walks:∀A:Around,A.handled=none->Walks prog w A I fp [I] es.size (Txs ord) St
 apart:∀b∈fp,b=a\/h.objs.size<=b
end
section
variable {X:Cx}
end
theorem vt{y:Str}(h:x.cps.toList=y.cps.toList):x=y:=by
 cases x;cases y;simp only [Str.mk.injEq];exact Qfv.mp h
section
variable {prog:Program}{w:World}{A:Around}{E:Value->Shared->Prop}{s:Shared}
end
section
variable {X:Cx}
end
inductive Zao(K:PySem.W.Frag)(xs:List V)(H:Hp)(Q:VK):Prop
 | mk (x:V) (p:Addr) (Ts:List String) (t:Value) (b:Bool):(xs=[x,.ref p])->(H p=some (.tup (Ts.map V.ty)))->(((∃i,x=.int i/\t=.type "int")\/(∃i,x=.bl i/\t=.type "bool")\/∃i,x=.str i/\t=.type "str"))->(PySem.W.kitAny K t (Ts.map Value.type)=some b)->(Q (.bl b) H)->Zao K xs H Q
section
variable {X:Cx}
end
abbrev frzA(o:Obj):HO:=.frz o (.ext fun _=>True)
def qy(H H1:Hp):Prop:=∀b o u,H b=some (.frz o u)->H1 b=some (.frz o u)
theorem qy.refl(H:Hp):qy H H:=fun _ _ _ h=>h
theorem qy.trans{H2:Hp}(a:qy H S)(b:qy S H2):qy H H2:=fun c o u h=>b c o u (a c o u h)
theorem Z0.frz{H H1:Hp}(a:Z0 H H1):qy H H1:=fun b o u h=>a b _ h
def qz(P:Program)(w:World)(K:PySem.W.Frag)(mg:Str->Option Value)(base:Heap)(k:Nat)(f:Addr)(H:Hp)(τ:Sp):Prop :=
 (∃o fd,H f=some (frzA o)/\o.data=.func fd) /\
 ∀(A:Around) (outer:List Env) (s:Shared) (H1:Hp) (g:List Value) (d:List V) (Q:VK) (E:XK),qy H H1->WJ k A->gE P w K mg base A outer s H1->Vals d g->τ d H1 Q E ->
  codeAny (model P w) A (.call (.ref f) ⟨g,[]⟩) (CR CX0 outer P w H1 s Q E) s
theorem qz.frz{P:Program}{w:World}{K:PySem.W.Frag}{mg:Str->Option Value}{base:Heap}{k:Nat}{f:Addr}{H H1:Hp}{τ:Sp}(c:qz P w K mg base k f H τ)(h:qy H H1):qz P w K mg base k f H1 τ :=
 ⟨let ⟨o,fd,e,d⟩:=c.1;⟨o,fd,h _ _ _ e,d⟩,fun A outer s H2 y g Q E G=>c.2 A outer s H2 y g Q E (h.trans G)⟩
section
variable {P:Program}{w:World}{H H':Hp}{h h':Heap}{cs:List Addr}
end
structure LamSc(scope:Scope)(ps ys:List Str):Prop where
 kind:scope.kind=.function
 co:scope.isCoroutine=false
 gen:scope.isGenerator=false
 cell:∀y∈scope.names,y.2≠.cell
 par:∀p∈ps,scope.names.lookup p=some .local
 free:∀y∈ys,scope.names.lookup y=some .free
 nd:(ps++ys).Nodup
section
variable {P:Program}{w:World}{K:PySem.W.Frag}{mg:Str->Option Value}{base:Heap}
end
def CodeOk(oc:Obj)(qual:Str):Prop:=∃d t,oc.data=.fields d/\d[1]?=some (.str qual t)
def x8(H:Hp)(P:Addr)(pos:Pos)(qual:Str):Prop :=
 H P=some (.tbl #[])\/∃d oc,H P=some (.tbl #[rawInt pos.line,rawInt pos.col,.ref d])/\H d=some (frzA oc)/\CodeOk oc qual
theorem x8.ex{P:Addr}{pos:Pos}(h:x8 H P pos x):∃ps,H P=some (.tbl ps):=by
 rcases h with h | ⟨_,_,h,_⟩ <;> exact ⟨_,h⟩
structure BltAt(mg:Str->Option Value)(base:Heap):Prop where
 ex:∃bm ob,mg "__builtins__" = some (.ref bm)/\bm≠builtinsNs/\base.get? bm=some ob/\ob.cls=.type "module" /\ ob.dict=some builtinsNs/\ob.data=.plain
section
variable {X:Cx}{params:Arguments}{body:Expr}{scope:Scope}{lpos:Pos}{c P:Addr}{qual:Str}
end
structure LamAt(S0 scope:Scope)(N0 ps ys:List Str)(is:List Nat):Prop where
 sc:LamSc scope ps ys
 free:∀y∈scope.names,y.2=.free->S0.names.lookup y.1=some .cell
 vis:∀q∈ys.zip is,N0[q.2]?=some q.1
 len:ys.length=is.length
section
variable {X:Cx}{params:Arguments}{body a:Expr}{scope:Scope}{lpos p pos:Pos}{c P g:Addr}{qual x:Str}{k kl:Nat}{gd:FuncData}{pg ps ys:List Str}{is:List Nat}{sp:Sp}{ta te:TE}
theorem x8.other{P:Addr}{pos:Pos}{qual:Str}(h:x8 H P pos qual)(d:P≠C)(f:∃ps,H C=some (.tbl ps))(s:∀b o,H b=some o->b≠C->S b=some o):x8 S P pos qual:=by
 rcases h with h | ⟨c,oc,h1,h2,g⟩
 ·exact .inl (s _ _ h d)
 ·obtain ⟨ps,e⟩:=f
  exact .inr ⟨c,oc,s _ _ h1 d,s _ _ h2 (XI h2 e (fun z=>nomatch z)),g⟩
theorem x8.same{H H':Hp}{P:Addr}{pos:Pos}{qual:Str}(h:x8 H P pos qual)(s:Z0 H H'):x8 H' P pos qual:=by
 rcases h with h | ⟨c,oc,h1,h2,d⟩
 ·exact .inl (s _ _ h)
 ·exact .inr ⟨c,oc,s _ _ h1,s _ _ h2,d⟩
end
section
variable {X:Cx}
end
section
variable {prog:Program}{w:World}{A:Around}{E:Value->Shared->Prop}{s:Shared}
end
section
variable {X:Cx}
end
section
variable {prog:Program}{w:World}{K:Type}[DecidableEq K]{knd:KeyKind prog w K}{A:Around}{R:Result->Shared->Prop}{d l it:Addr}{items:List Value}
end
def W6(H:Hp)(ps:List (Str × V))(d:List V):Prop:=Paired (fun (p:Str × V) (r:V)=>∃a,r=.ref a/\H a=some (.tup [.str p.1,p.2])) ps d
section
variable {X:Cx}
end
structure QPs(X:Cx)(pos:Pos)(keys:List (Option Expr))(values:List Expr)(trs:List (TE × TE)):Prop where
 out:PPs X pos keys values trs
section
variable {X:Cx}
end
theorem W6.same{H H':Hp}{ps:List (Str × V)}{d:List V}(h:W6 H ps d)(s:Z0 H H'):W6 H' ps d:=Paired.mapP h fun _ _ ⟨a,e,q⟩=>⟨a,e,s _ _ q⟩
theorem W6.snoc{ps:List (Str × V)}(h:W6 H ps u){v:V}(e:H a=some (.tup [.str x,v])):W6 H (ps++[(x,v)]) (u++[.ref a]):=by
 unfold W6 at h ⊢
 induction h with
 | nil=>exact .cons ⟨a,rfl,e⟩ .nil
 | cons r _ d=>exact .cons r d
end L2
namespace ZpT
open PySem PySem.Spec PyProof.Rows
def ZW:Bool->Heap->Addr->Addr->Nat->Prop
 | true,h,it,l,k=>h.IsTupleIter it l k
 | false,h,it,l,k=>h.IsListIter it l k
def SeqAt:Bool->Heap->Addr->Array Value->Prop
 | true,h,l,xs=>h.IsTuple l xs
 | false,h,l,xs=>h.IsList l xs
theorem ZW.mv{b:Bool}{h':Heap}{it l:Addr}{k:Nat}(x:ZW b h it l k)(f:∀o,h.get? it=some o->h'.get? it=some o):ZW b h' it l k:=by
 cases b
 ·exact Heap.IsListIter.at x f
 ·exact Heap.IsTupleIter.at x f
theorem SeqAt.mv{b:Bool}{h':Heap}{l:Addr}{xs:Array Value}(x:SeqAt b h l xs)(f:∀o,h.get? l=some o->h'.get? l=some o):SeqAt b h' l xs:=by
 cases b
 ·obtain ⟨o,ho,r⟩:=(show h.IsList l xs from x)
  exact (show h'.IsList l xs from ⟨o,f o ho,r⟩)
 ·obtain ⟨o,ho,r⟩:=(show h.IsTuple l xs from x)
  exact (show h'.IsTuple l xs from ⟨o,f o ho,r⟩)
theorem ZW.ob{b:Bool}{it l:Addr}{k:Nat}(x:ZW b h it l k):∃o,h.get? it=some o/\∀v,o.data≠.cell v:=by
 cases b
 ·obtain ⟨o,ho,hc,hd⟩:=(show h.IsListIter it l k from x)
  exact ⟨o,ho,fun v z=>by rw [hd] at z;cases z⟩
 ·obtain ⟨o,ho,hc,hd⟩:=(show h.IsTupleIter it l k from x)
  exact ⟨o,ho,fun v z=>by rw [hd] at z;cases z⟩
def zO (d:Value) (b:Bool) (TI TO:Addr):Obj:={ cls:=.type "zip",dict:=none,data:=.fields #[d,.bool b,.bool false,.ref TI,.ref TO],slots:=#[] }
def F0(d:Value):Prop:=d=.none\/∃T:Addr,d=rawInt T
structure Ap(z TI TO i1 i2:Addr):Prop where
 TIz:TI≠z
 TOz:TO≠z
 i1z:i1≠z
 i2z:i2≠z
 TITO:TI≠TO
 TIi1:TI≠i1
 TIi2:TI≠i2
 TOi1:TO≠i1
 TOi2:TO≠i2
 i12:i1≠i2
section
variable {prog:Program}{w:World}{A:Around}{E:Value->Shared->Prop}{s:Shared}
theorem Ji{b:Bool}{it l:Addr}{k:Nat}{xs:Array Value}{x:Value}(d:ZW b s.heap it l k)(hl:SeqAt b s.heap l xs)(hx:xs[k]?=some x)
  (f:∀h',ZW b h' it l (k + 1)->Heap.SameBut it s.heap h'->Q x { s with heap:=h' }):wpAny (model prog w) A (Builtin.SmallTypes.nextOf (.ref it)) Q E s:=by
 cases b
 ·exact wpAny_nextOf_list_item d hl hx f
 ·exact EnT.next_of d hl hx f
theorem jb{b:Bool}{it l:Addr}{k:Nat}{xs:Array Value}(hh:A.handled=none)(d:ZW b s.heap it l k)(hl:SeqAt b s.heap l xs)(hx:xs[k]?=none)
  (f:∀h' e,Heap.ExtBut it s.heap h'->(∃o,h'.get? e=some o/\o.cls=.type "StopIteration")->E (.ref e) { s with heap:=h' }):wpAny (model prog w) A (Builtin.SmallTypes.nextOf (.ref it)) Q E s:=by
 cases b
 ·exact wpAny_nextOf_list_end hh d hl hx f
 ·exact EnT.next_no hh d hl hx f
theorem alive{Q:Option Obj->Shared->Prop}(h:Q (s.heap.get? a) s):wpAny (model prog w) A (loadIfAlive a) Q E s:=fun Γ p _=>h
theorem vv{Q:Bool->Shared->Prop}(g:s.heap.get? z=some (zO v m a C))(hf:F0 v)
  (h:∀r h' G,h'.get? z=some (zO v G a C)->Heap.SameBut z s.heap h'->Q r { s with heap:=h' }):wpAny (model prog w) A (Builtin.SmallTypes.ownedTupleIsFree (.ref z)) Q E s:=by
 unfold Builtin.SmallTypes.ownedTupleIsFree;refine Qaa (Qa2 g rfl (x:=v) rfl ?_);rcases hf with rfl | ⟨T,rfl⟩
 ·exact Qaj (h true s.heap m g ⟨rfl,fun _ _=>rfl⟩)
 ·show wpAny _ _ (loadIfAlive (Int.toNat (T:Int)) >>= _) _ _ s
  refine Qaa (alive ?_);cases hT:s.heap.get? (Int.toNat (T:Int)) with
  | none=>exact Qaj (h true s.heap m g ⟨rfl,fun _ _=>rfl⟩)
  | some o =>
   show wpAny _ _ (field (.ref z) 1 >>= _) _ _ s;refine Qaa (Qa2 g rfl (x:=.bool m) rfl ?_);cases m
   ·show wpAny _ _ (setField (.ref z) 1 (.bool true) >>= _) _ _ s
    refine Qaa (Qa9 g (by simp) fun y f d=>Qaj ?_);exact h false y true f d
   ·exact Qaj (h false s.heap true g ⟨rfl,fun _ _=>rfl⟩)
end
end ZpT
namespace ZpT
open PySem PySem.Spec PyProof.Rows
structure Of(z TO i1 i2 l:Addr):Prop where
 z:l≠z
 o:l≠TO
 i:l≠i1
 j:l≠i2
structure St(b1 b2:Bool)(z TI TO i1 i2 l1 l2:Addr)(k1 k2:Nat)(h:Heap):Prop where
 z:∃f0 fb,h.get? z=some (zO f0 fb TI TO)/\F0 f0
 I:IsPair h TI (.ref i1) (.ref i2)
 O:∃a b,IsPair h TO a b
 n1:ZW b1 h i1 l1 k1
 n2:ZW b2 h i2 l2 k2
section
variable {prog:Program}{w:World}{A:Around}{E:Value->Shared->Prop}{s:Shared}
theorem item{b2:Bool}{TO i1 i2 l1 l2:Addr}{k1 k2:Nat}{xs ys:Array Value}{x:Value}(D:Ap z C TO i1 i2)(D1:Of z TO i1 i2 l1)(D2:Of z TO i1 i2 l2)
  (S:St m b2 z C TO i1 i2 l1 l2 k1 k2 s.heap) (q1:SeqAt m s.heap l1 xs) (q2:SeqAt b2 s.heap l2 ys) (hx:xs[k1]?=some x) (hy:ys[k2]?=some M)
  (hQ:∀h',St m b2 z C TO i1 i2 l1 l2 (k1 + 1) (k2 + 1) h'->IsPair h' s.heap.objs.size x M ->
   (∀c o,c≠z->c≠TO->c≠i1->c≠i2->s.heap.get? c=some o->h'.get? c=some o)->Q (.ref s.heap.objs.size) { s with heap:=h' }) :
  wpAny (model prog w) A (Builtin.«zip.__next__» ⟨[.ref z],[]⟩) (fun fin s'=>∃v,fin=.done (.ret v)/\Q v s') E s:=by
 obtain ⟨⟨f0,fb,hz,hf⟩,hTI,⟨a,b,hTO⟩,n1,n2⟩:=S;show wpAny _ _ (field (.ref z) 2 >>= _) _ _ _;refine Qaa (Qa2 hz rfl (x:=.bool false) rfl ?_);show wpAny _ _ (field (.ref z) 3 >>= _) _ _ _;refine Qaa (Qa2 hz rfl (x:=.ref C) rfl ?_);refine Qaa (Qb2 hTI rfl ?_);show wpAny _ _ (Builtin.SmallTypes.ownedTupleIsFree (.ref z) >>= _) _ _ _;refine Qaa (vv hz hf fun r h0 fb' hz0 O=>?_);have hz0':h0.get? z=some (zO f0 fb' C TO):=hz0;have hTO0:IsPair h0 TO a b:=O.extBut _ _ D.TOz hTO;have hTI0:IsPair h0 C (.ref i1) (.ref i2):=O.extBut _ _ D.TIz hTI;have n10:ZW m h0 i1 l1 k1:=n1.mv fun o e=>O.extBut _ _ D.i1z e;have n20:ZW b2 h0 i2 l2 k2:=n2.mv fun o e=>O.extBut _ _ D.i2z e;have q10:SeqAt m h0 l1 xs:=q1.mv fun o e=>O.extBut _ _ D1.z e;have q20:SeqAt b2 h0 l2 ys:=q2.mv fun o e=>O.extBut _ _ D2.z e;cases r with
 | true =>
  simp only [Qf9];refine Qaa (Qdj ?_);refine Qaa (Qa2 hz0 rfl (x:=.ref TO) rfl ?_);refine Qaa (Qa9 hz0 (by simp) fun h₁ Z G=>?_)
  replace Z:h₁.get? z=some (zO .ellipsis fb' C TO):=Z
  refine Qaa ?_;simp only [List.zipIdx_cons,List.zipIdx_nil,Qd6,Qfd];refine Qaa (Qaa (Qev ?_));show wpAny _ _ (Builtin.SmallTypes.nextOf (.ref i1) >>= _) _ _ _;refine Qaa (Ji (n10.mv fun o e=>G.extBut _ _ D.i1z e) (q10.mv fun o e=>G.extBut _ _ D1.z e) hx fun h₂ h1₂ d=>Qaj ?_);have hTO₂:IsPair h₂ TO a b:=d.extBut _ _ D.TOi1 (G.extBut _ _ D.TOz hTO0);refine Qaa (Qb2 hTO₂ rfl ?_);refine Qaa (Qer hTO₂ fun y W f=>?_)
  replace W:IsPair y TO x b:=W
  refine Qaa (Qfn (Qaj ?_));refine Qaa (Qaa (Qev ?_));show wpAny _ _ (Builtin.SmallTypes.nextOf (.ref i2) >>= _) _ _ _;refine Qaa (Ji (n20.mv fun o e=>f.extBut _ _ D.TOi2.symm (d.extBut _ _ D.i12.symm (G.extBut _ _ D.i2z e)))
   (q20.mv fun o e=>f.extBut _ _ D2.o (d.extBut _ _ D2.i (G.extBut _ _ D2.z e))) hy fun h₄ h2₄ J=>Qaj ?_)
  have hTO₄:IsPair h₄ TO x b:=J.extBut _ _ D.TOi2 W;refine Qaa (Qb2 hTO₄ rfl ?_);refine Qaa (Qer hTO₄ fun g I L=>?_)
  replace I:IsPair g TO x M:=I
  refine Qaa (Qfn (Qaj (Qaj ?_)));refine Qaa (Qb2 I rfl ?_);refine Qaa (Qfc ?_);have hsz:g.objs.size=s.heap.objs.size:=by rw [L.1,J.1,f.1,d.1,G.1];exact O.1
  have hz₅:g.get? z=some (zO .ellipsis fb' C TO):=L.extBut _ _ D.TOz.symm (J.extBut _ _ D.i2z.symm (f.extBut _ _ D.TOz.symm (d.extBut _ _ D.i1z.symm Z)));have hk₅:∀c o,c≠z->c≠TO->c≠i1->c≠i2->s.heap.get? c=some o->g.get? c=some o:=fun c o c1 c2 c3 c4 e =>
   L.extBut _ _ c2 (J.extBut _ _ c4 (f.extBut _ _ c2 (d.extBut _ _ c3 (G.extBut _ _ c1 (O.extBut _ _ c1 e)))))
  have h1₅:ZW m g i1 l1 (k1 + 1):=h1₂.mv fun o e=>L.extBut _ _ D.TOi1.symm (J.extBut _ _ D.i12 (f.extBut _ _ D.TOi1.symm e));have h2₅:ZW b2 g i2 l2 (k2 + 1):=h2₄.mv fun o e=>L.extBut _ _ D.TOi2.symm e;have hzlt:z < g.objs.size:=Qat hz₅;show wpAny _ _ (Builtin.SmallTypes.ownedTupleHandOut (.ref z) (.ref g.objs.size) >>= _) _ _ _;refine Qaa ?_;unfold Builtin.SmallTypes.ownedTupleHandOut;have hz₆:(g.push { cls:=.type "tuple",data:=.seq #[x,M] }).get? z=some (zO .ellipsis fb' C TO):=Qac _ hz₅;refine Qaa (Qa9 hz₆ (by simp) fun h₇ hz₇ hs₇=>?_)
  replace hz₇:h₇.get? z=some (zO (rawInt g.objs.size) fb' C TO):=hz₇
  refine Qa9 hz₇ (by simp) fun h₈ U hs₈=>?_
  replace U:h₈.get? z=some (zO (rawInt g.objs.size) false C TO):=U
  have up:∀c o,c≠z->g.get? c=some o->h₈.get? c=some o:=fun c o c1 e=>hs₈.extBut _ _ c1 (hs₇.extBut _ _ c1 (Qac _ e));have hT₈:IsPair h₈ g.objs.size x M:=hs₈.extBut _ _ (Qcz hzlt) (hs₇.extBut _ _ (Qcz hzlt) (Qau _ rfl));rw [hsz] at U hT₈;refine Qaj ⟨_,rfl,?_⟩;show Q (.ref g.objs.size) _;rw [hsz];exact hQ h₈ ⟨⟨_,_,U,.inr ⟨_,rfl⟩⟩,up _ _ D.TIz (hk₅ _ _ D.TIz D.TITO D.TIi1 D.TIi2 hTI),⟨_,_,up _ _ D.TOz I⟩,h1₅.mv fun o e=>up _ o D.i1z e,h2₅.mv fun o e=>up _ o D.i2z e⟩ hT₈ fun c o c1 c2 c3 c4 e=>up c o c1 (hk₅ c o c1 c2 c3 c4 e)
 | false =>
  simp only [Qc1,Qfm];refine Qaa ?_;simp only [<-Array.forIn_toList,Qd6,Qfd];refine Qaa (Qaa (Qb3 ?_));show wpAny _ _ (Builtin.SmallTypes.nextOf (.ref i1) >>= _) _ _ _;refine Qaa (Ji n10 q10 hx fun h₂ h1₂ d=>Qaj (Qaj ?_));refine Qaa (Qaa (Qb3 ?_));show wpAny _ _ (Builtin.SmallTypes.nextOf (.ref i2) >>= _) _ _ _;refine Qaa (Ji (n20.mv fun o e=>d.extBut _ _ D.i12.symm e) (q20.mv fun o e=>d.extBut _ _ D2.i e) hy fun y h2₃ f=>Qaj (Qaj (Qaj ?_)));refine Qaa (Qfc (hsz:=(show 2<=sizeLine by decide)) (Qaj ⟨_,rfl,?_⟩));have hsz:y.objs.size=s.heap.objs.size:=by rw [f.1,d.1];exact O.1
  have Y:∀c o,c≠z->c≠i1->c≠i2->s.heap.get? c=some o->y.get? c=some o:=fun c o c1 c3 c4 e=>f.extBut _ _ c4 (d.extBut _ _ c3 (O.extBut _ _ c1 e));have zz:y.get? z=some (zO f0 fb' C TO):=f.extBut _ _ D.i2z.symm (d.extBut _ _ D.i1z.symm hz0');have hT:IsPair (y.push { cls:=.type "tuple",data:=.seq #[x,M] }) y.objs.size x M:=Qau _ rfl;show Q (.ref y.objs.size) { s with heap:=y.push { cls:=.type "tuple",data:=.seq #[x,M] } };rw [hsz] at hT ⊢;have up:∀c o,y.get? c=some o->(y.push { cls:=.type "tuple",data:=.seq #[x,M] }).get? c=some o:=fun c o e=>Qac _ e;exact hQ _ ⟨⟨_,_,up _ _ zz,hf⟩,up _ _ (Y _ _ D.TIz D.TIi1 D.TIi2 hTI),⟨_,_,up _ _ (Y _ _ D.TOz D.TOi1 D.TOi2 hTO)⟩,h1₂.mv fun o e=>up _ _ (f.extBut _ _ D.i12 e),h2₃.mv fun o e=>up _ _ e⟩ hT fun c o c1 c2 c3 c4 e=>up c o (Y c o c1 c3 c4 e)
end
end ZpT
namespace ZpT
open PySem PySem.Spec PyProof.Rows
section
variable {prog:Program}{w:World}{A:Around}{E:Value->Shared->Prop}{s:Shared}
theorem fin{b2:Bool}{TO i1 i2 l1 l2:Addr}{k1 k2:Nat}{xs ys:Array Value}{Q:Fin->Shared->Prop}(hh:A.handled=none)(D:Ap z C TO i1 i2)(D1:Of z TO i1 i2 l1)(D2:Of z TO i1 i2 l2)
  (S:St m b2 z C TO i1 i2 l1 l2 k1 k2 s.heap) (q1:SeqAt m s.heap l1 xs) (q2:SeqAt b2 s.heap l2 ys) (hend:xs[k1]?=none\/ys[k2]?=none)
  (hE:∀h' e,(∀c o,c≠z->c≠TO->c≠i1->c≠i2->s.heap.get? c=some o->h'.get? c=some o)->(∃o,h'.get? e=some o/\o.cls=.type "StopIteration")->E (.ref e) { s with heap:=h' }) :
  wpAny (model prog w) A (Builtin.«zip.__next__» ⟨[.ref z],[]⟩) Q E s:=by
 obtain ⟨⟨f0,fb,hz,hf⟩,hTI,⟨a,b,hTO⟩,n1,n2⟩:=S;show wpAny _ _ (field (.ref z) 2 >>= _) _ _ _;refine Qaa (Qa2 hz rfl (x:=.bool false) rfl ?_);show wpAny _ _ (field (.ref z) 3 >>= _) _ _ _;refine Qaa (Qa2 hz rfl (x:=.ref C) rfl ?_);refine Qaa (Qb2 hTI rfl ?_);show wpAny _ _ (Builtin.SmallTypes.ownedTupleIsFree (.ref z) >>= _) _ _ _;refine Qaa (vv hz hf fun r h0 fb' hz0 y=>?_);have hz0':h0.get? z=some (zO f0 fb' C TO):=hz0;have hTO0:IsPair h0 TO a b:=y.extBut _ _ D.TOz hTO;have hTI0:IsPair h0 C (.ref i1) (.ref i2):=y.extBut _ _ D.TIz hTI;have n10:ZW m h0 i1 l1 k1:=n1.mv fun o e=>y.extBut _ _ D.i1z e;have n20:ZW b2 h0 i2 l2 k2:=n2.mv fun o e=>y.extBut _ _ D.i2z e;have q10:SeqAt m h0 l1 xs:=q1.mv fun o e=>y.extBut _ _ D1.z e;have q20:SeqAt b2 h0 l2 ys:=q2.mv fun o e=>y.extBut _ _ D2.z e;cases r with
 | true =>
  simp only [Qf9];refine Qaa (Qdj ?_);refine Qaa (Qa2 hz0 rfl (x:=.ref TO) rfl ?_);refine Qaa (Qa9 hz0 (by simp) fun h₁ I f=>?_)
  replace I:h₁.get? z=some (zO .ellipsis fb' C TO):=I
  refine Qaa ?_;simp only [List.zipIdx_cons,List.zipIdx_nil,Qd6,Qfd];refine Qaa (Qaa (Qev ?_));show wpAny _ _ (Builtin.SmallTypes.nextOf (.ref i1) >>= _) _ _ _;cases hx:xs[k1]? with
  | none =>
   refine Qaa (jb hh (n10.mv fun o e=>f.extBut _ _ D.i1z e) (q10.mv fun o e=>f.extBut _ _ D1.z e) hx fun G e d he=>?_);obtain ⟨oe,J,Z⟩:=he;have W:G.get? z=some (zO .ellipsis fb' C TO):=d _ _ D.i1z.symm I;have hez:e≠z:=fun x=>by subst x;rw [W] at J;cases J;simp [zO] at Z
   refine Qa9 W (by simp) fun O _ g=>hE O e (fun c o c1 _ c3 _ x=>g.extBut _ _ c1 (d _ _ c3 (f.extBut _ _ c1 (y.extBut _ _ c1 x)))) ⟨oe,g.extBut _ _ hez J,Z⟩
  | some x =>
   have hy:ys[k2]?=none:=by rcases hend with h | h;rw [hx] at h;cases h;exact h
   refine Qaa (Ji (n10.mv fun o e=>f.extBut _ _ D.i1z e) (q10.mv fun o e=>f.extBut _ _ D1.z e) hx fun G h1₂ d=>Qaj ?_);have L:IsPair G TO a b:=d.extBut _ _ D.TOi1 (f.extBut _ _ D.TOz hTO0);refine Qaa (Qb2 L rfl ?_);refine Qaa (Qer L fun O hTO₃ g=>?_);refine Qaa (Qfn (Qaj ?_));refine Qaa (Qaa (Qev ?_));show wpAny _ _ (Builtin.SmallTypes.nextOf (.ref i2) >>= _) _ _ _;refine Qaa (jb hh (n20.mv fun o e=>g.extBut _ _ D.TOi2.symm (d.extBut _ _ D.i12.symm (f.extBut _ _ D.i2z e)))
    (q20.mv fun o e=>g.extBut _ _ D2.o (d.extBut _ _ D2.i (f.extBut _ _ D2.z e))) hy fun h₄ e Y he=>?_)
   obtain ⟨oe,J,Z⟩:=he;have hz₄:h₄.get? z=some (zO .ellipsis fb' C TO):=Y _ _ D.i2z.symm (g.extBut _ _ D.TOz.symm (d.extBut _ _ D.i1z.symm I));have hez:e≠z:=fun x=>by subst x;rw [hz₄] at J;cases J;simp [zO] at Z
   refine Qa9 hz₄ (by simp) fun h₅ _ U=>hE h₅ e (fun c o c1 c2 c3 c4 x=>U.extBut _ _ c1 (Y _ _ c4 (g.extBut _ _ c2 (d.extBut _ _ c3 (f.extBut _ _ c1 (y.extBut _ _ c1 x)))))) ⟨oe,U.extBut _ _ hez J,Z⟩
 | false =>
  simp only [Qc1,Qfm];refine Qaa ?_;simp only [<-Array.forIn_toList,Qd6,Qfd];refine Qaa (Qaa (Qb3 ?_));show wpAny _ _ (Builtin.SmallTypes.nextOf (.ref i1) >>= _) _ _ _;cases hx:xs[k1]? with
  | none=>exact Qaa (jb hh n10 q10 hx fun G e d he=>hE G e (fun c o c1 _ c3 _ x=>d _ _ c3 (y.extBut _ _ c1 x)) he)
  | some x =>
   have hy:ys[k2]?=none:=by rcases hend with h | h;rw [hx] at h;cases h;exact h
   refine Qaa (Ji n10 q10 hx fun G h1₂ d=>Qaj (Qaj ?_));refine Qaa (Qaa (Qb3 ?_));show wpAny _ _ (Builtin.SmallTypes.nextOf (.ref i2) >>= _) _ _ _;exact Qaa (jb hh (n20.mv fun o e=>d.extBut _ _ D.i12.symm e) (q20.mv fun o e=>d.extBut _ _ D2.i e) hy fun O e g he=>hE O e (fun c o c1 _ c3 c4 x=>g _ _ c4 (d.extBut _ _ c3 (y.extBut _ _ c1 x))) he)
theorem next_item{b2:Bool}{i1 i2 d f:Addr}{k1 k2:Nat}{xs ys:Array Value}{x:Value}{Q:Option Value->Shared->Prop}(D:Ap z a C i1 i2)(L:Of z C i1 i2 d)(G:Of z C i1 i2 f)
  (S:St m b2 z a C i1 i2 d f k1 k2 s.heap) (I:SeqAt m s.heap d xs) (W:SeqAt b2 s.heap f ys) (hx:xs[k1]?=some x) (U:ys[k2]?=some v)
  (y:∀h',St m b2 z a C i1 i2 d f (k1 + 1) (k2 + 1) h'->IsPair h' s.heap.objs.size x v ->
   (∀c o,c≠z->c≠C->c≠i1->c≠i2->s.heap.get? c=some o->h'.get? c=some o)->Q (some (.ref s.heap.objs.size)) { s with heap:=h' }) :
  wpAny (model prog w) A (pyNext (.ref z)) Q E s:=by
 obtain ⟨Y,Z,O,hf⟩:=S.z;have g:s.TypeIs (.ref z) "zip" := ⟨_,O,rfl⟩;unfold pyNext;exact Qaa (Qcm (wpAny_callSpecial?_slot (name:=Str.ofString "__next__") g Qe3
  (Qbr Qe3 g F.entry_zip_next (item D L G S I W hx U fun h' a1 a2 J=>Qaj (y h' a1 a2 J)) (F.args_zip_next_1 _))))
theorem next_end{b2:Bool}{i1 i2 f g:Addr}{k1 k2:Nat}{xs ys:Array Value}{Q:Option Value->Shared->Prop}(hh:A.handled=none)(D:Ap z a C i1 i2)(L:Of z C i1 i2 f)(I:Of z C i1 i2 g)
  (S:St m b2 z a C i1 i2 f g k1 k2 s.heap) (J:SeqAt m s.heap f xs) (U:SeqAt b2 s.heap g ys) (d:xs[k1]?=none\/ys[k2]?=none)
  (G:∀h',(∀c o,c≠z->c≠C->c≠i1->c≠i2->s.heap.get? c=some o->h'.get? c=some o)->Q none { s with heap:=h' }) :
  wpAny (model prog w) A (pyNext (.ref z)) Q E s:=by
 obtain ⟨W,Y,O,hf⟩:=id S.z;have y:s.TypeIs (.ref z) "zip" := ⟨_,O,rfl⟩;unfold pyNext;refine Qaa (Qcm (wpAny_callSpecial?_slot (name:=Str.ofString "__next__") y Qe3 (Qbr Qe3 y F.entry_zip_next ?_ (F.args_zip_next_1 _))));refine fin hh D L I S J U d fun h' e hk he=>?_;obtain ⟨o,ho,hc⟩:=he;exact Qaa (Qcs (T := "StopIteration") (b:=true) ⟨o,ho,hc⟩ Qfb (Qaj (G _ hk)))
end
end ZpT
namespace ZpT
open PySem PySem.Spec PyProof.Rows
def itO (b:Bool) (l:Addr):Obj:={ cls:=.type (if b then "tuple_iterator" else "list_iterator"),data:=.fields #[.ref l,.int 0 0] }
def hz1(b1:Bool)(h:Heap)(d:Addr):Heap:=h.push (itO b1 d)
def hz2(b1 b2:Bool)(h:Heap)(f d:Addr):Heap:=(hz1 b1 h f).push (itO b2 d)
def hz3 (b1 b2:Bool) (h:Heap) (d f:Addr):Heap:=(hz2 b1 b2 h d f).push { cls:=.type "tuple",data:=.seq #[.ref h.objs.size,.ref (hz1 b1 h d).objs.size] }
def hz4 (b1 b2:Bool) (h:Heap) (f d:Addr):Heap:=(hz3 b1 b2 h f d).push { cls:=.type "tuple",data:=.seq #[.none,.none] }
def hz5(b1 b2:Bool)(h:Heap)(f d:Addr):Heap:=(hz4 b1 b2 h f d).push (zO .none false (hz2 b1 b2 h f d).objs.size (hz3 b1 b2 h f d).objs.size)
section
variable {prog:Program}{w:World}{A:Around}{E:Value->Shared->Prop}{s:Shared}
theorem xA{b:Bool}{l:Addr}{xs:Array Value}(hl:SeqAt b s.heap l xs)(h:Q (.ref s.heap.objs.size) { s with heap:=s.heap.push (itO b l) }):wpAny (model prog w) A (pyIter (.ref l)) Q E s:=by
 cases b
 ·exact Qc4 hl h
 ·exact Qdm hl h
end
theorem Xm(b1 b2:Bool)(f y:Addr)(xs ys:Array Value) :
  Meets (Builtin.«zip.__new__» ⟨[.type "zip",.ref f,.ref y],[]⟩) (fun _ R s=>SeqAt b1 s.heap f xs/\SeqAt b2 s.heap y ys /\
   R (.ok (.ret (.ref (hz4 b1 b2 s.heap f y).objs.size))) { s with heap:=hz5 b1 b2 s.heap f y }) :=
 .of_wp fun prog w A R s h=>by
  obtain ⟨hp,g,d,tk,os⟩:=s;obtain ⟨G,J,h⟩:=h;have L:=sub_zip;have I:SeqAt b1 (Shared.heap ⟨hp,g,d,tk,os⟩) f xs:=G;have E:SeqAt b2 (Shared.heap ⟨hp.push (itO b1 f),g,d,tk,os⟩) y ys:=J.mv fun o e=>Qac _ e
  wp_walk using xA I,xA E
  exact ⟨_,rfl,h⟩
section
variable {prog:Program}{w:World}{A:Around}{E:Value->Shared->Prop}{s:Shared}
theorem jc{b:Bool}{it l:Addr}(e:h.get? it=some (itO b l)):ZW b h it l 0:=by
 cases b
 ·exact (show h.IsListIter it l 0 from ⟨_,e,rfl,rfl⟩)
 ·exact (show h.IsTupleIter it l 0 from ⟨_,e,rfl,rfl⟩)
theorem call_new{b2:Bool}{xs ys:Array Value}(G:SeqAt m s.heap a xs)(I:SeqAt b2 s.heap C ys)
  (h:∀h',St m b2 (s.heap.objs.size + 4) (s.heap.objs.size + 2) (s.heap.objs.size + 3) s.heap.objs.size (s.heap.objs.size + 1) a C 0 0 h'->(∀c o,s.heap.get? c=some o->h'.get? c=some o)->Q (.ref (s.heap.objs.size + 4)) { s with heap:=h' }) :
  wpAny (model prog w) A (call (.type "zip") [.ref a,.ref C]) Q E s:=by
 refine callType_new F.called_zip (by decide) (F.typeCall_zip_2 _ _) (F.newCall_zip_2 _ _) (fun d=>F.args_object_init_3 d _ _) F.entry_zip_new (Xm m b2 a C xs ys) ⟨G,I,?_⟩;have f:(hz1 m s.heap a).objs.size=s.heap.objs.size + 1:=Qbv ..;have y:(hz2 m b2 s.heap a C).objs.size=s.heap.objs.size + 2:=by unfold hz2;rw [Qbv,f]
 have J:(hz3 m b2 s.heap a C).objs.size=s.heap.objs.size + 3:=by unfold hz3;rw [Qbv,y]
 have S:(hz4 m b2 s.heap a C).objs.size=s.heap.objs.size + 4:=by unfold hz4;rw [Qbv,J]
 have g:(hz5 m b2 s.heap a C).get? (hz4 m b2 s.heap a C).objs.size=some (zO .none false (hz2 m b2 s.heap a C).objs.size (hz3 m b2 s.heap a C).objs.size):=Qau _ rfl;have O:(hz5 m b2 s.heap a C).get? (hz3 m b2 s.heap a C).objs.size=some { cls:=.type "tuple",data:=.seq #[.none,.none] }:=Qac _ (Qau _ rfl);have U:(hz5 m b2 s.heap a C).get? (hz2 m b2 s.heap a C).objs.size=some { cls:=.type "tuple",data:=.seq #[.ref s.heap.objs.size,.ref (hz1 m s.heap a).objs.size] }:=Qac _ (Qac _ (Qau _ rfl));have L:(hz5 m b2 s.heap a C).get? (hz1 m s.heap a).objs.size=some (itO b2 C):=Qac _ (Qac _ (Qac _ (Qau _ rfl)));have W:(hz5 m b2 s.heap a C).get? s.heap.objs.size=some (itO m a):=Qac _ (Qac _ (Qac _ (Qac _ (Qau _ rfl))));show _/\_;rw [y,J,S] at g;rw [f,y] at U;rw [J] at O;rw [f] at L;rw [S];exact ⟨⟨_,g,rfl⟩,h _ ⟨⟨_,_,g,.inl rfl⟩,U,⟨_,_,O⟩,jc W,jc L⟩ fun c o x =>
  Qac _ (Qac _ (Qac _ (Qac _ (Qac _ x))))⟩
theorem St.other{b2:Bool}{TO i1 i2 g f:Addr}{k1 k2:Nat}{h':Heap}(D:Ap z C TO i1 i2)(S:St m b2 z C TO i1 i2 g f k1 k2 h){d:Bool}(y:h'.get? z=some (zO v d C TO))(hf:F0 v)(hs:Heap.SameBut z h h'):St m b2 z C TO i1 i2 g f k1 k2 h' :=
 ⟨⟨v,d,y,hf⟩,hs.extBut _ _ D.TIz S.I,(let ⟨a,b,e⟩:=S.O;⟨a,b,hs.extBut _ _ D.TOz e⟩),S.n1.mv fun o e=>hs.extBut _ _ D.i1z e,S.n2.mv fun o e=>hs.extBut _ _ D.i2z e⟩
end
end ZpT
namespace L2
open PySem PySem.Spec PyProof.Rows
open ZpT (St Ap Of SeqAt ZW)
def SqB(K:PySem.W.Frag):Bool->Hp->Addr->List V->Prop
 | true,H,a,xs=>SqT K H a xs
 | false,H,a,xs=>SqL K H a xs
theorem SqB.t{xs:List V}(h:H a=some (.tup xs)):SqB K true H a xs:=(SqT.of h:SqT K H a xs)
theorem SqB.l{xs:List V}(h:H a=some (.lst xs)):SqB K false H a xs:=(SqL.of h:SqL K H a xs)
def Itz(K:PySem.W.Frag)(b1 b2:Bool)(a1 a2:Addr):It :=
  ⟨fun i H=>∃xs ys x y,SqB K b1 H a1 xs/\SqB K b2 H a2 ys/\xs[i]?=some x/\ys[i]?=some y,
   fun i H v H'=>∃p,H p=none/\v=.ref p/\∀xs ys x y,SqB K b1 H a1 xs->SqB K b2 H a2 ys->xs[i]?=some x->ys[i]?=some y->H'=upd H p (.tup [x,y]),
   fun i H=>∃xs ys,SqB K b1 H a1 xs/\SqB K b2 H a2 ys/\(xs.length<=i\/ys.length<=i)⟩
inductive iZip_i(K:PySem.W.Frag)(b1 b2:Bool)(R:It->Hp->Prop)(x:V)(y:V)(H2:Hp):Prop
 | mk (a1 a2 xs ys:_):(x=.ref a1)->(y=.ref a2)->(SqB K b1 H2 a1 xs)->(SqB K b2 H2 a2 ys)->(R (Itz K b1 b2 a1 a2) H2)->iZip_i K b1 b2 R x y H2
end L2
namespace L2
open PySem PySem.Spec PyProof.Rows
open ZpT (Ap Of SeqAt ZW)
def WO(H:Hp)(ps:List (V × V))(d:List V):Prop:=Paired (fun (p:V × V) (r:V)=>∃a,r=.ref a/\H a=some (.tup [p.1,p.2])) ps d
theorem WO.same{H H':Hp}{ps:List (V × V)}{d:List V}(h:WO H ps d)(s:Z0 H H'):WO H' ps d:=Paired.mapP h fun _ _ ⟨a,e,q⟩=>⟨a,e,s _ _ q⟩
theorem WO.snoc{ps:List (V × V)}(h:WO H ps u){x:V}(e:H a=some (.tup [x,y])):WO H (ps++[(x,y)]) (u++[.ref a]):=by
 unfold WO at h ⊢
 induction h with
 | nil=>exact .cons ⟨a,rfl,e⟩ .nil
 | cons r _ d=>exact .cons r d
theorem WO.len{ps:List (V × V)}(h:WO H ps u):ps.length=u.length:=Paired.length h
section
variable {X:Cx}{A:Around}{b1 b2:Bool}{z TI TO i1 i2 a1 a2 S:Addr}{xs ys:List V}{pins:List (Addr × Obj)}{σ:St}{R:Result->Shared->Prop}
end
end L2
namespace L2
open PySem PySem.Spec PyProof.Rows
open ZpT (Ap Of SeqAt ZW)
section
variable {X:Cx}{e1 e2:Expr}{t:TA}{p pos:Pos}{b1 b2:Bool}
end
end L2
namespace L2
open PySem PySem.Spec PyProof.Rows
structure Two(scope:Scope)(x x2:Str)(ys:List Str):Prop where
 own:scope.names.lookup x2=some .local
 nd:(x::x2::ys).Nodup
def jd(is:List Nat)(σ:St)(v w:Option V):St:=v::w::is.map fun i=>(σ[i]?).getD none
def ua(K:PySem.W.Frag)(is:List Nat)(tc:TT)(te:TE)(σ:St)(Q:VK)(J:It)(H1:Hp):Prop:=∃W:Nat->Nat->List V->Hp->Prop,(∃m,W 0 m [] H1)/\∀i m zs H,W i m zs H ->
 (J.stop i H/\zs.length<=sizeLine/\∀p,H p=none->Q (.ref p) (upd H p (.lst zs))) \/
 (J.go i H/\zs.length<=sizeLine/\∀x H',J.yld i H x H'->∃a f g,x=.ref a/\SqT K H' a [f,g]/\tc (jd is σ (some f) (some g)) H' fun b H2=>if b=true then te (jd is σ (some f) (some g)) H2 fun y E=>∃d,d < m/\W (i + 1) d (zs++[y]) E else ∃d,d < m/\W (i + 1) d zs H2)
def tComp2(K:PySem.W.Frag)(wi:TI)(is:List Nat)(tc:TT)(te:TE):TE:=fun σ H Q=>wi σ H (ua K is tc te σ Q)
section
variable {X:Cx}{S scope:Scope}{N:List Str}{x x2:Str}{ys:List Str}{is:List Nat}{pins:List (Addr × Obj)}{σ:St}{H₂:Hp}{s₂:Shared}{fp:List Addr}{elt iter:Expr}{px px2 pp pos:Pos}{pq:Nat}{ifs:List Expr}{tc:TT}{te:TE}{wi:TI}
theorem zq(K:ZZ S scope N x ys is)(J:Two scope x x2 ys)(g:X.env.scope=S)(I:Inv X pins σ H₂ s₂)(E:s₂.heap.objs.size<=C)(d:∀b∈fp,JN X pins H₂ b)(f:∀b∈fp,b < s₂.heap.objs.size):(cxC X (x::x2::ys) scope C s₂ H₂ fp).Ok where
 mod:=I.ok.mod
 kind:=K.kind
 glob:=I.ok.glob
 blt:=I.ok.blt
 above:=E
 inj:=fun y z c h1 h2=>I.ok.inj y z c (K.cl g I.ok y c h1) (K.cl g I.ok z c h2)
 has:=fun y G=>Xz (Xa (env:=X.env) K.cell G)
 cab:=fun y c h=>by cases h
 hd:=I.ok.hd
 frames:=I.ok.frames
 stk:=.inl rfl
 exf:=fun b hb=>⟨fun e=>absurd (Qaw (f b hb) (Qa0 E (Qd1 (Eq.symm e)))) (Qa6 _),fun y c h=>(d b hb).2.2.2.2.1 y c (K.cl g I.ok y c h)⟩
 bs:=I.bs
 bsz:=Qa0 I.ok.bsz I.sz
 noex:=fun b o e hb=>by
  rcases (d b hb).2.2.2.1 with z | z
  ·exact I.ok.noex b o e z
  ·exact absurd (Qaw (Qat e) (Qa0 I.ok.bsz z)) (Qa6 _)
 exfs:=fun b hb z=>by
  rcases Qas.mp (I.stkSub b z) with e | e
  ·exact (d b hb).2.1 e
  ·exact (d b hb).2.2.1 e
 funs:=I.stack
 frf:=I.stkFree
theorem wj(K:ZZ S scope N x ys is)(K2:Two scope x x2 ys)(E:X.env.scope=S)(hN:X.N=N)(hk:S.kind=.function)(I:Inv X pins σ H₂ s₂){D:Addr}{tk:Nat}{L:Obj}(hC:s₂.heap.objs.size<=C)(hD:s₂.heap.objs.size<=D)(Y:D≠C)
    (hfp:∀b∈fp,JN X pins H₂ b) (W:∀b∈fp,b < s₂.heap.objs.size) (old:∀b o,s₂.heap.get? b=some o->U.get? b=some o) (hn:U.Ns C fun _=>none) (G:U.get? D=some L) (hod:∀v,L.data≠.cell v) :
    Inv (cxC X (x::x2::ys) scope C s₂ H₂ fp) [(D,L)] (jd is σ none none) H₂ { s₂ with heap:=U,toks:=tk }:=by
  have ok:=zq K K2 E I hC hfp W;refine ⟨ok,rfl,I.bare,Un.kept old,⟨_,hn,fun i y v h1 h2 h3=>?_⟩,fun y c h=>?_,I.hok.fresh hC,fun y c h=>I.freeC y c (K.cl E I.ok y c h),fun p hp=>?_,I.hok.kept old,?_⟩
  · cases i with
    | zero =>
      have d:some (none:Option V)=some (some v):=h2;cases d
    | succ i =>
     cases i with
     | zero =>
      have d:some (none:Option V)=some (some v):=h2;cases d
     | succ i =>
      have h1':ys[i]?=some y:=h1;have d:(is.map fun i=>(σ[i]?).getD none)[i]?=some (some v):=h2;rw [Qbc] at d;cases hj:is[i]? with
      | none=>rw [hj] at d;cases d
      | some j =>
        rw [hj] at d;have f:(σ[j]?).getD none=some v:=Option.some.inj d;have Z:σ[j]?=some (some v):=by
          cases q:σ[j]? with
          | none=>rw [q] at f;cases f
          | some z=>rw [q] at f;exact congrArg some f
        have hz:(y,j)∈ys.zip is:=by
          obtain ⟨a1,e1⟩:=Qah.mp h1';obtain ⟨a2,e2⟩:=Qah.mp hj;rw [<-e1,<-e2,<-Qft (h:=by rw [Qf2];lia)];exact Qb4 _
        obtain ⟨v1,O⟩:=K.vis _ hz;have g:X.env.kindOf y=some .cell\/X.env.kindOf y=some .free:=by show X.env.scope.names.lookup y=_\/X.env.scope.names.lookup y=_;rw [E];exact K.free _ (qr O) rfl
        obtain ⟨m,hm,hl⟩:=I.loc;obtain ⟨u,r,l⟩:=hl j y v (by rw [hN];exact v1) Z (.inr g);refine ⟨u,r,.inr ?_⟩;rcases l with ⟨l1,_⟩ | ⟨_,c,l2,l3⟩
        · rcases g with g | g <;> rw [g] at l1 <;> cases l1
        · obtain ⟨c',J⟩:=Xz (cells:=X.env.cells) (acc:=[]) O
          have e:c'=c:=by have:=K.cl E I.ok y c' J;rw [l2] at this;exact (Option.some.inj this).symm
          subst e;refine ⟨g.imp (YZ (scope:=scope) (by rw [E];exact hk) O) (YH O),c',J,?_⟩;obtain ⟨o,ho,hd⟩:=l3;exact ⟨o,old _ _ ho,hd⟩
  · obtain ⟨v,o,ho,hd⟩:=I.cell y c (K.cl E I.ok y c h)
    exact ⟨v,o,old _ _ ho,hd⟩
  · have e:p=(D,L):=by simpa [cxC] using hp
    subst e;refine ⟨G,I.hok.fresh hD,Y,fun z=>?_,hod⟩;obtain ⟨_,o,ho,_⟩:=ok.funs.mem z;exact absurd (Qaw (Qat ho) hD) (Qa6 _)
  · show (jd is σ none none).length=(x::x2::ys).length
    unfold jd;rw [Qan,Qan,Qaz,Qan,Qan,K.len]
theorem zr{J:It}{it:Addr}{tn:Nat->Heap->Prop}{Q:VK}{RR:Value->Addr->Result->Shared->Prop}{E:Value->Shared->Prop}(K:ZZ S scope N x ys is)(K2:Two scope x x2 ys)(hX:X.env.scope=S)(hN:X.N=N)(hk:S.kind=.function)(hc:X.calm=true)
  (hf:∀C s₂ H₂ ex,QF (cxC X (x::x2::ys) scope C s₂ H₂ ex) ifs tc) (he:∀C s₂ H₂ ex,QE (cxC X (x::x2::ys) scope C s₂ H₂ ex) elt te)
  (I:Inv X pins σ H₂ s₂) (T:Turn X.prog X.w X.K (.Tuple [.Name x px,.Name x2 px2] pq pp) J fp it tn) (st:tn 0 s₂.heap) (Z:∀b∈fp,JN X pins H₂ b)
  {W:Nat->Nat->List V->Hp->Prop} {m0:Nat} (w0:W 0 m0 [] H₂)
  (turn:∀i m zs H,W i m zs H->(J.stop i H/\zs.length<=sizeLine/\∀p,H p=none->Q (.ref p) (upd H p (.lst zs))) \/
   (J.go i H/\zs.length<=sizeLine/\∀x H',J.yld i H x H'->∃a v1 v2,x=.ref a/\SqT X.K H' a [v1,v2]/\tc (jd is σ (some v1) (some v2)) H' fun b H2=>if b=true then te (jd is σ (some v1) (some v2)) H2 fun y H3=>∃O,O < m/\W (i + 1) O (zs++[y]) H3 else ∃O,O < m/\W (i + 1) O zs H2))
  (fin:∀D C s' H' O,Inv X pins σ H' s'->JN X pins H' C->s'.heap.Ns C O->Q (.ref D) H'->RR (.ref D) C (.ok .next) s') :
  wpAny (model X.prog X.w) X.A (newList []) (fun acc L=>wpAny (model X.prog X.w) X.A (newFunctionEnv scope X.env.globals (GS X.env.cells scope.names []) [] X.env.qual none .none (some X.env)) (fun cenv s₄ =>
   codeAny (model X.prog X.w) X.A (.compStart (.ListComp elt [⟨(.Tuple [.Name x px,.Name x2 px2] pq pp),iter,ifs,0⟩] scope pos) 0 (.ref it) acc { cenv with scope:=relabel scope X.env }) (RR acc cenv.locals) s₄) E L) E s₂:=by
 refine Qbh (Qeq K.cell (by intro y hy;simp at hy) (fun U G f=>?_) K.kind);dsimp only at G f ⊢;generalize hH2:s₂.heap.push { cls:=.type "list",dict:=none,data:=.seq ([]:List Value).toArray }=H2 at G f ⊢;have hCs:H2.objs.size=s₂.heap.objs.size + 1:=by rw [<-hH2,Qbv]
 have Y:s₂.heap.objs.size≠H2.objs.size:=by rw [hCs];exact Qbf (Qdg _)
 have hC:s₂.heap.objs.size<=H2.objs.size:=by rw [hCs];exact Qey _
 have hlt:∀b∈fp,b < s₂.heap.objs.size:=fun b hb=>by obtain ⟨o,e,_⟩:=T.obj 0 _ st b hb;exact Qat e
 have old:∀b o,s₂.heap.get? b=some o->U.get? b=some o:=fun b o e=>f.extBut b o (by rw [hCs];exact Qbf (Qeg (Qat e))) (Qac _ (hH2 ▸ Qac _ e));have hacc:U.get? s₂.heap.objs.size=some { cls:=.type "list",data:=.seq ([]:List Value).toArray 0 }:=f.extBut _ _ Y (Qac _ (hH2 ▸ Qau _ rfl));have st₁:tn 0 U:=T.keep _ _ _ st fun b _ o e=>old b o e;have fpC:∀{H':Hp} {pl:List (Addr × Obj)},(∀p∈pl,∀b∈fp,p.1≠b)->(∀b∈fp,H' b=none)->∀b∈fp,JN (cxC X (x::x2::ys) scope H2.objs.size s₂ H₂ fp) pl H' b:=fun {H' pl} hpl hn b hb=>by
  have ok:=zq K K2 hX I hC Z hlt;exact ⟨hn b hb,(ok.exf b hb).1,ok.exfs b hb,.inl hb,(ok.exf b hb).2,fun p hp=>hpl p hp b hb⟩
 have Dfp:∀(o:Obj),∀p∈[(s₂.heap.objs.size,o)],∀b∈fp,p.1≠b:=fun o p hp b hb e=>by
  have e1:p=(s₂.heap.objs.size,o):=by simpa using hp
  subst e1;exact absurd (hlt b hb) (by rw [<-e];exact Qa6 _)
 have loop:∀L:Shared,L={ s₂ with heap:=U,toks:=s₂.toks + ([]:List (Str × Value)).length } ->
   codeAny (model X.prog X.w) X.A (.compLoop (.ListComp elt [⟨(.Tuple [.Name x px,.Name x2 px2] pq pp),iter,ifs,0⟩] scope pos) 0 (.ref it) (.ref s₂.heap.objs.size) (compEnvC scope (GS X.env.cells scope.names []) H2.objs.size X.env))
    (RR (.ref s₂.heap.objs.size) H2.objs.size) L:=by
  rintro L rfl;have I0:=wj K K2 hX hN hk I (tk:=s₂.toks + ([]:List (Str × Value)).length) hC (Qao _) Y Z hlt old G hacc (fun v z=>by cases z);refine JZ (fun n s'=>∃(i:Nat) (w1 w2:Option V) (zs:List V) (g:List Value) (k:Nat) (H':Hp),Inv (cxC X (x::x2::ys) scope H2.objs.size s₂ H₂ fp) [(s₂.heap.objs.size,{ cls:=.type "list",data:=.seq g.toArray k })] (jd is σ w1 w2) H' s' /\
   Vals zs g/\tn i s'.heap/\(∀b∈fp,H' b=none)/\W i n zs H') ?_ m0 ⟨0,none,none,[],[],0,H₂,I0,.nil,st₁,fun b hb=>(Z b hb).1,w0⟩
  rintro n s3 ⟨i,w1,w2,zs,g,k,H3,I3,rv,st3,fr3,w3⟩;have hD3:=I3.pin _ (Qaf _ (Qai.mpr rfl));rcases turn i n zs H3 w3 with ⟨stop,hz,q⟩ | ⟨go,hz,step⟩
  ·refine thn (T.done (cxC X (x::x2::ys) scope H2.objs.size s₂ H₂ fp) rfl rfl rfl hc i _ s3 _ H3 _ I3 (fpC (Dfp _) fr3) st3 stop) fun r s4 ⟨hr,I4⟩=>?_
   subst hr;have hD4:=I4.pin _ (Qaf _ (Qai.mpr rfl));have I5:=zh I I4 (Qao _) hD4.2.1 Z hz rv hD4.1;obtain ⟨O,hm',_⟩:=I4.loc;refine fin _ _ s4 _ O I5 ?_ hm' (q _ hD4.2.1);refine I.fpOk hC ?_;rw [Zs (Qcd Y)];exact I4.free
  ·refine thn (T.item (cxC X (x::x2::ys) scope H2.objs.size s₂ H₂ fp) rfl rfl rfl hc i _ s3 _ H3 _ I3 (fpC (Dfp _) fr3) st3 go) fun r s4 ⟨u,hr,h4⟩=>?_
   subst hr;refine thn h4 fun _ s5 ⟨xv,H5,I5,r5,y5,st5,fr5⟩=>?_;have I5':=I5.pinned (fpC (Dfp _) fr5) (T.obj _ _ st5);have pg:PG (cxC X (x::x2::ys) scope H2.objs.size s₂ H₂ fp) (.Tuple [.Name x px,.Name x2 px2] pq pp) (Zb3 X.K 2 (JD (W0 0) (JD (W0 1) Zbt))):=y7 hc (YF (W2 K2.nd rfl (.inl (Qbj K.own)) (.inr (Qbj K.own))) (YF (W2 K2.nd rfl (.inl (Qbj K2.own)) (.inr (Qbj K2.own))) qo));obtain ⟨av,v1,v2,exv,sq5,stp⟩:=step xv H5 y5;subst exv;refine thn (pg _ s5 _ H5 (.ref av) u (fun σ2 H2=>σ2=jd is σ (some v1) (some v2)/\H2=H5) I5' r5 ⟨av,[v1,v2],rfl,sq5,rfl,_,_,rfl,_,_,rfl,rfl,rfl,rfl⟩) fun _ s6 ⟨σ6,H6,I6,e6,e6'⟩=>?_;subst e6;subst e6';have back:∀{s7:Shared} {H7:Hp},Inv (cxC X (x::x2::ys) scope H2.objs.size s₂ H₂ fp) ([(s₂.heap.objs.size,{ cls:=.type "list",data:=.seq g.toArray k })]++JV fp s5.heap) (jd is σ (some v1) (some v2)) H7 s7 ->
     tn (i + 1) s7.heap/\(∀b∈fp,H7 b=none)/\s7.heap.get? s₂.heap.objs.size=some { cls:=.type "list",data:=.seq g.toArray k }/\H7 s₂.heap.objs.size=none:=fun {s7 H7} I7=>by
    refine ⟨T.keep _ _ _ st5 fun b hb o e=>(I7.pin (b,o) (Qaf _ (Qaf _ (Yo hb e)))).1,fun b hb=>?_,?_,?_⟩
    ·obtain ⟨o,e,d⟩:=T.obj _ _ st5 b hb
     exact (I7.pin (b,o) (Qaf _ (Qaf _ (Yo hb e)))).2.1
    ·exact (I7.pin (s₂.heap.objs.size,{ cls:=.type "list",data:=.seq g.toArray k }) (Qaf _ (Qay _ (Qai.mpr rfl)))).1
    ·exact (I7.pin (s₂.heap.objs.size,{ cls:=.type "list",data:=.seq g.toArray k }) (Qaf _ (Qay _ (Qai.mpr rfl)))).2.1
   refine thn ((hf _ _ _ _).out _ s6 _ H6 _ I6 stp) fun b s7 ⟨H7,I7,q7⟩=>?_;cases b with
   | false =>
    have q7':∃O,O < n/\W (i + 1) O zs H7:=by simpa using q7
    obtain ⟨O,hm',w7⟩:=q7';obtain ⟨b1,b2,b3,b4⟩:=back I7;rw [Qa5 Qav];exact ⟨O,hm',i + 1,some v1,some v2,zs,g,k,H7,I7.unpinned,rv,b1,b2,w7⟩
   | true =>
    rw [Qa4 rfl];have q7':=q7;rw [Qa4 rfl] at q7';refine thn ((he _ _ _ _).out _ s7 _ H7 _ I7 q7') fun yv s8 ⟨y,H8,I8,r8,O,hm',w8⟩=>?_;obtain ⟨b1,b2,b3,b4⟩:=back I8;refine append_at b3 (fun h9 sb9 e9=>?_) (by rw [Qak,<-rv.length];exact hz);have ok:=zq K K2 hX I hC Z hlt;have I8':Inv (cxC X (x::x2::ys) scope H2.objs.size s₂ H₂ fp) [] (jd is σ (some v1) (some v2)) H8 s8:=I8.pins_of fun p hp=>by cases hp
    have I9:Inv (cxC X (x::x2::ys) scope H2.objs.size s₂ H₂ fp) [] (jd is σ (some v1) (some v2)) H8 { s8 with heap:=h9 }:=I8'.turned (t':=s8.toks) (it:=s₂.heap.objs.size) (fun b o hb e=>(sb9.2 b hb).trans e) b4 Y (.inr (Qao _))
     (fun y c h z=>by
      obtain ⟨v,o,ho,_⟩:=I.cell y c (K.cl hX I.ok y c h);have:=Qat ho;rw [z] at this;exact Qa6 _ this) (fun p hp=>by cases hp)
    refine ⟨O,hm',i + 1,some v1,some v2,zs++[y],g++[yv],k + 1,H8,?_,rv.append (.cons r8 .nil),T.keep _ _ _ b1 fun b hb o e=>(sb9.2 b fun z=>absurd (hlt b hb) (by rw [z];exact Qa6 _)).trans e,b2,w8⟩;refine I9.pins_of fun p hp=>?_;have e1:p=(s₂.heap.objs.size,{ cls:=.type "list",data:=.seq (g++[yv]).toArray (k + 1) }):=by simpa using hp
    subst e1;refine ⟨by rw [e9,Qfi],b4,Y,fun z=>?_,fun v z=>by cases z⟩;obtain ⟨_,o,ho,_⟩:=ok.funs.mem z;exact absurd (Qat ho) (Qa6 _)
 exact Qec (loop _ rfl) (T.self _ 0 _ _ _ st₁ (loop _ rfl))
theorem wk{y:Str}{spos:Pos}(Z:X.N.Nodup)(hy:X.N[i]?=some y)(hl:X.env.scope.names.lookup y=some .local)(K:ZZ S scope N x ys is)(K2:Two scope x x2 ys)(hi:QI X (.Tuple [.Name x px,.Name x2 px2] pq pp) iter wi)
  (hf:∀C s₂ H₂ ex,QF (cxC X (x::x2::ys) scope C s₂ H₂ ex) ifs tc) (he:∀C s₂ H₂ ex,QE (cxC X (x::x2::ys) scope C s₂ H₂ ex) elt te)
  (O:swapsWith (.ListComp elt [⟨(.Tuple [.Name x px,.Name x2 px2] pq pp),iter,ifs,0⟩] scope pos) (some (.Name y J)) spos.line X.env=pure true:=by rfl)
  (hc:X.calm=true:=by rfl) (hX:X.env.scope=S:=by rfl) (hN:X.N=N:=by rfl) (hk:S.kind=.function:=by rfl) (hs:∀v,foldedSetIterable iter X.env v=pure v:=by intro _;rfl) :
  QS X (.Assign [.Name y J] (.ListComp elt [⟨(.Tuple [.Name x px,.Name x2 px2] pq pp),iter,ifs,0⟩] scope pos) spos) (Zbu (tComp2 X.K wi is tc te) (W0 i)):=by
 refine ⟨fun pins s σ H D I h=>?_⟩;rw [exec_Assign_Name_used _ _ _ _ O];refine Qaa (Qes (Qaa ?_));show wpAny _ X.A (do let _ <-comprehension (.ListComp elt [⟨(.Tuple [.Name x px,.Name x2 px2] pq pp),iter,ifs,0⟩] scope pos) scope X.env _ (newList []) false (eval iter X.env) (some (assign (.Name y J) X.env))) _ _ s;refine Qaa (thn (Qd2 (use:=some (assign (.Name y J) X.env)) (Q:=fun _ s'=>SP X pins D .next s') rfl hs (Jh (K.cellOf' hX I.ok)) K.kind K.names
  (thn (hi.out pins s σ H _ I h) fun v s1 h1=>thn h1 fun itv s2 h2=>?_)) fun _ s' hq=>Qaj (Qaj hq))
 obtain ⟨it,fp,tn,zq13,H2,rfl,I2,T,st2,f2,W,⟨m0,w0⟩,d⟩:=h2;refine zr (RR:=fun acc C=>compPost (model X.prog X.w) X.A X.xe (some (assign (.Name y J) X.env)) (fun _ s'=>SP X pins D .next s') acc C) (Q:=fun v H=>D.nx (σ.set i (some v)) H) K K2 hX hN hk hc hf he I2 T st2 f2 w0 d ?_;intro Dl C s' H' m' I' fC hm' q;obtain ⟨f0,f1,f3,f4,f5,f6⟩:=fC;show wpAny _ X.A (assign (.Name y J) X.env (.ref Dl)) _ _ _;obtain ⟨E,es,ep,hoC,g,L⟩:=hm';have Ip:Inv X (pins++[(C,E)]) σ H' s':=I'.pins_of fun p hp=>(Qam.mp hp).elim (fun z=>I'.pin p (Qaf _ z)) fun z=>by
  have e:p=(C,E):=by simpa using z
  subst e;exact ⟨hoC,f0,f1,f3,fun v z=>by rw [g] at z;cases z⟩
 refine Qfg (Xv Ip Z hy (.inl hl) (v:=.ref Dl) rfl (fun G f=>?_) (.inr hl));have Y:=(f.pin (C,E) (Qaf _ (Qaf _ (Qai.mpr rfl)))).1;refine ⟨m',⟨E,es,ep,Y,g,L⟩,fun h' U=>⟨_,H',f.unpinned.turned (t':=G.toks) (fun b o hb e=>(U.2 b hb).trans e) f0 f1 f4 f5 f6,q⟩⟩
end
end L2
namespace L2
open PySem PySem.Spec PyProof.Rows PySem.W
def wm{α:Type}(n:Nat)(R:α->Prop):KasT α->Prop
 | .ret a=>R a
 | .ask i j k=>i < n/\j < n/\∀b,wm n R (k b)
theorem wm.bind{α β:Type}{n:Nat}{R:α->Prop}{d:β->Prop}{f:α->KasT β}:∀{t:KasT α},wm n R t->(∀a,R a->wm n d (f a))->wm n d (t.bind f)
 | .ret a,h,g=>g a h
 | .ask i j k,h,g=>⟨h.1,h.2.1,fun b=>wm.bind (h.2.2 b) g⟩
theorem wm.wp{α:Type}{n:Nat}{R:α->Prop}{d:Nat->Nat->(Bool->Shared->Prop)->Shared->Prop}{s:Shared}{G:α->Shared->Prop}(hc:∀i j C,i < n->j < n->(∀b,C b s)->d i j C s)(f:∀a,R a->G a s):∀{t:KasT α},wm n R t->t.kasWp d G s
 | .ret a,h=>f a h
 | .ask i j k,h=>hc i j _ h.1 h.2.1 fun b=>wm.wp hc f (h.2.2 b)
def PmN(n:Nat)(p:Array Nat):Prop:=p.Perm (List.toArray (List.range n))
theorem PmN.lt(hn:0 < n){p:Array Nat}(h:PmN n p)(k:Nat):p.getD k 0 < n:=by
 unfold Array.getD
 split
 ·rename_i hk
  have hm:p[k]∈p:=Array.getElem_mem hk;have:=(Array.Perm.mem_iff h).mp hm;simpa using this
 ·exact hn
section
variable {prog:Program}{w:World}{A:Around}{E:Value->Shared->Prop}{s:Shared}
structure Answers(prog:Program)(w:World)(h:Heap)(vs:List Value)(κ:SortKind):Prop where
 kind:∀(A:Around) (E:Value->Shared->Prop) (Q:SortKind->Shared->Prop) (s:Shared),(∀b o,h.get? b=some o->s.heap.get? b=some o)->Q κ s->wpAny (model prog w) A (keyKind' vs.toArray) Q E s
 ask:∀(A:Around) (C:Bool->Shared->Prop) (s:Shared) (i j:Nat),(∀b o,h.get? b=some o->s.heap.get? b=some o)->i < vs.length->j < vs.length->(∀b,C b s)->kas_ask prog w A κ vs i j C s
end
section
variable {prog:Program}{w:World}{h:Heap}
end
section
variable {X:Cx}
end
end L2
namespace L2
open PySem PySem.Spec PyProof.Rows
section
variable {prog:Program}{w:World}{A:Around}{E:Value->Shared->Prop}{s:Shared}{c it:Addr}{oc:Obj}{es:Array DictEntry}{ep i:Nat}
end
section
variable {X:Cx}
theorem KT.at{H:Hp}{kvs:List (List Key × V)}{xs:List (List Key × Addr × Value)}(r:KT H kvs xs){i:Nat}{q:List Key × Addr × Value}(h:xs[i]?=some q):∃p,kvs[i]?=some p/\H q.2.1=some (.tup (p.1.map kV)):=by
 unfold KT at r
 induction r generalizing i with
 | nil=>simp at h
 | @cons p q' ps f e t d =>
  cases i with
  | zero =>
   simp only [List.getElem?_cons_zero,Option.some.injEq] at h;subst h;exact ⟨p,rfl,e.2.1⟩
  | succ j =>
   simp only [List.getElem?_cons_succ] at h;exact d h
end
theorem jW{xs:List V}{is:List Nat}{σ:St}{Q:VK}(f:Nat->List V->Hp->Prop)(U:f 0 [] H)(hl:∀i zs H,f i zs H->zs.length<=sizeLine)(L:∀i zs H,f i zs H->SqL K H a xs)
  (hs:∀i x zs H (R:List V->Hp->Prop),(∀zs H,f (i + 1) zs H->R zs H)->xs[i]?=some x->f i zs H->∃a E G,x=.ref a/\SqT K H a [E,G]/\I (jd is σ (some E) (some G)) H fun b H2=>if b=true then d (jd is σ (some E) (some G)) H2 fun y O=>R (zs++[y]) O else R zs H2)
  (hd:∀zs H,f xs.length zs H->∀p,H p=none->Q (.ref p) (upd H p (.lst zs))) :
  ua K is I d σ Q (Itl K a) H:=by
 refine ⟨fun i m zs H=>m=xs.length - i/\i<=xs.length/\f i zs H,⟨xs.length,by simp,Qa8 _,U⟩,?_⟩;rintro i m zs H ⟨rfl,hi,p⟩;have q:=L i zs H p
 by_cases g:i < xs.length
 ·refine .inr ⟨⟨xs,xs[i],q,by simp [g]⟩,hl i zs H p,fun x H' y=>?_⟩
  obtain ⟨e,y⟩:=y;subst e;exact hs i x zs _ (fun zs H=>∃J,J < xs.length - i/\(fun i m zs H=>m=xs.length - i/\i<=xs.length/\f i zs H) (i + 1) J zs H) (fun zs H S=>⟨xs.length - (i + 1),by lia,rfl,g,S⟩) (y xs q) p
 ·have e:i=xs.length:=by lia
  subst e;exact .inl ⟨⟨xs,q,Qao _⟩,hl _ zs H p,hd zs H p⟩
section
variable {X:Cx}
theorem HT.cat_tup0{prog:Program}{A:Around}{E:Value->Shared->Prop}{s:Shared}{b:Addr}(L:IsTup s.heap a #[])(hb:IsTup s.heap b r.toArray)(q:Q (.ref b) s) :
  wpAny (model prog w) A (binaryOp .Add (.ref a) (.ref b)) Q E s:=by
 obtain ⟨⟨cls,dd,data,J⟩,ho,hc,n,hd⟩:=id L;obtain ⟨⟨I,y,data2,G⟩,d,f,O,g⟩:=id hb;simp only at hc hd f g;subst hc hd f g;exact concat_meets ⟨_,ho,rfl⟩ ⟨_,d,rfl⟩ Qen Qfl Qch Qce (Qb7 _ _)
  (tuple_addW0 a b #[] r.toArray n O dd y J G rfl) ⟨ho,d,q⟩
inductive vw(x:V)(y:V)(H:Hp)(Q:VK):Prop
 | mk (a b xs ys:_):(x=.ref a)->(y=.ref b)->(H a=some (.tup xs))->(H b=some (.tup ys))->(xs.length + ys.length<=sizeLine)->(∀p H',H' p=some (.tup (xs++ys))->Z0 H H'->Q (.ref p) H')->vw x y H Q
def Zap  : R2:=fun x y H Q=>vw x y H Q
theorem Zn:OpR X (binaryOp .Add) Zap:=by
 intro pins s σ H x y v u Q I L J h;obtain ⟨a,b,xs,ys,rfl,rfl,ha,hb,E,q⟩:=h;cases L;cases J;obtain ⟨G,d,p1,_⟩:=I.tuple (SqT.of ha:SqT X.K H a xs);obtain ⟨g,f,p2,_⟩:=I.tuple (SqT.of hb:SqT X.K H b ys)
 by_cases hx:xs=[]
 ·have e:=d.nil_iff.mpr hx
  subst e hx;exact HT.cat_tup0 p1 p2 ⟨.ref b,H,I,rfl,q b H hb fun _ _ z=>z⟩
 ·refine HT.cat_tup p1 p2 (fun z=>hx (d.nil_iff.mp z)) (fun z=>⟨.ref a,H,I,rfl,q a H ?_ fun _ _ z=>z⟩) (fun z=>?_) (by rw [<-d.length,<-f.length];exact E)
  ·rw [f.nil_iff.mp z,Qax]
   exact ha
  ·have hn:=I.hok.fresh (Qao s.heap.objs.size)
   refine ⟨.ref s.heap.objs.size,_,I.laid (t':=s.toks) (o:=.tup (xs++ys)) (fun b ob q=>Qac _ q) (Qao _) ?_,rfl,q _ _ Zc fun c o z=>by rw [Zs (fun e=>by rw [e,hn] at z;cases z)];exact z⟩;exact ⟨by rw [Qab];exact E,_,d.append f,jJ.new _ _⟩
end
open PySem.W (hideAll of_hideAll hideAll_get hideAll_none funFrames_hide)
def CXO(P:Program)(w:World):CXT:=fun outer H s E v s'=>∃(e t C:Addr) (args:List Value) (H':Hp) (B:Heap),v=.ref e/\s'.os=s.os/\AllBare s'.gens/\Un (frs outer) [] H H' s.heap s'.heap/\HOk P w H' s'.heap /\
 Heap.FlyingW B outer e (.ref C) (.ref t) s'.heap/\s'.heap.TupAt t args/\(∀b o,s'.heap.get? b=some o->((∃o',s.heap.get? b=some o')\/∃u,H' b=some u)->b∉frs outer->B.get? b=some o)/\H' e=none/\s.heap.get? e=none/\E (.ref C) (some e) H'
theorem Yc.there{o:HO}(x:Yc P w H h a o):∃q,h.get? a=some q:=by
 induction o with
 | lst xs=>obtain ⟨_,_,_,_,e⟩:=x;exact ⟨_,e⟩
 | tup xs=>obtain ⟨_,_,_,q,e,_⟩:=x;exact ⟨q,e⟩
 | dK kvs=>obtain ⟨_,_,_,_,q,_,_,e,_⟩:=x;exact ⟨q,e⟩
 | dT kvs=>obtain ⟨_,_,_,_,q,_,_,e,_⟩:=x;exact ⟨q,e⟩
 | set S n=>obtain ⟨q,_,_,_,e,_⟩:=x;exact ⟨q,e⟩
 | ins C dx fs=>obtain ⟨_,_,_,e,_⟩:=x;exact ⟨_,e⟩
 | own y=>exact x
 | xd fs=>obtain ⟨_,⟨q,_,_,e,_⟩,_⟩:=x;exact ⟨q,e⟩
 | rng lo hi=>obtain ⟨_,_,_,e⟩:=x;exact ⟨_,e⟩
 | frz q u _=>obtain ⟨e,_⟩:=x;exact ⟨_,e⟩
 | tbl ps=>exact ⟨_,x⟩
 | met f y=>exact ⟨_,x⟩
 | ext φ=>exact x.2.1
section
variable {P:Program}{w:World}{X:Cx}{pins:List (Addr × Obj)}{σ:St}{H:Hp}{s:Shared}
theorem zt{E:XK}{e t:Addr}{args:List Value}{B h':Heap}{g':Array GenState}{d':Drawn}{t':Nat}(I:Inv X pins σ H s)(hx:X.ex=[])(hst:X.stack=X.env::X.outer)(hfr:X.env.frame=some X.env.locals)(hg:AllBare g')
  (G:∀b o,s.heap.get? b=some o->((∃o',X.s₀.heap.get? b=some o')\/∃u,H b=some u)->b∉frs X.stack->B.get? b=some o)
  (up:s.heap.UpToSlots h') (W:Heap.FlyingW B X.outer e (.ref C) (.ref t) h') (tup:h'.TupAt t args) (Z:H e=none) (hse:X.s₀.heap.get? e=none) (hE:E (.ref C) (some e) H) :
  CXO X.prog X.w X.outer X.H₀ X.s₀ E (.ref e) { s with heap:=h',gens:=g',drawn:=d',toks:=t' }:=by
 have hB:B.StaysIn h':=W.1;have S:∀{b:Addr} {o:Obj},X.s₀.heap.get? b=some o->b∉X.fs->b∉frs X.stack:=fun {b o} hb hf hm=>by
  rcases Qas.mp (I.stkSub b hm) with q | q
  ·have:=Qat hb
   rw [q] at this;exact absurd (Qaw this I.ok.above) (Qa6 _)
  ·exact hf q
 have U:∀{b:Addr} {u:HO},H b=some u->b∉frs X.stack:=fun {b u} hb hm=>by
  rw [I.stkFree b hm] at hb;cases hb
 have old:∀b o,s.heap.get? b=some o->((∃o',X.s₀.heap.get? b=some o')/\b∉X.fs\/∃u,H b=some u)->h'.get? b=some o:=fun b o hb q=>by
  rcases q with ⟨⟨o',f⟩,hf⟩ | ⟨u,hu⟩
  ·exact hB b o (G b o hb (.inl ⟨o',f⟩) (S f hf))
  ·exact hB b o (G b o hb (.inr ⟨u,hu⟩) (U hu))
 have d:∀b,b∉X.ex:=fun b hb=>by rw [hx] at hb;cases hb
 refine ⟨e,t,C,args,H,B,rfl,I.os,hg,?_,?_,W,tup,?_,Z,hse,hE⟩
 ·constructor
  ·intro b o hb hn hf _
   exact old b o (I.base.keep b o hb hn hf (d b)) (.inl ⟨⟨o,hb⟩,hf⟩)
  ·intro b o hb hn hf _
   obtain ⟨sl,hs⟩:=I.base.slot b o hb hn hf (d b);obtain ⟨_,o2,y,J⟩:=I.ok.funs.mem hf;have Y:o2=o:=Option.some.inj (y.symm.trans hb);subst Y;obtain ⟨O,L⟩:=up b _ hs (fun ws z=>J ws z);exact ⟨O,L⟩
  ·intro b o hb hn _
   exact I.base.free b o hb hn (d b)
  ·intro b o hb _
   by_cases hf:b∈X.fs
   ·obtain ⟨sl,hs⟩:=I.base.slot b o hb (I.ok.frf b hf) hf (d b)
    obtain ⟨_,o2,y,J⟩:=I.ok.funs.mem hf;have Y:o2=o:=Option.some.inj (y.symm.trans hb);subst Y;obtain ⟨O,L⟩:=up b _ hs (fun ws z=>J ws z);exact ⟨_,L⟩
   ·obtain ⟨o',f⟩:=I.base.there b o hb (d b)
    exact ⟨o',old b o' f (.inl ⟨⟨o,hb⟩,hf⟩)⟩
  ·exact I.base.tups
  ·exact I.base.frzs
  ·exact I.base.tbls
 ·intro a o ha
  refine (I.hok a o ha).stay (fun b u hb q=>old b u q (.inr ?_)) (fun b q=>q) (fun b xs q=>q);rcases hb with rfl | hb
  ·exact ⟨o,ha⟩
  ·exact ⟨_,hb⟩
 ·intro b o hb q hf
  have fin:∀g,s.heap.get? b=some g->b∉frs X.stack->B.get? b=some o:=fun g h1 hn=>by
   have z:=G b g h1 q hn;have z2:=hB b g z;rw [hb] at z2;rw [Option.some.inj z2];exact z
  rcases q with ⟨o0,h0⟩ | ⟨u,hu⟩
  ·obtain ⟨g,h1⟩:=I.base.there b o0 h0 (d b)
   exact fin g h1 (S h0 hf)
  ·obtain ⟨g,h1⟩:=(I.hok b u hu).there
   exact fin g h1 (U hu)
end
end L2
namespace L2
open PySem PySem.Spec PyProof.Rows
open PySem.W (hideAll of_hideAll hideAll_get hideAll_none funFrames_hide)
structure FnX(X:Cx)(E:XK):Prop where
 xe:∀e s',wpAny (model X.prog X.w) X.A (leaving X.env e) (fun _ s''=>CXO X.prog X.w X.outer X.H₀ X.s₀ E e s'') (fun e' s''=>CXO X.prog X.w X.outer X.H₀ X.s₀ E e' s'') s'->X.xe e s'
 ex:X.ex=[]
 stk:X.stack=X.env::X.outer
 fr:X.env.frame=some X.env.locals
def MadeX(X:Cx)(E:XK):Prop:=∀(pins:List (Addr × Obj)) (σ:St) (H:Hp) (s:Shared) (h':Heap) (e C:Addr) (args:List Value),Inv X pins σ H s->Heap.MadeExcOf s.heap h' e (.ref C) args->E (.ref C) (some e) H->X.xe (.ref e) { s with heap:=h' }
section
variable {X:Cx}{E:XK}
theorem Zaq{env:Env}{l:List Env}:∀e∈env::l,∀a,e.frame=some a->a∈frs (env::l):=fun e he a ha=>Qdn.mpr ⟨e,he,ha⟩
theorem FnX.made(F:FnX X E):MadeX X E:=by
 intro pins σ H s h' e C args I hx O;refine F.xe _ _ ?_;have g:X.A.frames=some (X.env::X.outer):=by rw [I.ok.frames,F.stk]
 have d:=I.stack;rw [F.stk] at d;refine wpAny_leaves_madeW (base:=hideAll s.heap (frs X.stack)) (h:=s.heap) g F.fr (fun b o q=>of_hideAll _ q) ?_ hx fun J t y tup L G=>?_
 ·refine funFrames_hide d ?_
  rw [F.stk];exact Zaq
 ·exact zt (s:=s) (g':=s.gens) (d':=s.drawn) (t':=s.toks) I F.ex F.stk F.fr I.bare (fun b o hb _ hn=>hideAll_get _ hb hn) ((Heap.UpToSlots.of_keeps hx.keeps).trans G) y tup (by
   cases q:H e with
   | none=>rfl
   | some u =>
    obtain ⟨o,ho⟩:=(I.hok e u q).there;rw [hx.new] at ho;cases ho) (by
   cases q:X.s₀.heap.get? e with
   | none=>rfl
   | some o =>
    obtain ⟨o',f⟩:=I.base.there e o q (by rw [F.ex];exact fun z=>nomatch z);rw [hx.new] at f;cases f) O
theorem FnX.passes(F:FnX X E):Passes (CXO X.prog X.w) X E:=by
 intro pins σ H s v s' I h;obtain ⟨e,t,C,args,H',B,rfl,os,g,un,O,y,tup,L,S,U,Y⟩:=h;refine F.xe _ _ ?_;have J:Inv X pins σ H' s':=I.call' (ch:=[]) os un O g (fun b z=>absurd z (by simp));have G:X.A.frames=some (X.env::X.outer):=by rw [I.ok.frames,F.stk]
 rw [F.stk] at y;refine wpAny_leaves_onW G F.fr y fun h' f W=>?_;have Z:X.s₀.heap.get? e=none:=by
  cases q:X.s₀.heap.get? e with
  | none=>rfl
  | some o =>
   obtain ⟨o',d⟩:=I.base.there e o q (by rw [F.ex];exact fun z=>nomatch z);rw [U] at d;cases d
 refine zt (s:=s') (g':=s'.gens) (d':=s'.drawn) (t':=s'.toks) J F.ex F.stk F.fr J.bare (fun b o hb q hn=>L b o hb ?_ hn) W f (tup.of_slots W) S Z Y;rcases q with ⟨o',d⟩ | q
 ·exact .inl (I.base.there b o' d (by rw [F.ex];exact fun z=>nomatch z))
 ·exact .inr q
theorem FnX.of{mg:Str->Option Value}{base:Heap}{scope:Scope}{A:Around}{outer:List Env}{s:Shared}:FnX (yO (CXO P w) P w K mg base N x scope a v A outer s H E) E:=⟨fun _ _ h=>h,rfl,rfl,rfl⟩
end
end L2
namespace L2
open PySem PySem.Spec PyProof.Rows
abbrev Zc7:List Value:=[.type "ValueError",.type "Exception",.type "BaseException",.type "object"]
abbrev kG (x:Str) (C:Addr) (mg:Str->Option Value) (base:Heap):Prop:=OwnCls x C Zc7 "ValueError.__new__" mg base
def sRaise(E:XK)(C:Addr)(t:TA):TS:=fun _ σ H=>t σ H fun d H1=>d.length<=sizeLine/\∀e,H1 e=none->E (.ref C) (some e) H1
section
variable {X:Cx}{E:XK}{x:Str}{C:Addr}{np cpos pos:Pos}{e₀:Expr}{rest:List Expr}{t:TA}
theorem je(M:MadeX X E)(hg:Gl X x)(O:kG x C X.mg X.base)(hc:X.calm=true)(ha:QA X (e₀::rest) t)
  (he:starEach (e₀::rest) X.env=(false,eval e₀ X.env)::starEach rest X.env:=by rfl) (g:(backTo cpos (starEach rest X.env)).any (·.1)=false:=by rfl) (hd:(x == ("__debug__" : Str))=false:=by decide) :
  QS X (.Raise (some (.Call (.Name x np) (e₀::rest) [] cpos)) none pos) (sRaise E C t):=by
 refine ⟨fun pins s σ H D I h=>?_⟩;obtain ⟨tl,N,nm,q,bs,hdct,sn,sub,ab,col,dd,k0,k1,k2,k3,k5,mN,J,hN,f,T⟩:=O.obj;refine wpAny_Raise_call_subU (C:=C) (nm:=nm) (q:=q) (N:=N) (bs:=bs) (bm:=tl) (hdct:=hdct) (sn:=sn) (sub:=sub) (ab:=ab) (col:=col) (dd:=dd) (k0:=k0) (k1:=k1) (k2:=k2) (k3:=k3) (k5:=k5)
  Qdw rfl Qdw (mN:=mN) (T.hasType Qdw.hasBase) (I.ok.hd hc) (by rw [he];show (false || (backTo cpos (starEach rest X.env)).any (·.1))=false;rw [g];rfl) f (JU I hg O.bound ⟨rfl,?_⟩ hd)
 have z:=ha.out cpos pins s σ H _ I h;rw [he] at z ⊢;refine Qep (thn z fun y G ⟨L,H2,d,r,hl,q⟩=>?_);refine ⟨rfl,by show y.length<=sizeLine;rw [<-r.length];exact hl,d.bk _ _ J,hN.keeps d.bk,T.keeps d.bk,fun h' e hm=>?_⟩;refine M pins σ H2 G h' e C y d hm (q e ?_);cases qe:H2 e with
 | none=>rfl
 | some u =>
  obtain ⟨o,ho⟩:=(d.hok e u qe).there;rw [hm.new] at ho;cases ho
end
theorem Fun.okX{mg:Str->Option Value}{base:Heap}{qual:Str}{st:Stmt}{fd:FuncData}{ps:List Str}{k:Nat}{sp:Sp}(F:Fun K x qual st a fd)(S:Zz N ps (Zm st))(len:∀f H Q E,sp f H Q E->f.length=ps.length)
  (g:∀(d:Value) (A:Around) (outer:List Env) (s:Shared) (H:Hp) (f:List V) (Q:VK) (E:XK),WJ k (A.deeper (envOfC qual (Zm st) s.heap.objs.size a d))->sp f H Q E ->
   ∃t,PSs (yO (CXO P w) P w K mg base N qual (Zm st) a d A outer s H E) (Xw st) t/\t { nx:=fun _ H'=>Q .non H',rt:=Q } (start N f) H):Z5 P w K mg base (CXO P w) (k + 1) a fd ps sp:=by
 obtain ⟨oc,od,kV,J,L,O,d,ct,G,rfl,I,hcd⟩:=F.ex;exact Zcb I hcd S len fun A outer s H f Q E hr y=>g d A outer s H f Q E hr y
section
variable {M:Model}{A:Around}{E:Value->Shared->Prop}
variable {nm q nm' q':Str}{C N D N':Addr}{bs bm bs' bm':List Value}{hdct hdct':Bool}{sn sn':List Str}{sub sub':List Value}{ab ab':Bool}{col col':Option Bool}{dd dd':Option Addr}{k0 k1 k2 k3 k5 k0' k1' k2' k3' k5':Option Value}{newId newId':String}
theorem GF{g:Array GenState}{d:Drawn}{os:OsState}{e:Addr}{oe:Obj}{Q:Bool->Shared->Prop}
  (L:h.get? C=some (excClassObj nm q C N bs bm hdct sn sub ab col dd k0 k1 k2 k3 k5 newId)) (I:h.get? D=some (excClassObj nm' q' D N' bs' bm' hdct' sn' sub' ab' col' dd' k0' k1' k2' k3' k5' newId')) (he:h.get? e=some oe) (y:oe.cls=.ref C) (hbase:bm'.contains (.type "BaseException")=true) {b:Bool} (hb:(Value.ref C::bm).contains (.ref D)=b)
  (J:Q b ⟨h,g,d,i,os⟩):wpAny M A (excMatches (.ref e) (.ref D)) Q E ⟨h,g,d,i,os⟩:=by
 have G:(Value.ref D::bm').contains (.type "BaseException")=true:=by rw [List.contains_cons,hbase,Bool.or_true]
 have f:=tc_notTuple;unfold excMatches;cases b <;> (repeat (first | (with_reducible refine wpAny_loadPart_at he ?_;rw [y]) | with_reducible refine wpAny_loadPart_at I ?_ | (with_reducible refine wpAny_isSubtype_exc I ?_;rw [G]) | (with_reducible refine wpAny_isSubtype_exc L ?_;rw [hb]) | wp_step)) <;> exact J
end
section
variable {X:Cx}{pins:List (Addr × Obj)}{σ:St}{H H':Hp}{s s':Shared}
theorem jf{B h':Heap}(I:Inv X pins σ H s)(os:s'.os=s.os)(E:AllBare s'.gens)(un:Un (frs X.stack) [] H H' s.heap s'.heap)(L:HOk X.prog X.w H' s'.heap)
  (J:∀b o,s'.heap.get? b=some o->((∃o',s.heap.get? b=some o')\/∃u,H' b=some u)->b∉frs X.stack->B.get? b=some o) (hB:B.StaysIn h') (Y:s'.heap.UpToSlots h'):Inv X pins σ H' { s' with heap:=h' }:=by
 have nf:∀b,b∈frs X.stack->H' b=none:=fun b hb=>by
  obtain ⟨_,o,ho,_⟩:=I.stack.mem hb;exact un.free b o ho (I.stkFree b hb) (fun z=>nomatch z)
 have old:∀b o,s'.heap.get? b=some o->((∃o',s.heap.get? b=some o')\/∃u,H' b=some u)->b∉frs X.stack->h'.get? b=some o:=fun b o hb q n=>hB b o (J b o hb q n);refine I.call' (s':={ s' with heap:=h' }) (ch:=[]) os ⟨fun b o hb hn hf _=>?_,fun b o hb hn hf _=>?_,un.free,fun b o hb _=>?_,un.tups,un.frzs,un.tbls⟩ (fun a o ha=>?_) E (fun b z=>absurd z (by simp))
 ·exact old b o (un.keep b o hb hn hf (fun z=>nomatch z)) (.inl ⟨o,hb⟩) hf
 ·obtain ⟨Z,hs⟩:=un.slot b o hb hn hf (fun z=>nomatch z)
  obtain ⟨_,O,f,g⟩:=I.stack.mem hf;have U:O=o:=Option.some.inj (f.symm.trans hb);subst U;obtain ⟨y,d⟩:=Y b _ hs (fun S z=>g S z);exact ⟨y,d⟩
 ·by_cases hf:b∈frs X.stack
  ·obtain ⟨Z,hs⟩:=un.slot b o hb (I.stkFree b hf) hf (fun z=>nomatch z)
   obtain ⟨_,O,f,g⟩:=I.stack.mem hf;have U:O=o:=Option.some.inj (f.symm.trans hb);subst U;obtain ⟨y,d⟩:=Y b _ hs (fun S z=>g S z);exact ⟨_,d⟩
  ·obtain ⟨o',W⟩:=un.there b o hb (fun z=>nomatch z)
   exact ⟨o',old b o' W (.inl ⟨o,hb⟩) hf⟩
 ·refine (L a o ha).stay (fun b u hb q=>?_) (fun _ q=>q) (fun _ _ q=>q)
  have hu:∃u,H' b=some u:=by
   rcases hb with rfl | hb
   ·exact ⟨o,ha⟩
   ·exact ⟨_,hb⟩
  refine old b u q (.inr hu) fun hf=>?_;obtain ⟨u',G⟩:=hu;rw [nf b hf] at G;cases G
theorem Inv.known{o:HO}(I:Inv X pins σ H s)(hn:H a=none)(f:X.s₀.heap.get? a=none)(h1:a≠X.env.locals)(h2:∀x c,X.env.cells.lookup x=some c->c≠a)(d:∀p∈X.pn++pins,p.1≠a)(ob:Yc X.prog X.w (upd H a o) s.heap a o):Inv X pins σ (upd H a o) s:=by
 have ne:∀{b u},H b=some u->b≠a:=fun e z=>by rw [z,hn] at e;cases e
 refine ⟨I.ok,I.os,I.bare,⟨I.base.keep,I.base.slot,fun b u hb q hx=>?_,I.base.there,fun b xs q=>?_,fun b u v q=>?_,fun b ps q=>?_⟩,I.loc,I.cell,?_,fun x c e=>?_,fun p hp=>?_,fun b u q=>?_,I.len⟩
 ·rw [Zs (fun z=>by rw [z,f] at hb;cases hb)]
  exact I.base.free b u hb q hx
 ·have z:=I.base.tups b xs q
  rw [Zs (ne z)];exact z
 ·have z:=I.base.frzs b u v q
  rw [Zs (ne z)];exact z
 ·obtain ⟨more,z⟩:=I.base.tbls b ps q
  exact ⟨more,by rw [Zs (ne z)];exact z⟩
 ·rw [Zs (Qcd h1)]
  exact I.free
 ·rw [Zs (h2 x c e)]
  exact I.freeC x c e
 ·obtain ⟨e,n,r⟩:=I.pin p hp
  exact ⟨e,by rw [Zs (d p hp)];exact n,r⟩
 ·by_cases hb:b=a
  ·subst hb
   rw [Zc] at q;cases q;exact ob
  ·rw [Zs hb] at q
   exact (I.hok b u q).stay (fun _ _ _ q=>q) (fun c q=>by rw [Zs (ne q)];exact q) (fun c xs q=>by rw [Zs (ne q)];exact q)
theorem v8{M:Model}{A:Around}{E:Value->Shared->Prop}{v:V}{Q:Unit->Shared->Prop}(I:Inv X pins σ H s)(hN:X.N.Nodup)(hi:X.N[i]?=some x)(hk:X.env.scope.names.lookup x=some .local)(hv:σ[i]?=some (some v))
  (h:∀s',Inv X pins (σ.set i none) H s'->Q () s'):wpAny M A (unbindName X.env x) Q E s:=by
 obtain ⟨m,hn,hl⟩:=id I.loc;have f:(X.env.scope.kind == .class || (X.env.scope.kind == .module && X.env.locals != X.env.globals))=false:=by rw [I.ok.kind];rfl
 have G:i < σ.length:=by rw [I.len];exact (Qah.mp hi).1
 have cne:=I.cne;obtain ⟨oL,_,_,hoL,_⟩:=id hn;obtain ⟨W,_,S⟩:=hl i x v hi hv (.inl hk);have hm:m x=some W:=by
  rcases S with ⟨_,e⟩ | ⟨k,_⟩
  ·exact e
  ·rcases k with k | k
   ·have g:X.env.scope.names.lookup x=some .cell:=k
    rw [hk] at g;cases g
   ·have g:X.env.scope.names.lookup x=some .free:=k
    rw [hk] at g;cases g
 refine wpAny_unbindName_local hk hn hm f fun h' u L hs=>?_;refine h _ ⟨I.ok,I.os,I.bare,⟨fun b o e n hb hx=>?_,fun b o e n hb hx=>?_,I.base.free,fun b o e hx=>?_,I.base.tups,I.base.frzs,I.base.tbls⟩,⟨_,L,fun j y v' e1 e2 e3=>?_⟩,fun y c e=>?_,I.free,I.freeC,fun p hp=>?_,fun b ob e=>?_,by simpa using I.len⟩
 ·exact (hs.2 b (Qbf (Qaw (Qat e) I.ok.above))).trans (I.base.keep b o e n hb hx)
 ·obtain ⟨Z,e1⟩:=I.base.slot b o e n hb hx
  exact ⟨Z,(hs.2 b (Qbf (Qaw (Qat e) I.ok.above))).trans e1⟩
 ·obtain ⟨o',e1⟩:=I.base.there b o e hx
  exact ⟨o',(hs.2 b (Qbf (Qaw (Qat e) I.ok.above))).trans e1⟩
 ·by_cases J:j=i
  ·subst J
   rw [Qdk G] at e2;cases e2
  ·rw [Qeo (Qcd J)] at e2
   obtain ⟨Y,r',q⟩:=hl j y v' e1 e2 e3;refine ⟨Y,r',?_⟩;rcases q with ⟨k,e⟩ | ⟨k,c,e,z⟩
   ·refine .inl ⟨k,?_⟩
    have:y≠x:=fun e=>J (qm hN e1 (e ▸ hi));simp [this,e]
   ·exact .inr ⟨k,c,e,z.sameBut hs (cne y c e)⟩
 ·obtain ⟨O,z⟩:=I.cell y c e
  exact ⟨O,z.sameBut hs (cne y c e)⟩
 ·obtain ⟨e,n,ne,U,d⟩:=I.pin p hp
  exact ⟨(hs.2 p.1 ne).trans e,n,ne,U,d⟩
 ·refine (I.hok b ob e).stay (fun c O hc q=>(hs.2 c ?_).trans q) (fun _ q=>q) fun _ _ q=>q
  rintro rfl;rcases hc with rfl | hc
  ·rw [I.free] at e;cases e
  ·rw [I.free] at hc;cases hc
abbrev Cx.under(X:Cx)(e:Addr)(f:Value->Shared->Prop):Cx:={ X with A:=X.A.mark (some (.ref e)),calm:=false,xe:=f }
theorem Inv.under(I:Inv X pins σ H s)(e:Addr)(f:Value->Shared->Prop):Inv (X.under e f) pins σ H s :=
 ⟨⟨I.ok.mod,I.ok.kind,I.ok.glob,I.ok.blt,I.ok.above,I.ok.inj,I.ok.has,I.ok.cab,(fun z=>nomatch z),I.ok.frames,I.ok.stk,I.ok.exf,I.ok.bs,I.ok.bsz,I.ok.noex,I.ok.exfs,I.ok.funs,I.ok.frf⟩,I.os,I.bare,I.base,I.loc,I.cell,I.free,I.freeC,I.pin,I.hok,I.len⟩
theorem Inv.outof{e:Addr}(ok:X.Ok)(I:Inv (X.under e Q) pins σ H s):Inv X pins σ H s :=
 ⟨ok,I.os,I.bare,I.base,I.loc,I.cell,I.free,I.freeC,I.pin,I.hok,I.len⟩
theorem v9{M:Model}{A:Around}{E:Value->Shared->Prop}{pos:Pos}{Q:Unit->Shared->Prop}(I:Inv X pins σ H s)(hN:X.N.Nodup)(hi:X.N[i]?=some x)(hk:X.env.scope.names.lookup x=some .local)
  (h:∀s',Inv X pins ((σ.set i (some .non)).set i none) H s'->Q () s'):wpAny M A (do bindName X.env x .none;unbindBehindTheSuite X.env x pos) Q E s:=by
 have d:i < σ.length:=by rw [I.len];exact (Qah.mp hi).1
 refine Qaa (wpAny_bindName (Xv (v:=.non) I hN hi (.inl hk) rfl (fun g f=>?_) (.inr hk)));unfold unbindBehindTheSuite;exact Qev (v8 f hN hi hk (Qdk d) h)
end
def Xn(base:Heap)(C D:Addr):Prop:=∃nm q N bs bm hdct sn sub ab col dd k0 k1 k2 k3 k5 newId,base.get? C=some (excClassObj nm q C N bs bm hdct sn sub ab col dd k0 k1 k2 k3 k5 newId)/\(Value.ref C::bm).contains (.ref D)=true
def xB(C e:Addr):Heap->Prop:=fun h=>∃o,h.get? e=some o/\o.cls=.ref C
theorem wo{e:Addr}(x:xB C e h):Yc P w H h e (.ext (xB C e)):=by
 obtain ⟨o,ho,hc⟩:=x;exact ⟨⟨o,ho,hc⟩,⟨o,ho⟩,fun h1 h2 ⟨d,f,g⟩ k=>⟨d,k d f,g⟩⟩
section
variable {prog:Program}{w:World}{A:Around}{E:Value->Shared->Prop}{s:Shared}{env:Env}
theorem qA{e D:Addr}{bmB:List Value}{newId:String}{mg:Str->Option Value}{n:Str}{b₀:Stmt}{suite:List Stmt}{pos:Pos}{rest:List ExceptHandler}{Q:Flow->Shared->Prop}{F0 F1:Value->Shared->Prop}
  (hbase:bmB.contains (.type "BaseException")=true) (Z:F0=notedBy (model prog w) (A.mark (some (.ref e))) env (cameBackBy (model prog w) A env E)) (hF1:F1=AsSuiteRaised (model prog w) (A.mark (some (.ref e))) env n pos F0)
  (h:wpAny (model prog w) (A.mark (some (.ref e))) (eval o env) (fun c G=>c=.ref D/\OwnCls x D bmB newId mg G.heap/\Xn G.heap C D/\(∃oe,G.heap.get? e=some oe/\oe.cls=.ref C) /\
   wpAny (model prog w) (A.mark (some (.ref e))) (setFlight (.ref e) none) (fun _ s₂ =>
     wpAny (model prog w) (A.mark (some (.ref e))) (storeName env n (.ref e)) (fun _ I =>
      wpAny (model prog w) (A.mark (some (.ref e))) (execs (b₀::suite) env)
       (fun f S=>wpAny (model prog w) A (do bindName env n .none;unbindBehindTheSuite env n pos) (fun _ L=>Q f L) E S)
       F1 I) F0 s₂) F0 G) F0 s) :
  wpAny (model prog w) A (handleBy (.ref e) env (.ExceptHandler (some o) (some n) (b₀::suite) pos::rest)) Q E s:=by
 subst Z hF1;refine wpAny_handleBy_cons (codeAny_handlers_test (Qcg h (fun c G U=>?_) fun _ _ y=>y)) (by intro q;cases q);obtain ⟨rfl,O,⟨nm',q',N',bs',bm',hdct',sn',sub',ab',col',dd',k0',k1',k2',k3',k5',newId',W,Y⟩,⟨oe,he,J⟩,hk⟩:=U;obtain ⟨bm,N,nm,q,bs,hdct,sn,sub,ab,col,dd,k0,k1,k2,k3,k5,mN,hC,hN,hni,T⟩:=O.obj;obtain ⟨hh,g,d,tk,os⟩:=G;exact GF W hC he J (T.hasType hbase) Y (codeAny_handlers_suite_as hk)
end
theorem Xn.keeps{h':Heap}{D:Addr}(b:Xn h C D)(k:∀a o,h.get? a=some o->h'.get? a=some o):Xn h' C D:=by
 obtain ⟨nm,q,N,bs,bm,hdct,sn,sub,ab,col,dd,k0,k1,k2,k3,k5,newId,f,d⟩:=b;exact ⟨nm,q,N,bs,bm,hdct,sn,sub,ab,col,dd,k0,k1,k2,k3,k5,newId,k _ _ f,d⟩
section
variable {X:Cx}{pins:List (Addr × Obj)}{σ:St}{H:Hp}{s:Shared}
theorem Inv.ofWish(I:Inv (X.wish Q) pins σ H s):Inv X pins σ H s:=⟨I.ok.unwish,I.os,I.bare,I.base,I.loc,I.cell,I.free,I.freeC,I.pin,I.hok,I.len⟩
def wq(n:Nat)(D:Ends):Ends:={ nx:=fun d H'=>D.nx ((d.set n (some .non)).set n none) H',rt:=fun _ _=>False }
def tryE(base:Heap)(Dc:Addr)(n:Nat)(ts:TS)(D:Ends)(σ:St):XK:=fun cls d H'=>∃C e,cls=.ref C/\d=some e/\Xn base C Dc/\ts (wq n D) (σ.set n (some (.ref e))) (upd H' e (.ext (xB C e)))
variable {k:Nat}{f:Addr}{fd:FuncData}{ps:List Str}{sp:Sp}{g x y n:Str}{p np p0 cpos spos hpos pos:Pos}{e₀:Expr}{es:List Expr}{t:TA}{b₀:Stmt}{suite:List Stmt}{i j:Nat}{Dc:Addr}{ts:TS}
end
end L2
namespace L2
open PySem PySem.Spec PyProof.Rows PySem.Calls
open PySem.W (Frag InstAt findObj plainGet plainGet_of kin_open kin_hooked class_get handed_on mroIn clsIn Looks subIn typeIn looks_typeIn looks_subIn isIn isi_call)
section
variable {prog:Program}{w:World}{A:Around}{E:Value->Shared->Prop}{s:Shared}{K:Frag}{e C D:Addr}{oe:Obj}{od:Option Obj}
structure Cl2(K:Frag)(C:Addr)(od:Option Obj):Prop where
 get:plainGet K C "__class__" = true
 found:findObj K C od "__class__" = some (.bind (.builtin "getset_descriptor.__get__") (.builtin "object.__class__"))
 mro:mroIn K C (.type "object")=some true
 cls:(clsIn K C).isSome=true
theorem xC{M:Model}(X:K.In h)(q:(clsIn K C).isSome=true):Looks M h (isType (.ref C)) true:=by
 unfold clsIn at q
 split at q
 ·rename_i ho
  intro f d g s' k z;unfold isType loadHead;exact Qaa (wpAny_loadPart (k _ _ (X _ _ ho)) (Qaj z))
 ·cases q
end
end L2
namespace L2
open PySem PySem.Spec PyProof.Rows PySem.Calls
open PySem.W Builtin Builtin.ObjectAttr Builtin.Getset_descriptor
section
variable {prog:Program}{w:World}{A:Around}{E:Value->Shared->Prop}{s:Shared}{K:Frag}{e C D:Addr}
def vA (K:Frag) (C:Addr):Bool:=findIn K (.ref C) "__getattribute__" == some (some (.builtin "BaseException.__getattribute__")) && (findIn K (.ref C) "__getattr__" == some none && mroIn K C (.type "BaseException") == some true)
structure Cl3(K:Frag)(C:Addr):Prop where
 get:vA K C=true
 found:findIn K (.ref C) "__class__" = some (some (.builtin "object.__class__"))
 desc:specialIn K (.builtin "object.__class__") "__get__" = some (some (.builtin "getset_descriptor.__get__"))
 data:takesIn K (.builtin "object.__class__")=some true
 mro:mroIn K C (.type "object")=some true
 cls:(clsIn K C).isSome=true
theorem vC {M:Model}  (X:K.In h) {name:Str} {a:Value} (ha:findIn K (.ref C) name=some (some a)) (hg:specialIn K a "__get__" = some (some v)) (hd:takesIn K a=some true):Looks M h (find (.ref e) (.ref C) name) (.bind v a):=by
 have f:=looks_findIn (M:=M) X ha;have g:Looks M h (getOf (some a)) (some v):=looks_specialIn X hg;have d:=looks_takesIn (M:=M) X hd;exact f.andThen (g.andThen ((show Looks M h (dataDescriptor? (some a) (some v)) (some (v,a)) from d.andThen .now).andThen (Looks.tag .now)))
theorem ask_by{name:Str}{tk:Tok}{fill:Bool}(X:K.In s.heap)(T:Looks (model prog w) s.heap (typeOf (.ref e)) (.ref C))(G:vA K C=true)
  (h:wpAny (model prog w) A.in1 (Builtin.«object.__getattribute__» ⟨[.ref e,.str name tk],[]⟩)
   (fun fin s'=>match fin with | .done (.ret v)=>wpAny (model prog w) A (handedOut v) Q E s' | _=>False) (fun _ _=>False) s) :
  wpAny (model prog w) A (getAttrBy (.ref e) (.str name tk) fill m) Q E s:=by
 unfold vA at G;rw [Qa1,Qa1,Qc7,Qc7,Qc7] at G;obtain ⟨W,f,U⟩:=G;have J:=looks_findIn (M:=model prog w) X W;have L:=looks_findIn (M:=model prog w) X f;have I:Looks (model prog w) s.heap (isInstance (.ref e) (.type "BaseException")) true:=T.andThen (looks_mroIn X U);have y:(Value.builtin "BaseException.__getattribute__" == Value.builtin "object.__getattribute__")=false:=by decide +kernel
 have O:¬(onTheHeap (Value.ref C) && Value.builtin "BaseException.__getattribute__" == Value.builtin "object.__getattribute__")=true:=by rw [y];exact fun z=>nomatch z
 have S:¬(m && onTheHeap (Value.builtin "BaseException.__getattribute__"))=true:=by cases m <;> exact fun z=>nomatch z
 obtain ⟨hh,g,dr,t,os⟩:=s;unfold getAttrBy;refine Qb3 (Qaa (T.at (Qaa (J.at ?_))));show wpAny _ _ (if (onTheHeap (Value.ref C) && Value.builtin "BaseException.__getattribute__" == Value.builtin "object.__getattribute__")=true then _ else getAttrByItsOwn _ _ _ _ _ _) _ _ _;rw [Qa5 O];unfold getAttrByItsOwn;show wpAny _ _ (typeLookup (.ref C) "__getattr__" >>= _) _ _ _;refine Qaa (L.at (Qaa (Qcm (Qb3 ?_))));unfold callGetattribute;rw [Qa5 S];unfold boundAndCalled;rw [PySem.F.attr_ValueError.ga.bind];have hk:builtinKind "BaseException.__getattribute__" = some .slot:=by decide +kernel
 have d:splitId "BaseException.__getattribute__" = some ("BaseException","__getattribute__"):=by decide +kernel
 refine Qaa (Qaj (Qf7 (codeAny_call_builtin PySem.F.attr_ValueError.ga.plain PySem.F.entry_bexc_ga ?_)));refine @check_slot (model prog w) _ _ ⟨hh,g,dr,t,os⟩ "BaseException.__getattribute__" "BaseException" "__getattribute__" (.ref e) [.str name tk] [] _ hk d I (PySem.F.args_bexc_ga _ _) ?_;refine Qcg h (fun fin s' z=>?_) fun _ _ z=>z.elim;rcases fin with (_ | _ | _ | _) | _ <;> first | exact z | exact z.elim
theorem Zar{name:Str}{tk:Tok}{R:Found}{Q:Fin->Shared->Prop}(T:Looks (model prog w) s.heap (typeOf (.ref e)) (.ref C))(L:Looks (model prog w) s.heap (find (.ref e) (.ref C) name) R)(hm:R≠.missing)
  (h:wpAny (model prog w) A (match R with | .value v=>ret v | .bind g a=>bindTo g a (.ref e) (.ref C) | .missing=>unsupported "") Q E s) :
  wpAny (model prog w) A (Builtin.«object.__getattribute__» ⟨[.ref e,.str name tk],[]⟩) Q E s:=by
 obtain ⟨hh,f,d,t,os⟩:=s;unfold Builtin.«object.__getattribute__»;refine Qaa (Qaj (Qaa (Qaj (Qaa (T.at (Qaa (L.at ?_)))))));cases R with
 | value v=>exact h
 | bind g a=>exact h
 | missing=>exact absurd rfl hm
theorem Zas  {R:Result->Shared->Prop} (X:K.In s.heap) (T:Looks (model prog w) s.heap (typeOf (.ref e)) (.ref C)) (hm:mroIn K C (.type "object")=some true)
  (h:R (.ok (.ret (.ref C))) s):codeAny (model prog w) A (.call (.builtin "getset_descriptor.__get__") ⟨[.builtin "object.__class__",.ref e,v],[]⟩) R s:=by
 obtain ⟨f,g,dr,t,os⟩:=s;have d:=looks_mroIn (M:=model prog w) X hm;refine codeAny_call_builtin KF.slot_gs.plain KF.entry_gs (KF.slot_gs.check _ _ _ _ _ _ _ _ KF.type_class (KF.args_gs _ _ _) ?_);unfold Builtin.«getset_descriptor.__get__» descrGet;rw [dga_obj];refine Qaa (Qaj ?_);unfold descrGetter descrCheckInstance descrNameAndClass isInstance;simp only [KF.owner_class]
 repeat lk
 refine ⟨Code.quiet_builtin _ (by decide +kernel),codeAny_builtin KF.entry_class ?_⟩;unfold Builtin.«object.__class__» shownTypeOf
 repeat lk
 exact h
theorem vD {Q:Option Value->Shared->Prop} (F:Cl3 K C) (X:K.In s.heap) (T:Looks (model prog w) s.heap (typeOf (.ref e)) (.ref C)) (h:Q (some (.ref C)) { s with toks:=s.toks + 1 }):wpAny (model prog w) A (getAttr? (.ref e) "__class__") Q E s:=by
 unfold getAttr? getAttrBy?;refine Qaa (wpAny_mkText (Qaa (Qcm ?_)));refine ask_by (s:={ s with toks:=s.toks + 1 }) X T F.get (Zar (s:={ s with toks:=s.toks + 1 }) (R:=.bind (.builtin "getset_descriptor.__get__") (.builtin "object.__class__")) T (vC X F.found F.desc F.data) (fun z=>nomatch z) ?_);show wpAny _ _ (holding [Value.builtin "object.__class__"] (call (.builtin "getset_descriptor.__get__") [.builtin "object.__class__",.ref e,.ref C]) >>= ret) _ _ _;refine Qaa (Qb3 (Qf7 (Zas (s:={ s with toks:=s.toks + 1 }) X T F.mro ?_)));exact Qaj (handed_on rfl (Qaj h))
end
end L2
namespace L2
open PySem PySem.Spec PyProof.Rows PySem.Calls
theorem qB{e:Addr}(F:Cl3 K C):PySem.W.KitX K (.ref e) (.ref C) (xB C e) where
 ty:=fun M h _ ⟨o,h1,h2⟩=>h2 ▸ (PySem.W.Looks.ld h1).andThen .now
 it:=fun _ _ X _=>xC X F.cls
 ne:=fun h y dd f n G X d=>by
  have z:=F.cls;refine Qfj.mpr fun q=>?_;cases Value.ref.inj (Qc7.mp q);unfold PySem.W.clsIn at z
  split at z
  ·rename_i ho
   have g:=(X _ _ ho).symm.trans d;cases g
  ·cases z
 ca:=fun {prog w A E Q s} X p k=>by
  obtain ⟨o,h1,h2⟩:=p;exact vD F X (h2 ▸ (PySem.W.Looks.ld h1).andThen .now) k
inductive TyX(K:PySem.W.Frag)(H:Hp):V->Value->Prop
 | non:TyX K H .non (.type "NoneType")
 | exc {e C:Addr} (h:H e=some (.ext (xB C e))) (F:Cl3 K C):TyX K H (.ref e) (.ref C)
def rIsX(K:PySem.W.Frag):List V->Hp->VK->Prop:=fun xs H Q=>∃x c t b,xs=[x,c]/\TyX K H x t /\
 ((∃T,c=.ty T/\PySem.W.kitOne K t (.type T)=some b)\/(∃D,c=.ref D/\PySem.W.kitOne K t (.ref D)=some b)\/(∃(d:Addr) (ds:List Addr),c=.ref d/\H d=some (.tup (ds.map V.ref))/\PySem.W.kitAny K t (ds.map Value.ref)=some b))/\Q (.bl b) H
theorem xD:∀{ds:List Addr} {f:List Value},Vals (ds.map V.ref) f->f=ds.map Value.ref
 | [],_,r=>by cases r;rfl
 | d::ds,_,r=>by
  cases r with
  | cons y g=>rw [xD g,show _=Value.ref d from y];rfl
theorem qC {X:Cx}:Xk X (.builtin "isinstance") (rIsX X.K):=by
 intro pins s σ H xs S Q I r h;obtain ⟨x,c,t,b,rfl,ty,hc,q⟩:=h;obtain ⟨u,O,rfl,d,rt⟩:=vals2 r;have fin:∀tk,EP X pins σ Q (.bool b) { s with toks:=tk }:=fun tk=>⟨.bl b,H,I.tok tk,rfl,q⟩;obtain ⟨T,rfl,e⟩ | ⟨D,rfl,e⟩ | ⟨E,ds,rfl,y,e⟩:=hc
 ·cases rt
  cases ty with
  | non=>cases (show u=Value.none from d);exact Qbs Qed I.kIn True.intro e (fun z=>nomatch z) fin
  | exc hh F=>cases d;exact Qbs (qB F) I.kIn (I.hok _ _ hh).1 e (fun z=>nomatch z) fin
 ·cases rt
  cases ty with
  | non=>cases (show u=Value.none from d);exact Qbs Qed I.kIn True.intro e (fun z=>nomatch z) fin
  | exc hh F=>cases d;exact Qbs (qB F) I.kIn (I.hok _ _ hh).1 e (fun z=>nomatch z) fin
 ·cases rt
  obtain ⟨_,G,L,o,ho,f,⟨n,hd⟩,_⟩:=(show Yc X.prog X.w H s.heap E (.tup _) from I.hok _ _ y);cases xD L;obtain ⟨oc,od,g,J⟩:=o;cases f;cases hd;cases ty with
  | non=>cases (show u=Value.none from d);exact PySem.W.kia_tup Qed I.kIn True.intro ho e (fun z=>nomatch z) fin
  | exc hh F=>cases d;exact PySem.W.kia_tup (qB F) I.kIn (I.hok _ _ hh).1 ho e (fun z=>nomatch z) fin
open PySem.W Builtin Builtin.ObjectAttr
def ub:List Value->Bool
 | [.type a,.type b,.type c,.type d]=>a == "ValueError" && (b == "Exception" && (c == "BaseException" && d == "object"))
 | .ref _::r=>ub r
 | _=>false
structure AtC(K:Frag)(C:Addr)(f:Str):Prop where
 over:((clsIn K C).any fun cd=>ub cd.mro && cd.hasDict)=true
 sa:findIn K (.ref C) "__setattr__" = some (some (.builtin "object.__setattr__"))
 get:vA K C=true
 no:findIn K (.ref C) f=some none
section
variable {prog:Program}{w:World}{A:Around}{E:Value->Shared->Prop}{s:Shared}{K:Frag}{x C:Addr}{name:Str}{v:Value}
end
def Zc8(C e d:Addr):Heap->Prop:=fun h=>∃arr f,h.get? e=some ⟨.ref C,some d,.fields arr,f⟩
section
variable {X:Cx}{pins:List (Addr × Obj)}{σ:St}{H:Hp}{s:Shared}{e C d:Addr}{f:Str}{v:V}{u:Value}{A:Around}{E:Value->Shared->Prop}
end
section
variable {X:Cx}{o value:Expr}{ta tv:TE}{f:Str}{pos pos':Pos}
end
end L2
namespace L2
open PySem PySem.Spec PyProof.Rows PySem.Calls
open PySem.W
def vE(K:Frag)(C:Addr):Bool:=match K.lookup C with
 | some ⟨.type "type",_,.cls d,sm⟩=>(match d.mro,sm.toList with
  | .ref f::tl,[_,_,_,_,some (.builtin n),_]=>f == C && (n == "ValueError.__new__" && (!d.hasDel && tailIn K Zc7 tl))
  | _,_=>false)
 | _=>false
theorem jg {K:Frag}   (X:K.In h) (q:vE K C=true):∃nm f N bs tl hd sn sub ab col dd k0 k1 k2 k3 k5,h.get? C=some (excClassObj nm f C N bs tl hd sn sub ab col dd k0 k1 k2 k3 k5 "ValueError.__new__")/\OwnTail h Zc7 tl:=by
 unfold vE at q
 split at q
 ·rename_i dd E sm ho
  split at q
  ·rename_i J tl k0 k1 k2 k3 n k5 hm hs
   rw [Qa1,Qa1,Qa1,Qc7,Qc7,Bool.not_eq_true'] at q;obtain ⟨rfl,rfl,d,g⟩:=q;obtain ⟨nm,bs,I,G,f,hd,sn,sub,ab,col,y⟩:=E;cases d;cases hm;obtain ⟨l⟩:=sm;cases hs;exact ⟨nm,f,G,bs,tl,hd,sn,sub,ab,col,dd,k0,k1,k2,k3,k5,X _ _ ho,tail_of_in X g⟩
  ·cases q
 ·cases q
section
variable {prog:Program}{w:World}{A:Around}{E:Value->Shared->Prop}{hh:Heap}{g:Array GenState}{dr:Drawn}{t:Nat}{os:OsState}{K:Frag}
variable {nm q:Str}{C N fI:Addr}{bs tl:List Value}{hdct:Bool}{sn:List Str}{sub:List Value}{ab:Bool}{col:Option Bool}{dd:Option Addr}{k0 k1 k2 k3 k5:Option Value}
end
end L2
namespace L2
open PySem PySem.Spec PyProof.Rows PySem.Calls
open PySem.W
structure MkX(K:Frag)(C f:Addr):Prop where
 cls:vE K C=true
 init:findIn K (.ref C) "__init__" = some (some (.ref f))
 fn:typeIn K (.ref f)=some (.type "function")
 kp:keepIn K (.ref C)=true
section
variable {X:Cx}{x:Str}{C f:Addr}{k:Nat}{fd:FuncData}{ps:List Str}{sp:Sp}{p pos:Pos}{e₀:Expr}{es:List Expr}{t:TA}
end
end L2
namespace L2
open PySem PySem.Spec PyProof.Rows PySem.Calls
open Builtin Builtin.Str
structure QEp(X:Cx)(e:Expr)(t:TE):Prop where
 out:∀(pins:List (Addr × Obj)) (s:Shared) (σ:St) (H:Hp) (Q:VK),Inv X pins σ H s->1<=s.toks->t σ H Q->wpAny (model X.prog X.w) X.A (eval e X.env) (EP X pins σ Q) X.xe s
structure QAp(X:Cx)(es:List Expr)(t:TA):Prop where
 out:∀(pos:Pos) (pins:List (Addr × Obj)) (s:Shared) (σ:St) (H:Hp) (Q:List V->Hp->Prop),Inv X pins σ H s->1<=s.toks->t σ H Q->wpAny (model X.prog X.w) X.A (spliced (backTo pos (starEach es X.env))) (AP X pins σ Q) X.xe s
section
variable {X:Cx}{e b:Expr}{es:List Expr}{te tb:TE}{t:TA}
end
section
variable {X:Cx}{o:Expr}{to:TE}{y z:Str}{j1 j2 j3:Nat}{p1 p2 p3 apos cpos:Pos}
end
end L2
namespace L2
open PySem PySem.Spec PyProof.Rows PySem.Calls
open Builtin Builtin.Str
def tFsR(c:Str)(ta:TE):TE:=fun σ H Q=>ta σ H fun v H1=>∃x,v=.str x/\c.length + (reprText x).length<=1000000/\Q (.str (c++reprText x)) H1
section
variable {X:Cx}{e:Expr}{ta:TE}{c:Str}{j:Nat}{p1 p2 pos:Pos}
theorem len_cat(a b:Str):(a++b).length=a.length + b.length:=strLen_append a b
theorem qe_fsR(ha:QE X e ta)(hc:c.length<=1000:=by decide):QE X (.JoinedStr [.Constant (.str c) j p1,.FormattedValue e 114 none p2] pos) (tFsR c ta):=by
 refine ⟨fun pins s σ H Q I h=>wpAny_JoinedStr (Calls.Constant_str (k:=j) (pos:=p1) ⟨c,_,rfl,?_,?_⟩)⟩
 ·rw [len_cat,Qdz]
  show 0 + c.length<=_;lia
 ·refine wpAny_FormattedValue_repr (thn (ha.out pins _ σ H _ (I.tok _) h) fun v L ⟨x,H1,f,J,y,G,hl,E⟩=>?_)
  subst G;obtain ⟨tk,rfl⟩:=J;have g:(reprText y).length<=sizeLine:=by rw [Qdz];lia
  have d:(Str.empty++c++reprText y).length<=sizeLine:=by
   rw [len_cat,len_cat,Qdz];show 0 + c.length + _<=_;lia
  have e2:Str.empty++c++reprText y=c++reprText y:=by
   show (⟨(#[]++c.cps)++(reprText y).cps⟩:Str)=⟨c.cps++(reprText y).cps⟩;rw [Array.empty_append]
  refine wpAny_pyReprObj_str (wpAny_formatField_str ?_ ?_ g) g
  ·exact ⟨_,_,rfl,d,d,V.str _,H1,f.tok _,⟨_,rfl⟩,by rw [e2];exact E⟩
  ·exact ⟨_,_,rfl,d,d,V.str _,H1,f.tok _,⟨_,rfl⟩,by rw [e2];exact E⟩
end
section
variable {X:Cx}
end
end L2
namespace L2
open PySem PySem.Spec PyProof.Rows PySem.Calls
open PySem.W
def qD(K:Frag)(C:Addr):Bool:=vE K C && (match K.lookup C with
 | some ⟨_,_,.cls d,_⟩=>nsOkIn K d.ns && nsIn K d.ns "__init__" == some none
 | _=>false)
theorem W7{K:Frag}{mg:Str->Option Value}(X:K.In h)(m:mg x=some (.ref C))(q:qD K C=true):kG x C mg h:=by
 refine ⟨m,?_⟩;unfold qD at q;rw [Qa1] at q;obtain ⟨g,d⟩:=q;obtain ⟨nm,y,N,bs,tl,hd,sn,sub,ab,col,dd,k0,k1,k2,k3,k5,f,T⟩:=jg X g
 split at d
 ·rename_i G d0 I E ho
  rw [Qa1,Qc7] at d;have e:=(X _ _ ho).symm.trans f;cases e;exact ⟨tl,N,nm,y,bs,hd,sn,sub,ab,col,dd,k0,k1,k2,k3,k5,_,f,.of_isNs (isNs_of_in X d.1),nsMap_none_of_in X d.1 d.2,T⟩
 ·cases d
def X0(K:Frag)(C D:Addr):Bool:=vE K C && (match K.lookup C with
 | some ⟨_,_,.cls d,_⟩=>d.mro.contains (.ref D)
 | _=>false)
theorem X1{K:Frag}{D:Addr}(X:K.In h)(q:X0 K C D=true):Xn h C D:=by
 unfold X0 at q;rw [Qa1] at q;obtain ⟨g,d⟩:=q;obtain ⟨nm,y,N,bs,tl,hd,sn,sub,ab,col,dd,k0,k1,k2,k3,k5,f,T⟩:=jg X g
 split at d
 ·rename_i G d0 I E ho
  have e:=(X _ _ ho).symm.trans f;cases e;exact ⟨nm,y,N,bs,tl,hd,sn,sub,ab,col,dd,k0,k1,k2,k3,k5,_,f,d⟩
 ·cases d
def GG (K:Frag) (C:Addr):Bool:=vA K C && (findIn K (.ref C) "__class__" == some (some (.builtin "object.__class__")) && (specialIn K (.builtin "object.__class__") "__get__" == some (some (.builtin "getset_descriptor.__get__"))
 && (takesIn K (.builtin "object.__class__") == some true && (mroIn K C (.type "object") == some true && (clsIn K C).isSome))))
theorem J3{K:Frag}(q:GG K C=true):Cl3 K C:=by
 unfold GG at q;rw [Qa1,Qa1,Qa1,Qa1,Qa1] at q;exact ⟨q.1,Qc7.mp q.2.1,Qc7.mp q.2.2.1,Qc7.mp q.2.2.2.1,Qc7.mp q.2.2.2.2.1,q.2.2.2.2.2⟩
end L2
namespace L2
open PySem PySem.Spec PyProof.Rows PySem.Calls
theorem qE:bootBuiltins "ValueError" = some (.type "ValueError"):=by decide +kernel
open Builtin Builtin.Str
end L2
namespace L2
open PySem PySem.Spec PyProof.Rows PySem.Calls
def Stb(φ:Obj->Prop):Prop:=∀o v,φ o->φ (Obj.mapFields (·.setIfInBounds 1 v) o)
def TrX(h B:Heap)(e:Addr)(φ:Obj->Prop)(g:Value):Prop :=
 ∃oe d T f ts,h.get? e=some oe/\φ oe/\oe.data=.fields d/\d[1]?=some (.ref T)/\B.get? T=none/\T≠e/\h.get? T=some f/\f.data=.fields ts/\ts[3]?=some g
def wt(B:Heap)(l:List Env)(e:Addr)(φ:Obj->Prop)(h:Heap):Prop:=B.StaysIn h/\B.get? e=none/\h.FunFrames B l/\TrX h B e φ .none
def Zcl(B:Heap)(l:List Env)(e:Addr)(φ:Obj->Prop)(L:Addr)(h:Heap):Prop:=B.StaysIn h/\B.get? e=none/\h.FunFrames B l/\TrX h B e φ (rawInt L)
theorem wt.there{B:Heap}{l:List Env}{e:Addr}{φ:Obj->Prop}(x:wt B l e φ h):∃o,h.get? e=some o/\φ o:=by
 obtain ⟨_,_,_,o,_,_,_,_,h1,h2,_⟩:=x;exact ⟨o,h1,h2⟩
theorem wt.old{B:Heap}{l:List Env}{e:Addr}{φ:Obj->Prop}{cls:Value}(f:∀o,φ o->o.cls=cls/\∀d,o.data=.fields d->d[0]?=some v)(x:wt B l e φ h):Heap.FlyingW B l e cls v h:=by
 obtain ⟨y,x2,x3,o,d,T,E,ts,h1,h2,g,G⟩:=x;exact ⟨y,x2,x3,o,d,T,E,ts,h1,⟨(f o h2).1,(f o h2).2 d g⟩,g,G⟩
section
variable {M:Model}{A:Around}{E:Value->Shared->Prop}{s:Shared}{B:Heap}{env:Env}{outer:List Env}{L e:Addr}{φ:Obj->Prop}{Q:Unit->Shared->Prop}
theorem entryX{oe:Obj}{I:Array Value}{head:Value}(st:Stb φ)(Z:A.frames=some (env::outer))(hl:s.heap.FunFrames B (env::outer))(hf:env.frame=some L)(he:s.heap.get? e=some oe)(Y:φ oe)(W:B.StaysIn s.heap)(hen:B.get? e=none)(hd:oe.data=.fields I)(hsz:1 < I.size)
  (h:∀h',B.StaysIn h'->h'.FunFrames B (env::outer)->TrX h' B e φ (rawInt L)->s.heap.UpToSlots h'->Q () { s with heap:=h' }) :
  wpAny M A (do let a <-frameOf env;let O <-entryPlaceOf L m;let b <-EntryCells.newEntry head a .none (rawInt L) .none O;setField (.ref e) 1 b) Q E s:=by
 have S:e∉(env::outer).filterMap (·.frame):=fun z=>by
  obtain ⟨_,o,ho,f⟩:=hl.mem z;cases ho.symm.trans he;exact f I hd
 refine Qaa (wpAny_frameOf_fun Z hl hf fun d J=>Qaa (wpAny_entryPlaceOf fun O g=>?_));unfold EntryCells.newEntry newFields;refine Qaa (Qbh ?_ (g.sizeOk5 _ _ _ _ _));have e1:d.get? e=some oe:=(J.2.1 e S).trans he;have k1:B.StaysIn d:=fun b o z=>(J.2.1 b fun y=>by rw [(hl.mem y).1] at z;cases z).trans (W b o z);generalize hT:({ cls:=.type "traceback",dict:=none,data:=.fields ([head,.ref L,.none,rawInt L,.none]++(if O.isEmpty then List.replicate 6 Value.none else O)).toArray }:Obj)=G;have e2:=Qac (h:=d) G e1;have ne:d.objs.size≠e:=Qcz (Qat e1);have d3:=Qbn hd (·.setIfInBounds 1 (Value.ref d.objs.size));have e3:=Qb9 (Obj.mapFields (·.setIfInBounds 1 (Value.ref d.objs.size))) e2 (Qcp d3);have t3:((d.push G).update e (Obj.mapFields (·.setIfInBounds 1 (Value.ref d.objs.size)))).get? d.objs.size=some G:=(Qby _ _ (Qcd ne)).trans (Qau d (by rw [<-hT];rfl));have U:∀b o,b≠e->d.get? b=some o->((d.push G).update e (Obj.mapFields (·.setIfInBounds 1 (Value.ref d.objs.size)))).get? b=some o:=fun b o n z=>by
  rw [Qby _ _ (Qcd n)];exact Qac _ z
 have nr:∀b o,s.heap.get? b=some o->(∀ws,o.data≠.fields ws)->b≠e:=fun b o z f y=>by
  rw [y] at z;cases z.symm.trans he;exact f I hd
 refine Qcn e2 hd hsz (h _ (fun b o z=>U b o (fun y=>by rw [y,hen] at z;cases z) (k1 b o z)) (hl.of_keeps fun b o z f=>?_) ?_ fun b o z f=>?_)
 ·obtain ⟨sl,q⟩:=J.2.2 b o z
  exact ⟨_,U b _ (nr b o z f) q,rfl⟩
 ·refine ⟨_,_,d.objs.size,G,_,e3,st _ _ Y,d3,by simp [hsz],k1.fresh,ne,t3,by rw [<-hT],?_⟩
  first | (simp;done) | (rcases g with rfl | ⟨_,_,_,_,_,_,_,rfl⟩ <;> simp)
 ·obtain ⟨sl,q⟩:=J.2.2 b o z
  exact ⟨sl,U b _ (nr b o z f) q⟩
theorem Zat{l:List Env}(L:B.StaysIn s.heap)(hl:s.heap.FunFrames B l)(ht:TrX s.heap B e φ v)
  (h:∀h',B.StaysIn h'->h'.FunFrames B l->TrX h' B e φ .none->s.heap.UpToSlots h'->Q () { s with heap:=h' }):wpAny M A (setFlight (.ref e) none) Q E s:=by
 obtain ⟨oe,Y,T,oT,ts,he,O,hd,h1,g,I,S,d,Z⟩:=ht;have U:3 < ts.size:=(Qcw.mp Z).1;have J:∀b,b≠T->(s.heap.update T (Obj.mapFields (·.setIfInBounds 3 ((none:Option Addr).elim Value.none fun f=>rawInt f)))).get? b=s.heap.get? b:=fun b n=>Qby _ _ (Qcd n);have W:∀b o,s.heap.get? b=some o->(∀ws,o.data≠.fields ws)->b≠T:=fun b o z G y=>by
  rw [y] at z;cases z.symm.trans S;exact G ts d
 unfold setFlight;refine Qaa (Qa2 he hd h1 ?_);rw [Qa4 (by simp)];refine Qcn S d U (h _ (fun b o z=>(J b fun y=>by rw [y,g] at z;cases z).trans (L b o z)) (hl.of_keeps fun b o z G=>⟨o,(J b (W b o z G)).trans z,rfl⟩) ?_ fun b o z G=>⟨o.slots,(J b (W b o z G)).trans z⟩);exact ⟨oe,Y,T,_,_,(J e (Qcd I)).trans he,O,hd,h1,g,I,Qb9 _ S (Qcp (Qbn d _)),Qbn d _,by simp [U]⟩
theorem noteX(st:Stb φ)(I:A.frames=some (env::outer))(hf:env.frame=some L)(U:wt B (env::outer) e φ s.heap)
  (h:∀h',Zcl B (env::outer) e φ L h'->s.heap.UpToSlots h'->Q () { s with heap:=h' }):wpAny M A (noteFrame (.ref e) env) Q E s:=by
 obtain ⟨J,g,hl,oe,vs,T,oT,ts,he,O,hd,h1,S,Y,W,d,Z⟩:=U;unfold noteFrame;simp only [hf];refine Qaa (Qa2 he hd h1 ?_);rw [Qa4 (by simp)];refine Qaa (Qa2 W d Z ?_);rw [Qa5 (by simp [rawInt])];refine Qaa (Qcn W d (Qcw.mp Z).1 ?_);have G:∀b,b≠T->(s.heap.update T (Obj.mapFields (·.setIfInBounds 3 Value.none))).get? b=s.heap.get? b:=fun b n=>Qby _ _ (Qcd n);have nr:∀b o,s.heap.get? b=some o->(∀ws,o.data≠.fields ws)->b≠T:=fun b o z f y=>by
  rw [y] at z;cases z.symm.trans W;exact f ts d
 refine entryX (s:={ s with heap:=s.heap.update T (Obj.mapFields (·.setIfInBounds 3 Value.none)) }) st I (hl.of_keeps fun b o z f=>⟨o,(G b (nr b o z f)).trans z,rfl⟩) hf ((G e (Qcd Y)).trans he) O (fun b o z=>(G b fun y=>by rw [y,S] at z;cases z).trans (J b o z)) g hd (Qcw.mp h1).1
  fun h' a1 a2 a3 a4=>h h' ⟨a1,g,a2,a3⟩ fun b o z f=>a4 b o ((G b (nr b o z f)).trans z) f
theorem landX{l:List Env}(hh:Zcl B l e φ L s.heap)(h:∀h',wt B l e φ h'->s.heap.UpToSlots h'->Q () { s with heap:=h' }):wpAny M A (setFlight (.ref e) none) Q E s :=
 Zat hh.1 hh.2.2.1 hh.2.2.2 fun h' k1 k2 k3 d=>h h' ⟨k1,hh.2.1,k2,k3⟩ d
end
def CtxO(e:Addr):Heap->Prop:=fun h=>∃o d,h.get? e=some o/\o.data=.fields d/\d[2]?=some .none
section
variable {prog:Program}{w:World}{A:Around}{E:Value->Shared->Prop}{s:Shared}{env:Env}{x:Sem Value}{Q:Flow->Shared->Prop}{C e1:Addr}{j:Nat}{p pos:Pos}
end
open PySem.W (hideAll of_hideAll hideAll_get hideAll_none funFrames_hide)
def ExP(C t:Addr)(o:Obj):Prop:=o.cls=.ref C/\∃d,o.data=.fields d/\d[0]?=some (.ref t)/\d[2]?=some .none
theorem ExP.stb:Stb (ExP C a):=fun o v ⟨h1,g,h2,f,d⟩=>⟨(Qdt _ _).trans h1,_,Qbn h2 _,by rw [Qci (by decide)];exact f,by rw [Qci (by decide)];exact d⟩
theorem ExP.old:∀o,ExP C a o->o.cls=.ref C/\∀d,o.data=.fields d->d[0]?=some (.ref a):=fun o ⟨h1,d,h2,f,_⟩=>⟨h1,fun g z=>by
 cases h2.symm.trans z;exact f⟩
theorem ExP.ctx{e:Addr}(x:∃o,h.get? e=some o/\ExP C a o):CtxO e h:=by
 obtain ⟨o,h1,_,d,h2,_,f⟩:=x;exact ⟨o,d,h1,h2,f⟩
def ExA(C t:Addr)(o:Obj):Prop:=o.cls=.ref C/\∃d,o.data=.fields d/\d[0]?=some (.ref t)
theorem ExA.stb:Stb (ExA C a):=fun o v ⟨h1,f,h2,d⟩=>⟨(Qdt _ _).trans h1,_,Qbn h2 _,by rw [Qci (by decide)];exact d⟩
theorem ExA.old:∀o,ExA C a o->o.cls=.ref C/\∀d,o.data=.fields d->d[0]?=some (.ref a):=fun o ⟨h1,d,h2,f⟩=>⟨h1,fun g z=>by
 cases h2.symm.trans z;exact f⟩
section
variable {X:Cx}{E:XK}
end
end L2
namespace L2
open PySem PySem.Spec PyProof.Rows PySem.Calls
section
variable {prog:Program}{w:World}{A:Around}{E:Value->Shared->Prop}{s:Shared}{env:Env}
end
section
variable {X:Cx}{E:XK}
end
section
variable {X:Cx}{E:XK}{k:Nat}{f:Addr}{fd:FuncData}{ps:List Str}{sp:Sp}{g y x2:Str}{p np np2 cpos cpos2 spos hpos pos p9 rpos:Pos}{j:Nat}{e₀ a₀:Expr}{es as:List Expr}{t t2:TA}{Dc C2:Addr}
end
section
variable {prog:Program}{w:World}{A:Around}{E:Value->Shared->Prop}{s:Shared}{a:Addr}{oa:Obj}{x:Value}{l:List Value}{na:Nat}{ts:List Str}
end
section
variable {X:Cx}{e:Expr}{ta:TE}{c:Str}{j:Nat}{p1 p2 pos:Pos}
end
theorem wu{M:Model}{A:Around}{E:Value->Shared->Prop}{s:Shared}{Q:Fin->Shared->Prop}{b:Nat}
  (h1:wpAny M A (tupleReprRest b (.ref a)) Q E s) (h2:wpAny M A (do rule "tuple.repr.in-itself";retStr "(...)") Q E s) :
  wpAny M A (Builtin.tupleReprAt b ⟨[.ref a],[]⟩) Q E s:=by
 rw [tuple_repr_tree,tupleReprUnderWay_eq];intro Γ p d;have g:=h1 Γ p d;have f:=h2 Γ p d;simp [stack];show Sem.wp M Γ (if (Γ.below.any _)=true then _ else _) _ _ p s
 split
 ·exact f
 ·exact g
theorem jh{k:Nat}:∀ts:List Str,(∀t∈ts,t.length<=k)->piled ts<=(k + 2) * ts.length
 | [],_=>by simp [piled]
 | t::r,h=>by
  have h1:=jh r fun z d=>h z (Qar _ d);have h2:=h t Qaq;rw [piled_cons,Qan,Nat.mul_succ];lia
theorem xE{k:Nat}(ts:List Str)(h:∀t∈ts,t.length<=k):(tupleText ts).length<=(k + 2) * ts.length + 3:=by
 have h1:=jh ts h;unfold tupleText;rw [strLen_append,strLen_append];have e1:((("(" : String):Str)).length=1:=rfl;have e3:(((if ts.length == 1 then ",)" else ")" : String):Str)).length<=2:=by split <;> decide
 rw [e1]
 by_cases hn:ts=[]
 ·subst hn
  have:(Str.join ((", " : String):Str) []).length=0:=rfl;lia
 ·have:=join_length_add ts hn
  lia
section
variable {prog:Program}{w:World}{A:Around}{E:Value->Shared->Prop}{s:Shared}{a:Addr}{oa:Obj}{l:List Value}{na:Nat}{ts:List Str}
theorem vF  (f:s.TypeIs (.ref a) "tuple") (ha:s.heap.get? a=some oa) (d:oa.data=.seq l.toArray na) (G:ReprAll prog w l ts)
  (g:∀z u tk,z.length<=(tupleText ts).length + 5->Q (.str z u) { s with toks:=tk }) (hsz:(tupleText ts).length<=sizeLine) :
  wpAny (model prog w) A (call (.builtin "tuple.__repr__") [.ref a]) Q E s:=by
 refine Qf7 (codeAny_call_builtin_own (Code.quiet_builtin _ (by decide +kernel)) F.entry_tuple_repr (Qfk.check _ _ _ _ _ _ _ _ f (F.args_tuple_repr_1 _) (wpOwn_of_wpAny (wu (b:=0) ?_ ?_))))
 ·exact wpAny_tupleReprRest ha d (by simpa using G) (fun u tk=>g _ u tk (by lia)) (by lia)
 ·refine Qaa (Qdj ?_)
  have y:("(...)" : Str).length=5:=by decide +kernel
  exact Qaa (wpAny_mkStr (Qaj (g _ _ _ (by rw [y];lia))) (by rw [y];decide))
theorem wx  (d:s.TypeIs (.ref a) "tuple") (hu:A.units < cLine) (ha:s.heap.get? a=some oa) (f:oa.data=.seq l.toArray na) (y:ReprAll prog w l ts)
  (G:∀z u tk,z.length<=(tupleText ts).length + 5->Q (.str z u) { s with toks:=tk }) (hsz:(tupleText ts).length<=sizeLine) :
  wpAny (model prog w) A (pyReprObj (.ref a)) Q E s:=by
 unfold pyReprObj;refine Qaa (wpAny_cRoomFor hu (Qaa (Qc5 (name:=Str.ofString "__repr__") d Qfk.lookup ?_)));refine Qaa (m:=callSpecialIfBound? (.ref a) (Str.ofString "__repr__")) (wpAny_callSpecialIfBound?_slotG (name:=Str.ofString "__repr__") d Qfk (vF d ha f y (fun z u tk g=>?_) hsz));exact Qaa (Qcs (T := "str") (b:=true) rfl isSubtype_str_str (Qaj (G z u tk g)))
end
theorem J4{prog:Program}{w:World}:∀(f:List Int) (d:List Value),Vals (f.map V.int) d->(∀n∈f,n.natAbs.log2 < 1920)->ReprAll prog w d (f.map fun n=>Str.ofString (toString n))
 | [],d,r,_=>by cases r;exact .nil
 | n::f,d,r,h=>by
  cases r with
  | cons E y =>
   obtain ⟨tk,rfl⟩:=E;exact .cons (ReprIs.int _ (h n Qaq)) (J4 f _ y fun z g=>h z (Qar _ g))
def tFsT(K:PySem.W.Frag)(c:Str)(ta:TE):TE:=fun σ H Q=>ta σ H fun v H1=>∃(p:Addr) (d:List Int),v=.ref p/\SqT K H1 p (d.map V.int)/\d.length<=100/\(∀n∈d,n.natAbs.log2 < 1920)/\∀z,Q (.str z) H1
section
variable {X:Cx}{e:Expr}{ta:TE}{c:Str}{j:Nat}{p1 p2 pos:Pos}
theorem qe_fsT(hu:X.A.units < cLine)(ha:QE X e ta)(hc:c.length<=1000:=by decide):QE X (.JoinedStr [.Constant (.str c) j p1,.FormattedValue e 114 none p2] pos) (tFsT X.K c ta):=by
 refine ⟨fun pins s σ H Q I h=>wpAny_JoinedStr (Calls.Constant_str (k:=j) (pos:=p1) ⟨c,_,rfl,?_,?_⟩)⟩
 ·rw [len_cat,Qdz]
  show 0 + c.length<=_;lia
 ·refine wpAny_FormattedValue_repr (thn (ha.out pins _ σ H _ (I.tok _) h) fun v S ⟨x,H1,E,U,p,y,W,hp,hl,hs,G⟩=>?_)
  subst W;cases U;obtain ⟨g,r,⟨o,he,f,n,hd⟩,_⟩:=E.tuple hp;have rt:=J4 (prog:=X.prog) (w:=X.w) y g r hs;have bound:=xE (k:=1921) (y.map fun n=>Str.ofString (toString n)) fun t O=>by
   obtain ⟨n,hn,rfl⟩:=Qbp.mp O;exact int_text_len_1921 (hs n hn)
  rw [Qaz] at bound;have b2:(1921 + 2) * y.length<=1923 * 100:=Nat.mul_le_mul_left _ hl;refine wx ⟨_,he,f⟩ hu he hd rt (fun z u tk Y=>?_) (by rw [Qdz];lia);have J:Inv X pins σ H1 { S with toks:=tk }:=E.tok _;have L:z.length<=sizeLine:=by rw [Qdz];lia
  have d:(Str.empty++c++z).length<=sizeLine:=by
   rw [len_cat,len_cat,Qdz];show 0 + c.length + _<=_;lia
  refine wpAny_formatField_str ?_ ?_ L
  ·exact ⟨_,_,rfl,d,d,V.str _,H1,J.tok _,⟨_,rfl⟩,G _⟩
  ·exact ⟨_,_,rfl,d,d,V.str _,H1,J.tok _,⟨_,rfl⟩,G _⟩
end
def sTryE(base:Heap)(Dc:Addr)(n:Nat)(sp:Sp)(t:TA)(ts:TS):TS:=fun D σ H=>t σ H fun d H1=>sp d H1 (fun _ H2=>D.nx σ H2) (tryE base Dc n ts D σ)
section
variable {X:Cx}{k:Nat}{f:Addr}{fd:FuncData}{ps:List Str}{sp:Sp}{g y n:Str}{p np cpos spos hpos pos:Pos}{e₀:Expr}{es:List Expr}{t:TA}{b₀:Stmt}{suite:List Stmt}{j:Nat}{Dc:Addr}{ts:TS}
theorem Zau(hx:X.ex=[])(L:X.stack=X.env::X.outer)(hfr:X.env.frame=some X.env.locals)(F:Z5 X.prog X.w X.K X.mg X.base (CXO X.prog X.w) k f fd ps sp)(hr:WJ k X.A)(hg:Gl X g)(hm:X.mg g=some (.ref f))(hk:PySem.W.keepIn X.K (.ref f)=true)(hb:Binds X.K fd ps [])
  (ha:∀f',QA (X.wish f') (e₀::es) t) (hN:X.N.Nodup) (hj:X.N[j]?=some n) (hjn:X.env.scope.names.lookup n=some .local) (hgd:Gl X y) (O:kG y Dc X.mg X.base) (hs:∀e f',QSs (X.under e f') (b₀::suite) ts)
  (hdb:(g == ("__debug__" : Str))=false:=by decide) (he:starEach (e₀::es) X.env=(false,eval e₀ X.env)::starEach es X.env:=by rfl) (hpl:(backTo cpos (starEach es X.env)).any (·.1)=false:=by rfl) (hdd:(y == ("__debug__" : Str))=false:=by decide) :
  QS X (.Try [.Expr (.Call (.Name g p) (e₀::es) [] cpos) spos] [.ExceptHandler (some (.Name y np)) (some n) (b₀::suite) hpos] [] [] pos) (sTryE X.base Dc j sp t ts):=by
 refine ⟨fun pins s σ H D I h=>wpAny_Try_except (Qfq (wpAny_Expr_any ?_ I.quiet rfl))⟩;generalize hf':(fun (e:Value) (s₁:Shared)=>wpAny (model X.prog X.w) X.A (noteFrame e X.env) (fun _ s₂=>wpAny (model X.prog X.w) X.A (setFlight e none) (fun _ s₃=>wpAny (model X.prog X.w) X.A (handleBy e X.env [.ExceptHandler (some (.Name y np)) (some n) (b₀::suite) hpos]) (SP X pins D) X.xe s₃) X.xe s₂) X.xe s₁)=f';refine thn (Q:=EP X pins σ fun v H2=>D.nx σ H2) ?_ fun v s1 ⟨z,H1,G,r1,q1⟩=>Qdo (Qdo ⟨_,H1,G,q1⟩);refine Qd4 (JU I hg hm ?_ hdb);refine PySem.W.callWith_K (h₀:=X.base) I.ok.mod.kin hk (thn ((ha f').out cpos pins s σ H _ (I.wish f') h) fun us s1 ⟨vs,H1,J1,r,q⟩=>⟨J1.ofWish.kIn,?_⟩) he hpl;have G:Inv X pins σ H1 s1:=J1.ofWish;have hl:us.length=ps.length:=by rw [<-r.length];exact F.len _ _ _ _ q
 have hb':=hb s1 us G.kIn (by rw [Qax];exact hl);rw [Qax] at hb';refine Qf7 (Qfy (F.run X.A X.stack s1 H1 ⟨us,[]⟩ us vs _ _ hr G.env0 hb' r q) fun r s' hq=>?_);cases r with
 | ok fl =>
  cases fl with
  | ret u=>exact G.after hq
  | next=>exact False.elim hq
  | brk=>exact False.elim hq
  | cont=>exact False.elim hq
 | error v =>
  subst hf';obtain ⟨e,t0,C,args,H',B,rfl,os,S,un,hok,fly,tup,cov,hHe,J,C',e',ec,ee,below,hts⟩:=hq;cases ec;cases ee;have hfm:X.A.frames=some (X.env::X.outer):=by rw [I.ok.frames,L]
  have Y:=fly;rw [L] at Y;refine wpAny_looks_onW hfm hfr Y fun h4 Z up4=>?_;refine wpAny_landsW Z fun h5 E up5=>?_;have I5:=jf G os S un hok cov E.1 (up4.trans up5);refine qA (C:=C) (D:=Dc) (x:=y) (bmB:=Zc7) (newId := "ValueError.__new__") (mg:=X.mg) rfl rfl rfl (JU (X:=X.under e X.xe) (I5.under e X.xe) hgd O.bound ⟨rfl,O.keeps I5.bk,below.keeps I5.bk,E.there,?_⟩ hdd);refine lands_againW E fun h6 U up6=>?_;have I6:=jf G os S un hok cov U.1 ((up4.trans up5).trans up6);have h0:X.s₀.heap.get? e=none:=by
   cases q:X.s₀.heap.get? e with
   | none=>rfl
   | some o =>
    obtain ⟨o',ho'⟩:=G.base.there e o q (by rw [hx];exact fun z=>nomatch z);rw [J] at ho';cases ho'
  have I7:=I6.known (o:=.ext (xB C e)) hHe h0 (fun z=>by
    obtain ⟨m,⟨oL,_,_,hoL,_⟩,_⟩:=G.loc;rw [<-z,J] at hoL;cases hoL) (fun x c hc z=>by
    obtain ⟨w',oc,hoc,_⟩:=G.cell x c hc;rw [z,J] at hoc;cases hoc) (fun p hp z=>by
    have:=(G.pin p hp).1;rw [z,J] at this;cases this) (wo U.there)
  refine Xv (v:=.ref e) I7 hN hj (.inl hjn) rfl (fun s8 I8=>?_) (.inr hjn);refine Qcg ((hs e _).out pins s8 _ _ _ (I8.under e _) hts) (fun fl s9 d=>?_) (fun _ _ z=>z);cases fl with
  | next =>
   obtain ⟨σ9,H9,J9,d⟩:=d;exact v9 (J9.outof I.ok) hN hj hjn fun s10 I10=>⟨_,H9,I10,d⟩
  | ret u =>
   obtain ⟨_,_,_,_,_,d⟩:=d;exact d.elim
  | brk =>
   obtain ⟨_,_,_,d⟩:=d;exact d.elim
  | cont =>
   obtain ⟨_,_,_,d⟩:=d;exact d.elim
end
open PySem.W
section
variable {X:Cx}{pins:List (Addr × Obj)}{σ:St}{H:Hp}{s:Shared}{e C d:Addr}{f:Str}{v:V}{u:Value}{A:Around}{E:Value->Shared->Prop}{arr:Array Value}
end
def CXD(P:Program)(w:World):CXT:=fun outer H s E v s'=>∃e C d H',v=.ref e/\CXO P w outer H s (fun cls f H2=>cls=.ref C/\f=some e/\H2=H') v s'/\Zc8 C e d s'.heap/\E (.ref C) (some e) (upd H' e (.ext (Zc8 C e d)))
def ExQ(C t d:Addr)(o:Obj):Prop:=∃f g,o=⟨.ref C,some d,.fields f,g⟩/\f[0]?=some (.ref t)
theorem ExQ.stb:Stb (ExQ C a z):=fun o v ⟨f,d,h1,h2⟩=>by
 subst h1;exact ⟨_,d,rfl,by rw [Qci (by decide)];exact h2⟩
theorem ExQ.old{d:Addr}:∀o,ExQ C a d o->o.cls=.ref C/\∀f,o.data=.fields f->f[0]?=some (.ref a):=fun o ⟨f,g,h1,h2⟩=>by
 subst h1;exact ⟨rfl,fun y z=>by cases z;exact h2⟩
theorem ExQ.is{e:Addr}(x:∃o,h.get? e=some o/\ExQ C a z o):Zc8 C e z h:=by
 obtain ⟨o,h1,d,f,rfl,_⟩:=x;exact ⟨d,f,h1⟩
theorem wy{B:Heap}{l:List Env}{e:Addr}(J:Heap.FlyingW B l e (.ref C) (.ref a) h)(x:Zc8 C e z h):wt B l e (ExQ C a z) h:=by
 obtain ⟨E,L,f,oe,Y,T,G,ts,d,⟨W,U⟩,O,g⟩:=J;obtain ⟨arr,y,S⟩:=x;have I:oe=⟨.ref C,some z,.fields arr,y⟩:=Option.some.inj (d.symm.trans S);subst I;cases O;exact ⟨E,L,f,_,_,T,G,ts,d,⟨_,_,rfl,U⟩,rfl,g⟩
theorem wz{M:Model}{A:Around}{E:Value->Shared->Prop}{s:Shared}{B:Heap}{env:Env}{outer:List Env}{e:Addr}{φ:Obj->Prop}{Q:Unit->Shared->Prop}(st:Stb φ)(f:A.frames=some (env::outer))(hf:env.frame=some a)(g:wt B (env::outer) e φ s.heap)
  (h:∀h',wt B outer e φ h'->s.heap.UpToSlots h'->Q () { s with heap:=h' }):wpAny M A (leaving env (.ref e)) Q E s:=by
 unfold leaving;refine Qaa (noteX st f hf g fun h1 d up1=>?_);refine landX (s:={ s with heap:=h1 }) d fun h2 G y=>h h2 ?_ (up1.trans y);obtain ⟨a1,a2,⟨_,_,I⟩,J⟩:=G;exact ⟨a1,a2,I,J⟩
structure FnD(X:Cx)(E:XK):Prop where
 xe:∀e s',wpAny (model X.prog X.w) X.A (leaving X.env e) (fun _ s''=>CXD X.prog X.w X.outer X.H₀ X.s₀ E e s'') (fun e' s''=>CXD X.prog X.w X.outer X.H₀ X.s₀ E e' s'') s'->X.xe e s'
 ex:X.ex=[]
 stk:X.stack=X.env::X.outer
 fr:X.env.frame=some X.env.locals
section
variable {X:Cx}{E:XK}
theorem FnD.passes(F:FnD X E):Passes (CXD X.prog X.w) X E:=by
 intro pins σ H s v s' I h;obtain ⟨e,C,d,H',rfl,⟨e',t,C',args,H2,B,ev,os,y,un,S,G,tup,O,U,W,ec,ee,eh⟩,Z,hE⟩:=h;cases ev;cases ec;subst eh;refine F.xe _ _ ?_;have J:Inv X pins σ H2 s':=I.call' (ch:=[]) os un S y (fun b z=>absurd z (by simp));have L:X.A.frames=some (X.env::X.outer):=by rw [I.ok.frames,F.stk]
 rw [F.stk] at G;refine wz ExQ.stb L F.fr (wy G Z) fun h' g Y=>?_;have se:X.s₀.heap.get? e=none:=by
  cases q:X.s₀.heap.get? e with
  | none=>rfl
  | some o =>
   obtain ⟨o',f⟩:=I.base.there e o q (by rw [F.ex];exact fun z=>nomatch z);rw [W] at f;cases f
 refine ⟨e,C,d,H2,rfl,?_,ExQ.is g.there,hE⟩;refine zt (s:=s') (g':=s'.gens) (d':=s'.drawn) (t':=s'.toks) J F.ex F.stk F.fr J.bare (fun b o hb q hn=>O b o hb ?_ hn) Y (g.old ExQ.old) (tup.of_slots Y) U se ⟨rfl,rfl,rfl⟩;rcases q with ⟨o',f⟩ | q
 ·exact .inl (I.base.there b o' f (by rw [F.ex];exact fun z=>nomatch z))
 ·exact .inr q
theorem FnD.of{mg:Str->Option Value}{base:Heap}{scope:Scope}{A:Around}{outer:List Env}{s:Shared}:FnD (yO (CXD P w) P w K mg base N x scope a v A outer s H E) E:=⟨fun _ _ h=>h,rfl,rfl,rfl⟩
end
end L2
namespace L2
open PySem PySem.Spec PyProof.Rows PySem.Calls
open PySem.W (hideAll of_hideAll hideAll_get hideAll_none funFrames_hide)
section
variable {X:Cx}{E:XK}
end
section
variable {prog:Program}{w:World}{A:Around}{E:Value->Shared->Prop}{s:Shared}{env:Env}{x:Sem Value}{Q:Flow->Shared->Prop}{C:Addr}
end
section
variable {X:Cx}{E:XK}{x:Str}{C f:Addr}{k:Nat}{fd:FuncData}{ps:List Str}{sp:Sp}{np cpos pos:Pos}{e₀:Expr}{es:List Expr}{t:TA}
end
end L2
namespace L2
open PySem PySem.Spec PyProof.Rows PySem.Calls
section
variable {X:Cx}{k:Nat}{f:Addr}{fd:FuncData}{ps:List Str}{sp:Sp}{g y n:Str}{p np cpos spos hpos pos:Pos}{e₀:Expr}{es:List Expr}{t:TA}{b₀:Stmt}{suite:List Stmt}{j:Nat}{Dc:Addr}{ts:TS}
end
section
variable {X:Cx}
inductive vG(x:V)(vs:List V)(H:Hp)(Q:VK):Prop
 | mk (l:Addr) (xs:List V) (y z:V) (j:Nat):(x=.ref l)->(vs=[y])->(H l=some (.lst xs))->(Yv y=true)->(xs.all Yv=true)->(xs.length<=1000000)->(xs[j]?=some z)->(eqV z y=true)->((∀i z',i < j->xs[i]?=some z'->eqV z' y=false))->(Q (.int (j:Int)) H)->vG x vs H Q
end
end L2
namespace L2
open PySem
theorem Zy{d:Prop}(h:∀G:Prop,(d->G)->G):d:=h d fun z=>z
theorem ji{u:TS}{D:Ends}{r:VK}{b c:St->Hp->Prop}{σ:St}(J:St->Hp->Prop)(h1:∀(N:St->Hp->Prop) (r:VK) (b c:St->Hp->Prop),(∀σ H,J σ H->N σ H)->g { nx:=N,rt:=r,bk:=b,ct:=c } σ H)(h2:∀σ H,J σ H->u D σ H):({ nx:=ZA g u D,rt:=r,bk:=b,ct:=c }:Ends).nx σ H:=h1 _ _ _ _ h2
theorem zu{P:List D->Prop}(h:∀a,P [a]):∀d:List D,d.length=1->P d
 | [a],_=>h a
theorem vH{P:List D->Prop}(h:∀a b,P [a,b]):∀d:List D,d.length=2->P d
 | [a,b],_=>h a b
theorem Zcm{P:List D->Prop}(h:∀a b c,P [a,b,c]):∀d:List D,d.length=3->P d
 | [a,b,c],_=>h a b c
theorem len4{P:List D->Prop}(h:∀a b c d,P [a,b,c,d]):∀f:List D,f.length=4->P f
 | [a,b,c,d],_=>h a b c d
theorem walk_X{q:Program}{J:(Str->Option Value)->Heap->Prop}{K:Params->PySem.W.Frag}{as:List Addr}{r:PySem.W.RowW}{d:DefRec}{E:List (Str × Expr)}{run:Value->List Value->Sem Value}
  (e:∀P,as=(K P).map (·.1)) (W:PySem.W.WalkO q N J (PySem.W.InK K) r d E run):PySem.W.WalkX q N J (PySem.W.X.obsZ as) (PySem.W.X.valZ K n i) r d E run :=
 fun w s₀ g mg O G y a o Y U I S kV e1 e2 e3 e4 e5 e6 args f as L p l R W' Z =>
  W w s₀ g mg O G (PySem.W.InK.keeps w _ _ (PySem.W.X.z_facts e y).2.1 L.keeps) a o Y U I S kV e1 e2 e3 e4 e5 e6 args f as p l R W' Z
theorem cxK{CX:CXT}{mg:Str->Option Value}{base:Heap}{scope:Scope}{A:Around}{outer:List Env}{s:Shared}{E:XK}:(yO CX P w K mg base N x scope a v A outer s H E).nox.K=K:=rfl
theorem cxK2{CX:CXT}{mg:Str->Option Value}{base:Heap}{scope:Scope}{A:Around}{outer:List Env}{s:Shared}{E:XK}:(yO CX P w K mg base N x scope a v A outer s H E).K=K:=rfl
theorem let2{D:Ends}{σ:St}(h:let d:=Z;ZA g d D σ H):ZA g Z D σ H:=h
theorem let3{d:TS}{D:Ends}{σ:St}(h:let y:=d;let f:=ZA Z y;ZA g f D σ H):ZA g (ZA Z d) D σ H:=h
theorem let4{f d:TS}{D:Ends}{σ:St}(h:let y:=d;let G:=ZA f y;let E:=ZA Z G;ZA g E D σ H):ZA g (ZA Z (ZA f d)) D σ H:=h
theorem let5{y f d:TS}{D:Ends}{σ:St}(h:let E:=d;let G:=ZA f E;let I:=ZA y G;let J:=ZA Z I;ZA g J D σ H):ZA g (ZA Z (ZA y (ZA f d))) D σ H:=h
theorem let6{E y f d:TS}{D:Ends}{σ:St}(h:let I:=d;let G:=ZA f I;let J:=ZA y G;let L:=ZA E J;let O:=ZA Z L;ZA g O D σ H):ZA g (ZA Z (ZA E (ZA y (ZA f d)))) D σ H:=h
theorem let7{G E y f d:TS}{D:Ends}{σ:St}(h:let L:=d;let J:=ZA f L;let I:=ZA y J;let O:=ZA E I;let S:=ZA G O;let U:=ZA Z S;ZA g U D σ H):ZA g (ZA Z (ZA G (ZA E (ZA y (ZA f d))))) D σ H:=h
theorem let12{J W U O L S I f d y:TS}{D:Ends}{σ:St}(h:let E:=y;let G:=ZA d E;let Y:=ZA f G;let U8:=ZA I Y;let U7:=ZA S U8;let U6:=ZA L U7;let U5:=ZA O U6;let U4:=ZA U U5;let U3:=ZA W U4;let U2:=ZA J U3;let U1:=ZA Z U2;ZA g U1 D σ H):ZA g (ZA Z (ZA J (ZA W (ZA U (ZA O (ZA L (ZA S (ZA I (ZA f (ZA d y)))))))))) D σ H:=h
theorem let15{Y s4 s5 s6 s7 s8 W y d G f I E:TS}{D:Ends}{σ:St}(h:let S:=E;let L:=ZA I S;let O:=ZA f L;let J:=ZA G O;let U:=ZA d J;let U9:=ZA y U;let U8:=ZA W U9;let U7:=ZA s8 U8;let U6:=ZA s7 U7;let U5:=ZA s6 U6;let U4:=ZA s5 U5;let U3:=ZA s4 U4;let U2:=ZA Y U3;let U1:=ZA Z U2;ZA g U1 D σ H):ZA g (ZA Z (ZA Y (ZA s4 (ZA s5 (ZA s6 (ZA s7 (ZA s8 (ZA W (ZA y (ZA d (ZA G (ZA f (ZA I E))))))))))))) D σ H:=h
end L2
namespace ZpT
open PySem PySem.Spec PyProof.Rows
abbrev uc (h:Heap) (T:Addr) (a b c:Value):Prop:=h.get? T=some { cls:=.type "tuple",data:=.seq #[a,b,c] }
structure Ap3(z TI TO i1 i2 i3:Addr):Prop where
 TIz:TI≠z
 TOz:TO≠z
 i1z:i1≠z
 i2z:i2≠z
 i3z:i3≠z
 TITO:TI≠TO
 TIi1:TI≠i1
 TIi2:TI≠i2
 TIi3:TI≠i3
 TOi1:TO≠i1
 TOi2:TO≠i2
 TOi3:TO≠i3
 i12:i1≠i2
 i13:i1≠i3
 i23:i2≠i3
structure Of3(z TO i1 i2 i3 l:Addr):Prop where
 z:l≠z
 o:l≠TO
 i:l≠i1
 j:l≠i2
 m:l≠i3
structure St3(z TI TO i1 i2 i3 l1 l2 l3:Addr)(k:Nat)(h:Heap):Prop where
 z:∃f0 fb,h.get? z=some (zO f0 fb TI TO)/\F0 f0
 I:uc h TI (.ref i1) (.ref i2) (.ref i3)
 O:∃a b c,uc h TO a b c
 n1:ZW false h i1 l1 k
 n2:ZW false h i2 l2 k
 n3:ZW false h i3 l3 k
section
variable {prog:Program}{w:World}{A:Around}{E:Value->Shared->Prop}{s:Shared}
end
end ZpT
namespace L2
open PySem PySem.Spec PyProof.Rows
structure Thr(scope:Scope)(x x2 x3:Str)(ys:List Str):Prop where
 own:scope.names.lookup x2=some .local
 own3:scope.names.lookup x3=some .local
 nd:(x::x2::x3::ys).Nodup
def jk(is:List Nat)(σ:St)(v w u:Option V):St:=v::w::u::is.map fun i=>(σ[i]?).getD none
def vI(K:PySem.W.Frag)(is:List Nat)(tc:TT)(te:TE)(σ:St)(Q:VK)(J:It)(H1:Hp):Prop:=∃W:Nat->Nat->List V->Hp->Prop,(∃m,W 0 m [] H1)/\∀i m zs H,W i m zs H ->
 (J.stop i H/\zs.length<=sizeLine/\∀p,H p=none->Q (.ref p) (upd H p (.lst zs))) \/
 (J.go i H/\zs.length<=sizeLine/\∀x H',J.yld i H x H'->∃a f g E,x=.ref a/\SqT K H' a [f,g,E]/\tc (jk is σ (some f) (some g) (some E)) H' fun b H2=>if b=true then te (jk is σ (some f) (some g) (some E)) H2 fun y G=>∃d,d < m/\W (i + 1) d (zs++[y]) G else ∃d,d < m/\W (i + 1) d zs H2)
def tComp3(K:PySem.W.Frag)(wi:TI)(is:List Nat)(tc:TT)(te:TE):TE:=fun σ H Q=>wi σ H (vI K is tc te σ Q)
section
variable {X:Cx}{S scope:Scope}{N:List Str}{x x2 x3:Str}{ys:List Str}{is:List Nat}{pins:List (Addr × Obj)}{σ:St}{H₂:Hp}{s₂:Shared}{fp:List Addr}{elt iter:Expr}{px px2 px3 pp pos:Pos}{pq:Nat}{ifs:List Expr}{tc:TT}{te:TE}{wi:TI}
theorem zy(K:ZZ S scope N x ys is)(J:Thr scope x x2 x3 ys)(g:X.env.scope=S)(I:Inv X pins σ H₂ s₂)(E:s₂.heap.objs.size<=C)(d:∀b∈fp,JN X pins H₂ b)(f:∀b∈fp,b < s₂.heap.objs.size):(cxC X (x::x2::x3::ys) scope C s₂ H₂ fp).Ok where
 mod:=I.ok.mod
 kind:=K.kind
 glob:=I.ok.glob
 blt:=I.ok.blt
 above:=E
 inj:=fun y z c h1 h2=>I.ok.inj y z c (K.cl g I.ok y c h1) (K.cl g I.ok z c h2)
 has:=fun y G=>Xz (Xa (env:=X.env) K.cell G)
 cab:=fun y c h=>by cases h
 hd:=I.ok.hd
 frames:=I.ok.frames
 stk:=.inl rfl
 exf:=fun b hb=>⟨fun e=>absurd (Qaw (f b hb) (Qa0 E (Qd1 (Eq.symm e)))) (Qa6 _),fun y c h=>(d b hb).2.2.2.2.1 y c (K.cl g I.ok y c h)⟩
 bs:=I.bs
 bsz:=Qa0 I.ok.bsz I.sz
 noex:=fun b o e hb=>by
  rcases (d b hb).2.2.2.1 with z | z
  ·exact I.ok.noex b o e z
  ·exact absurd (Qaw (Qat e) (Qa0 I.ok.bsz z)) (Qa6 _)
 exfs:=fun b hb z=>by
  rcases Qas.mp (I.stkSub b z) with e | e
  ·exact (d b hb).2.1 e
  ·exact (d b hb).2.2.1 e
 funs:=I.stack
 frf:=I.stkFree
theorem wA(K:ZZ S scope N x ys is)(K2:Thr scope x x2 x3 ys)(E:X.env.scope=S)(hN:X.N=N)(hk:S.kind=.function)(I:Inv X pins σ H₂ s₂){D:Addr}{tk:Nat}{L:Obj}(hC:s₂.heap.objs.size<=C)(hD:s₂.heap.objs.size<=D)(Y:D≠C)
    (hfp:∀b∈fp,JN X pins H₂ b) (W:∀b∈fp,b < s₂.heap.objs.size) (old:∀b o,s₂.heap.get? b=some o->U.get? b=some o) (hn:U.Ns C fun _=>none) (G:U.get? D=some L) (hod:∀v,L.data≠.cell v) :
    Inv (cxC X (x::x2::x3::ys) scope C s₂ H₂ fp) [(D,L)] (jk is σ none none none) H₂ { s₂ with heap:=U,toks:=tk }:=by
  have ok:=zy K K2 E I hC hfp W;refine ⟨ok,rfl,I.bare,Un.kept old,⟨_,hn,fun i y v h1 h2 h3=>?_⟩,fun y c h=>?_,I.hok.fresh hC,fun y c h=>I.freeC y c (K.cl E I.ok y c h),fun p hp=>?_,I.hok.kept old,?_⟩
  · cases i with
    | zero =>
      have d:some (none:Option V)=some (some v):=h2;cases d
    | succ i =>
     cases i with
     | zero =>
      have d:some (none:Option V)=some (some v):=h2;cases d
     | succ i =>
     cases i with
     | zero =>
      have d:some (none:Option V)=some (some v):=h2;cases d
     | succ i =>
      have h1':ys[i]?=some y:=h1;have d:(is.map fun i=>(σ[i]?).getD none)[i]?=some (some v):=h2;rw [Qbc] at d;cases hj:is[i]? with
      | none=>rw [hj] at d;cases d
      | some j =>
        rw [hj] at d;have f:(σ[j]?).getD none=some v:=Option.some.inj d;have Z:σ[j]?=some (some v):=by
          cases q:σ[j]? with
          | none=>rw [q] at f;cases f
          | some z=>rw [q] at f;exact congrArg some f
        have hz:(y,j)∈ys.zip is:=by
          obtain ⟨a1,e1⟩:=Qah.mp h1';obtain ⟨a2,e2⟩:=Qah.mp hj;rw [<-e1,<-e2,<-Qft (h:=by rw [Qf2];lia)];exact Qb4 _
        obtain ⟨v1,O⟩:=K.vis _ hz;have g:X.env.kindOf y=some .cell\/X.env.kindOf y=some .free:=by show X.env.scope.names.lookup y=_\/X.env.scope.names.lookup y=_;rw [E];exact K.free _ (qr O) rfl
        obtain ⟨m,hm,hl⟩:=I.loc;obtain ⟨u,r,l⟩:=hl j y v (by rw [hN];exact v1) Z (.inr g);refine ⟨u,r,.inr ?_⟩;rcases l with ⟨l1,_⟩ | ⟨_,c,l2,l3⟩
        · rcases g with g | g <;> rw [g] at l1 <;> cases l1
        · obtain ⟨c',J⟩:=Xz (cells:=X.env.cells) (acc:=[]) O
          have e:c'=c:=by have:=K.cl E I.ok y c' J;rw [l2] at this;exact (Option.some.inj this).symm
          subst e;refine ⟨g.imp (YZ (scope:=scope) (by rw [E];exact hk) O) (YH O),c',J,?_⟩;obtain ⟨o,ho,hd⟩:=l3;exact ⟨o,old _ _ ho,hd⟩
  · obtain ⟨v,o,ho,hd⟩:=I.cell y c (K.cl E I.ok y c h)
    exact ⟨v,o,old _ _ ho,hd⟩
  · have e:p=(D,L):=by simpa [cxC] using hp
    subst e;refine ⟨G,I.hok.fresh hD,Y,fun z=>?_,hod⟩;obtain ⟨_,o,ho,_⟩:=ok.funs.mem z;exact absurd (Qaw (Qat ho) hD) (Qa6 _)
  · show (jk is σ none none none).length=(x::x2::x3::ys).length
    unfold jk;rw [Qan,Qan,Qan,Qaz,Qan,Qan,Qan,K.len]
theorem z6{J:It}{it:Addr}{tn:Nat->Heap->Prop}{Q:VK}{RR:Value->Addr->Result->Shared->Prop}{E:Value->Shared->Prop}(K:ZZ S scope N x ys is)(K2:Thr scope x x2 x3 ys)(hX:X.env.scope=S)(hN:X.N=N)(hk:S.kind=.function)(hc:X.calm=true)
  (hf:∀C s₂ H₂ ex,QF (cxC X (x::x2::x3::ys) scope C s₂ H₂ ex) ifs tc) (he:∀C s₂ H₂ ex,QE (cxC X (x::x2::x3::ys) scope C s₂ H₂ ex) elt te)
  (I:Inv X pins σ H₂ s₂) (T:Turn X.prog X.w X.K (.Tuple [.Name x px,.Name x2 px2,.Name x3 px3] pq pp) J fp it tn) (st:tn 0 s₂.heap) (hfp:∀b∈fp,JN X pins H₂ b)
  {W:Nat->Nat->List V->Hp->Prop} {m0:Nat} (w0:W 0 m0 [] H₂)
  (turn:∀i m zs H,W i m zs H->(J.stop i H/\zs.length<=sizeLine/\∀p,H p=none->Q (.ref p) (upd H p (.lst zs))) \/
   (J.go i H/\zs.length<=sizeLine/\∀x H',J.yld i H x H'->∃a v1 v2 Y,x=.ref a/\SqT X.K H' a [v1,v2,Y]/\tc (jk is σ (some v1) (some v2) (some Y)) H' fun b H2=>if b=true then te (jk is σ (some v1) (some v2) (some Y)) H2 fun y H3=>∃O,O < m/\W (i + 1) O (zs++[y]) H3 else ∃O,O < m/\W (i + 1) O zs H2))
  (fin:∀D C s' H' O,Inv X pins σ H' s'->JN X pins H' C->s'.heap.Ns C O->Q (.ref D) H'->RR (.ref D) C (.ok .next) s') :
  wpAny (model X.prog X.w) X.A (newList []) (fun acc L=>wpAny (model X.prog X.w) X.A (newFunctionEnv scope X.env.globals (GS X.env.cells scope.names []) [] X.env.qual none .none (some X.env)) (fun cenv s₄ =>
   codeAny (model X.prog X.w) X.A (.compStart (.ListComp elt [⟨(.Tuple [.Name x px,.Name x2 px2,.Name x3 px3] pq pp),iter,ifs,0⟩] scope pos) 0 (.ref it) acc { cenv with scope:=relabel scope X.env }) (RR acc cenv.locals) s₄) E L) E s₂:=by
 refine Qbh (Qeq K.cell (by intro y hy;simp at hy) (fun U G f=>?_) K.kind);dsimp only at G f ⊢;generalize hH2:s₂.heap.push { cls:=.type "list",dict:=none,data:=.seq ([]:List Value).toArray }=H2 at G f ⊢;have hCs:H2.objs.size=s₂.heap.objs.size + 1:=by rw [<-hH2,Qbv]
 have Z:s₂.heap.objs.size≠H2.objs.size:=by rw [hCs];exact Qbf (Qdg _)
 have hC:s₂.heap.objs.size<=H2.objs.size:=by rw [hCs];exact Qey _
 have hlt:∀b∈fp,b < s₂.heap.objs.size:=fun b hb=>by obtain ⟨o,e,_⟩:=T.obj 0 _ st b hb;exact Qat e
 have old:∀b o,s₂.heap.get? b=some o->U.get? b=some o:=fun b o e=>f.extBut b o (by rw [hCs];exact Qbf (Qeg (Qat e))) (Qac _ (hH2 ▸ Qac _ e));have hacc:U.get? s₂.heap.objs.size=some { cls:=.type "list",data:=.seq ([]:List Value).toArray 0 }:=f.extBut _ _ Z (Qac _ (hH2 ▸ Qau _ rfl));have st₁:tn 0 U:=T.keep _ _ _ st fun b _ o e=>old b o e;have fpC:∀{H':Hp} {pl:List (Addr × Obj)},(∀p∈pl,∀b∈fp,p.1≠b)->(∀b∈fp,H' b=none)->∀b∈fp,JN (cxC X (x::x2::x3::ys) scope H2.objs.size s₂ H₂ fp) pl H' b:=fun {H' pl} hpl hn b hb=>by
  have ok:=zy K K2 hX I hC hfp hlt;exact ⟨hn b hb,(ok.exf b hb).1,ok.exfs b hb,.inl hb,(ok.exf b hb).2,fun p hp=>hpl p hp b hb⟩
 have Dfp:∀(o:Obj),∀p∈[(s₂.heap.objs.size,o)],∀b∈fp,p.1≠b:=fun o p hp b hb e=>by
  have e1:p=(s₂.heap.objs.size,o):=by simpa using hp
  subst e1;exact absurd (hlt b hb) (by rw [<-e];exact Qa6 _)
 have loop:∀L:Shared,L={ s₂ with heap:=U,toks:=s₂.toks + ([]:List (Str × Value)).length } ->
   codeAny (model X.prog X.w) X.A (.compLoop (.ListComp elt [⟨(.Tuple [.Name x px,.Name x2 px2,.Name x3 px3] pq pp),iter,ifs,0⟩] scope pos) 0 (.ref it) (.ref s₂.heap.objs.size) (compEnvC scope (GS X.env.cells scope.names []) H2.objs.size X.env))
    (RR (.ref s₂.heap.objs.size) H2.objs.size) L:=by
  rintro L rfl;have I0:=wA K K2 hX hN hk I (tk:=s₂.toks + ([]:List (Str × Value)).length) hC (Qao _) Z hfp hlt old G hacc (fun v z=>by cases z);refine JZ (fun n s'=>∃(i:Nat) (w1 w2 w9:Option V) (zs:List V) (g:List Value) (k:Nat) (H':Hp),Inv (cxC X (x::x2::x3::ys) scope H2.objs.size s₂ H₂ fp) [(s₂.heap.objs.size,{ cls:=.type "list",data:=.seq g.toArray k })] (jk is σ w1 w2 w9) H' s' /\
   Vals zs g/\tn i s'.heap/\(∀b∈fp,H' b=none)/\W i n zs H') ?_ m0 ⟨0,none,none,none,[],[],0,H₂,I0,.nil,st₁,fun b hb=>(hfp b hb).1,w0⟩
  rintro n s3 ⟨i,w1,w2,w9,zs,g,k,H3,I3,rv,st3,fr3,w3⟩;have hD3:=I3.pin _ (Qaf _ (Qai.mpr rfl));rcases turn i n zs H3 w3 with ⟨stop,hz,q⟩ | ⟨go,hz,step⟩
  ·refine thn (T.done (cxC X (x::x2::x3::ys) scope H2.objs.size s₂ H₂ fp) rfl rfl rfl hc i _ s3 _ H3 _ I3 (fpC (Dfp _) fr3) st3 stop) fun r s4 ⟨hr,I4⟩=>?_
   subst hr;have hD4:=I4.pin _ (Qaf _ (Qai.mpr rfl));have I5:=zh I I4 (Qao _) hD4.2.1 hfp hz rv hD4.1;obtain ⟨O,hm',_⟩:=I4.loc;refine fin _ _ s4 _ O I5 ?_ hm' (q _ hD4.2.1);refine I.fpOk hC ?_;rw [Zs (Qcd Z)];exact I4.free
  ·refine thn (T.item (cxC X (x::x2::x3::ys) scope H2.objs.size s₂ H₂ fp) rfl rfl rfl hc i _ s3 _ H3 _ I3 (fpC (Dfp _) fr3) st3 go) fun r s4 ⟨u,hr,h4⟩=>?_
   subst hr;refine thn h4 fun _ s5 ⟨xv,H5,I5,r5,y5,st5,fr5⟩=>?_;have I5':=I5.pinned (fpC (Dfp _) fr5) (T.obj _ _ st5);have pg:PG (cxC X (x::x2::x3::ys) scope H2.objs.size s₂ H₂ fp) (.Tuple [.Name x px,.Name x2 px2,.Name x3 px3] pq pp) (Zb3 X.K 3 (JD (W0 0) (JD (W0 1) (JD (W0 2) Zbt)))):=y7 hc (YF (W2 K2.nd rfl (.inl (Qbj K.own)) (.inr (Qbj K.own))) (YF (W2 K2.nd rfl (.inl (Qbj K2.own)) (.inr (Qbj K2.own))) (YF (W2 K2.nd rfl (.inl (Qbj K2.own3)) (.inr (Qbj K2.own3))) qo)));obtain ⟨av,v1,v2,Y,exv,sq5,stp⟩:=step xv H5 y5;subst exv;refine thn (pg _ s5 _ H5 (.ref av) u (fun σ2 H2=>σ2=jk is σ (some v1) (some v2) (some Y)/\H2=H5) I5' r5 ⟨av,[v1,v2,Y],rfl,sq5,rfl,_,_,rfl,_,_,rfl,_,_,rfl,rfl,rfl,rfl⟩) fun _ s6 ⟨σ6,H6,I6,e6,e6'⟩=>?_;subst e6;subst e6';have back:∀{s7:Shared} {H7:Hp},Inv (cxC X (x::x2::x3::ys) scope H2.objs.size s₂ H₂ fp) ([(s₂.heap.objs.size,{ cls:=.type "list",data:=.seq g.toArray k })]++JV fp s5.heap) (jk is σ (some v1) (some v2) (some Y)) H7 s7 ->
     tn (i + 1) s7.heap/\(∀b∈fp,H7 b=none)/\s7.heap.get? s₂.heap.objs.size=some { cls:=.type "list",data:=.seq g.toArray k }/\H7 s₂.heap.objs.size=none:=fun {s7 H7} I7=>by
    refine ⟨T.keep _ _ _ st5 fun b hb o e=>(I7.pin (b,o) (Qaf _ (Qaf _ (Yo hb e)))).1,fun b hb=>?_,?_,?_⟩
    ·obtain ⟨o,e,d⟩:=T.obj _ _ st5 b hb
     exact (I7.pin (b,o) (Qaf _ (Qaf _ (Yo hb e)))).2.1
    ·exact (I7.pin (s₂.heap.objs.size,{ cls:=.type "list",data:=.seq g.toArray k }) (Qaf _ (Qay _ (Qai.mpr rfl)))).1
    ·exact (I7.pin (s₂.heap.objs.size,{ cls:=.type "list",data:=.seq g.toArray k }) (Qaf _ (Qay _ (Qai.mpr rfl)))).2.1
   refine thn ((hf _ _ _ _).out _ s6 _ H6 _ I6 stp) fun b s7 ⟨H7,I7,q7⟩=>?_;cases b with
   | false =>
    have q7':∃O,O < n/\W (i + 1) O zs H7:=by simpa using q7
    obtain ⟨O,hm',w7⟩:=q7';obtain ⟨b1,b2,b3,b4⟩:=back I7;rw [Qa5 Qav];exact ⟨O,hm',i + 1,some v1,some v2,some Y,zs,g,k,H7,I7.unpinned,rv,b1,b2,w7⟩
   | true =>
    rw [Qa4 rfl];have q7':=q7;rw [Qa4 rfl] at q7';refine thn ((he _ _ _ _).out _ s7 _ H7 _ I7 q7') fun yv s8 ⟨y,H8,I8,r8,O,hm',w8⟩=>?_;obtain ⟨b1,b2,b3,b4⟩:=back I8;refine append_at b3 (fun h9 sb9 e9=>?_) (by rw [Qak,<-rv.length];exact hz);have ok:=zy K K2 hX I hC hfp hlt;have I8':Inv (cxC X (x::x2::x3::ys) scope H2.objs.size s₂ H₂ fp) [] (jk is σ (some v1) (some v2) (some Y)) H8 s8:=I8.pins_of fun p hp=>by cases hp
    have I9:Inv (cxC X (x::x2::x3::ys) scope H2.objs.size s₂ H₂ fp) [] (jk is σ (some v1) (some v2) (some Y)) H8 { s8 with heap:=h9 }:=I8'.turned (t':=s8.toks) (it:=s₂.heap.objs.size) (fun b o hb e=>(sb9.2 b hb).trans e) b4 Z (.inr (Qao _))
     (fun y c h z=>by
      obtain ⟨v,o,ho,_⟩:=I.cell y c (K.cl hX I.ok y c h);have:=Qat ho;rw [z] at this;exact Qa6 _ this) (fun p hp=>by cases hp)
    refine ⟨O,hm',i + 1,some v1,some v2,some Y,zs++[y],g++[yv],k + 1,H8,?_,rv.append (.cons r8 .nil),T.keep _ _ _ b1 fun b hb o e=>(sb9.2 b fun z=>absurd (hlt b hb) (by rw [z];exact Qa6 _)).trans e,b2,w8⟩;refine I9.pins_of fun p hp=>?_;have e1:p=(s₂.heap.objs.size,{ cls:=.type "list",data:=.seq (g++[yv]).toArray (k + 1) }):=by simpa using hp
    subst e1;refine ⟨by rw [e9,Qfi],b4,Z,fun z=>?_,fun v z=>by cases z⟩;obtain ⟨_,o,ho,_⟩:=ok.funs.mem z;exact absurd (Qat ho) (Qa6 _)
 exact Qec (loop _ rfl) (T.self _ 0 _ _ _ st₁ (loop _ rfl))
theorem jl{y:Str}{spos:Pos}(Z:X.N.Nodup)(hy:X.N[i]?=some y)(hl:X.env.scope.names.lookup y=some .local)(K:ZZ S scope N x ys is)(K2:Thr scope x x2 x3 ys)(hi:QI X (.Tuple [.Name x px,.Name x2 px2,.Name x3 px3] pq pp) iter wi)
  (hf:∀C s₂ H₂ ex,QF (cxC X (x::x2::x3::ys) scope C s₂ H₂ ex) ifs tc) (he:∀C s₂ H₂ ex,QE (cxC X (x::x2::x3::ys) scope C s₂ H₂ ex) elt te)
  (O:swapsWith (.ListComp elt [⟨(.Tuple [.Name x px,.Name x2 px2,.Name x3 px3] pq pp),iter,ifs,0⟩] scope pos) (some (.Name y J)) spos.line X.env=pure true:=by rfl)
  (hc:X.calm=true:=by rfl) (hX:X.env.scope=S:=by rfl) (hN:X.N=N:=by rfl) (hk:S.kind=.function:=by rfl) (hs:∀v,foldedSetIterable iter X.env v=pure v:=by intro _;rfl) :
  QS X (.Assign [.Name y J] (.ListComp elt [⟨(.Tuple [.Name x px,.Name x2 px2,.Name x3 px3] pq pp),iter,ifs,0⟩] scope pos) spos) (Zbu (tComp3 X.K wi is tc te) (W0 i)):=by
 refine ⟨fun pins s σ H D I h=>?_⟩;rw [exec_Assign_Name_used _ _ _ _ O];refine Qaa (Qes (Qaa ?_));show wpAny _ X.A (do let _ <-comprehension (.ListComp elt [⟨(.Tuple [.Name x px,.Name x2 px2,.Name x3 px3] pq pp),iter,ifs,0⟩] scope pos) scope X.env _ (newList []) false (eval iter X.env) (some (assign (.Name y J) X.env))) _ _ s;refine Qaa (thn (Qd2 (use:=some (assign (.Name y J) X.env)) (Q:=fun _ s'=>SP X pins D .next s') rfl hs (Jh (K.cellOf' hX I.ok)) K.kind K.names
  (thn (hi.out pins s σ H _ I h) fun v s1 h1=>thn h1 fun itv s2 h2=>?_)) fun _ s' hq=>Qaj (Qaj hq))
 obtain ⟨it,fp,tn,zq14,H2,rfl,I2,T,st2,f2,W,⟨m0,w0⟩,d⟩:=h2;refine z6 (RR:=fun acc C=>compPost (model X.prog X.w) X.A X.xe (some (assign (.Name y J) X.env)) (fun _ s'=>SP X pins D .next s') acc C) (Q:=fun v H=>D.nx (σ.set i (some v)) H) K K2 hX hN hk hc hf he I2 T st2 f2 w0 d ?_;intro Dl C s' H' m' I' fC hm' q;obtain ⟨f0,f1,f3,f4,f5,f6⟩:=fC;show wpAny _ X.A (assign (.Name y J) X.env (.ref Dl)) _ _ _;obtain ⟨E,es,ep,hoC,g,L⟩:=hm';have Ip:Inv X (pins++[(C,E)]) σ H' s':=I'.pins_of fun p hp=>(Qam.mp hp).elim (fun z=>I'.pin p (Qaf _ z)) fun z=>by
  have e:p=(C,E):=by simpa using z
  subst e;exact ⟨hoC,f0,f1,f3,fun v z=>by rw [g] at z;cases z⟩
 refine Qfg (Xv Ip Z hy (.inl hl) (v:=.ref Dl) rfl (fun G f=>?_) (.inr hl));have Y:=(f.pin (C,E) (Qaf _ (Qaf _ (Qai.mpr rfl)))).1;refine ⟨m',⟨E,es,ep,Y,g,L⟩,fun h' U=>⟨_,H',f.unpinned.turned (t':=G.toks) (fun b o hb e=>(U.2 b hb).trans e) f0 f1 f4 f5 f6,q⟩⟩
end
end L2
namespace ZpT
open PySem PySem.Spec PyProof.Rows
def ht3(h:Heap)(g d f:Addr):Heap:=(hz2 false false h g d).push (itO false f)
def ht4 (h:Heap) (d f g:Addr):Heap:=(ht3 h d f g).push { cls:=.type "tuple",data:=.seq #[.ref h.objs.size,.ref (hz1 false h d).objs.size,.ref (hz2 false false h d f).objs.size] }
def ht5 (h:Heap) (g d f:Addr):Heap:=(ht4 h g d f).push { cls:=.type "tuple",data:=.seq #[.none,.none,.none] }
def ht6(h:Heap)(g d f:Addr):Heap:=(ht5 h g d f).push (zO .none false (ht3 h g d f).objs.size (ht4 h g d f).objs.size)
section
variable {prog:Program}{w:World}{A:Around}{E:Value->Shared->Prop}{s:Shared}
theorem St3.other{TO i1 i2 d y f g:Addr}{k:Nat}{h':Heap}(D:Ap3 z C TO i1 i2 d)(S:St3 z C TO i1 i2 d y f g k h)(E:h'.get? z=some (zO v m C TO))(hf:F0 v)(hs:Heap.SameBut z h h'):St3 z C TO i1 i2 d y f g k h' :=
 ⟨⟨v,m,E,hf⟩,hs.extBut _ _ D.TIz S.I,(let ⟨a,b,c,e⟩:=S.O;⟨a,b,c,hs.extBut _ _ D.TOz e⟩),S.n1.mv fun o e=>hs.extBut _ _ D.i1z e,S.n2.mv fun o e=>hs.extBut _ _ D.i2z e,S.n3.mv fun o e=>hs.extBut _ _ D.i3z e⟩
end
end ZpT
namespace L2
open PySem PySem.Spec PyProof.Rows
open ZpT (St3 Ap3 Of3 SeqAt ZW)
def Itz3(K:PySem.W.Frag)(a1 a2 f:Addr):It :=
  ⟨fun i H=>∃xs ys d x y v,SqL K H a1 xs/\SqL K H a2 ys/\SqL K H f d/\xs[i]?=some x/\ys[i]?=some y/\d[i]?=some v,
   fun i H v H'=>∃p,H p=none/\v=.ref p/\∀xs ys d x y v,SqL K H a1 xs->SqL K H a2 ys->SqL K H f d->xs[i]?=some x->ys[i]?=some y->d[i]?=some v->H'=upd H p (.tup [x,y,v]),
   fun i H=>∃xs,SqL K H a1 xs/\xs.length<=i⟩
section
variable {X:Cx}{e1 e2 e3:Expr}{t:TA}{p pos:Pos}
inductive Zav(K:PySem.W.Frag)(R:It->Hp->Prop)(vs:List V)(H1:Hp):Prop
 | mk (a1 a2 a3 xs ys zs:_):(vs=[.ref a1,.ref a2,.ref a3])->(SqL K H1 a1 xs)->(SqL K H1 a2 ys)->(SqL K H1 a3 zs)->(R (Itz3 K a1 a2 a3) H1)->Zav K R vs H1
end
end L2
namespace L2
open PySem PySem.Spec PyProof.Rows
def Itvl(K:PySem.W.Frag)(a:Addr)(n:Nat):It :=
 ⟨fun i H=>∃xs x,SqL K H a xs/\xs.length=n/\xs.reverse[i]?=some x,fun i H x H'=>H'=H/\∀xs,SqL K H a xs->xs.reverse[i]?=some x,fun i _=>i=n⟩
inductive Zaw(K:PySem.W.Frag)(R:It->Hp->Prop)(x:V)(H1:Hp):Prop
 | mk (a xs:_):(x=.ref a)->(SqL K H1 a xs)->(R (Itvl K a xs.length) H1)->Zaw K R x H1
def ltI:List Int->List Int->Bool
 | x::xs,y::ys=>if x=y then ltI xs ys else decide (x < y)
 | _,_=>false
section
variable {prog:Program}{w:World}{A:Around}{s:Shared}
end
section
variable {X:Cx}
inductive rLtL_i(x:V)(y:V)(H:Hp)(Q:VK):Prop
 | mk (a c xs ys:_):(x=.ref a)->(y=.ref c)->(H a=some (.lst (xs.map V.int)))->(H c=some (.lst (ys.map V.int)))->(xs.length=ys.length)->(Q (.bl (ltI xs ys)) H)->rLtL_i x y H Q
end
def b2i(b:Bool):Int:=if b=true then 1 else 0
def Zcn(k:Int):Value->Bool
 | .int i _=>i == k
 | .bool b=>b2i b == k
 | _=>false
theorem Yx{k:Int}(h:Zcn k v=true):(∃t,v=.int k t)\/∃b,v=.bool b/\k=b2i b:=by
 cases v with
 | int i t=>exact .inl ⟨t,by rw [show i=k from eq_of_beq h]⟩
 | bool b=>exact .inr ⟨b,rfl,(eq_of_beq h).symm⟩
 | _=>cases h
section
variable {prog:Program}{w:World}
theorem z7{A:Around}{E:Value->Shared->Prop}{s:Shared}{b:Bool}{Q:Int->Shared->Prop}(h:Q (hashInt (b2i b)) { s with toks:=s.toks + 1 }):wpAny (model prog w) A (pyHash (.bool b)) Q E s:=by
 show wpAny _ _ (pyHashByItsType (.bool b)) _ _ s;refine PySem.W.pyHash_slot (T := "bool") (id := "int.__hash__") (B:=Builtin.«int.__hash__») rfl F.slot_bool_hash F.entry_int_hash (F.args_int_hash_1 _) (by decide +kernel) (.inl rfl) ?_;cases b
 ·exact Qaa (Qcu (a:=(Value.bool false,(0:Int))) rfl (Qaa (Qez (Qaj ⟨0,_,rfl,h⟩))))
 ·exact Qaa (Qcu (a:=(Value.bool true,(1:Int))) rfl (Qaa (Qez (Qaj ⟨1,_,rfl,h⟩))))
end
theorem ud(a b:Int):decide (a=b)=(a == b):=by
 by_cases e:a=b
 ·rw [Qad e,e,Qb5]
 ·rw [Qal e,Qc8.mpr e]
def Yf(prog:Program)(w:World):KeyKind prog w Int where
 is:=Zcn
 hash:=hashInt
 inj:=fun v a b ha hb=>by
  rcases Yx ha with ⟨t,rfl⟩ | ⟨x,rfl,rfl⟩
  ·exact (eq_of_beq (show (a == b)=true from hb))
  ·exact (eq_of_beq (show (b2i x == b)=true from hb))
 byValue:=fun k v h=>by
  rcases Yx h with ⟨t,rfl⟩ | ⟨x,rfl,rfl⟩ <;> rfl
 pyHash:=fun hv h=>by
  rcases Yx hv with ⟨t,rfl⟩ | ⟨x,rfl,rfl⟩
  ·exact Qfp h
  ·exact z7 h
 eqBool:=fun hu hv h=>by
  rw [ud] at h;rcases Yx hu with ⟨t,rfl⟩ | ⟨x,rfl,rfl⟩
  ·rcases Yx hv with ⟨u,rfl⟩ | ⟨y,rfl,rfl⟩
   ·exact wpAny_eqBool_int h
   ·exact SeqAt.EqAt.int_bool _ t y _ _ _ _ h
  ·rcases Yx hv with ⟨u,rfl⟩ | ⟨y,rfl,rfl⟩
   ·exact SeqAt.EqAt.bool_int x _ u _ _ _ _ h
   ·refine SeqAt.EqAt.bool_bool x y _ _ _ _ ?_
    have e:(b2i x == b2i y)=(x == y):=by cases x <;> cases y <;> rfl
    rw [e] at h;exact h
 «strs»:=fun k x t v h=>by cases h
section
variable {prog:Program}{w:World}
def IsPair(prog:Program)(w:World)(h:Heap)(k:Int × List Int)(a:Addr):Prop :=
 ∃o n t tk,h.get? a=some o/\o.cls=.type "tuple" /\ o.data=.seq #[.int k.1 tk,.ref t] n/\IsTupleKey (Yf prog w) h k.2 t
def jm(prog:Program)(w:World)(k:Int × List Int):Int:=reduceHash (Builtin.Tuple.tupleHashOf [hashInt k.1,tupleKeyHash (Yf prog w) k.2])
theorem IsPair.inj{h:Heap}{a:Addr}{x y:Int × List Int}(p:IsPair prog w h x a)(q:IsPair prog w h y a):x=y:=by
 obtain ⟨o,n,t,tk,e,c,d,k⟩:=p;obtain ⟨o',I,t',g,f,G,d',E⟩:=q;rw [e] at f;cases f;rw [d] at d';injection d' with d1 d2;have d3:=congrArg Array.toList d1;injection d3 with d4 d5;injection d4 with d6 _;injection d5 with d7 _;injection d7 with d8;subst d8;have:=(tupleKind (Yf prog w)).inj k E;exact Prod.ext d6 this
theorem IsPair.keeps{h h':Heap}{k:Int × List Int}{a d:Addr}{o:Obj}{es:Array DictEntry}{ep:Nat}(p:IsPair prog w h k a)(e:h.get? d=some o)(hd:o.data=.dict es ep)(s:Heap.SameBut d h h'):IsPair prog w h' k a:=by
 obtain ⟨g,n,t,tk,e1,y,d1,k1⟩:=p;have f:a≠d:=fun z=>by
  rw [z,e] at e1;cases e1;rw [hd] at d1;cases d1
 exact ⟨g,n,t,tk,(s.2 a f).trans e1,y,d1,(tupleKind (Yf prog w)).keeps k1 e hd s⟩
theorem IsPair.pyHash{A:Around}{E:Value->Shared->Prop}{s:Shared}{k:Int × List Int}{a:Addr}{Q:Int->Shared->Prop}(hu:A.units + 1 < cLine)(p:IsPair prog w s.heap k a)
  (h:Q (jm prog w k) { s with toks:=s.toks + (k.2.length + 3) }):wpAny (model prog w) A (PySem.pyHash (.ref a)) Q E s:=by
 obtain ⟨o,n,t,tk,e,c,d,f⟩:=p;show wpAny _ _ (pyHashByItsType (.ref a)) _ _ s;refine PySem.W.pyHash_slot (T := "tuple") (id := "tuple.__hash__") (B:=Builtin.«tuple.__hash__») ⟨o,e,c⟩ F.slot_tuple_hash F.entry_tuple_hash (F.args_tuple_hash_1 _) (by decide +kernel) (.inr (by lia)) ?_;unfold Builtin.«tuple.__hash__»;refine Qaa (Qcu (a:=(Value.ref a,[])) rfl ?_)
 try dsimp only
 refine Qaa (wpAny_tupleItemsOf e d ?_);refine Qaa (Qe6 _ (fun rest hs s'=>(rest=[.int k.1 tk,.ref t]/\hs=#[]/\s'=s)\/(rest=[.ref t]/\hs=#[hashInt k.1]/\s'={ s with toks:=s.toks + 1 })\/(rest=[]/\hs=#[hashInt k.1,tupleKeyHash (Yf prog w) k.2]/\s'={ s with toks:=s.toks + 1 + (k.2.length + 1) })) _ ?_ ?_ _ _ (.inl ⟨rfl,rfl,rfl⟩))
 ·rintro x rest b s' (⟨e1,rfl,rfl⟩ | ⟨e1,rfl,rfl⟩ | ⟨e1,_,_⟩)
  ·cases e1
   exact Qaa (Qfp (Qaj (.inr (.inl ⟨rfl,rfl,rfl⟩))))
  ·cases e1
   refine Qaa (wpAny_pyHash_tuple (knd:=Yf prog w) (ks:=k.2) (s:={ s with toks:=s.toks + 1 }) (by show A.units + 1 < cLine;exact hu) f (Qaj (.inr (.inr ⟨rfl,rfl,rfl⟩))))
  ·cases e1
 ·rintro b s' (⟨e1,_,_⟩ | ⟨e1,_,_⟩ | ⟨_,rfl,rfl⟩)
  ·cases e1
  ·cases e1
  ·refine Qaa (Qez (Qaj ⟨_,_,rfl,?_⟩))
   have g:s.toks + 1 + (k.2.length + 1) + 1=s.toks + (k.2.length + 3):=by lia
   show Q (jm prog w k) { s with toks:=s.toks + 1 + (k.2.length + 1) + 1 };rw [g];exact h
theorem _root_.PySem.IsTupleKey.any{ks:List Int}(k:IsTupleKey (Yf prog w) h ks a)(f:Program)(y:World):IsTupleKey (Yf f y) h ks a:=by
 obtain ⟨o,items,n,e,c,d,it⟩:=k;have E:∀{ks:List Int} {g:List Value},ItemsAre (Yf prog w) ks g->ItemsAre (Yf f y) ks g:=by
  intro ks g hh
  induction hh with
  | nil=>exact .nil
  | cons h1 _ G=>exact .cons h1 G
 exact ⟨o,items,n,e,c,d,E it⟩
theorem IsPair.eqBool{A:Around}{E:Value->Shared->Prop}{s:Shared}{x y:Int × List Int}{a b:Addr}{Q:Bool->Shared->Prop}(hu:A.units + 1 < cLine)(p:IsPair prog w s.heap x a)(q:IsPair prog w s.heap y b)
  (h:Q (decide (x=y)) s):wpAny (model prog w) A (PySem.eqBool (.ref a) (.ref b)) Q E s:=by
 by_cases G:a=b
 ·subst G
  have:=p.inj q;rw [Qad this] at h;exact Qf1 (.ref a) prog w E Q h
 ·obtain ⟨o,n,t,tk,e,c,d,U⟩:=p
  obtain ⟨o',L,t',g,W,O,d',J⟩:=q;have it:∀j (h1:j < (#[Value.int x.1 tk,.ref t]).size) (h2:j < (#[Value.int y.1 g,.ref t']).size),SeqAt.EqAt A.in1 s (#[Value.int x.1 tk,.ref t])[j] (#[Value.int y.1 g,.ref t'])[j] (if j=0 then x.1 == y.1 else decide (x.2=y.2)):=by
   intro j h1 h2
   match j,h1,h2 with
   | 0,_,_=>exact SeqAt.EqAt.int_int x.1 tk y.1 g
   | 1,_,_=>exact fun f I Z Y h'=>wpAny_eqBool_tuple (knd:=Yf f I) (by show A.units + 1 < cLine;exact hu) (U.any f I) (J.any f I) h'
  have r:=SeqAt.RcAt.tuples (A:=A) (s:=s) (e:=fun j=>if j=0 then x.1 == y.1 else decide (x.2=y.2)) ⟨o,e,c,n,d⟩ ⟨o',W,O,L,d'⟩ (by lia) it;have S:((List.range (min (#[Value.int x.1 tk,.ref t]).size (#[Value.int y.1 g,.ref t']).size)).all (fun j=>if j=0 then x.1 == y.1 else decide (x.2=y.2)) && (#[Value.int x.1 tk,.ref t]).size == (#[Value.int y.1 g,.ref t']).size)=decide (x=y):=by
   show ((x.1 == y.1) && (decide (x.2=y.2) && true) && true)=decide (x=y);rw [Qdu,Qdu,<-ud]
   by_cases h1:x.1=y.1
   ·by_cases h2:x.2=y.2
    ·rw [Qad h1,Qad h2,Qad (Prod.ext h1 h2)]
     rfl
    ·rw [Qal h2,Qe9,Qal fun z=>h2 (by rw [z])]
   ·rw [Qal h1,Bool.false_and,Qal fun z=>h1 (by rw [z])]
  rw [S] at r;exact SeqAt.EqAt.of_refs G r prog w E Q h
theorem jX{A:Around}{E:Value->Shared->Prop}{s:Shared}{ks:List Int}{Q:Bool->Shared->Prop}(m:Nat)(k:IsTupleKey (Yf prog w) s.heap ks a)(h:Q true s):wpAny (model prog w) A (eqIsQuiet (m + 1) (.ref a)) Q E s:=by
 obtain ⟨o,items,n,e,c,d,it⟩:=k;rw [eqIsQuiet.eq_2];have g:s.TypeIs (.ref a) "tuple" := ⟨o,e,c⟩;refine Qaa (Qc5 g F.slot_tuple_eq.lookup ?_);refine Qaa (Qcs (T := "tuple") (b:=true) g (by rw [Qfa];kernel_rfl) ?_);rw [Qa5 (by decide)];refine Qaa (Qb2 e d ?_);refine Qaa (Qe6 _ (fun rest b s'=>(∀v∈rest,carriedByValue v=true)/\b=(none,())/\s'=s) _ ?_ ?_ _ _ ⟨fun v hv=>?_,rfl,rfl⟩)
 ·rintro x rest b s' ⟨hv,rfl,rfl⟩
  refine Qaa ?_;rw [eqIsQuiet_byValue m (hv x Qaq)];exact Qaj (Qaj ⟨fun v hm=>hv v (Qar _ hm),rfl,rfl⟩)
 ·rintro b s' ⟨_,rfl,rfl⟩
  exact Qaj h
 ·have y:∀{ks:List Int} {f:List Value},ItemsAre (Yf prog w) ks f->∀v∈f,carriedByValue v=true:=by
   intro ks f hh
   induction hh with
   | nil=>exact fun v hv=>nomatch hv
   | cons h1 _ G =>
    intro v hv;rcases Qas.mp hv with rfl | hv
    ·exact (Yf prog w).byValue _ _ h1
    ·exact G v hv
  exact y it v hv
theorem IsPair.quiet{A:Around}{E:Value->Shared->Prop}{s:Shared}{k:Int × List Int}{Q:Bool->Shared->Prop}(p:IsPair prog w s.heap k a)(h:Q true s):wpAny (model prog w) A (eqIsQuiet 8 (.ref a)) Q E s:=by
 obtain ⟨o,n,t,tk,e,c,d,g⟩:=p;rw [eqIsQuiet.eq_2];have f:s.TypeIs (.ref a) "tuple" := ⟨o,e,c⟩;refine Qaa (Qc5 f F.slot_tuple_eq.lookup ?_);refine Qaa (Qcs (T := "tuple") (b:=true) f (by rw [Qfa];kernel_rfl) ?_);rw [Qa5 (by decide)];refine Qaa (Qb2 e d ?_);refine Qaa (Qe6 _ (fun rest b s'=>(rest=[.int k.1 tk,.ref t]\/rest=[.ref t]\/rest=[])/\b=(none,())/\s'=s) _ ?_ ?_ _ _ ⟨.inl rfl,rfl,rfl⟩)
 ·rintro x rest b s' ⟨hr,rfl,rfl⟩
  rcases hr with e1 | e1 | e1
  ·cases e1
   refine Qaa ?_;rw [eqIsQuiet_byValue 7 rfl];exact Qaj (Qaj ⟨.inr (.inl rfl),rfl,rfl⟩)
  ·cases e1
   exact Qaa (jX 6 g (Qaj ⟨.inr (.inr rfl),rfl,rfl⟩))
  ·cases e1
 ·rintro b s' ⟨_,rfl,rfl⟩
  exact Qaj h
end
section
variable {prog:Program}{w:World}{K:Type}[DecidableEq K]
end
structure KN(Kk:Type)[DecidableEq Kk] where
 knd:∀(P:Program) (w:World),HeapKind P w Kk
 hsh:Kk->Int
 at_:Hp->Kk->Addr->Prop
 hash_eq:∀P w k,(knd P w).hash k=hsh k
 ok:∀(P:Program) (w:World) (H:Hp) (h:Heap) (k:Kk) (a:Addr),HOk P w H h->at_ H k a->(knd P w).is h k a
 room:∀(P:Program) (w:World) (A:Around),A.units + 2 < cLine->(knd P w).room A.in1
 room0:∀(P:Program) (w:World) (A:Around),A.units + 2 < cLine->(knd P w).room A
 keep:∀(H H':Hp) (k:Kk) (a:Addr),(∀b xs,H b=some (.tup xs)->H' b=some (.tup xs))->at_ H k a->at_ H' k a
section
variable {Kk:Type}[DecidableEq Kk](kn:KN Kk)
def entN(x:Kk × Addr × Value):DictEntry:={ hash:=kn.hsh x.1,key:=.ref x.2.1,val:=x.2.2 }
def DicF(d:Addr)(xs:List (Kk × Addr × Value))(h:Heap):Prop:=(d == sysModules)=false/\∃o es ep,h.get? d=some o/\o.ExactDict/\o.data=.dict es ep/\es.toList=xs.map (entN kn)
def NumD(H:Hp)(d:Addr)(kvs:List (Kk × V)):Prop:=(kvs.map (·.1)).Nodup/\kvs.length < sizeLine /\
 ((kvs=[]/\H d=some (.dK []))\/∃xs,H d=some (.ext (DicF kn d xs))/\Paired (fun (p:Kk × V) (q:Kk × Addr × Value)=>p.1=q.1/\kn.at_ H q.1 q.2.1/\RelV p.2 q.2.2) kvs xs)
variable {kn}
theorem ent_eq(xs:List (Kk × Addr × Value)):xs.map (entryOfKey (kn.knd P w))=xs.map (entN kn):=by
 refine Qdd fun x _=>?_;show DictEntry.mk _ _ _=DictEntry.mk _ _ _;rw [kn.hash_eq]
theorem NumD.dict{X:Cx}{σ:St}{s:Shared}{kvs:List (Kk × V)}(n:NumD kn H a kvs)(I:Inv X E σ H s) :
  ∃xs,Heap.DictOfH (kn.knd X.prog X.w) s.heap a xs/\Paired (fun (p:Kk × V) (q:Kk × Addr × Value)=>p.1=q.1/\kn.at_ H q.1 q.2.1/\RelV p.2 q.2.2) kvs xs/\Mut (H a)/\(a == sysModules)=false:=by
 obtain ⟨hn,hl,h | h⟩:=n
 ·obtain ⟨rfl,e⟩:=h
  obtain ⟨z,hd,J,y,dd⟩:=Zch I.hok e;cases y;obtain ⟨o,es,ep,e1,ex,e2,_,d,_⟩:=dd;have f:es.toList=[]:=by
   generalize es.toList=l at d;cases d
   rfl
  exact ⟨[],⟨o,es,ep,e1,ex,e2,f,(fun x hx=>nomatch hx),List.nodup_nil⟩,.nil,by rw [e];exact True.intro,hd⟩
 ·obtain ⟨xs,e,d⟩:=h
  obtain ⟨⟨hm,o,es,ep,e1,ex,e2,f⟩,_,_⟩:=(show Yc X.prog X.w H s.heap a (.ext (DicF kn a xs)) from I.hok a _ e);refine ⟨xs,⟨o,es,ep,e1,ex,e2,by rw [f,ent_eq],fun x hx=>?_,?_⟩,d,by rw [e];exact True.intro,hm⟩
  ·have g:∀{l:List (Kk × V)} {m:List (Kk × Addr × Value)},Paired (fun (p:Kk × V) (q:Kk × Addr × Value)=>p.1=q.1/\kn.at_ H q.1 q.2.1/\RelV p.2 q.2.2) l m->∀x∈m,kn.at_ H x.1 x.2.1:=by
    intro l m d
    induction d with
    | nil=>exact fun x hx=>nomatch hx
    | cons h _ G =>
     intro x hx;rcases Qas.mp hx with rfl | hx
     ·exact h.2.1
     ·exact G x hx
   exact kn.ok _ _ _ _ _ _ I.hok (g d x hx)
  ·have g:∀{l:List (Kk × V)} {m:List (Kk × Addr × Value)},Paired (fun (p:Kk × V) (q:Kk × Addr × Value)=>p.1=q.1/\kn.at_ H q.1 q.2.1/\RelV p.2 q.2.2) l m->m.map (·.1)=l.map (·.1):=by
    intro l m d
    induction d with
    | nil=>rfl
    | cons h _ G=>rw [Qa3,Qa3,G,h.1]
   rw [g d];exact hn
end
def vB:V->Option Int
 | .int i=>some i
 | .bl b=>some (b2i b)
 | _=>none
theorem jn{P:Program}{w:World}:∀{d:List V} {f:List Value} {ks:List Int},Vals d f->d.map vB=ks.map some->ItemsAre (Yf P w) ks f
 | [],_,[],r,_=>by cases r;exact .nil
 | v::d,_,k::ks,.cons h t,e=>by
  rw [Qa3,Qa3] at e;injection e with e1 e2;refine .cons ?_ (jn t e2);cases v with
  | int i =>
   obtain ⟨t,rfl⟩:=h;cases e1;exact Qb5 _
  | bl b =>
   cases (show _=Value.bool b from h);cases e1;exact Qb5 _
  | _=>cases e1
def ue(H:Hp)(ks:List Int)(a:Addr):Prop:=∃d,H a=some (.tup d)/\d.map vB=ks.map some
theorem ue.is{ks:List Int}(ok:HOk P w H h)(b:ue H ks a):IsTupleKey (Yf P w) h ks a:=by
 obtain ⟨f,e,hv⟩:=b;obtain ⟨_,d,r,o,h1,h2,⟨n,g⟩,_⟩:=(show Yc P w H h a (.tup f) from ok a _ e);exact ⟨o,d.toArray,n,h1,h2,g,by simpa using jn r hv⟩
section
variable {X:Cx}
variable {o e:Expr}{es:List Expr}{to:TE}{t:TA}{name:Str}{apos cpos:Pos}
end
section
variable {X:Cx}
end
section
variable {X:Cx}{params:Arguments}{body a:Expr}{scope:Scope}{lpos p pos:Pos}{c P g:Addr}{qual x:Str}{k kl:Nat}{gd:FuncData}{pg ps ys:List Str}{is:List Nat}{sp:Sp}{ta te:TE}{b:Expr}{tb:TE}
end
section
variable {κ:Type}[DecidableEq κ]
end
end L2
namespace EnL
open PySem PySem.Spec PyProof.Rows
open AutoSeq1 (wpAny_loadPart')
def tIt (l:Addr):Obj:={ cls:=.type "list_iterator",data:=.fields #[.ref l,.int 0 0] }
def enO (it:Addr):Obj:={ cls:=.type "enumerate",data:=.fields #[.none,.bool false,.ref it,rawInt 0,.none,.none] }
theorem Xm(l:Addr)(items:Array Value) :
  Meets (Builtin.«enumerate.__new__» ⟨[.type "enumerate",.ref l],[]⟩) (fun _ R s=>s.heap.IsList l items /\
   R (.ok (.ret (.ref (s.heap.push (tIt l)).objs.size))) { s with heap:=(s.heap.push (tIt l)).push (enO s.heap.objs.size) }) :=
 .of_wp fun prog w A R s h=>by
  obtain ⟨hp,g,d,tk,os⟩:=s;obtain ⟨f,h⟩:=h;have y:=sub_enumerate;obtain ⟨⟨oc,od,G,E⟩,hl,hc,n,hd⟩:=id f;simp only at hc hd;subst hc hd
  wp_walk using wpAny_loadPart' hl
  refine wpAny_stack_any fun st=>Qaj ?_
  split
  ·rename_i c _ _ _ _ _
   cases (c == Value.type "enumerate")
   ·wp_walk using wpAny_loadPart' hl,Qc4 f
    exact ⟨_,rfl,h⟩
   ·wp_walk using wpAny_loadPart' hl,Qc4 f
    exact ⟨_,rfl,h⟩
  ·wp_walk using wpAny_loadPart' hl,Qc4 f
   exact ⟨_,rfl,h⟩
section
variable {prog:Program}{w:World}{A:Around}{E:Value->Shared->Prop}{s:Shared}
theorem next_of{it l:Addr}{items:_}{x:Value}(d:s.heap.IsListIter it l i)(hl:s.heap.IsList l items)(hx:items[i]?=some x)
  (y:∀h',h'.IsListIter it l (i + 1)->Heap.SameBut it s.heap h'->Q x { s with heap:=h' }):wpAny (model prog w) A (Builtin.SmallTypes.nextOf (.ref it)) Q E s:=by
 obtain ⟨o,ho,hc,hd⟩:=id d;obtain ⟨I,f,_,G,g⟩:=hl;unfold Builtin.SmallTypes.nextOf;refine Qaa (wpAny_callSpecial?_slot (name:=Str.ofString "__next__") d.typeIs Qd7 (Qbr Qd7 d.typeIs entry_listiter_next ?_ (args_listiter_next _)));show wpAny _ _ (field (.ref it) 0 >>= _) _ _ s;refine Qaa (Qa2 ho hd (x:=.ref l) rfl ?_);show wpAny _ _ (if (Value.ref l == Value.none)=true then _ else _) _ _ s;rw [Qa5 (show ¬((Value.ref l == Value.none)=true) from Qav)];show wpAny _ _ (field (.ref it) 1 >>= _) _ _ s;refine Qaa (Qa2 ho hd (x:=.int i 0) rfl ?_);show wpAny _ _ (seqItems? (.ref l) >>= _) _ _ s;refine Qaa (Qb2 f g ?_);simp only [Qbw,hx];refine Qaa (Qcn ho hd (by simp) (Qaj ⟨x,rfl,Qaj (y _ ⟨_,Qb9 _ ho (Qcp (Qbn hd _)),(Qdt ..).trans hc,?_⟩ (Qdb ..))⟩));rw [Qbn hd];simp [rawInt]
theorem next_no{it l:Addr}{items:_}(hh:A.handled=none)(d:s.heap.IsListIter it l i)(hl:s.heap.IsList l items)(hx:items[i]?=none)
  (y:∀h' e,Heap.ExtBut it s.heap h'->(∃o,h'.get? e=some o/\o.cls=.type "StopIteration")->E (.ref e) { s with heap:=h' }):wpAny (model prog w) A (Builtin.SmallTypes.nextOf (.ref it)) Q E s:=by
 obtain ⟨o,ho,hc,hd⟩:=id d;obtain ⟨I,g,_,G,f⟩:=hl;unfold Builtin.SmallTypes.nextOf;refine Qaa (wpAny_callSpecial?_slot (name:=Str.ofString "__next__") d.typeIs Qd7 (Qbr Qd7 d.typeIs entry_listiter_next ?_ (args_listiter_next _)));show wpAny _ _ (field (.ref it) 0 >>= _) _ _ s;refine Qaa (Qa2 ho hd (x:=.ref l) rfl ?_);show wpAny _ _ (if (Value.ref l == Value.none)=true then _ else _) _ _ s;rw [Qa5 (show ¬((Value.ref l == Value.none)=true) from Qav)];show wpAny _ _ (field (.ref it) 1 >>= _) _ _ s;refine Qaa (Qa2 ho hd (x:=.int i 0) rfl ?_);show wpAny _ _ (seqItems? (.ref l) >>= _) _ _ s;refine Qaa (Qb2 g f ?_);simp only [Qbw,hx];refine Qaa (Qdj (Qaa (Qcn ho hd (by simp) ?_)));show wpAny _ _ (newExc (.type "StopIteration") [] >>= _) _ _ _;refine Qaa ?_;simp only [newExc,newTuple];refine Qaa (Qbh ?_ (by size_fits));refine Qaa (m:=firstArgMember _ _) (Qcu (a:=Value.none) (by first | rfl | (simp only [firstArgMember];rfl)) ?_);refine Qbh ?_ (by size_fits);simp only [raiseNew];refine Qaa (wpAny_handled ?_)
 first | rw [show A.in1.handled=none from hh] | rw [hh]
 refine Qaa (Qaj (wpAny_throw ?_));exact y _ _ (((Qdb ..).extBut.push _).push _) ⟨_,Qau _ rfl,rfl⟩
theorem zm{e it l:Addr}{x:Value}
  (he:IsEnum s.heap e it i M) (hit:s.heap.IsListIter it l i) (hl:s.heap.IsList l q) (hx:q[i]?=some x) (hne:e≠it)
  (hQ:∀h',IsEnumOut h' e it ((i:Int) + 1) x s.heap.objs.size->h'.IsListIter it l (i + 1) ->
   h'.get? s.heap.objs.size=some { cls:=.type "tuple",data:=.seq #[.int i s.toks,x] }->h'.objs.size=s.heap.objs.size + 1 ->
   (∀b o,b≠e->b≠it->s.heap.get? b=some o->h'.get? b=some o)->Q (.ref s.heap.objs.size) { s with heap:=h',toks:=s.toks + 1 }) :
  wpAny (model prog w) A (Builtin.«enumerate.__next__» ⟨[.ref e],[]⟩) (fun fin s'=>∃v,fin=.done (.ret v)/\Q v s') E s:=by
 obtain ⟨hp,g,d,tk,os⟩:=s;show wpAny _ _ (field (.ref e) 2 >>= _) _ _ _;refine Qaa (Qa2 he rfl (x:=.ref it) rfl ?_);refine Qaa (next_of hit hl hx fun O hit₁ y=>?_)
 replace y:Heap.SameBut it hp O:=y
 have he₁:IsEnum O e it i M:=(y.2 e hne).trans he;show wpAny _ _ (field (.ref e) 3 >>= _) _ _ ⟨O,g,d,tk,os⟩;refine Qaa (Qa2 he₁ rfl (x:=rawInt i) rfl ?_);show wpAny _ _ (field (.ref e) 4 >>= _) _ _ ⟨O,g,d,tk,os⟩;refine Qaa (Qa2 he₁ rfl (x:=.none) rfl ?_);show wpAny _ _ (mkInt i >>= _) _ _ ⟨O,g,d,tk,os⟩;refine Qaa (Qez ?_);show wpAny _ _ (setField (.ref e) 3 (rawInt ((i:Int) + 1)) >>= _) _ _ ⟨O,g,d,tk + 1,os⟩;refine Qaa (Qa9 he₁ (by simp) fun h₂ Y L=>?_)
 replace L:Heap.SameBut e O h₂:=L
 replace Y:IsEnum h₂ e it ((i:Int) + 1) M:=Y
 show wpAny _ _ (setField (.ref e) 4 .none >>= _) _ _ ⟨h₂,g,d,tk + 1,os⟩;refine Qaa (Qa9 Y (by simp) fun S Z J=>?_)
 replace J:Heap.SameBut e h₂ S:=J
 replace Z:IsEnum S e it ((i:Int) + 1) M:=Z
 show wpAny _ _ (newTuple [.int i tk,x] >>= _) _ _ ⟨S,g,d,tk + 1,os⟩;refine Qaa (Qfc ?_);have W:IsEnum (S.push { cls:=.type "tuple",data:=.seq #[.int i tk,x] }) e it ((i:Int) + 1) M:=Qac _ Z;generalize hh₄:S.push { cls:=.type "tuple",data:=.seq #[.int i tk,x] }=U at W;have hsz:S.objs.size=hp.objs.size:=by rw [J.1,L.1,y.1]
 have hel:e < hp.objs.size:=Qat he;have ht₄:U.get? hp.objs.size=some { cls:=.type "tuple",data:=.seq #[.int i tk,x] }:=by rw [<-hh₄,<-hsz];exact Qau _ rfl
 have hz₄:U.objs.size=hp.objs.size + 1:=by rw [<-hh₄,Qbv,hsz]
 have hk₄:∀b o,b≠e->b≠it->hp.get? b=some o->U.get? b=some o:=fun b o hbe hbi hb=>by
  rw [<-hh₄];exact Qac _ (J.extBut b o hbe (L.extBut b o hbe (y.extBut b o hbi hb)))
 have hit₄:U.IsListIter it l (i + 1):=by
  rw [<-hh₄];obtain ⟨o,ho,r⟩:=(hit₁.extBut L.extBut (Qcd hne)).extBut J.extBut (Qcd hne);exact ⟨o,Qac _ ho,r⟩
 show wpAny _ _ (Builtin.SmallTypes.ownedTupleIsFree (.ref e) >>= _) _ _ ⟨U,g,d,tk + 1,os⟩;rw [hsz];clear hh₄ Z J Y L he₁ y hit₁ hsz S h₂ O;refine Qaa ?_
 ·unfold Builtin.SmallTypes.ownedTupleIsFree
  refine Qaa (Qa2 W rfl (x:=.none) rfl (Qaj ?_));simp only [Qf9];refine Qaa (Qdj ?_);refine Qaa (Qa2 W rfl (x:=M) rfl ?_);refine Qaa (Qa9 W (by simp) fun h₅ he₅ f=>?_)
  replace f:Heap.SameBut e U h₅:=f
  replace he₅:IsEnum h₅ e it ((i:Int) + 1) x:=he₅
  show wpAny _ _ (Builtin.SmallTypes.ownedTupleHandOut (.ref e) (.ref hp.objs.size) >>= _) _ _ ⟨h₅,g,d,tk + 1,os⟩;refine Qaa ?_
  ·unfold Builtin.SmallTypes.ownedTupleHandOut
   refine Qaa (Qa9 he₅ (by simp) fun h₆ he₆ G=>?_)
   replace G:Heap.SameBut e h₅ h₆:=G
   replace he₆:IsEnumOut h₆ e it ((i:Int) + 1) x hp.objs.size:=he₆
   refine Qa9 he₆ (by simp) fun h₇ he₇ I=>?_
   replace I:Heap.SameBut e h₆ h₇:=I
   replace he₇:IsEnumOut h₇ e it ((i:Int) + 1) x hp.objs.size:=he₇
   refine Qaa (Qfn (Qaj ⟨_,rfl,hQ h₇ he₇ ?_ ?_ ?_ ?_⟩))
   ·exact ((hit₄.extBut f.extBut (Qcd hne)).extBut G.extBut (Qcd hne)).extBut I.extBut (Qcd hne)
   ·exact I.extBut _ _ (Qcz hel) (G.extBut _ _ (Qcz hel) (f.extBut _ _ (Qcz hel) ht₄))
   ·rw [I.1,G.1,f.1,hz₄]
   ·exact fun b o hbe hbi hb=>I.extBut b o hbe (G.extBut b o hbe (f.extBut b o hbe (hk₄ b o hbe hbi hb)))
theorem next_item{e it l:Addr}{x:Value}{Q:Option Value->Shared->Prop}
  (he:IsEnum s.heap e it i v) (f:s.heap.IsListIter it l i) (hl:s.heap.IsList l q) (hx:q[i]?=some x) (g:e≠it)
  (G:∀h',IsEnumOut h' e it ((i:Int) + 1) x s.heap.objs.size->h'.IsListIter it l (i + 1) ->
   h'.get? s.heap.objs.size=some { cls:=.type "tuple",data:=.seq #[.int i s.toks,x] }->h'.objs.size=s.heap.objs.size + 1 ->
   (∀b o,b≠e->b≠it->s.heap.get? b=some o->h'.get? b=some o)->Q (some (.ref s.heap.objs.size)) { s with heap:=h',toks:=s.toks + 1 }) :
  wpAny (model prog w) A (pyNext (.ref e)) Q E s:=by
 have y:s.TypeIs (.ref e) "enumerate" := ⟨_,he,rfl⟩;unfold pyNext;exact Qaa (Qcm (wpAny_callSpecial?_slot (name:=Str.ofString "__next__") y Qb0 (Qbr Qb0 y Qdl
   (zm he f hl hx g fun h' a b c d k=>Qaj (G h' a b c d k)) (Qdc _))))
theorem next_end{e it l:Addr}{Q:Option Value->Shared->Prop}(hh:A.handled=none)
  (he:IsEnum s.heap e it i v) (f:s.heap.IsListIter it l i) (hl:s.heap.IsList l q) (hx:q[i]?=none)
  (G:∀h',Heap.ExtBut it s.heap h'->Q none { s with heap:=h' }):wpAny (model prog w) A (pyNext (.ref e)) Q E s:=by
 have y:s.TypeIs (.ref e) "enumerate" := ⟨_,he,rfl⟩;unfold pyNext;refine Qaa (Qcm (wpAny_callSpecial?_slot (name:=Str.ofString "__next__") y Qb0 (Qbr Qb0 y Qdl ?_ (Qdc _))));show wpAny _ _ (field (.ref e) 2 >>= _) _ _ _;refine Qaa (Qa2 he rfl (x:=.ref it) rfl ?_);refine Qaa (next_no hh f hl hx fun h' x d g=>?_);obtain ⟨o,ho,hc⟩:=g;refine Qaa (Qcs (T := "StopIteration") (b:=true) ⟨o,ho,hc⟩ Qfb ?_);exact Qaj (G _ d)
theorem call_new{l:Addr}(hl:s.heap.IsList l q)
  (h:∀h',IsEnum h' (s.heap.objs.size + 1) s.heap.objs.size 0 .none->h'.IsListIter s.heap.objs.size l 0->h'.objs.size=s.heap.objs.size + 2 ->
   (∀b o,s.heap.get? b=some o->h'.get? b=some o)->Q (.ref (s.heap.objs.size + 1)) { s with heap:=h' }):wpAny (model prog w) A (call (.type "enumerate") [.ref l]) Q E s:=by
 refine callType_new F.called_enumerate (by decide) (F.typeCall_enumerate_1 _) (F.newCall_enumerate_1 _) (fun d=>F.args_object_init_2 d _) F.entry_enumerate_new (Xm l q) ⟨hl,?_⟩;have f:(s.heap.push (tIt l)).objs.size=s.heap.objs.size + 1:=Qbv ..;show _/\_;rw [f];have he:IsEnum ((s.heap.push (tIt l)).push (enO s.heap.objs.size)) (s.heap.objs.size + 1) s.heap.objs.size 0 .none:=by
  have:=Qau (s.heap.push (tIt l)) (o:=enO s.heap.objs.size) rfl;rw [f] at this;exact this
 refine ⟨⟨_,he,rfl⟩,h _ he ⟨_,Qac _ (Qau _ rfl),rfl,rfl⟩ (by rw [Qbv,f]) fun b o x=>Qac _ (Qac _ x)⟩
end
end EnL
namespace L2
open PySem PySem.Spec PyProof.Rows
def Zco(K:PySem.W.Frag)(a:Addr)(n:Nat):It :=
 ⟨fun i H=>∃xs x,SqL K H a xs/\xs.length=n/\xs[i]?=some x,fun i H v H'=>∃p,H p=none/\v=.ref p/\∀xs x,SqL K H a xs->xs[i]?=some x->H'=upd H p (.tup [.int i,x]),fun i H=>∃xs,SqL K H a xs/\xs.length=n/\n<=i⟩
theorem jY{q:Nat}{ps:Pos}(a e it:Addr)(n:Nat)(G:e≠it):Turn P w K (.Tuple L q ps) (Zco K a n) [e,it] e (fun i h=>(∃old,IsEnum h e it i old)/\h.IsListIter it a i) where
 mem:=by simp
 obj:=fun i h st b hb=>by
  obtain ⟨⟨old,he⟩,o,ho,hc,hd⟩:=st;rcases Qas.mp hb with rfl | hb
  ·exact ⟨_,he,fun v z=>by
    have z':Data.fields _=Data.cell v:=z;cases z'⟩
  ·have:b=it:=by simpa using hb
   subst this;exact ⟨o,ho,fun v z=>by rw [hd] at z;cases z⟩
 keep:=fun i h h' st k=>by
  obtain ⟨⟨old,he⟩,d⟩:=st;exact ⟨⟨old,k e (by simp) _ he⟩,d.at fun o x=>k it (by simp) o x⟩
 item:=by
  intro X Y hw hK hc i pins s σ H E I hf st hg;subst Y hw hK;obtain ⟨xs,x,W,hn,hx⟩:=hg;obtain ⟨Z,rv,p,hz⟩:=I.list W;obtain ⟨u,hu,ru⟩:=rv.get hx;obtain ⟨⟨old,he⟩,d⟩:=st;obtain ⟨f0,f1,f2,f3,f4,f5⟩:=hf e (by simp);obtain ⟨g0,g1,g2,g3,g4,g5⟩:=hf it (by simp);have hlt:e < s.heap.objs.size:=Qat he;have S:it < s.heap.objs.size:=by obtain ⟨_,z,_⟩:=d;exact Qat z
  refine EnL.next_item he d p.isList (x:=u) (by simpa using hu) G fun h' ho U hT hsz hk=>?_;refine ⟨_,rfl,wpAny_letOwnedTupleGo_enum (s:={ s with heap:=h',toks:=s.toks + 1 }) ho fun h2 he2 hs2=>?_⟩;have f:Heap.SameBut e h' h2:=hs2;have I1:Inv X pins σ (upd H s.heap.objs.size (.tup [.int i,x])) { s with heap:=s.heap.push { cls:=.type "tuple",data:=.seq #[.int i s.toks,u] },toks:=s.toks + 1 } :=
   I.laid (fun b o y=>Qac _ y) (Qao _) ⟨by show 2<=sizeLine;decide,[.int i s.toks,u],.cons ⟨_,rfl⟩ (.cons ru .nil),jJ.new _ _⟩
  have O:∀b∈[e,it],JN X pins (upd H s.heap.objs.size (.tup [.int i,x])) b:=fun b hb=>by
   have hlb:b≠s.heap.objs.size:=by
    rcases Qas.mp hb with rfl | hb
    ·exact Qbf hlt
    ·have:b=it:=by simpa using hb
     rw [this];exact Qbf S
   obtain ⟨a0,ar⟩:=hf b hb;exact ⟨by rw [Zs hlb];exact a0,ar⟩
  have I2:Inv X pins σ (upd H s.heap.objs.size (.tup [.int i,x])) { s with heap:=h2,toks:=s.toks + 1 }:=by
   refine jU (s:={ s with heap:=s.heap.push { cls:=.type "tuple",data:=.seq #[.int i s.toks,u] },toks:=s.toks + 1 }) I1 O fun b o hb y=>?_;have g:b≠e:=fun z=>hb (by simp [z]);have hbi:b≠it:=fun z=>hb (by simp [z]);rcases Heap.get?_push_cases y with ⟨rfl,rfl⟩ | y
   ·exact (f.2 _ g).trans hT
   ·exact (f.2 b g).trans (hk b o g hbi y)
  refine ⟨.ref s.heap.objs.size,_,I2,rfl,⟨_,I.hok.fresh (Qao _),rfl,fun ys y hy J=>?_⟩,⟨⟨u,?_⟩,U.at fun o y=>(f.2 it G.symm).trans y⟩,fun b hb=>(O b hb).1⟩
  ·rw [I.list_inj hy W,hx] at J
   cases J
   rfl
  ·have e1:((i + 1:Nat):Int)=(i:Int) + 1:=by lia
   show IsEnum h2 e it ((i + 1:Nat):Int) u;rw [e1];exact he2
 done:=by
  intro X Y hw hK hc i pins s σ H E I hf st hg;subst Y hw hK;obtain ⟨xs,W,hn,hx⟩:=hg;obtain ⟨Z,rv,p,hz⟩:=I.list W;obtain ⟨⟨old,he⟩,d⟩:=st;obtain ⟨g0,g1,g2,g3,g4,g5⟩:=hf it (by simp);have hl:=rv.length;exact EnL.next_end (I.ok.hd hc) he d p.isList (by simp;lia) fun h' eb=>⟨rfl,I.turned (t':=s.toks) (fun b o hb e=>eb b o hb e) g0 g1 g3 g4 g5⟩
 self:=fun _ _ _ _ _ st h=>let ⟨⟨_,he⟩,_⟩:=st;wpAny_pyIter_enum he h
def iEnumL(K:PySem.W.Frag)(te:TE):TI:=fun σ H R=>te σ H fun x H1=>∃a xs,x=.ref a/\SqL K H1 a xs/\R (Zco K a xs.length) H1
theorem jo {X:Cx}   {q:Nat} {ps:Pos}  {pos:Pos} (hg:Gl X "enumerate") (hm:X.mg "enumerate" = none) (he:QE X e d) (hp:ZX e=true:=by rfl):QI X (.Tuple L q ps) (.Call (.Name "enumerate" p) [e] [] pos) (iEnumL X.K d):=by
 refine ⟨fun pins s σ H R I h=>?_⟩;have hs:starEach [e] X.env=[(false,eval e X.env)]:=by rw [Zx hp];rfl
 refine Call_ (GP I hg hm x5 (Qct ?_ hs rfl));rw [hs];show wpAny _ _ (spliced ((false,eval e X.env)::[])) _ _ s;refine Qd3 (thn (he.out pins s σ H _ I h) fun u f ⟨x,H1,g,O,J⟩=>?_);refine Qfh ?_;obtain ⟨a,xs,rfl,U,r⟩:=J;cases O;obtain ⟨S,W,pt,Y⟩:=g.list U;refine EnL.call_new pt.isList fun h' y E hsz hk=>?_;have G:Inv X pins σ H1 { f with heap:=h' }:=g.kept (t':=f.toks) hk;refine wpAny_pyIter_enum y ⟨f.heap.objs.size + 1,[f.heap.objs.size + 1,f.heap.objs.size],_,_,H1,rfl,G,jY a (f.heap.objs.size + 1) f.heap.objs.size xs.length (Nat.succ_ne_self _),⟨⟨_,y⟩,E⟩,fun b hb=>?_,r⟩;rcases Qas.mp hb with rfl | hb
 ·exact g.fpOk (Qey _) (g.hok.fresh (Qey _))
 ·have:b=f.heap.objs.size:=by simpa using hb
  subst this;exact g.fpOk (Qao _) (g.hok.fresh (Qao _))
theorem xF{xs:List V}{j k:Nat}{D:Ends}{σ:St}(d:Nat->St->Hp->Prop)(S:d 0 σ H)(hl:∀i σ H,i<=xs.length->d i σ H->SqL K H a xs)
  (hs:∀i x σ H p,xs[i]?=some x->H p=none->d i σ H->g { D with nx:=d (i + 1),ct:=d (i + 1),bk:=D.nx } ((σ.set j (some (.int i))).set k (some x)) (upd H p (.tup [.int i,x]))) (hd:∀σ H,d xs.length σ H->D.nx σ H) :
  ∃W:Nat->Nat->St->Hp->Prop,(∃m,W 0 m σ H)/\∀i m σ H,W i m σ H ->
   ((Zco K a xs.length).stop i H/\D.nx σ H)\/((Zco K a xs.length).go i H/\∃N:St->Hp->Prop,(∀f H',N f H'->∃J,J < m/\W (i + 1) J f H')/\∀x H',(Zco K a xs.length).yld i H x H'->(Zb3 K 2 (JD (W0 j) (JD (W0 k) Zbt))) x σ H' fun G H2=>g { D with nx:=N,ct:=N,bk:=D.nx } G H2):=by
 refine ⟨fun i m σ H=>m=xs.length - i/\i<=xs.length/\d i σ H,⟨xs.length,by simp,Qa8 _,S⟩,?_⟩;rintro i m σ H ⟨rfl,hi,p⟩;have I:=hl i σ H hi p
 by_cases E:i < xs.length
 ·have hx:=Qag E
  refine .inr ⟨⟨xs,xs[i],I,rfl,hx⟩,d (i + 1),fun f H' O=>⟨xs.length - (i + 1),by lia,rfl,E,O⟩,fun v H' y=>?_⟩;obtain ⟨t,L,rfl,y⟩:=y;have e:=y xs _ I hx;subst e;exact ⟨t,_,rfl,SqT.of Zc,rfl,_,_,rfl,_,_,rfl,rfl,hs i _ σ H t hx L p⟩
 ·have e:i=xs.length:=by lia
  exact .inl ⟨⟨xs,I,rfl,by lia⟩,by rw [e] at p;exact hd σ H p⟩
end L2
namespace L2
open PySem PySem.Spec PyProof.Rows
section
variable {κ β:Type}[DecidableEq κ][DecidableEq β]
end
theorem Xo{k:Nat}{A:Around}(r:WJ k A):A.units + 4 < cLine:=by have:=r.un;lia
section
variable {X:Cx}
end
def EqB(H:Hp):Nat->V->V->Bool->Prop
 | 0,x,y,b=>Yv x=true/\Yv y=true/\b=eqV x y
 | n + 1,x,y,b=>(Yv x=true/\Yv y=true/\b=eqV x y)\/∃(a c:Addr) (xs ys:List V) (e:Nat->Bool),x=.ref a/\y=.ref c/\H a=some (.tup xs)/\H c=some (.tup ys)/\b=((List.range (min xs.length ys.length)).all e && xs.length == ys.length)/\∀(j:Nat) (u v:V),xs[j]?=some u->ys[j]?=some v->EqB H n u v (e j)
theorem jq{H:Hp}:∀(n:Nat) (x:V) (b:Bool),EqB H n x x b->b=true
 | 0,x,b,h=>by
  obtain ⟨f,_,rfl⟩:=h;exact qw f
 | n + 1,x,b,h=>by
  rcases h with ⟨f,_,rfl⟩ | ⟨a,c,xs,ys,e,rfl,g,ha,hc,rfl,he⟩
  ·exact qw f
  ·cases g
   rw [ha] at hc;cases hc;rw [Nat.min_self,Qb5,Qdu,Qbt];intro j d;have d:=Qck.mp d;exact jq n _ _ (he j _ _ (Qag d) (Qag d))
theorem GV{xs:List V}{d:List Value}(r:Vals xs d){j:Nat}(h1:j < d.toArray.size):∃x,xs[j]?=some x/\RelV x d.toArray[j]:=by
 have g:j < xs.length:=by rw [r.length];simpa using h1
 obtain ⟨u,e1,y⟩:=r.get (Qag g);have f:d.toArray[j]=u:=by
  have:d[j]?=some d[j]:=Qag (by simpa using h1);rw [e1] at this;simpa using (Option.some.inj this).symm
 rw [f];exact ⟨_,Qag g,y⟩
theorem jr{X:Cx}{pins:List (Addr × Obj)}{σ:St}{H:Hp}{s:Shared}(I:Inv X pins σ H s):∀(n:Nat) (A:Around) (x y:V) (b:Bool) (v u:Value),RelV x v->RelV y u->EqB H n x y b->A.units + n < cLine->SeqAt.EqAt A s v u b
 | 0,A,x,y,b,v,u,g,E,h,hu=>by
  obtain ⟨f,G,rfl⟩:=h;exact zT (A:=A) (s:=s) g E f G
 | n + 1,A,x,y,b,v,u,g,E,h,hu=>by
  rcases h with ⟨f,G,rfl⟩ | ⟨a,c,xs,ys,e,rfl,rfl,ha,hc,rfl,he⟩
  ·exact zT (A:=A) (s:=s) g E f G
  ·cases g
   cases E
   by_cases d:a=c
   ·subst d
    have z:=jq (H:=H) (n + 1) (.ref a) _ (.inr ⟨a,a,xs,ys,e,rfl,rfl,ha,hc,rfl,he⟩);rw [z];exact Qf1 _
   obtain ⟨W,r,p,_⟩:=I.tuple (SqT.of ha);obtain ⟨L,J,p2,_⟩:=I.tuple (SqT.of hc);refine SeqAt.EqAt.of_refs d ?_;have q:=SeqAt.RcAt.tuples (A:=A) (e:=e) p p2 (by lia) fun j h1 h2=>?_
   ·rw [Qak,Qak,<-r.length,<-J.length] at q
    exact q
   ·obtain ⟨w1,U,S⟩:=GV r h1
    obtain ⟨Z,O,Y⟩:=GV J h2;exact jr I n A.in1 _ _ _ _ _ S Y (he j _ _ U O) (by show A.units + 1 + n < _;lia)
section
variable {X:Cx}
end
section
variable {M:Model}{A:Around}{E:Value->Shared->Prop}{s:Shared}
end
structure NstSc(scope:Scope)(ps ls ys:List Str):Prop where
 kind:scope.kind=.function
 co:scope.isCoroutine=false
 gen:scope.isGenerator=false
 par:∀p∈ps,scope.names.lookup p=some .local
 free:∀y∈ys,scope.names.lookup y=some .free
 nd:(ps++(ls++ys)).Nodup
 ndn:(scope.names.map (·.1)).Nodup
section
variable {P:Program}{w:World}{K:PySem.W.Frag}{mg:Str->Option Value}{base:Heap}
end
section
variable {X:Cx}{params:Arguments}{body:List Stmt}{scope:Scope}{lpos:Pos}{c P:Addr}{name qual:Str}
end
section
variable {X:Cx}{pins:List (Addr × Obj)}{σ:St}{H:Hp}{s:Shared}
end
structure NstAt(S0 scope:Scope)(N0 ps ls ys:List Str)(is:List Nat):Prop where
 sc:NstSc scope ps ls ys
 free:∀y∈scope.names,y.2=.free->S0.names.lookup y.1=some .cell
 vis:∀q∈ys.zip is,N0[q.2]?=some q.1
 len:ys.length=is.length
section
variable {X:Cx}{params:Arguments}{body:List Stmt}{scope:Scope}{p pos:Pos}{g:Addr}{name qual x:Str}{k kl:Nat}{gd:FuncData}{pg ps ls ys:List Str}{is:List Nat}{sp:Sp}{ts:TS}{e:Expr}{es:List Expr}{ta:TA}
end
section
variable {X:Cx}
theorem QE.or{u:TE}(h:QE X e d)(g:QE X e u):QE X e (fun σ H Q=>d σ H Q\/u σ H Q):=⟨fun pins s σ H Q I z=>z.elim (h.out pins s σ H Q I) (g.out pins s σ H Q I)⟩
theorem QS.or{e:Stmt}{u:TS}(h:QS X e g)(d:QS X e u):QS X e (fun D σ H=>g D σ H\/u D σ H):=⟨fun pins s σ H D I z=>z.elim (h.out pins s σ H D I) (d.out pins s σ H D I)⟩
theorem PI.or{l:Expr}{t u:TI}(h:PI X e l t)(g:PI X e l u):PI X e l (fun σ H R=>t σ H R\/u σ H R):=fun pins s σ H R I z=>z.elim (h pins s σ H R I) (g pins s σ H R I)
theorem QI.or{tg l:Expr}{t u:TI}(h:QI X tg l t)(g:QI X tg l u):QI X tg l (fun σ H R=>t σ H R\/u σ H R):=⟨PI.or h.out g.out⟩
end
section
variable {prog:Program}{w:World}{A:Around}{R:Result->Shared->Prop}{I:Addr}{fp wr:List Addr}{n:Nat}{P:Nat->Value->Prop}{St:Nat->Heap->Prop}{d:Value}
end
section
variable {prog:Program}{w:World}{A:Around}{E:Value->Shared->Prop}{s:Shared}{l:Addr}{xs:Array (Int × Tok)}{d:Value}
end
section
variable {X:Cx}
end
section
variable {X:Cx}{pos:Pos}
end
section
variable {prog:Program}{w:World}{A:Around}{E:Value->Shared->Prop}{s:Shared}
end
open AutoSeq1 (wpAny_loadPart')
section
variable {prog:Program}{w:World}{A:Around}{E:Value->Shared->Prop}{s:Shared}
end
section
variable {X:Cx}
def rSetD:V->List V->Hp->VK->Prop:=fun x f H Q=>∃(d:Addr) (k:Key) (v:V) (kvs:List (Key × V)),x=.ref d/\f=[kV k,v]/\H d=some (.dK kvs)/\kvs.length < sizeLine /\
 (∀y,Y9 kvs k=some y->Q y H)/\(Y9 kvs k=none->Q v (upd H d (.dK (putK kvs k v))))
theorem Zax:MtM X "dict.setdefault" rSetD:=by
 intro pins s σ H x G v Y Q I S U h;obtain ⟨d,k,y,kvs,rfl,rfl,e,Z,h1,h2⟩:=h;cases S;cases U with
 | cons W J =>
 cases J with
 | cons J O =>
 cases O;obtain ⟨z,hd,G,f,dd⟩:=Zch I.hok e;refine call_meetsIn F.slot_dict_setdefault dd.typeIs F.entry_dict_setdefault (F.args_dict_setdefault_3 _ _ _) (kt_meets_setdefault (ZT X.prog X.w) d (vo W) hd _) ⟨G,dd,by rw [<-f.length];exact z,fun v' hv=>?_,fun hv h' dd' hs=>?_⟩
 ·cases hy:Y9 kvs k with
  | none =>
   have:=xc.none_of (by rw [<-hy];exact f.val k);rw [hv] at this;cases this
  | some g =>
   obtain ⟨L,hw,E⟩:=xc.some_of (v:=g) (o:=valueAt G k) (by rw [<-hy];exact f.val k);rw [hv] at hw;cases hw;exact ⟨g,H,I.tok _,E,h1 g hy⟩
 ·have hn:Y9 kvs k=none:=by
   cases hy:Y9 kvs k with
   | none=>rfl
   | some g =>
    obtain ⟨L,hw,E⟩:=xc.some_of (v:=g) (o:=valueAt G k) (by rw [<-hy];exact f.val k);rw [hv] at hw;cases hw
  have he:∃q,h'.get? d=some q:=let ⟨q,_,_,hq,_⟩:=dd';⟨q,hq⟩;have hl:(putK kvs k y).length<=sizeLine:=by have:=zj kvs k y;lia
  exact ⟨y,_,Zae I (by rw [e];exact True.intro) hs he (dk_new hl hd (f.put k J) dd'),J,h2 hn⟩
def Itn(n:Nat):It:=⟨fun i _=>i < n,fun i H v H'=>H'=H/\v=.int ((n:Int) - 1 - i),fun i _=>n<=i⟩
theorem vJ{tg:Expr}(it:Addr)(n:Nat):Turn P w K tg (Itn n) [it] it (fun i h=>IsRangeIter h it ((n:Int) - 1 + (i:Nat) * (-1)) ((n:Int) - (i:Nat)) (-1)) where
 mem:=by simp
 obj:=fun i h st b hb=>by
  have e:b=it:=by simpa using hb
  subst e;exact ⟨_,st,fun v z=>by
   have z':Data.fields _=Data.cell v:=z;cases z'⟩
 keep:=fun i h h' st k=>k it (by simp) _ st
 item:=by
  intro X f hw J hc i pins s σ H E I hf st hg;subst f hw J;obtain ⟨y,g,S,L,O,G⟩:=hf it (by simp);have W:=Walks.range (prog:=X.prog) (w:=X.w) (I.ok.hd hc) it ((n:Int) - 1) (-1) n;refine W.item i s _ _ hg st fun v h' tk hv d U=>?_;obtain ⟨t,rfl⟩:=hv;have Y:Inv X pins σ H { s with heap:=h',toks:=tk }:=I.turned (fun b o hb e=>U b o (by simpa using hb) e) y g L O G;refine ⟨_,rfl,jK (s:={ s with heap:=h',toks:=tk }) (n := "range_iterator") d rfl rfl (by decide) ⟨.int ((n:Int) - 1 - i),H,Y,⟨t,?_⟩,⟨rfl,rfl⟩,d,fun b hb=>(hf b hb).1⟩⟩;rw [show (n:Int) - 1 + (i:Int) * (-1)=(n:Int) - 1 - i by lia]
 done:=by
  intro X f hw J hc i pins s σ H E I hf st hg;subst f hw J;obtain ⟨y,g,S,L,O,G⟩:=hf it (by simp);exact wpAny_pyNext_range_end (I.ok.hd hc) st (by have:n<=i:=hg;lia) fun h' Z=>⟨rfl,I.turned (t':=s.toks) (fun b o hb e=>Z b o hb e) y g L O G⟩
 self:=fun _ _ _ _ _ st h=>wpAny_pyIter_rangeiter st h
theorem xG(n:Nat):Builtin.Range.rangeSize ((n:Int) - 1) (-1) (-1)=(n:Int):=by
 unfold Builtin.Range.rangeSize;rw [Qa5 (by decide)]
 split
 ·rw [show (n:Int) - 1 - -1 - 1=(n:Int) - 1 by lia,show -(-1:Int)=1 by decide,Qb8]
  lia
 ·lia
theorem small_down(h:n<=1000000):Builtin.Range.small ((n:Int) - 1) (-1) (-1)=true:=by
 have d:∀z:Int,-10<=z->z<=1000010->Builtin.Range.rangeFitsLong z=true:=fun z h1 h2=>by
  unfold Builtin.Range.rangeFitsLong;simp only [Qa1,decide_eq_true_eq];lia
 unfold Builtin.Range.small;rw [xG];simp [d ((n:Int) - 1) (by lia) (by lia),d (n:Int) (by lia) (by lia),d (-1) (by lia) (by lia),d (-1 + (-1 + 1)) (by lia) (by lia),d (-1 - 1) (by lia) (by lia),d (-2) (by lia) (by lia),d (-1 + 1) (by lia) (by lia),d 0 (by lia) (by lia)]
def iDown(ta:TA):TI:=fun σ H R=>ta σ H fun d H1=>∃n:Nat,d=[.int ((n:Int) - 1),.int (-1),.int (-1)]/\n<=1000000/\R (Itn n) H1
theorem Zay {pos:Pos} {t:TA} {tg a b c:Expr} (hg:Gl X "range") (hm:X.mg "range" = none) (ha:QA X [a,b,c] t) (hp:ZX a=true:=by rfl) (J:ZX b=true:=by rfl) (G:ZX c=true:=by rfl):QI X tg (.Call (.Name "range" p) [a,b,c] [] pos) (iDown t):=by
 refine ⟨fun pins s σ H R I h=>?_⟩;refine Call_ (GP I hg hm boot_range (Qct (thn (ha.out pos pins s σ H _ I h) fun Z f ⟨Y,H1,O,U,S⟩=>?_) (Zx hp) (by rw [Zx J,Zx G];rfl)));obtain ⟨n,e,hn,q⟩:=S;subst e;cases U with
 | cons r g =>
 cases g with
 | cons W g =>
 cases g with
 | cons L g =>
 cases g;obtain ⟨t,rfl⟩:=r;obtain ⟨t',rfl⟩:=W;obtain ⟨d,rfl⟩:=L;refine call_range_3 (by decide) ?_ (Or.inl (PyProof.noPylong_small (by decide)));refine wpAny_pyIter_range (IsRange.new ..) (small_down hn) ?_;have y:Inv X pins σ H1 { f with heap:=f.heap.push { cls:=.type "range",data:=.fields #[.int ((n:Int) - 1) t,.int (-1) t',.int (-1) d] },toks:=f.toks }:=O.kept fun b o e=>Qac _ e;generalize f.heap.push { cls:=.type "range",data:=.fields #[.int ((n:Int) - 1) t,.int (-1) t',.int (-1) d] }=E at y ⊢;refine ⟨E.objs.size,[E.objs.size],_,_,H1,rfl,y.kept (t':=f.toks) fun b o e=>Qac _ e,vJ _ n,?_,fun b hb=>?_,q⟩
 ·show IsRangeIter _ _ ((n:Int) - 1 + ((0:Nat):Int) * (-1)) ((n:Int) - ((0:Nat):Int)) (-1)
  rw [xG,show (n:Int) - 1 + ((0:Nat):Int) * (-1)=(n:Int) - 1 by lia,show (n:Int) - ((0:Nat):Int)=n by lia];exact Qau _ rfl
 ·have e:b=E.objs.size:=by simpa using hb
  subst e;exact y.fpOk (Qao _) (y.hok.fresh (Qao _))
end
theorem wB{g:TG}{D:Ends}{σ:St}(y:Nat->St->Hp->Prop)(G:y 0 σ H)
  (hs:∀i σ H,i < n->y i σ H->g (.int ((n:Int) - 1 - i)) σ H fun d H2=>Z { D with nx:=y (i + 1),ct:=y (i + 1),bk:=D.nx } d H2) (hd:∀σ H,y n σ H->D.nx σ H) :
  ∃W:Nat->Nat->St->Hp->Prop,(∃m,W 0 m σ H)/\∀i m σ H,W i m σ H ->
   ((Itn n).stop i H/\D.nx σ H)\/((Itn n).go i H/\∃N:St->Hp->Prop,(∀f H',N f H'->∃E,E < m/\W (i + 1) E f H')/\∀x H',(Itn n).yld i H x H'->g x σ H' fun d H2=>Z { D with nx:=N,ct:=N,bk:=D.nx } d H2):=by
 refine ⟨fun i m σ H=>m=n - i/\i<=n/\y i σ H,⟨n,by simp,Qa8 _,G⟩,fun i m σ H ⟨e,hi,p⟩=>?_⟩;rcases Qf4 i n with h | h
 ·refine .inr ⟨h,fun σ H=>y (i + 1) σ H,fun f H' q=>⟨n - (i + 1),by lia,rfl,h,q⟩,?_⟩
  rintro x H' ⟨rfl,rfl⟩;exact hs i σ _ h p
 ·have:i=n:=by lia
  subst this;exact .inl ⟨Qao _,hd _ _ p⟩
end L2
namespace L2
open PySem PySem.Spec PyProof.Rows
section
variable {prog:Program}{w:World}{A:Around}{E:Value->Shared->Prop}{s:Shared}
end
section
variable {X:Cx}
end
end L2
namespace L2
open PySem PySem.Spec PyProof.Rows PySem.Calls
open AutoSeq1 (wpAny_loadPart')
section
variable {X:Cx}{o e:Expr}{es:List Expr}{to:TE}{t:TA}{name:Str}{apos cpos:Pos}{id:String}{r:V->List V->Hp->VK->Prop}
end
section
variable {X:Cx}
theorem KV.get{kvs:List (D × V)}{d:List (D × Value)}(r:KV kvs d){q:D × V}(h:kvs[i]?=some q):∃u,d[i]?=some (q.1,u)/\RelV q.2 u:=by
 unfold KV at r
 induction r generalizing i with
 | nil=>simp at h
 | @cons p q' ps g e t f =>
  cases i with
  | zero =>
   simp only [List.getElem?_cons_zero,Option.some.injEq] at h;subst h;exact ⟨q'.2,by rw [e.1];rfl,e.2⟩
  | succ j =>
   simp only [List.getElem?_cons_succ] at h ⊢;exact f h
end
end L2
namespace L2
open PySem PySem.Spec PyProof.Rows
theorem vK{X:Cx}{pos:Pos}{g:Operator}{f:TIp}(hN:X.N.Nodup)(hi:X.N[i]?=some x)(hx:Loc X.env.scope x)(he:QE X e d)(ho:PIp X g f)(hf:X.fn x=true\/X.env.scope.names.lookup x=some .local:=by first | exact .inl rfl | exact .inr rfl | assumption):QS X (.AugAssign (.Name x p) g e pos) (tAug i d f):=⟨ps_aug hN hi hx he.out ho hf⟩
end L2
namespace L2
open PySem PySem.Spec PyProof.Rows PySem.Calls
theorem vL{H:Hp}:∀(n:Nat) (x y:V) (b c:Bool),EqB H n x y b->EqB H n x y c->b=c
 | 0,x,y,b,c,h,g=>by rw [h.2.2,g.2.2]
 | n + 1,x,y,b,c,h,g=>by
  rcases h with ⟨_,_,rfl⟩ | ⟨a,d,xs,ys,e,rfl,rfl,ha,hd,rfl,he⟩
  ·rcases g with ⟨_,_,rfl⟩ | ⟨a,d,xs,ys,e,rfl,rfl,ha,hd,rfl,he⟩
   ·rfl
   ·rename_i f _;cases f
  ·rcases g with ⟨f,_,_⟩ | ⟨U,d',L,S,O,e1,e2,I,E,rfl,J⟩
   ·cases f
   ·cases e1
    cases e2;rw [ha] at I;cases I;rw [hd] at E;cases E;congr 1;rw [Qbu,Qbt,Qbt];have G:∀j∈List.range (min xs.length ys.length),e j=O j:=fun j G=>by
     have G:=Qck.mp G;exact vL n _ _ _ _ (he j _ _ (Qag (by lia)) (Qag (by lia))) (J j _ _ (Qag (by lia)) (Qag (by lia)))
    exact ⟨fun h j m=>(G j m).symm.trans (h j m),fun h j m=>(G j m).trans (h j m)⟩
theorem vM{xs:List V}{d:List Value}(r:Vals xs d){w:Value}(h:d[i]?=some w):∃x,xs[i]?=some x/\RelV x w:=by
 have hi:i < xs.length:=by rw [r.length];exact (Qah.mp h).1
 obtain ⟨u,e1,f⟩:=r.get (Qag hi);rw [h] at e1;cases e1;exact ⟨_,Qag hi,f⟩
section
variable {X:Cx}
open Classical in
def eW(d:List Value)(e:Nat->Bool)(w:Value):Bool:=decide (∃i,d[i]?=some w/\e i=true)
open Classical in
theorem GW{e:Nat->Bool}{w:Value}:eW r e w=true↔∃i,r[i]?=some w/\e i=true:=Qcf
theorem Zcp{σ:St}{s:Shared}{A:Around}(I:Inv X E σ H s){xs:List V}{d:List Value}{e:Nat->Bool}{x:V}(r:Vals xs d)(g:RelV x v)(he:∀(j:Nat) (u:V),xs[j]?=some u->EqB H 3 u x (e j))(hu:A.units + 3 < cLine) :
  ∀w∈d,SeqAt.EqAt A s w v (eW d e w):=fun w hw=>by
 have one:∀i,d[i]?=some w->SeqAt.EqAt A s w v (e i):=fun i hi=>by
  obtain ⟨u,f,y⟩:=vM r hi;exact jr I 3 A _ _ _ _ _ y g (he i u f) hu
 obtain ⟨i,hi⟩:=Qbq hw
 by_cases h:∃i,d[i]?=some w/\e i=true
 ·have e1:eW d e w=true:=GW.mpr h
  obtain ⟨j,h1,h2⟩:=h;have:=one j h1;rw [h2] at this;rw [e1];exact this
 ·have e1:eW d e w=false:=Qfj.mpr fun z=>h (GW.mp z)
  have h2:e i=false:=by
   cases q:e i with
   | false=>rfl
   | true=>exact absurd ⟨i,hi,q⟩ h
  have:=one i hi;rw [h2] at this;rw [e1];exact this
theorem eW_any{xs:List V}{d:List Value}{e:Nat->Bool}(r:Vals xs d):d.toArray.any (eW d e)=(List.range xs.length).any e:=by
 rw [show d.toArray.any (eW d e)=d.any (eW d e) by simp,Qbu,Qdh,Qdh]
 constructor
 ·rintro ⟨w,_,h⟩
  obtain ⟨i,h1,h2⟩:=GW.mp h;exact ⟨i,Qck.mpr (by rw [r.length];exact (Qah.mp h1).1),h2⟩
 ·rintro ⟨i,hi,h⟩
  have hi:i < d.length:=by rw [<-r.length];exact Qck.mp hi
  exact ⟨d[i],Qb4 hi,GW.mpr ⟨i,Qag hi,h⟩⟩
def rInB(K:PySem.W.Frag)(neg:Bool):R2:=fun x y H Q=>∃(p:Addr) (xs:List V) (e:Nat->Bool),y=.ref p/\SqL K H p xs/\(∀(j:Nat) (u:V),xs[j]?=some u->EqB H 3 u x (e j))/\Q (.bl (if neg then !(List.range xs.length).any e else (List.range xs.length).any e)) H
theorem Ge(hu:X.A.units + 4 < cLine):OpR X (compareOp .NotIn) (rInB X.K true):=by
 intro pins s σ H x y v u Q I G E h;obtain ⟨p,xs,e,rfl,g,he,q⟩:=h;cases E;obtain ⟨d,r,f,J⟩:=I.list g;refine SeqAt.notIn_listAt (eW d e) f.isList (fun w hw=>Zcp I r G he (by show X.A.units + 1 + 3 < _;lia) w (by simpa using hw)) ⟨.bl _,H,I,rfl,?_⟩;rw [eW_any r];exact q
def wC:V->List V->Hp->VK->Prop:=fun x d H Q=>∃(l:Addr) (xs:List V) (y:V) (e:Nat->Bool) (j:Nat),x=.ref l/\d=[y]/\H l=some (.lst xs)/\xs.length<=1000000/\j < xs.length/\(∀(i:Nat) (u:V),xs[i]?=some u->EqB H 3 u y (e i))/\e j=true/\(∀i,i < j->e i=false)/\Q (.int (j:Int)) H
theorem jZ (hu:X.A.units + 4 < cLine):MtM X "list.index" wC:=by
 intro pins s σ H x vs v us Q I rx rv h;obtain ⟨l,xs,y,e,j,rfl,rfl,hH,S,L,he,J,O,q⟩:=h;cases rx;obtain ⟨u,rfl,ru⟩:=rv.one;obtain ⟨_,d,n,r,hl,U⟩:=I.lstM hH;have g:j < d.toArray.size:=by rw [Qak,<-hl];exact L
 have f:∀(i:Nat) (hi:i < d.toArray.size),eW d e d.toArray[i]=e i:=fun i hi=>by
  have E:i < d.length:=by simpa using hi
  have Y:d.toArray[i]=d[i]:=by simp
  rw [Y];cases q:e i with
  | true=>exact GW.mpr ⟨i,Qag E,q⟩
  | false =>
   refine Qfj.mpr fun z=>?_;obtain ⟨k,h1,h2⟩:=GW.mp z;obtain ⟨x1,g1,r1⟩:=vM r h1;obtain ⟨x2,W,r2⟩:=vM r (Qag E);have Z:=r1.inj r2;subst Z;have:=vL 3 _ _ _ _ (he k _ g1) (he i _ W);rw [h2,q] at this;cases this
 refine Qee PySem.F.slot_list_index ⟨_,U,rfl⟩ PySem.F.entry_list_index (PySem.F.args_list_index_2 _ _) (SeqAt.list_indexAt l d.toArray n none #[] u (eW d e) j g (by lia) ((f j g).trans J) (fun m hm G=>(f m hm).trans (O m G))) ⟨U,fun w hw=>Zcp I r ru he ?_ w (by simpa using hw),⟨.int (j:Int),H,I.tok _,⟨_,rfl⟩,q⟩⟩;show X.A.units + 1 + 3 < _;lia
theorem qF:typeLookup (.type "tuple") (dunderI "add")=pure none:=by rw [Qf3,Qej];kernel_rfl
theorem Zaz:PIp X .Add Zap:=by
 intro pins s σ H x y v u Q I rx ry h;obtain ⟨a,b,xs,ys,rfl,rfl,ha,hb,hz,q⟩:=h;cases rx;cases ry;obtain ⟨g,O,p1,_⟩:=I.tuple (SqT.of ha:SqT X.K H a xs);obtain ⟨d,S,p2,_⟩:=I.tuple (SqT.of hb:SqT X.K H b ys);obtain ⟨⟨cls,dd,data,W⟩,ho,hc,n,hd⟩:=id p1;obtain ⟨⟨cls2,G,data2,E⟩,f,L,U,J⟩:=id p2;simp only at hc hd L J;subst hc hd L J;have e:g.toArray++d.toArray=(g++d).toArray:=by simp
 refine wpAny_inplaceOp_concat ⟨_,ho,rfl⟩ ⟨_,f,rfl⟩ qF Qen Qfl ?_
 by_cases hx:xs=[]
 ·have e:=O.nil_iff.mpr hx
  subst e hx;exact Qee Qch ⟨_,ho,rfl⟩ Qce (Qb7 _ _) (tuple_addW0 a b #[] d.toArray n U dd G W E rfl) ⟨ho,f,⟨.ref b,H,I,rfl,q b H hb fun _ _ z=>z⟩⟩
 ·by_cases Y:ys=[]
  ·have e2:=S.nil_iff.mpr Y
   subst e2 Y;exact Qee Qch ⟨_,ho,rfl⟩ Qce (Qb7 _ _) (tuple_addW1 a b g.toArray _ n U dd G W E (by simpa using fun z=>hx (O.nil_iff.mp z)) (by simp)) ⟨ho,f,⟨.ref a,H,I,rfl,q a H (by rw [Qax];exact ha) fun _ _ z=>z⟩⟩
  ·refine Qee Qch ⟨_,ho,rfl⟩ Qce (Qb7 _ _) (tuple_addW2 a b g.toArray d.toArray n U dd G W E (by simpa using fun z=>hx (O.nil_iff.mp z)) (by simpa using fun z=>Y (S.nil_iff.mp z)) (by rw [Qak,Qak,<-O.length,<-S.length];exact hz)) ⟨ho,f,?_⟩
   rw [e];have hn:=I.hok.fresh (Qao _);refine ⟨.ref s.heap.objs.size,_,I.laid (t':=s.toks) (o:=.tup (xs++ys)) (fun b ob q=>Qac _ q) (Qao _) ⟨by rw [Qab];exact hz,_,O.append S,jJ.new _ _⟩,rfl,q _ _ Zc fun b o Z=>?_⟩;rw [Zs (Z9 Z hn)];exact Z
def rNeLB:R2:=fun x y H Q=>∃(a c:Addr) (xs ys:List V) (e:Nat->Bool),x=.ref a/\y=.ref c/\H a=some (.lst xs)/\H c=some (.lst ys)/\(xs.length=ys.length->∀(j:Nat) (u v:V),xs[j]?=some u->ys[j]?=some v->EqB H 3 u v (e j))/\Q (.bl (!((List.range xs.length).all e && xs.length == ys.length))) H
theorem Za0(hu:X.A.units + 4 < cLine):OpR X (compareOp .NotEq) rNeLB:=by
 intro pins s σ H x y v u Q I J O h;obtain ⟨a,c,xs,ys,e,rfl,rfl,ha,hc,he,q⟩:=h;cases J;cases O;obtain ⟨f,r,p,_⟩:=I.list (SqL.of ha:SqL X.K H a xs);obtain ⟨d,g,p2,_⟩:=I.list (SqL.of hc:SqL X.K H c ys)
 by_cases hl:xs.length=ys.length
 ·have hs:f.toArray.size=d.toArray.size:=by rw [Qak,Qak,<-r.length,<-g.length];exact hl
  refine SeqAt.RcNeAt.lists (e:=e) p.isList p2.isList hs (by lia) (fun j h1 h2=>?_) X.prog X.w _ _ (Z3 I q ?_)
  ·obtain ⟨W,L,G⟩:=GV r h1
   obtain ⟨U,E,S⟩:=GV g h2;exact jr I 3 _ _ _ _ _ _ G S (he hl j _ _ L E) (by show X.A.units + 1 + 3 < _;lia)
  ·rw [Qak,<-r.length,hl,Qb5,Qdu]
 ·have hs:(f.toArray.size != d.toArray.size)=true:=by
   rw [Qak,Qak,<-r.length,<-g.length];simpa using hl
  refine SeqAt.RcNeAt.lists_lengths p.isList p2.isList hs (by lia) X.prog X.w _ _ (Z3 I q ?_);rw [beq_false_of_ne hl,Qe9]
  rfl
theorem vN:OpR X (binaryOp .Mult) (fun x y H Q=>∃(c:Nat) (n:Int),x=.str ⟨#[c]⟩/\y=.int n/\0<=n/\n<=1000/\∀z:Str,z.cps.toList=List.replicate n.toNat c->Q (.str z) H):=by
 intro pins s σ H x y v u Q I f d h;obtain ⟨c,n,rfl,rfl,g,h1,q⟩:=h;obtain ⟨t,rfl⟩:=f;obtain ⟨t',rfl⟩:=d;refine SB.mul ⟨?_,fun h _=>?_,fun _ _=>?_⟩ fun t' tk=>⟨.str _,H,I.tok _,⟨_,rfl⟩,q _ (mul_one_list c n)⟩
 ·rw [Qal (by lia),Qal (by lia)]
  rfl
 ·show ¬((1:Int) > (2 ^ 63 - 1) / n)
  have:(1:Int)<=(2 ^ 63 - 1) / n:=Int.le_ediv_of_mul_le (by lia) (by lia);lia
 ·show Builtin.Str.tooLong (1 * n.toNat)=false
  unfold Builtin.Str.tooLong;exact Qal (by have:=Zv (n:=1 * n.toNat) (by lia);lia)
end
end L2
namespace L2
open PySem PySem.Spec PyProof.Rows
section
variable {X:Cx}{pos:Pos}
def gLst(K:PySem.W.Frag)(n:Nat)(t:TGs):TG:=fun v σ H Q=>∃a xs,v=.ref a/\SqL K H a xs/\xs.length=n/\t xs σ H Q
theorem pg_lst{k:Nat}{t:TGs}(hc:X.calm=true)(h:PGs X L t)
  (hn:(assignEach L X.env).length=n:=by rfl) (f:(assignEach L X.env).findIdx? (·.1)=none:=by rfl):PG X (.Tuple L k pos) (gLst X.K n t):=by
 intro pins s σ H v u Q I r hw;obtain ⟨a,xs,e1,G,hl,hw⟩:=hw;subst e1;cases r;obtain ⟨d,g,y,J⟩:=I.list G;have e:(assignEach L X.env).length=d.toArray.size:=by simp [hn,<-hl,g.length]
 rw [assign_Tuple];refine Qaa (Qes ?_);unfold unpack;rw [e,f];refine Qaa (Qb3 (PySem.W.kun_itemsOf (I.ok.hd hc) y.isList fun h' hx=>?_));have E:Inv X pins σ H { s with heap:=h' }:=I.kept (t':=s.toks) fun b o e=>hx b o (Qbf (Qat e)) e;exact h pins _ σ H xs _ Q E (by simpa using g) hw
end
def rEqLB:R2:=fun x y H Q=>∃(a c:Addr) (xs ys:List V) (e:Nat->Bool),x=.ref a/\y=.ref c/\H a=some (.lst xs)/\H c=some (.lst ys)/\(xs.length=ys.length->∀(j:Nat) (u v:V),xs[j]?=some u->ys[j]?=some v->EqB H 3 u v (e j))/\Q (.bl ((List.range ys.length).all e && (xs.length == ys.length))) H
theorem Za1{X:Cx}(hu:X.A.units + 4 < cLine):OpR X (compareOp .Eq) rEqLB:=by
 intro pins s σ H x y v u Q I J O h;obtain ⟨a,c,xs,ys,e,rfl,rfl,ha,hc,he,q⟩:=h;cases J;cases O;obtain ⟨f,r,p,_⟩:=I.list (SqL.of ha:SqL X.K H a xs);obtain ⟨d,g,p2,_⟩:=I.list (SqL.of hc:SqL X.K H c ys)
 by_cases hl:xs.length=ys.length
 ·have hs:f.toArray.size=d.toArray.size:=by rw [Qak,Qak,<-r.length,<-g.length];exact hl
  refine SeqAt.RcAt.lists (e:=e) p.isList p2.isList hs (by lia) (fun j h1 h2=>?_) X.prog X.w _ _ (Z3 I q ?_)
  ·obtain ⟨W,L,G⟩:=GV r h1
   obtain ⟨U,E,S⟩:=GV g h2;exact jr I 3 _ _ _ _ _ _ G S (he hl j _ _ L E) (by show X.A.units + 1 + 3 < _;lia)
  ·rw [Qak,<-r.length,hl,Qb5,Qdu]
 ·have hs:(f.toArray.size != d.toArray.size)=true:=by
   rw [Qak,Qak,<-r.length,<-g.length];simpa using hl
  refine SeqAt.RcAt.lists_lengths p.isList p2.isList hs (by lia) X.prog X.w _ _ (Z3 I q ?_);rw [beq_false_of_ne hl,Qe9]
theorem wD{X:Cx}{y:Str}{pos:Pos}{k:Nat}{t1 t2:TG}(hc:X.calm=true)(h1:QG X (.Name x p) t1)(h2:QG X (.Name y J) t2):QG X (.Tuple [.Name x p,.Name y J] k pos) (gLst X.K 2 (JD t1 (JD t2 Zbt))) :=
 ⟨pg_lst hc (YF h1.out (YF h2.out qo))⟩
theorem ya{xs:List V}{is:List Nat}{σ:St}{Q:VK}(f:Nat->List V->Hp->Prop)(W:f 0 [] H)(hl:∀i zs H,f i zs H->zs.length<=sizeLine)(O:∀i zs H,f i zs H->SqL K H a xs)
  (hs:∀i x zs H (R:List V->Hp->Prop),(∀zs H,f (i + 1) zs H->R zs H)->xs[i]?=some x->f i zs H->∃a E G J,x=.ref a/\SqT K H a [E,G,J]/\I (jk is σ (some E) (some G) (some J)) H fun b H2=>if b=true then d (jk is σ (some E) (some G) (some J)) H2 fun y S=>R (zs++[y]) S else R zs H2)
  (hd:∀zs H,f xs.length zs H->∀p,H p=none->Q (.ref p) (upd H p (.lst zs))) :
  vI K is I d σ Q (Itl K a) H:=by
 refine ⟨fun i m zs H=>m=xs.length - i/\i<=xs.length/\f i zs H,⟨xs.length,by simp,Qa8 _,W⟩,?_⟩;rintro i m zs H ⟨rfl,hi,p⟩;have q:=O i zs H p
 by_cases g:i < xs.length
 ·refine .inr ⟨⟨xs,xs[i],q,by simp [g]⟩,hl i zs H p,fun x H' y=>?_⟩
  obtain ⟨e,y⟩:=y;subst e;exact hs i x zs _ (fun zs H=>∃L,L < xs.length - i/\(fun i m zs H=>m=xs.length - i/\i<=xs.length/\f i zs H) (i + 1) L zs H) (fun zs H U=>⟨xs.length - (i + 1),by lia,rfl,g,U⟩) (y xs q) p
 ·have e:i=xs.length:=by lia
  subst e;exact .inl ⟨⟨xs,q,Qao _⟩,hl _ zs H p,hd zs H p⟩
end L2
namespace Lw
open PySem L2
def top(i:Nat):Stmt:=PySem.Challenge.pw_everywidth_k37_no_turning.main.body.getD i (.Pass ⟨0,0,0,0⟩)
abbrev X2:Stmt:=top 15
abbrev YQ:Stmt:=top 16
abbrev X3:Stmt:=top 17
abbrev YR:Stmt:=top 18
abbrev Xb:Stmt:=top 20
abbrev Jj:Stmt:=top 34
abbrev W8:Stmt:=top 36
abbrev YI:Stmt:=top 40
abbrev XQ:Stmt:=top 43
abbrev Jk:Stmt:=top 19
abbrev Gf:Stmt:=top 21
abbrev Jl:Stmt:=top 35
abbrev W9:Stmt:=top 42
abbrev Jm:Stmt:=top 23
abbrev Jn:Stmt:=top 24
abbrev Xg:Stmt:=top 32
abbrev Jo:Stmt:=top 37
abbrev YA:Stmt:=top 44
abbrev YB:Stmt:=top 45
abbrev X4:Stmt:=top 30
abbrev qG:Stmt:=top 31
abbrev XR:Stmt:=top 46
abbrev Y3:Stmt:=top 28
abbrev qH:Stmt:=top 29
abbrev Za2:Stmt:=top 27
abbrev X5:Stmt:=top 50
abbrev Gg:Stmt:=top 38
abbrev Gh:Stmt:=top 39
abbrev Gi:Stmt:=top 41
abbrev WA:Stmt:=top 47
abbrev Gj:Stmt:=top 48
abbrev WC:Stmt:=top 49
abbrev Y4:Stmt:=top 51
abbrev qI:Stmt:=top 52
theorem Zd{p:Addr}{o:HO}(h:H p=none):Z0 H (upd H p o):=fun b u e=>by rw [Zs (Z9 e h)];exact e
def Off(d c:Addr)(H H':Hp):Prop:=∀b o,H b=some o->b≠d->b≠c->H' b=some o
theorem Off.refl(d c:Addr)(H:Hp):Off d c H H:=fun _ _ h _ _=>h
theorem Off.trans{c:Addr}{H2:Hp}(x:Off a c H S)(y:Off a c S H2):Off a c H H2:=fun b o h h1 h2=>y b o (x b o h h1 h2) h1 h2
theorem wF(d c:Addr)(x:Z0 H S):Off d c H S:=fun b o h _ _=>x b o h
structure Wn(H:Hp)(d c:Addr):Prop where
 ex:∃(n:Int) (cs:List Int),H d=some (.lst [.ref c,.int n])/\H c=some (.lst (cs.map V.int))/\1<=cs.length/\cs.length<=64
theorem Wn.ne{c:Addr}(D:Wn H a c):a≠c:=by
 obtain ⟨n,cs,hd,hc,_,_⟩:=D.ex;refine XI hd hc ?_;intro z;injection z with z;cases cs with
 | nil=>cases z
 | cons x r =>
  rw [Qa3] at z;injection z with d _;cases d
theorem Wn.same{H H':Hp}{d c:Addr}(D:Wn H d c)(s:Z0 H H'):Wn H' d c:=by
 obtain ⟨n,cs,hd,hc,h1,h2⟩:=D.ex;exact ⟨n,cs,s _ _ hd,s _ _ hc,h1,h2⟩
theorem js(w:Nat):(0:Int) < 2 ^ w:=by
 have h2:((2:Int) ^ w)=(((2:Nat) ^ w:Nat):Int):=by rw [Int.natCast_pow];rfl
 have:=Nat.two_pow_pos w;rw [h2];lia
theorem pow_succ'(w:Nat):(2:Int) ^ (w + 1)=2 ^ w * 2:=Qek 2 w
def z8(w:Nat)(r:Int):List Int:=(List.range w).map fun i=>r / 2 ^ i % 2
theorem qJ{u:TS}{D:Ends}{r:VK}{b c:St->Hp->Prop}{σ:St}(J:St->Hp->Prop)(h1:∀N:St->Hp->Prop,(∀σ H,J σ H->N σ H)->g { D with nx:=N } σ H)(h2:∀σ H,J σ H->u D σ H):({ nx:=ZA g u D,rt:=r,bk:=b,ct:=c }:Ends).nx σ H:=h1 _ h2
theorem Zf{v:V}{σ:St}{Q:St->Hp->Prop}(h:Q (σ.set i (some v)) H):W0 i v σ H Q:=h
theorem Ys{p:Addr}{o:HO}(s:Z0 H S)(hp:H p=none):Z0 H (upd S p o):=fun b u e=>by
 rw [Zs (Z9 e hp)];exact s b u e
theorem Za3{z:Str}{i:Int}(n:Nat)(hn:z.cps.toList.length=n)(f:0<=i)(h1:i < (n:Int)):∃c,c∈z.cps.toList/\atI z.cps.toList i=some c:=by
 obtain ⟨j,rfl⟩:∃j:Nat,i=(j:Int):=⟨i.toNat,by lia⟩;have d:j < z.cps.toList.length:=by lia
 exact ⟨z.cps.toList[j],Qb4 d,Yk (Qag d)⟩
def fI(g:Int->V):V->V
 | .int x=>g x
 | v=>v
theorem XS(a b:Str):(a++b).cps.toList=a.cps.toList++b.cps.toList:=by
 rw [PySem.Str.cps_append,Array.toList_append]
theorem len_signs(a:Str):a.length=a.cps.toList.length:=by
 unfold Str.length;rw [Qc9]
def vO:Str := "abcdefghijklmnopqrstuvwxyz"
def Low(c:Nat):Prop:=c∈vO.cps.toList
instance (c:Nat):Decidable (Low c):=inferInstanceAs (Decidable (c∈_))
def Ya:List Str:=["not","neg","twice","low","and","or","odd","add","sub","pick","same","under","beneath","sign","nought","both","either","so","never","yes"]
def NmL(y:Str):Prop:=(1<=y.length/\y.length<=8)/\∀c∈y.cps.toList,Low c
instance (y:Str):Decidable (NmL y):=inferInstanceAs (Decidable (_/\_))
structure NmS(y:Str):Prop where
 l:NmL y
 k:y∉Ya
theorem Za4:vO.cps.toList.length=26:=by decide +kernel
theorem jt:vO.length<=sizeLine:=by decide +kernel
theorem low_at{i:Int}(d:0<=i)(h1:i < 26):∃c,Low c/\atI vO.cps.toList i=some c:=by
 obtain ⟨c,hc,e⟩:=Za3 (z:=vO) (i:=i) 26 Za4 d h1;exact ⟨c,hc,e⟩
theorem qK(c:Nat):(⟨#[c]⟩:Str).length=1:=rfl
theorem NmL.more(h:NmL x)(f:x.length<=7){c:Nat}(hc:Low c):NmL (x++⟨#[c]⟩):=by
 have h1:=h.1;refine ⟨by rw [Str.length_append,qK];lia,fun d hd=>?_⟩;rw [XS] at hd;rcases Qam.mp hd with z | z
 ·exact h.2 d z
 ·have:d=c:=by simpa using z
  rw [this];exact hc
theorem Yj(y:Str):∀ys:List Str,inV (.str y) (ys.map V.str)=decide (y∈ys)
 | []=>rfl
 | z::r=>by
  have e:inV (.str y) ((z::r).map V.str)=((z == y) || inV (.str y) (r.map V.str)):=rfl;rw [e,Yj y r]
  by_cases h:z=y
  ·rw [h,Qb5,Bool.true_or]
   exact (Qad Qaq).symm
  ·rw [Qc8.mpr h,Bool.false_or]
   by_cases m:y∈r
   ·rw [Qad m,Qad (Qar _ m)]
   ·rw [Qal m,Qal (fun z=>(Qas.mp z).elim (fun q=>h q.symm) m)]
structure Nms(ys:List Str):Prop where
 l1:1<=ys.length
 l3:ys.length<=3
 nd:ys.Nodup
 ok:∀y∈ys,NmS y
theorem vP{c:TT}{D:Ends}{σ:St}(f:St->Hp->Prop)(μ:St->Hp->Nat)(E:f σ H)
  (hs:∀σ H,f σ H->c σ H fun b H1=>if b=true then ∃N:St->Hp->Prop,(∀d H',N d H'->∃y,y < μ σ H/\y=μ d H'/\f d H')/\g { D with nx:=N,ct:=N,bk:=D.nx } σ H1 else D.nx σ H1):y8 c g D σ H:=by
 refine ⟨fun m σ H=>m=μ σ H/\f σ H,⟨_,rfl,E⟩,?_⟩;rintro m σ H ⟨rfl,p⟩;exact hs σ H p
def Off3(d c hv:Addr)(H H':Hp):Prop:=∀b o,H b=some o->b≠d->b≠c->b≠hv->H' b=some o
theorem GX{c hv:Addr}{H2:Hp}(x:Off3 a c hv H S)(y:Off a c S H2):Off3 a c hv H H2:=fun b o h h1 h2 d=>y b o (x b o h h1 h2 d) h1 h2
theorem vQ{c p:Addr}{ys:List Str}(D:Wn H a c)(hp:H p=some (.lst (ys.map V.str)))(h1:1<=ys.length):p≠a/\p≠c:=by
 obtain ⟨n,cs,hd,hc,d,_⟩:=D.ex
 match ys,h1 with
 | y::r,_ =>
  constructor
  ·refine XI hp hd ?_
   intro z;injection z with z;rw [Qa3] at z;injection z with z _;cases z
  ·refine XI hp hc ?_
   intro z;injection z with z
   match cs,d with
   | q::cs,_ =>
    rw [Qa3,Qa3] at z;injection z with z _;cases z
theorem wG{c p:Addr}{n:Int}(D:Wn H a c)(hp:H p=some (.lst [.int n]))(d:p≠c):p≠a/\p≠c:=by
 obtain ⟨m,cs,hd,hc,f,_⟩:=D.ex;exact ⟨XI hp hd (by intro z;injection z with z;injection z with z _;cases z),d⟩
def GY(ys:List Str)(v:V):Prop:=(∃y∈ys,v=.str y)\/∃z:Int,v=.int z/\0<=z/\z < 1000
def Zc9:List (Str × Nat):=[("not",1),("neg",1),("twice",1),("low",1),("and",2),("or",2),("odd",2),("add",2),("sub",2),("pick",3)]
def Jp:List Str:=Zc9.map (·.1)
def ZR(y:Str):Nat:=((Zc9.find? fun p=>decide (p.1=y)).map (·.2)).getD 0
def WQ:V->Nat
 | .str y=>ZR y
 | _=>0
def xH(ys:List Str)(v:V):Prop:=(∃y,v=.str y/\y∈Jp)\/GY ys v
theorem GY.word{ys:List Str}{v:V}(h:GY ys v):xH ys v:=.inr h
theorem YJ:∀y∈Jp,y∈Ya:=by decide +kernel
theorem yb(h:x∉Ya):ZR x=0:=by
 unfold ZR;have e:Zc9.find? (fun p=>decide (p.1=x))=none:=by
  rw [List.find?_eq_none];intro p hp d;exact h (YJ x (by rw [<-Qap d];exact Qd0 hp))
 rw [e]
 rfl
inductive Pre:Nat->List V->Nat->Prop
 | nil {d:Nat}:Pre d [] d
 | cons {d e:Nat} {w:V} {r:List V}:0 < d->Pre (d - 1 + WQ w) r e->Pre d (w::r) e
theorem Pre.snoc{e:Nat}{w:V}(h:Pre i u e)(he:0 < e):Pre i (u++[w]) (e - 1 + WQ w):=by
 induction h with
 | nil=>exact .cons he .nil
 | cons hd _ d=>exact .cons hd (d he)
structure SumW(ys:List Str)(ws:List V):Prop where
 pre:Pre 1 ws 0
 ok:∀w∈ws,xH ys w
def T1:List (Str × Int):=[("not",1),("neg",1),("twice",1),("low",1),("and",2),("or",2),("odd",2),("add",2),("sub",2),("pick",3)]
def T2:List (Str × Int):=[("same",2),("under",2),("beneath",2),("sign",1),("nought",1)]
def T3:List (Str × Int):=[("both",2),("either",2),("so",2),("never",1),("yes",0)]
def YS:List Str:=["same","under","beneath","sign","nought","both","either","so","never","yes"]
theorem uf(l:List (Str × Int))(y:Str):(Y9 (kvsOf l) (.inr y)).isSome=decide (y∈l.map (·.1)):=by
 induction l with
 | nil=>rfl
 | cons p r d =>
  by_cases h:p.1=y
  ·have e:Y9 (kvsOf (p::r)) (.inr y)=some (.int p.2):=Ye (p:=((Sum.inr p.1:Key),V.int p.2)) (by rw [h])
   rw [e,Qa3,Qad (by rw [h];exact Qaq)]
   rfl
  ·have e:Y9 (kvsOf (p::r)) (.inr y)=Y9 (kvsOf r) (.inr y):=ZV (p:=((Sum.inr p.1:Key),V.int p.2)) (fun z=>h (Sum.inr.inj z))
   rw [e,d,Qa3]
   by_cases m:y∈r.map (·.1)
   ·rw [Qad m,Qad (Qar _ m)]
   ·rw [Qal m,Qal (fun z=>(Qas.mp z).elim (fun q=>h q.symm) m)]
def WD:List (Str × Int)->Key->Int
 | [],_=>0
 | p::r,k=>if (Sum.inr p.1:Key)=k then p.2 else WD r k
theorem kget(l:List (Str × Int))(k:Key):(Y9 (kvsOf l) k).getD (.int 0)=.int (WD l k):=by
 induction l with
 | nil=>rfl
 | cons p r d =>
  unfold WD
  by_cases h:(Sum.inr p.1:Key)=k
  ·have e:Y9 (kvsOf (p::r)) k=some (.int p.2):=Ye (p:=((Sum.inr p.1:Key),V.int p.2)) h
   rw [e,Qa4 h]
   rfl
  ·have e:Y9 (kvsOf (p::r)) k=Y9 (kvsOf r) k:=ZV (p:=((Sum.inr p.1:Key),V.int p.2)) h
   rw [e,d,Qa5 h]
theorem qL(l:List (Str × Int))(i:Int):WD l (.inl i)=0:=by
 induction l with
 | nil=>rfl
 | cons p r d =>
  unfold WD;rw [Qa5 (fun z=>nomatch z),d]
theorem Gk{l:List (Str × Int)}(h:x∉l.map (·.1)):WD l (.inr x)=0:=by
 induction l with
 | nil=>rfl
 | cons p r d =>
  unfold WD;rw [Qa3] at h;rw [Qa5 (fun z=>h (by rw [<-Sum.inr.inj z];exact Qaq)),d (fun z=>h (Qar _ z))]
def YK(k:Key):Int:=WD T1 k + WD T2 k + WD T3 k
theorem tw1:T1.map (·.1)=Jp:=by decide +kernel
theorem z9:∀y,y∈Ya↔y∈Jp\/y∈YS:=by
 intro y;have e:Ya=Jp++YS:=by decide +kernel
 rw [e,Qam]
theorem qM:(∀y∈T1.map (·.1),y∈Ya)/\(∀y∈T2.map (·.1),y∈Ya)/\∀y∈T3.map (·.1),y∈Ya:=by decide +kernel
def keyOf:V->Key
 | .int i=>.inl i
 | .str y=>.inr y
 | _=>.inl 0
theorem Za5(x:Str)(c:Nat):(!(Builtin.Str.occurrences x ⟨#[c]⟩ 0 x.length 1).isEmpty)=decide (c∈x.cps.toList):=by
 have h:=PyProof.Rows.in_closes (x:=x) (c:=c) rfl rfl;rw [Qc7] at h;rw [h]
 by_cases m:c∈x.cps.toList
 ·rw [Qad m,Qad ((PyProof.Rows.countIn_signs c _).mpr m)]
 ·rw [Qal m,Qal (fun z=>m ((PyProof.Rows.countIn_signs c _).mp z))]
def GZ(y d:Str):Prop:=y.cps.toList≠[]/\∀c∈y.cps.toList,c∈d.cps.toList
instance (y sg:Str):Decidable (GZ y sg):=inferInstanceAs (Decidable (_/\_))
theorem all_bs(l:List Nat)(p:Nat->Bool):(l.map p).all id=decide (∀c∈l,p c=true):=by
 rw [Qbu,Qbt,Qcf]
 constructor
 ·intro h c hc
  exact h _ (Qd0 hc)
 ·intro h b hb
  obtain ⟨c,hc,rfl⟩:=Qbp.mp hb;exact h c hc
theorem Gm :x.cps.toList=[]↔x=("" : Str):=by
 constructor
 ·intro h
  obtain ⟨a⟩:=x;have:a=#[]:=by
   apply Qfv.mp;simpa using h
  subst this
  decide +kernel
 ·rintro rfl
  decide +kernel
theorem wH:∀y∈Jp,32∉y.cps.toList/\y.length<=5:=by decide +kernel
theorem vt{a b:Str}(h:a.cps.toList=b.cps.toList):a=b:=by
 obtain ⟨x⟩:=a;obtain ⟨y⟩:=b;have:x=y:=Qfv.mp h;rw [this]
def dueN(d:Nat)(f:List V):Nat:=f.foldl (fun d w=>d - 1 + WQ w) d
theorem Pre.due{e:Nat}(h:Pre n u e):dueN n u=e/\∀i,i < u.length->0 < dueN n (u.take i):=by
 induction h with
 | nil=>exact ⟨rfl,fun i hi=>absurd hi (Nat.not_lt_zero _)⟩
 | @cons n e w r hd _ d =>
  refine ⟨d.1,fun i hi=>?_⟩;cases i with
  | zero=>exact hd
  | succ i=>exact d.2 i (Nat.lt_of_succ_lt_succ hi)
def nmB:V->Bool
 | .str y=>decide (y∉Ya/\NmL y)
 | _=>false
def StrInt(w:V):Prop:=(∃y,w=.str y/\y.length<=1000)\/∃z,w=.int z
theorem SumW.si{ys:List Str}(W:SumW ys u)(N:Nms ys):∀w∈u,StrInt w:=by
 intro w hw;rcases W.ok w hw with ⟨y,rfl,d⟩ | ⟨y,d,rfl⟩ | ⟨z,rfl,_⟩
 ·have:=(wH y d).2
  exact .inl ⟨y,rfl,by lia⟩
 ·have:=(N.ok y d).l.1.2
  exact .inl ⟨y,rfl,by lia⟩
 ·exact .inr ⟨z,rfl⟩
def Zcq(ys:List Str)(w:V):Prop:=xH ys w\/∃y,w=.str y/\y∈YS
def WB(ys:List Str):Bool->V->Prop
 | true,w=>∃y,w=.str y/\y∈YS
 | false,w=>xH ys w
theorem WB.cw{ys:List Str}{b:Bool}{w:V}(h:WB ys b w):Zcq ys w:=by
 cases b with
 | true=>exact .inr h
 | false=>exact .inl h
def nSum(w:V):Nat:=(WD T1 (keyOf w) + WD T2 (keyOf w)).toNat
def nClm(w:V):Nat:=(WD T3 (keyOf w)).toNat
def nextK(w:V):List Bool:=List.replicate (nSum w) false++List.replicate (nClm w) true
inductive JE(ys:List Str):List Bool->List V->List Bool->Prop
 | nil {ls:List Bool}:JE ys ls [] ls
 | cons {ls e:List Bool} {b:Bool} {w:V} {r:List V}:WB ys b w->JE ys (ls++nextK w) r e->JE ys (ls++[b]) (w::r) e
theorem JE.app{ys:List Str}{a b c:List Bool}{v:List V}(h:JE ys a u b)(g:JE ys b v c):JE ys a (u++v) c:=by
 induction h with
 | nil=>exact g
 | cons hw _ d=>exact .cons hw (d g)
theorem JE.under{ys:List Str}{a b:List Bool}(p:List Bool)(h:JE ys a u b):JE ys (p++a) u (p++b):=by
 induction h with
 | nil=>exact .nil
 | cons hw _ d =>
  rw [<-Qbb] at d ⊢;exact .cons hw d
theorem JE.words{ys:List Str}{a b:List Bool}(h:JE ys a u b):∀w∈u,Zcq ys w:=by
 induction h with
 | nil=>exact fun _ h=>nomatch h
 | cons hw _ d =>
  intro x hx;rcases Qas.mp hx with rfl | hx
  ·exact hw.cw
  ·exact d x hx
theorem JE.len{ys:List Str}{a b:List Bool}(h:JE ys a u b):a.length<=u.length + b.length:=by
 induction h with
 | nil=>lia
 | cons hw _ d =>
  rw [Qab] at d ⊢;rw [Qan,Qan,Qe1];lia
theorem zA{l:List (Str × Int)}(h:∀p∈l,0<=p.2/\p.2<=3)(k:Key):0<=WD l k/\WD l k<=3:=by
 induction l with
 | nil=>exact ⟨Int.le_refl _,(by decide:(0:Int)<=3)⟩
 | cons p r d =>
  unfold WD
  split
  ·exact h p Qaq
  ·exact d fun q f=>h q (Qar _ f)
theorem T1_bd(k:Key):0<=WD T1 k/\WD T1 k<=3:=zA (by decide +kernel) k
theorem T2_bd(k:Key):0<=WD T2 k/\WD T2 k<=3:=zA (by decide +kernel) k
theorem T3_bd(k:Key):0<=WD T3 k/\WD T3 k<=3:=zA (by decide +kernel) k
def ClaimW(ys:List Str)(d:List V):Prop:=JE ys [true] d []
theorem JE.ne{ys:List Str}{a:List Bool}(h:JE ys a u [])(ha:a≠[]):u≠[]:=by
 intro e;subst e;cases h;exact ha rfl
theorem ClaimW.ne{ys:List Str}{d:List V}(h:ClaimW ys d):d≠[]:=JE.ne h (by simp)
theorem cw_one{ys:List Str}(d:x∈YS):JE ys [true] [.str x] (nextK (.str x)):=JE.cons (ls:=[]) (b:=true) ⟨x,rfl,d⟩ .nil
def Zcr:List Str:=["both","either","so"]
theorem xI:∀y∈Zcr,y∈YS/\nextK (.str y)=[true,true]:=by decide +kernel
theorem qc:("never" : Str)∈YS/\nextK (.str "never")=[true]:=by decide +kernel
theorem ju:("yes" : Str)∈YS/\nextK (.str "yes")=[]:=by decide +kernel
theorem ClaimW.never {ys:List Str} {d:List V} (h:ClaimW ys d):ClaimW ys (.str "never" :: d):=by
 refine JE.cons (ls:=[]) (b:=true) ⟨_,rfl,qc.1⟩ ?_;rw [qc.2];exact h
theorem ClaimW.yes {ys:List Str}:ClaimW ys [.str "yes"]:=by
 have:=cw_one (ys:=ys) ju.1;rw [ju.2] at this;exact this
theorem ClaimW.join{ys:List Str}(d:x∈Zcr)(h:ClaimW ys u)(g:ClaimW ys B):ClaimW ys (.str x::(u++B)):=by
 refine JE.cons (ls:=[]) (b:=true) ⟨_,rfl,(xI x d).1⟩ ?_;rw [(xI x d).2];exact (JE.under [true] h).app g
theorem tup_ne{c:Addr}(D:Wn H a c)(h:H C=some (.tup u)):C≠a/\C≠c:=by
 obtain ⟨n,cs,hd,hc,_⟩:=D.ex;exact ⟨XI h hd (fun z=>nomatch z),XI h hc (fun z=>nomatch z)⟩
structure Dr(d c p hv:Addr)(ys:List Str)(H0 H:Hp):Prop where
 D:Wn H d c
 p:H p=some (.lst (ys.map V.str))
 h:∃n:Int,H hv=some (.lst [.int n])
 o:Off3 d c hv H0 H
theorem Dr.tup{d c p hv:Addr}{ys:List Str}{g H H':Hp}(R:Dr d c p hv ys g H){t:Addr}{f:List V}(h:H t=some (.tup f))(y:Off3 d c hv H H'):H' t=some (.tup f):=by
 obtain ⟨n,hn⟩:=R.h;exact y _ _ h (tup_ne R.D h).1 (tup_ne R.D h).2 (XI h hn (fun z=>nomatch z))
theorem Dr.same{d c p hv:Addr}{ys:List Str}{f H H':Hp}(R:Dr d c p hv ys f H)(s:Z0 H H'):Dr d c p hv ys f H':=by
 obtain ⟨n,hn⟩:=R.h;exact ⟨R.D.same s,s _ _ R.p,⟨n,s _ _ hn⟩,GX R.o (wF d c s)⟩
theorem Dr.off{c p hv:Addr}{ys:List Str}{H':Hp}(N:Nms ys)(f:hv≠c)(R:Dr a c p hv ys S H)(g:Wn H' a c)(s:Off a c H H'):Dr a c p hv ys S H':=by
 obtain ⟨n,hn⟩:=R.h;have pn:=vQ R.D R.p N.l1;have d:=wG R.D hn f;exact ⟨g,s _ _ R.p pn.1 pn.2,⟨n,s _ _ hn d.1 d.2⟩,GX R.o s⟩
theorem Dr.self{c p hv:Addr}{ys:List Str}(R:Dr a c p hv ys S H):Dr a c p hv ys H H:=⟨R.D,R.p,R.h,fun _ _ e _ _ _=>e⟩
def npw(w:V):Nat:=(YK (keyOf w)).toNat
theorem Gn(k:Key):0<=YK k/\YK k<=9:=by
 have h1:=T1_bd k;have h2:=T2_bd k;have d:=T3_bd k;unfold YK;lia
theorem npw_eq(w:V):YK (keyOf w)=(npw w:Int):=by
 have:=Gn (keyOf w);unfold npw;lia
theorem vR(l:List V)(y:V):(l++[y])[(l++[y]).length - 1]?=some y:=by
 rw [Qab,show ([y]:List V).length=1 from rfl,Nat.add_sub_cancel,Qcv (Qao _),Nat.sub_self]
 rfl
def LsAt(ys:List Str)(d:List V)(ls:Nat->List Bool):Prop:=ls d.length=[]/\∀i x,d[i]?=some x->∃f b,ls i=f++[b]/\WB ys b x/\ls (i + 1)=f++nextK x
theorem JE.at{ys:List Str}{a e:List Bool}{d:List V}(h:JE ys a d e)(he:e=[]):∃ls,LsAt ys d ls/\ls 0=a:=by
 induction h with
 | @nil ls =>
  subst he;exact ⟨fun _=>[],⟨rfl,fun i x hx=>by simp at hx⟩,rfl⟩
 | @cons f e b w r hw _ g =>
  obtain ⟨ls,⟨h1,h2⟩,y⟩:=g he;refine ⟨fun i=>match i with | 0=>f++[b] | i + 1=>ls i,⟨h1,fun i x hx=>?_⟩,rfl⟩;cases i with
  | zero =>
   have:w=x:=by simpa using hx
   subst this;exact ⟨f,b,rfl,hw,y⟩
  | succ i=>exact h2 i x (by simpa using hx)
def wI (y:Str) (a:Int):Int:=if y = "not" then Builtin.bitNot a else if y = "neg" then -a else if y = "twice" then a + a else Builtin.bitAnd a (-a)
def yr (y:Str) (a b:Int):Int:=if y = "and" then Builtin.bitAnd a b else if y = "or" then Builtin.bitOr a b else if y = "odd" then Builtin.bitXor a b else if y = "add" then a + b else a - b
def wwv(ρ:Str->Int):V->List Int->Int
 | .int z,_=>z
 | .str y,[]=>ρ y
 | .str y,[a]=>wI y a
 | .str y,[a,b]=>yr y a b
 | .str _,a::b::c::_=>Builtin.bitOr (Builtin.bitAnd a b) (Builtin.bitAnd (Builtin.bitNot a) c)
 | _,_=>0
def clK:Key->Bool
 | .inr y=>decide (y∈YS)
 | .inl _=>false
inductive CvOk(kvs:List (Key × V))(ρ:Str->Int):V->List V->Prop
 | sum {x:V} {is:List Int}:clK (keyOf x)=false->x=kV (keyOf x)->((∃z,x=.int z)\/∃y,x=.str y/\is.length<=3/\(is=[]->Y9 kvs (.inr y)=some (.int (ρ y))))->CvOk kvs ρ x (is.map V.int)
 | rel {y:Str} {is:List Int}:y∈YS->0 < nSum (.str y)->1<=is.length->(y ≠ "nought" -> y ≠ "sign" -> 2<=is.length)->CvOk kvs ρ (.str y) (is.map V.int)
 | clm {y:Str} {bs:List Bool}:y∈YS->nSum (.str y)=0->(y ≠ "yes" -> 1<=bs.length)->(y ≠ "yes" -> y ≠ "never" -> 2<=bs.length)->CvOk kvs ρ (.str y) (bs.map V.bl)
def Ty(m:Int):Bool->V->Prop
 | false,v=>∃a:Int,v=.int a/\0<=a/\a < m
 | true,v=>∃b:Bool,v=.bl b
inductive TyS(m:Int):List Bool->List V->Prop
 | nil:TyS m [] []
 | cons {b:Bool} {v:V} {bs:List Bool} {vs:List V}:Ty m b v->TyS m bs vs->TyS m (b::bs) (v::vs)
theorem TyS.len{m:Int}{bs:List Bool}(h:TyS m bs u):u.length=bs.length:=by
 induction h with
 | nil=>rfl
 | cons _ _ d=>rw [Qan,Qan,d]
theorem TyS.split{m:Int}:∀{as bs:List Bool} {d:List V},TyS m (as++bs) d->TyS m as (d.take as.length)/\TyS m bs (d.drop as.length)
 | [],_,_,h=>⟨.nil,h⟩
 | a::as,bs,_,.cons hv t=>by
  obtain ⟨h1,h2⟩:=TyS.split (as:=as) t;exact ⟨.cons hv h1,h2⟩
theorem wJ:PySem.W.kitOne K (.ref C) (.ref C)=some true:=by
 unfold PySem.W.kitOne;rw [Qa4 (Qb5 _)]
theorem Zcs(m n:Nat):(m &&& n) / 2=m / 2 &&& n / 2/\(m &&& n) % 2=m % 2 * (n % 2):=by
 refine ⟨Nat.and_div_two_pow (n:=1),?_⟩;have h:=Nat.and_mod_two_pow (a:=m) (b:=n) (n:=1);rw [Nat.pow_one] at h;rw [h];rcases Qb1 m with e | e <;> rcases Qb1 n with f | f <;> rw [e,f] <;> rfl
theorem n_or(m n:Nat):(m ||| n) / 2=m / 2 ||| n / 2/\(m ||| n) % 2=m % 2 + n % 2 - m % 2 * (n % 2):=by
 refine ⟨Nat.or_div_two_pow (n:=1),?_⟩;have h:=Nat.or_mod_two_pow (a:=m) (b:=n) (n:=1);rw [Nat.pow_one] at h;rw [h];rcases Qb1 m with e | e <;> rcases Qb1 n with f | f <;> rw [e,f] <;> rfl
theorem Zct(m n:Nat):Builtin.bitAnd m n=((m &&& n:Nat):Int):=by
 unfold Builtin.bitAnd;rw [Qad (Qd8 m),Qad (Qd8 n)]
 rfl
theorem jv(n:Nat):¬(0:Int)<=-(n:Int) - 1:=by lia
theorem jw(n:Nat):(Builtin.bitNot (-(n:Int) - 1)).toNat=n:=by
 unfold Builtin.bitNot;lia
theorem Zcu(m n:Nat):Builtin.bitAnd m (-(n:Int) - 1)=(m:Int) - ((m &&& n:Nat):Int):=by
 unfold Builtin.bitAnd;rw [Qad (Qd8 m),Qal (jv n)]
 try dsimp only
 rw [jw]
 rfl
theorem Zcv(m n:Nat):Builtin.bitAnd (-(m:Int) - 1) n=(n:Int) - ((n &&& m:Nat):Int):=by
 unfold Builtin.bitAnd;rw [Qad (Qd8 n),Qal (jv m)]
 try dsimp only
 rw [jw]
 rfl
theorem Zcw(m n:Nat):Builtin.bitAnd (-(m:Int) - 1) (-(n:Int) - 1)=-((m ||| n:Nat):Int) - 1:=by
 unfold Builtin.bitAnd;rw [Qal (jv n),Qal (jv m)]
 try dsimp only
 rw [jw,jw]
 rfl
theorem jx(a:Int):(∃m:Nat,a=m)\/∃m:Nat,a=-(m:Int) - 1:=by
 by_cases h:0<=a
 ·exact .inl ⟨a.toNat,by lia⟩
 ·exact .inr ⟨(-a - 1).toNat,by lia⟩
theorem zB(a:Int):a % 2=0\/a % 2=1:=by lia
theorem sub2(m A:Int)(h:A % 2=0\/m % 2=1):(m - A) / 2=m / 2 - A / 2/\(m - A) % 2=m % 2 - A % 2:=by lia
theorem cast2(m:Nat):(m:Int) / 2=((m / 2:Nat):Int)/\(m:Int) % 2=((m % 2:Nat):Int):=⟨rfl,rfl⟩
theorem kH(x:Int):(-x - 1) / 2=-(x / 2) - 1/\(-x - 1) % 2=1 - x % 2:=by lia
theorem Zcx(m n:Nat):(((m &&& n:Nat):Int)) / 2=((m / 2 &&& n / 2:Nat):Int)/\(((m &&& n:Nat):Int)) % 2=(m:Int) % 2 * ((n:Int) % 2):=by
 rw [(cast2 _).1,(cast2 _).2,(Zcs m n).1,(Zcs m n).2,Int.natCast_mul];exact ⟨rfl,rfl⟩
theorem take2(m n:Nat):((m:Int) - ((m &&& n:Nat):Int)) / 2=((m / 2:Nat):Int) - ((m / 2 &&& n / 2:Nat):Int)/\((m:Int) - ((m &&& n:Nat):Int)) % 2=(m:Int) % 2 * (1 - (n:Int) % 2):=by
 have l:=Zcx m n;have h:((m &&& n:Nat):Int) % 2=0\/(m:Int) % 2=1:=by
  rcases zB (m:Int) with e | e
  ·rw [l.2,e,Int.zero_mul]
   exact .inl rfl
  ·exact .inr e
 have z:=sub2 _ _ h;rw [z.1,z.2,l.1,l.2];refine ⟨rfl,?_⟩;rcases zB (m:Int) with e | e <;> rcases zB (n:Int) with f | f <;> rw [e,f] <;> rfl
theorem Zda(a b:Int):Builtin.bitAnd a b / 2=Builtin.bitAnd (a / 2) (b / 2)/\Builtin.bitAnd a b % 2=a % 2 * (b % 2):=by
 rcases jx a with ⟨m,rfl⟩ | ⟨m,rfl⟩ <;> rcases jx b with ⟨n,rfl⟩ | ⟨n,rfl⟩
 ·rw [(cast2 m).1,(cast2 n).1,Zct,Zct]
  exact Zcx m n
 ·rw [(cast2 m).1,(kH _).1,(kH _).2,(cast2 n).1,Zcu,Zcu]
  exact take2 m n
 ·rw [(cast2 n).1,(kH _).1,(kH _).2,(cast2 m).1,Zcv,Zcv,Qel]
  exact take2 n m
 ·rw [(kH (m:Int)).1,(kH (m:Int)).2,(kH (n:Int)).1,(kH (n:Int)).2,(cast2 m).1,(cast2 n).1,Zcw,Zcw,(kH _).1,(kH _).2,(cast2 _).1,(cast2 _).2,(n_or m n).1,(n_or m n).2]
  refine ⟨rfl,?_⟩;rw [(cast2 m).2,(cast2 n).2];rcases Qb1 m with e | e <;> rcases Qb1 n with f | f <;> rw [e,f] <;> rfl
theorem ug(a:Int):Builtin.bitNot a / 2=Builtin.bitNot (a / 2)/\Builtin.bitNot a % 2=1 - a % 2:=by
 unfold Builtin.bitNot;lia
theorem or2(a b:Int):Builtin.bitOr a b / 2=Builtin.bitOr (a / 2) (b / 2)/\Builtin.bitOr a b % 2=1 - (1 - a % 2) * (1 - b % 2):=by
 unfold Builtin.bitOr;have h:=Zda (Builtin.bitNot a) (Builtin.bitNot b);rw [(ug a).1,(ug b).1,(ug a).2,(ug b).2] at h;rw [(ug _).1,(ug _).2,h.1,h.2];exact ⟨rfl,rfl⟩
theorem xor2(a b:Int):Builtin.bitXor a b / 2=Builtin.bitXor (a / 2) (b / 2)/\Builtin.bitXor a b % 2=(a % 2 + b % 2) % 2:=by
 unfold Builtin.bitXor;have h:=Zda a b;have g:=or2 a b;have q:Builtin.bitAnd a b % 2=0\/Builtin.bitOr a b % 2=1:=by
  rw [h.2,g.2];rcases zB a with e | e <;> rcases zB b with f | f <;> rw [e,f] <;> decide
 have z:=sub2 _ _ q;rw [z.1,z.2,h.1,h.2,g.1,g.2];refine ⟨rfl,?_⟩;rcases zB a with e | e <;> rcases zB b with f | f <;> rw [e,f] <;> rfl
theorem xJ(w:Nat)(n:Int):z8 (w + 1) n=n % 2::z8 w (n / 2):=by
 unfold z8;rw [List.range_succ_eq_map,Qa3,Qdp,Qem,Qb8];congr 1;refine Qdd fun i _=>?_;show n / 2 ^ (i + 1) % 2=n / 2 / 2 ^ i % 2;rw [Qek,Qel,Int.ediv_ediv_of_nonneg (by decide:(0:Int)<=2)]
theorem wK(w:Nat)(n:Int):z8 w (n % 2 ^ w)=z8 w n:=by
 induction w generalizing n with
 | zero=>rfl
 | succ w d =>
  rw [xJ,xJ,<-d (n / 2)];have e1:n % 2 ^ (w + 1) % 2=n % 2:=by
   rw [Int.emod_emod_of_dvd];exact ⟨2 ^ w,by rw [Qek,Qel]⟩
  have e2:n % 2 ^ (w + 1) / 2=n / 2 % 2 ^ w:=by
   have hp:(0:Int) < 2 ^ w:=Int.pow_pos (by decide);have h1:=Int.emod_add_mul_ediv n 2;have h2:=Int.emod_add_mul_ediv (n / 2) (2 ^ w);have f:=Qbk (n / 2) (Int.ne_of_gt hp);have g:=Qba (n / 2) hp;have e:n % 2 ^ (w + 1)=n % 2 + 2 * (n / 2 % 2 ^ w):=by
    have:n=n % 2 + 2 * (n / 2 % 2 ^ w) + 2 ^ (w + 1) * (n / 2 / 2 ^ w):=by
     rw [Qek];have:(2:Int) ^ w * 2 * (n / 2 / 2 ^ w)=2 * (2 ^ w * (n / 2 / 2 ^ w)):=by
      rw [Qel ((2:Int) ^ w) 2,Int.mul_assoc]
     lia
    conv=>lhs;rw [this]
    rw [Int.add_mul_emod_self_left];refine Qdv (by lia) ?_;rw [Qek];lia
   rw [e];lia
  rw [e1,e2]
theorem bits_getD(w:Nat)(n:Int)(i:Nat)(h:i < w):(z8 w n).getD i 0=n / 2 ^ i % 2:=by
 unfold z8;rw [List.getD_eq_getElem?_getD,Qbc,List.getElem?_range h]
 rfl
def bt(x:Int)(k:Nat):Int:=x / 2 ^ k % 2
theorem YT(x:Int)(k:Nat):bt x (k + 1)=bt (x / 2) k:=by
 unfold bt;rw [Qek,Qel,Int.ediv_ediv_of_nonneg (by decide:(0:Int)<=2)]
theorem vS(x:Int)(k:Nat):bt x k=0\/bt x k=1:=by
 unfold bt;lia
theorem xK(k:Nat):∀a b:Int,bt (Builtin.bitAnd a b) k=bt a k * bt b k:=by
 induction k with
 | zero =>
  intro a b;unfold bt;rw [Qem,Qb8,Qb8,Qb8,(Zda a b).2]
 | succ k d =>
  intro a b;rw [YT,YT,YT,(Zda a b).1,d]
theorem Za6(k:Nat):∀a b:Int,bt (Builtin.bitOr a b) k=1 - (1 - bt a k) * (1 - bt b k):=by
 induction k with
 | zero =>
  intro a b;unfold bt;rw [Qem,Qb8,Qb8,Qb8,(or2 a b).2]
 | succ k d =>
  intro a b;rw [YT,YT,YT,(or2 a b).1,d]
theorem uh(k:Nat):∀a b:Int,bt (Builtin.bitXor a b) k=(bt a k + bt b k) % 2:=by
 induction k with
 | zero =>
  intro a b;unfold bt;rw [Qem,Qb8,Qb8,Qb8,(xor2 a b).2]
 | succ k d =>
  intro a b;rw [YT,YT,YT,(xor2 a b).1,d]
theorem bt_not(k:Nat):∀a:Int,bt (Builtin.bitNot a) k=1 - bt a k:=by
 induction k with
 | zero =>
  intro a;unfold bt;rw [Qem,Qb8,Qb8,(ug a).2]
 | succ k d =>
  intro a;rw [YT,YT,(ug a).1,d]
theorem Za7(k:Nat):bt 0 k=0:=by
 unfold bt;rw [Int.zero_ediv]
 rfl
theorem ui(x:Int)(w k:Nat)(h:k < w):bt (x % 2 ^ w) k=bt x k:=by
 have e:=wK w x;have h1:=bits_getD w (x % 2 ^ w) k h;have h2:=bits_getD w x k h;rw [e,h2] at h1;exact h1.symm
def lo(x:Int)(k:Nat):Int:=x % 2 ^ k
def cyA(x y:Int)(k:Nat):Int:=(lo x k + lo y k) / 2 ^ k
def brA(x y:Int)(k:Nat):Int:=if lo x k < lo y k then 1 else 0
def nzA(x:Int)(k:Nat):Int:=brA 0 x k
def tw(x:Int):Nat->Int
 | 0=>0
 | k + 1=>bt x k
def hld(y:Str)(is:List Int)(k:Nat):Int :=
 if y = "twice" then tw (is.getD 0 0) k else if y = "neg" \/ y = "low" then nzA (is.getD 0 0) k else if y = "add" then cyA (is.getD 0 0) (is.getD 1 0) k else brA (is.getD 0 0) (is.getD 1 0) k
def remW:List Str:=["neg","twice","low","add","sub"]
def yt:V->Bool
 | .str y=>decide (y∈remW)
 | _=>false
theorem zC(z:Int)(ys:List Str):inV (.int z) (ys.map V.str)=false:=by
 cases q:inV (.int z) (ys.map V.str) with
 | false=>rfl
 | true =>
  obtain ⟨x,hx,e⟩:=Qdh.mp q;obtain ⟨y,_,rfl⟩:=Qbp.mp hx;cases e
def sm(b:Nat->Int):Nat->Int
 | 0=>0
 | n + 1=>sm b n + b n * 2 ^ n
theorem JP{b c:Nat->Int}:∀{n:Nat},(∀i,i < n->b i=c i)->sm b n=sm c n
 | 0,_=>rfl
 | n + 1,h=>by
  show sm b n + b n * 2 ^ n=sm c n + c n * 2 ^ n;rw [JP (n:=n) fun i hi=>h i (Qeg hi),h n (Qdg n)]
theorem wL(r:Int)(w:Nat):r / 2 ^ w % 2 * 2 ^ w + r % 2 ^ w=r % 2 ^ (w + 1):=by
 rw [pow_succ'];have hp:=js w;generalize (2:Int) ^ w=p at *;have f:0<=r % p:=Qbk _ (by lia);have h1:r % p < p:=Qba _ hp;have e1:r=p * (r / p) + r % p:=(Int.mul_ediv_add_emod r p).symm;generalize r / p=q at *;generalize r % p=t at *;have e2:q=2 * (q / 2) + q % 2:=by lia
 have h2:0<=q % 2:=by lia
 have d:q % 2<=1:=by lia
 generalize q / 2=u at *;generalize q % 2=b at *;subst e2;have hb:b=0\/b=1:=by lia
 have e3:r=b * p + t + p * 2 * u:=by
  rw [e1,Int.mul_add,<-Int.mul_assoc,Qel b p];lia
 rw [e3,Int.add_mul_emod_self_left];rcases hb with rfl | rfl
 ·rw [Qdv (by lia) (by lia)]
 ·rw [Qdv (by lia) (by lia)]
theorem vT(r:Int):∀w,sm (fun k=>r / 2 ^ k % 2) w=r % 2 ^ w
 | 0=>by
  rw [Qem,Int.emod_one]
  rfl
 | w + 1=>by
  show sm (fun k=>r / 2 ^ k % 2) w + r / 2 ^ w % 2 * 2 ^ w=_;rw [vT r w];have:=wL r w;lia
open Classical in
def keysOf(ys:List Str):List Key:=ys.foldl (fun ks y=>if (Sum.inr y:Key)∈ks then ks else ks++[Sum.inr y]) []
open Classical in
theorem Gp(ys:List Str)(y:Str):keysOf (ys++[y])=if (Sum.inr y:Key)∈keysOf ys then keysOf ys else keysOf ys++[Sum.inr y]:=by
 unfold keysOf;rw [List.foldl_append]
 rfl
theorem snoc_ind{P:List D->Prop}(f:P [])(hs:∀l a,P l->P (l++[a])):∀l,P l:=by
 intro l;rw [<-List.reverse_reverse l]
 induction l.reverse with
 | nil=>exact f
 | cons a r d =>
  rw [Qds];exact hs _ _ d
theorem zD{kvs:List (Key × V)}{k:Key}:(kvs.any fun d=>decide (d.1=k))=true↔k∈kvs.map (·.1):=by
 rw [Qdh,Qbp]
 constructor
 ·rintro ⟨p,hp,e⟩
  exact ⟨p,hp,Qap e⟩
 ·rintro ⟨p,hp,e⟩
  exact ⟨p,hp,Qad e⟩
theorem wM{kvs:List (Key × V)}{ys:List Str}(h:kvs.map (·.1)=keysOf ys)(y:Str)(v:V):(putK kvs (.inr y) v).map (·.1)=keysOf (ys++[y]):=by
 rw [Gp,<-h];unfold putK
 by_cases hm:(Sum.inr y:Key)∈kvs.map (·.1)
 ·rw [Qa4 (zD.mpr hm),Qa4 hm,Qdp]
  apply Qdd;intro p _;show (if p.1=Sum.inr y then (p.1,v) else p).1=p.1
  split <;> rfl
 ·rw [Qa5 (fun z=>hm (zD.mp z)),Qa5 hm,Qa7]
  rfl
structure Tab(kvs:List (Key × V))(ys:List Str)(f:Str->Int):Prop where
 keys:kvs.map (·.1)=keysOf ys
 val:∀y∈ys,Y9 kvs (.inr y)=some (.int (f y))
 all:∀p∈kvs,∃y∈ys,p=(.inr y,.int (f y))
theorem Za8{kvs:List (Key × V)}{k:Key}{v:V}{P:Key × V->Prop}(h:∀p∈kvs,p.1≠k->P p)(hn:P (k,v)):∀p∈putK kvs k v,P p:=by
 intro p hp;unfold putK at hp
 split at hp
 ·obtain ⟨q,f,rfl⟩:=Qbp.mp hp
  split
  ·rename_i e
   rw [e];exact hn
  ·rename_i e
   exact h q f e
 ·rcases Qam.mp hp with z | z
  ·rename_i d
   exact h p z fun e=>d (zD.mpr (by rw [<-e];exact Qd0 z))
  ·rw [Qai.mp z]
   exact hn
theorem Tab.put{kvs:List (Key × V)}{ys:List Str}{f:Str->Int}(T:Tab kvs ys f)(y:Str)(z:Int):Tab (putK kvs (.inr y) (.int z)) (ys++[y]) (fun x=>if x=y then z else f x):=by
 refine ⟨wM T.keys y _,fun x hx=>?_,Za8 (fun p hp d=>?_) ⟨y,Qaf _ (Qai.mpr rfl),by rw [Qa4 rfl]⟩⟩
 ·rw [Wf]
  by_cases e:x=y
  ·rw [Qa4 (by rw [e]),Qa4 e]
  ·have e2:¬(Sum.inr x:Key)=Sum.inr y:=fun z=>e (Sum.inr.inj z)
   rw [Qa5 e2,Qa5 e];rcases Qam.mp hx with h | h
   ·exact T.val x h
   ·exact absurd (Qai.mp h) e
 ·obtain ⟨x,hx,rfl⟩:=T.all p hp
  have e:¬x=y:=fun z=>d (by rw [z]);exact ⟨x,Qay _ hx,by rw [Qa5 e]⟩
theorem Tab.same{kvs:List (Key × V)}{ys:List Str}{f g:Str->Int}(T:Tab kvs ys f)(h:∀y∈ys,f y=g y):Tab kvs ys g :=
 ⟨T.keys,fun y d=>by rw [<-h y d];exact T.val y d,fun p hp=>let ⟨y,d,e⟩:=T.all p hp;⟨y,d,by rw [<-h y d];exact e⟩⟩
theorem Tab.nil{f:Str->Int}:Tab [] [] f:=⟨rfl,(fun _ h=>nomatch h),(fun _ h=>nomatch h)⟩
theorem Tab.len{a b:List (Key × V)}{ys:List Str}{f g:Str->Int}(T:Tab a ys f)(U:Tab b ys g):a.length=b.length:=by
 have h1:(a.map (·.1)).length=(b.map (·.1)).length:=by rw [T.keys,U.keys]
 rw [Qaz,Qaz] at h1;exact h1
theorem yc:∀(ys:List Str),(keysOf ys).length<=ys.length:=by
 refine snoc_ind (Qao _) fun ys y d=>?_
 ·rw [Gp,Qab]
  split
  ·lia
  ·rw [Qab]
   show _ + 1<=_ + 1;lia
theorem Tab.few{a:List (Key × V)}{ys:List Str}{f:Str->Int}(T:Tab a ys f):a.length<=ys.length:=by
 have h1:(a.map (·.1)).length=(keysOf ys).length:=by rw [T.keys]
 rw [Qaz] at h1;have:=yc ys;lia
theorem qN(o:Int)(W:Nat):sm (fun k=>bt o k) W=o % 2 ^ W:=vT o W
theorem jy(f g:Nat->Int):∀n,sm (fun k=>f k + g k) n=sm f n + sm g n
 | 0=>rfl
 | n + 1=>by
  show sm (fun k=>f k + g k) n + (f n + g n) * 2 ^ n=sm f n + f n * 2 ^ n + (sm g n + g n * 2 ^ n);rw [jy f g n,Int.add_mul];lia
theorem or_and(a b:Int)(W:Nat):Builtin.bitOr a b % 2 ^ W + Builtin.bitAnd a b % 2 ^ W=a % 2 ^ W + b % 2 ^ W:=by
 rw [<-qN,<-qN,<-qN,<-qN,<-jy,<-jy];refine JP fun k _=>?_;rw [Za6,xK];rcases vS a k with h | h <;> rcases vS b k with g | g <;> rw [h,g] <;> rfl
theorem Za9(a b:Int)(W:Nat):Builtin.bitXor a b % 2 ^ W + Builtin.bitAnd a b % 2 ^ W=Builtin.bitOr a b % 2 ^ W:=by
 rw [<-qN,<-qN,<-qN,<-jy];refine JP fun k _=>?_;rw [Za6,xK,uh];rcases vS a k with h | h <;> rcases vS b k with g | g <;> rw [h,g] <;> rfl
theorem vU{x:Int}(h:∀k,k < i->bt x k=bt j k):x % 2 ^ i=j % 2 ^ i:=by
 rw [<-qN,<-qN];exact JP h
theorem mdA(x y m:Int):(x + y % m) % m=(x + y) % m:=by rw [Qf5,Qfo,<-Qf5]
theorem mdB(x y m:Int):(x % m + y) % m=(x + y) % m:=by rw [Qf5,Qfo,<-Qf5]
theorem mdC(x y m:Int):(x - y % m) % m=(x - y) % m:=by rw [Qf6,Qfo,<-Qf6]
theorem mdD(x y m:Int):(x % m - y) % m=(x - y) % m:=by rw [Qf6,Qfo,<-Qf6]
theorem mdE(x m:Int):(-(x % m)) % m=(-x) % m:=by
 have:=mdC 0 x m;rw [Int.zero_sub,Int.zero_sub] at this;exact this
theorem mdN(x m:Int):Builtin.bitNot (x % m) % m=Builtin.bitNot x % m:=by
 show (-(x % m) - 1) % m=(-x - 1) % m;rw [<-mdD,mdE,mdD]
inductive Tm where
 | lf (w:V)
 | one (y:Str) (a:Tm)
 | two (y:Str) (a b:Tm)
 | thr (y:Str) (a b c:Tm)
def Tm.flat:Tm->List V
 | .lf w=>[w]
 | .one y a=>.str y::a.flat
 | .two y a b=>.str y::(a.flat++b.flat)
 | .thr y a b c=>.str y::(a.flat++(b.flat++c.flat))
def Tm.ev(m:Int)(ρ:Str->Int):Tm->Int
 | .lf w=>wwv ρ w [] % m
 | .one y a=>wI y (a.ev m ρ) % m
 | .two y a b=>yr y (a.ev m ρ) (b.ev m ρ) % m
 | .thr _ a b c=>Builtin.bitOr (Builtin.bitAnd (a.ev m ρ) (b.ev m ρ)) (Builtin.bitAnd (Builtin.bitNot (a.ev m ρ)) (c.ev m ρ)) % m
def Tm.ok(ys:List Str):Tm->Prop
 | .lf w=>GY ys w
 | .one y a=>(y∈Jp/\ZR y=1)/\a.ok ys
 | .two y a b=>(y∈Jp/\ZR y=2)/\a.ok ys/\b.ok ys
 | .thr y a b c=>(y∈Jp/\ZR y=3)/\a.ok ys/\b.ok ys/\c.ok ys
def Tm.hd:Tm->V
 | .lf w=>w
 | .one y _=>.str y
 | .two y _ _=>.str y
 | .thr y _ _ _=>.str y
def Tm.kids:Tm->List Tm
 | .lf _=>[]
 | .one _ a=>[a]
 | .two _ a b=>[a,b]
 | .thr _ a b c=>[a,b,c]
def Zq:List Tm->List V
 | []=>[]
 | t::r=>t.flat++Zq r
theorem Yi(u v:List Tm):Zq (u++v)=Zq u++Zq v:=by
 induction u with
 | nil=>rfl
 | cons t r d =>
  show t.flat++Zq (r++v)=t.flat++Zq r++Zq v;rw [d,Qbb]
theorem Tm.flat_eq(t:Tm):t.flat=t.hd::Zq t.kids:=by
 cases t with
 | lf w=>rfl
 | one y a=>exact congrArg (V.str y::·) (Qax _).symm
 | two y a b =>
  show _::(a.flat++b.flat)=_::(a.flat++(b.flat++[]));rw [Qax]
  rfl
 | thr y a b c =>
  show _::(a.flat++(b.flat++c.flat))=_::(a.flat++(b.flat++(c.flat++[])));rw [Qax]
  rfl
theorem Tm.flat_pos(t:Tm):1<=t.flat.length:=by
 rw [t.flat_eq,Qan];lia
theorem Tm.ev_bd{m:Int}(hm:0 < m)(ρ:Str->Int)(t:Tm):0<=t.ev m ρ/\t.ev m ρ < m:=by
 cases t <;> exact ⟨Qbk _ (by lia),Qba _ hm⟩
theorem zE:∀y∈Jp,npw (.str y)=ZR y:=by decide +kernel
theorem wN(h:x∉Ya):npw (.str x)=0:=by
 unfold npw YK;show (WD T1 (.inr x) + WD T2 (.inr x) + WD T3 (.inr x)).toNat=0;rw [Gk fun z=>h (qM.1 x z),Gk fun z=>h (qM.2.1 x z),Gk fun z=>h (qM.2.2 x z)]
 rfl
theorem Zba(z:Int):npw (.int z)=0:=by
 unfold npw YK;show (WD T1 (.inl z) + WD T2 (.inl z) + WD T3 (.inl z)).toNat=0;rw [qL,qL,qL]
 rfl
theorem Tm.npw_hd{ys:List Str}(hk:∀y∈ys,y∉Ya){t:Tm}(h:t.ok ys):npw t.hd=t.kids.length:=by
 cases t with
 | lf w =>
  rcases h with ⟨y,d,rfl⟩ | ⟨z,rfl,_⟩
  ·exact wN (hk y d)
  ·exact Zba z
 | one y a=>exact (zE y h.1.1).trans h.1.2
 | two y a b=>exact (zE y h.1.1).trans h.1.2
 | thr y a b c=>exact (zE y h.1.1).trans h.1.2
theorem Tm.ok_kids{ys:List Str}{t:Tm}(h:t.ok ys):∀k∈t.kids,k.ok ys:=by
 intro k hk;cases t with
 | lf w=>cases hk
 | one y a=>rw [Qai.mp hk];exact h.2
 | two y a b =>
  rcases Qas.mp hk with e | e
  ·rw [e];exact h.2.1
  ·rw [Qai.mp e];exact h.2.2
 | thr y a b c =>
  rcases Qas.mp hk with e | e
  ·rw [e];exact h.2.1
  rcases Qas.mp e with e | e
  ·rw [e];exact h.2.2.1
  ·rw [Qai.mp e];exact h.2.2.2
theorem vV{t u:Tm}(h:t.hd=u.hd)(hl:t.kids.length=u.kids.length)(hk:t.kids=u.kids):t=u:=by
 cases t <;> cases u <;> simp only [Tm.kids,Tm.hd,Qan,Qe1] at h hl hk <;> first
  | (exact absurd hl (by decide))
  | skip
 ·rw [h]
 ·injection h with h;injection hk with hk;rw [h,hk]
 ·injection h with h;injection hk with h1 h2;injection h2 with h2;rw [h,h1,h2]
 ·injection h with h;injection hk with h1 h2;injection h2 with h2 d;injection d with d;rw [h,h1,h2,d]
theorem vW{ys:List Str}(hk:∀y∈ys,y∉Ya):∀(n:Nat) (d f:List Tm) (r E:List V),(Zq d).length<=n->(∀t∈d,t.ok ys)->(∀t∈f,t.ok ys)->d.length=f.length->Zq d++r=Zq f++E->d=f/\r=E:=by
 intro n
 induction n with
 | zero =>
  intro d f r E hn _ _ hl e
  match d,f,hl with
  | [],[],_=>exact ⟨rfl,e⟩
  | t::d,_::_,_ =>
   have:=t.flat_pos;have e1:Zq (t::d)=t.flat++Zq d:=rfl;rw [e1,Qab] at hn;lia
 | succ n U =>
  intro d f r E hn hu hv hl e
  match d,f,hl with
  | [],[],_=>exact ⟨rfl,e⟩
  | t::d,v::f,hl =>
   have e1:Zq (t::d)=t.hd::Zq (t.kids++d):=by
    show t.flat++Zq d=_;rw [t.flat_eq,Yi]
    rfl
   have e2:Zq (v::f)=v.hd::Zq (v.kids++f):=by
    show v.flat++Zq f=_;rw [v.flat_eq,Yi]
    rfl
   rw [e1,e2] at e;rw [e1,Qan] at hn;injection e with h1 h2;have J:=hu t Qaq;have g:=hv v Qaq;have G:t.kids.length=v.kids.length:=by rw [<-Tm.npw_hd hk J,<-Tm.npw_hd hk g,h1]
   have I:d.length=f.length:=Nat.succ.inj hl;obtain ⟨W,L⟩:=U (t.kids++d) (v.kids++f) r E (by lia)
    (fun x hx=>(Qam.mp hx).elim (fun z=>Tm.ok_kids J x z) (fun z=>hu x (Qar _ z)))
    (fun x hx=>(Qam.mp hx).elim (fun z=>Tm.ok_kids g x z) (fun z=>hv x (Qar _ z)))
    (by rw [Qab,Qab,G,I]) h2
   obtain ⟨S,O⟩:=Qe4 W G;exact ⟨by rw [vV h1 G S,O],L⟩
theorem WR{ys:List Str}(hk:∀y∈ys,y∉Ya){t u:Tm}(d:t.ok ys)(hu:u.ok ys)(e:t.flat=u.flat):t=u:=by
 have h:=vW hk _ [t] [u] [] [] (Qao _) (fun x hx=>by rw [Qai.mp hx];exact d) (fun x hx=>by rw [Qai.mp hx];exact hu) rfl (by
  show t.flat++[]++[]=u.flat++[]++[];rw [e])
 injection h.1
def Tm.nds:List Int->Tm->List (List Int × Tm)
 | p,.lf w=>[(p,.lf w)]
 | p,.one y a=>(p,.one y a)::a.nds (p++[0])
 | p,.two y a b=>(p,.two y a b)::(a.nds (p++[0])++b.nds (p++[1]))
 | p,.thr y a b c=>(p,.thr y a b c)::(a.nds (p++[0])++(b.nds (p++[1])++c.nds (p++[2])))
theorem Tm.nds_len(t:Tm):∀p,(t.nds p).length=t.flat.length:=by
 induction t with
 | lf w=>intro p;rfl
 | one y a g=>intro p;show (a.nds _).length + 1=a.flat.length + 1;rw [g]
 | two y a b f d =>
  intro p;show (a.nds (p++[0])++b.nds (p++[1])).length + 1=(a.flat++b.flat).length + 1;rw [Qab,Qab,f,d]
 | thr y a b c f d E =>
  intro p;show (a.nds (p++[0])++(b.nds (p++[1])++c.nds (p++[2]))).length + 1=(a.flat++(b.flat++c.flat)).length + 1;rw [Qab,Qab,Qab,Qab,f,d,E]
theorem Tm.nds_pre(t:Tm):∀p q s,(q,s)∈t.nds p->∃r,q=p++r:=by
 have d:∀(p:List Int) (k:Int) q,(∃r,q=p++[k]++r)->∃r,q=p++r:=fun p k q ⟨r,e⟩=>⟨k::r,by rw [e,Qbb];rfl⟩;have nil:∀(p q:List Int),q=p->∃r,q=p++r:=fun p q e=>⟨[],by rw [e,Qax]⟩
 induction t with
 | lf w=>intro p q s h;exact nil p q (congrArg Prod.fst (Qai.mp h))
 | one y a G =>
  intro p q s h;rcases Qas.mp h with e | e
  ·exact nil p q (congrArg Prod.fst e)
  ·exact d p 0 q (G _ _ _ e)
 | two y a b f g =>
  intro p q s h;rcases Qas.mp h with e | e
  ·exact nil p q (congrArg Prod.fst e)
  rcases Qam.mp e with e | e
  ·exact d p 0 q (f _ _ _ e)
  ·exact d p 1 q (g _ _ _ e)
 | thr y a b c f g E =>
  intro p q s h;rcases Qas.mp h with e | e
  ·exact nil p q (congrArg Prod.fst e)
  rcases Qam.mp e with e | e
  ·exact d p 0 q (f _ _ _ e)
  rcases Qam.mp e with e | e
  ·exact d p 1 q (g _ _ _ e)
  ·exact d p 2 q (E _ _ _ e)
theorem zF{t:Tm}{p q:List Int}(h:q∈(t.nds p).map (·.1)):∃r,q=p++r:=by
 obtain ⟨⟨q',s⟩,hm,rfl⟩:=Qbp.mp h;exact t.nds_pre _ _ _ hm
theorem Tm.nds_nd(t:Tm):∀p,((t.nds p).map (·.1)).Nodup:=by
 have f:∀(t:Tm) (p:List Int) (k:Int),p∉(t.nds (p++[k])).map (·.1):=fun t p k h=>by
  obtain ⟨r,e⟩:=zF h;have:=congrArg List.length e;simp at this
 have d:∀(t u:Tm) (p:List Int) (k j:Int),k≠j->∀q,q∈(t.nds (p++[k])).map (·.1)->q∈(u.nds (p++[j])).map (·.1)->False:=fun t u p k j g q h1 h2=>by
  obtain ⟨r,e⟩:=zF h1;obtain ⟨O,I⟩:=zF h2;rw [e,Qbb,Qbb] at I;have:=Qd9 I;injection this with h _;exact g h
 induction t with
 | lf w=>intro p;show [p].Nodup;simp
 | one y a L =>
  intro p;show (p::(a.nds (p++[0])).map (·.1)).Nodup;exact Qco.mpr ⟨f a p 0,L _⟩
 | two y a b E G =>
  intro p;show (p::(a.nds (p++[0])++b.nds (p++[1])).map (·.1)).Nodup;rw [Qa7];refine Qco.mpr ⟨fun h=>(Qam.mp h).elim (f a p 0) (f b p 1),?_⟩;exact Qeh.mpr ⟨E _,G _,fun q h1 q' h2 e=>d a b p 0 1 (by decide) q h1 (by rw [e];exact h2)⟩
 | thr y a b c E G J =>
  intro p;show (p::(a.nds (p++[0])++(b.nds (p++[1])++c.nds (p++[2]))).map (·.1)).Nodup;rw [Qa7,Qa7];refine Qco.mpr ⟨fun h=>(Qam.mp h).elim (f a p 0) fun h=>(Qam.mp h).elim (f b p 1) (f c p 2),?_⟩;refine Qeh.mpr ⟨E _,Qeh.mpr ⟨G _,J _,fun q h1 q' h2 e=>d b c p 1 2 (by decide) q h1 (by rw [e];exact h2)⟩,fun q h1 q' h2 e=>?_⟩;rcases Qam.mp h2 with h2 | h2
  ·exact d a b p 0 1 (by decide) q h1 (by rw [e];exact h2)
  ·exact d a c p 0 2 (by decide) q h1 (by rw [e];exact h2)
structure Ctx(t s:Tm)(u v:List V)(f:Tm->Tm):Prop where
 here:t.flat=u++(s.flat++v)
 put:∀x:Tm,(f x).flat=u++(x.flat++v)
 ok:∀ys,t.ok ys->s.ok ys/\∀x:Tm,x.ok ys->(f x).ok ys
 ev:∀m ρ (x:Tm),x.ev m ρ=s.ev m ρ->(f x).ev m ρ=t.ev m ρ
theorem Ctx.refl(t:Tm):Ctx t t [] [] (fun x=>x):=⟨by simp,fun x=>by simp,fun ys h=>⟨h,fun x hx=>hx⟩,fun m ρ x h=>h⟩
theorem Tm.ctx(t:Tm):∀p i q s,(t.nds p)[i]?=some (q,s)->∃u v f,u.length=i/\Ctx t s u v f:=by
 have top:∀(t:Tm) (p:List Int) q s,some (p,t)=some (q,s)->∃u v f,u.length=0/\Ctx t s u v f:=fun t p q s e=>by
  injection e with e;injection e with _ e;subst e;exact ⟨[],[],_,rfl,Ctx.refl t⟩
 have d:∀{α:Type} {l r:List α} {i:Nat} {x:α},(l++r)[i]?=some x->(l[i]?=some x)\/∃j,i=l.length + j/\r[j]?=some x:=fun {α l r i x} h=>by
  rcases Qf4 i l.length with z | z
  ·rw [Qdx z] at h
   exact .inl h
  ·rw [Qcv z] at h
   exact .inr ⟨i - l.length,by lia,h⟩
 induction t with
 | lf w =>
  intro p i q s h;cases i with
  | zero=>exact top _ _ _ _ h
  | succ i=>cases h
 | one y a U =>
  intro p i q s h;cases i with
  | zero=>exact top _ _ _ _ h
  | succ i =>
   obtain ⟨u,v,f,hl,C⟩:=U _ _ _ _ h;refine ⟨.str y::u,v,fun x=>.one y (f x),by rw [Qan,hl],⟨?_,fun x=>?_,fun ys h=>⟨(C.ok ys h.2).1,fun x hx=>⟨h.1,(C.ok ys h.2).2 x hx⟩⟩,fun m ρ x e=>?_⟩⟩
   ·show _::a.flat=_;rw [C.here];rfl
   ·show _::(f x).flat=_;rw [C.put];rfl
   ·show wI y ((f x).ev m ρ) % m=wI y (a.ev m ρ) % m;rw [C.ev m ρ x e]
 | two y a b J L =>
  intro p i q s h;cases i with
  | zero=>exact top _ _ _ _ h
  | succ i =>
   rcases d (show (a.nds (p++[0])++b.nds (p++[1]))[i]?=some (q,s) from h) with h2 | ⟨j,rfl,h2⟩
   ·obtain ⟨u,v,f,hl,C⟩:=J _ _ _ _ h2
    refine ⟨.str y::u,v++b.flat,fun x=>.two y (f x) b,by rw [Qan,hl],⟨?_,fun x=>?_,fun ys h=>⟨(C.ok ys h.2.1).1,fun x hx=>⟨h.1,(C.ok ys h.2.1).2 x hx,h.2.2⟩⟩,fun m ρ x e=>?_⟩⟩
    ·show _::(a.flat++b.flat)=_;rw [C.here];simp
    ·show _::((f x).flat++b.flat)=_;rw [C.put];simp
    ·show yr y ((f x).ev m ρ) _ % m=yr y (a.ev m ρ) _ % m;rw [C.ev m ρ x e]
   ·obtain ⟨u,v,f,hl,C⟩:=L _ _ _ _ h2
    refine ⟨.str y::(a.flat++u),v,fun x=>.two y a (f x),by rw [Qan,Qab,hl,a.nds_len],⟨?_,fun x=>?_,fun ys h=>⟨(C.ok ys h.2.2).1,fun x hx=>⟨h.1,h.2.1,(C.ok ys h.2.2).2 x hx⟩⟩,fun m ρ x e=>?_⟩⟩
    ·show _::(a.flat++b.flat)=_;rw [C.here];simp
    ·show _::(a.flat++(f x).flat)=_;rw [C.put];simp
    ·show yr y _ ((f x).ev m ρ) % m=yr y _ (b.ev m ρ) % m;rw [C.ev m ρ x e]
 | thr y a b c J L S =>
  intro p i q s h;cases i with
  | zero=>exact top _ _ _ _ h
  | succ i =>
   have g:∀(m:Int) ρ (E I G:Tm),E.ev m ρ=a.ev m ρ->I.ev m ρ=b.ev m ρ->G.ev m ρ=c.ev m ρ->(Tm.thr y E I G).ev m ρ=(Tm.thr y a b c).ev m ρ:=fun m ρ E I G h1 h2 O=>by
    show Builtin.bitOr (Builtin.bitAnd (E.ev m ρ) (I.ev m ρ)) (Builtin.bitAnd (Builtin.bitNot (E.ev m ρ)) (G.ev m ρ)) % m=_;rw [h1,h2,O]
    rfl
   rcases d (show (a.nds (p++[0])++(b.nds (p++[1])++c.nds (p++[2])))[i]?=some (q,s) from h) with h2 | ⟨j,rfl,h2⟩
   ·obtain ⟨u,v,f,hl,C⟩:=J _ _ _ _ h2
    refine ⟨.str y::u,v++(b.flat++c.flat),fun x=>.thr y (f x) b c,by rw [Qan,hl],⟨?_,fun x=>?_,fun ys h=>⟨(C.ok ys h.2.1).1,fun x hx=>⟨h.1,(C.ok ys h.2.1).2 x hx,h.2.2⟩⟩,fun m ρ x e=>g m ρ _ _ _ (C.ev m ρ x e) rfl rfl⟩⟩
    ·show _::(a.flat++(b.flat++c.flat))=_;rw [C.here];simp
    ·show _::((f x).flat++(b.flat++c.flat))=_;rw [C.put];simp
   rcases d h2 with h2 | ⟨k,rfl,O⟩
   ·obtain ⟨u,v,f,hl,C⟩:=L _ _ _ _ h2
    refine ⟨.str y::(a.flat++u),v++c.flat,fun x=>.thr y a (f x) c,by rw [Qan,Qab,hl,a.nds_len],⟨?_,fun x=>?_,fun ys h=>⟨(C.ok ys h.2.2.1).1,fun x hx=>⟨h.1,h.2.1,(C.ok ys h.2.2.1).2 x hx,h.2.2.2⟩⟩,fun m ρ x e=>g m ρ _ _ _ rfl (C.ev m ρ x e) rfl⟩⟩
    ·show _::(a.flat++(b.flat++c.flat))=_;rw [C.here];simp
    ·show _::(a.flat++((f x).flat++c.flat))=_;rw [C.put];simp
   ·obtain ⟨u,v,f,hl,C⟩:=S _ _ _ _ O
    refine ⟨.str y::(a.flat++(b.flat++u)),v,fun x=>.thr y a b (f x),by rw [Qan,Qab,Qab,hl,a.nds_len,b.nds_len],⟨?_,fun x=>?_,fun ys h=>⟨(C.ok ys h.2.2.2).1,fun x hx=>⟨h.1,h.2.1,h.2.2.1,(C.ok ys h.2.2.2).2 x hx⟩⟩,fun m ρ x e=>g m ρ _ _ _ rfl rfl (C.ev m ρ x e)⟩⟩
    ·show _::(a.flat++(b.flat++c.flat))=_;rw [C.here];simp
    ·show _::(a.flat++(b.flat++(f x).flat))=_;rw [C.put];simp
def Tm.sub(σ:Str->Tm):Tm->Tm
 | .lf w=>match w with
  | .str y=>σ y
  | w=>.lf w
 | .one y a=>.one y (a.sub σ)
 | .two y a b=>.two y (a.sub σ) (b.sub σ)
 | .thr y a b c=>.thr y (a.sub σ) (b.sub σ) (c.sub σ)
def Tm.nms:Tm->List Str
 | .lf w=>match w with
  | .str y=>[y]
  | _=>[]
 | .one _ a=>a.nms
 | .two _ a b=>a.nms++b.nms
 | .thr _ a b c=>a.nms++(b.nms++c.nms)
theorem Tm.sub_congr{σ τ:Str->Tm}(t:Tm):(∀y∈t.nms,σ y=τ y)->t.sub σ=t.sub τ:=by
 induction t with
 | lf w =>
  intro h;cases w with
  | str y=>exact h y (Qai.mpr rfl)
  | _=>rfl
 | one y a G=>intro h;show Tm.one y _=Tm.one y _;rw [G h]
 | two y a b f g =>
  intro h;show Tm.two y _ _=Tm.two y _ _;rw [f fun z d=>h z (Qay _ d),g fun z d=>h z (Qaf _ d)]
 | thr y a b c f g E =>
  intro h;show Tm.thr y _ _ _=Tm.thr y _ _ _;rw [f fun z d=>h z (Qay _ d),g fun z d=>h z (Qaf _ (Qay _ d)),E fun z d=>h z (Qaf _ (Qaf _ d))]
theorem Tm.sub_ok{ys:List Str}{σ:Str->Tm}(t:Tm):t.ok N->(∀y∈t.nms,(σ y).ok ys)->(t.sub σ).ok ys:=by
 induction t with
 | lf w =>
  intro h hs;rcases h with ⟨y,I,rfl⟩ | ⟨z,rfl,h⟩
  ·exact hs y (Qai.mpr rfl)
  ·exact .inr ⟨z,rfl,h⟩
 | one y a G=>intro h hs;exact ⟨h.1,G h.2 hs⟩
 | two y a b f g=>intro h hs;exact ⟨h.1,f h.2.1 fun z d=>hs z (Qay _ d),g h.2.2 fun z d=>hs z (Qaf _ d)⟩
 | thr y a b c f g E=>intro h hs;exact ⟨h.1,f h.2.1 fun z d=>hs z (Qay _ d),g h.2.2.1 fun z d=>hs z (Qaf _ (Qay _ d)),E h.2.2.2 fun z d=>hs z (Qaf _ (Qaf _ d))⟩
def fwd(σ:Str->Tm):V->List V
 | .str y=>if y∈Ya then [.str y] else (σ y).flat
 | w=>[w]
theorem Tm.sub_flat(I:∀y∈N,y∉Ya){σ:Str->Tm}(t:Tm):t.ok N->(t.sub σ).flat=t.flat.flatMap (fwd σ):=by
 have f:∀y∈Jp,fwd σ (.str y)=[.str y]:=fun y E=>Qa4 (YJ y E)
 induction t with
 | lf w =>
  intro h;rcases h with ⟨y,E,rfl⟩ | ⟨z,rfl,h⟩
  ·show (σ y).flat=[V.str y].flatMap (fwd σ)
   rw [List.flatMap_singleton];exact (Qa5 (I y E)).symm
  ·rfl
 | one y a J =>
  intro h;show _::(a.sub σ).flat=(V.str y::a.flat).flatMap _;rw [Qca,f y h.1.1,J h.2]
  rfl
 | two y a b d g =>
  intro h;show _::((a.sub σ).flat++(b.sub σ).flat)=(V.str y::(a.flat++b.flat)).flatMap _;rw [Qca,Qcj,f y h.1.1,d h.2.1,g h.2.2]
  rfl
 | thr y a b c d g G =>
  intro h;show _::((a.sub σ).flat++((b.sub σ).flat++(c.sub σ).flat))=(V.str y::(a.flat++(b.flat++c.flat))).flatMap _;rw [Qca,Qcj,Qcj,f y h.1.1,d h.2.1,g h.2.2.1,G h.2.2.2]
  rfl
abbrev tx:Tm:=.lf (.str "x")
abbrev ty:Tm:=.lf (.str "y")
abbrev tz:Tm:=.lf (.str "z")
abbrev t0:Tm:=.lf (.int 0)
abbrev t1:Tm:=.lf (.int 1)
def turns:List (Str × Tm × Tm):=[
 ("addboth",.two "add" tx ty,.two "add" ty tx),
 ("addboth",.two "and" tx ty,.two "and" ty tx),
 ("addboth",.two "or" tx ty,.two "or" ty tx),
 ("addboth",.two "odd" tx ty,.two "odd" ty tx),
 ("addthree",.two "add" (.two "add" tx ty) tz,.two "add" tx (.two "add" ty tz)),
 ("addthree",.two "and" (.two "and" tx ty) tz,.two "and" tx (.two "and" ty tz)),
 ("addthree",.two "or" (.two "or" tx ty) tz,.two "or" tx (.two "or" ty tz)),
 ("addthree",.two "odd" (.two "odd" tx ty) tz,.two "odd" tx (.two "odd" ty tz)),
 ("subneg",.two "sub" tx ty,.two "add" tx (.one "neg" ty)),
 ("negnot",.one "neg" tx,.two "add" (.one "not" tx) t1),
 ("twiceadd",.one "twice" tx,.two "add" tx tx),
 ("notnot",.one "not" (.one "not" tx),tx),
 ("notand",.one "not" (.two "and" tx ty),.two "or" (.one "not" tx) (.one "not" ty)),
 ("notor",.one "not" (.two "or" tx ty),.two "and" (.one "not" tx) (.one "not" ty)),
 ("oddor",.two "odd" tx ty,.two "and" (.two "or" tx ty) (.one "not" (.two "and" tx ty))),
 ("orsum",.two "add" tx ty,.two "add" (.two "or" tx ty) (.two "and" tx ty)),
 ("oddsum",.two "add" tx ty,.two "add" (.two "odd" tx ty) (.one "twice" (.two "and" tx ty))),
 ("lowneg",.one "low" tx,.two "and" tx (.one "neg" tx)),
 ("pickor",.thr "pick" tx ty tz,.two "or" (.two "and" tx ty) (.two "and" (.one "not" tx) tz)),
 ("selfodd",.two "odd" tx tx,t0),
 ("selfand",.two "and" tx tx,tx),
 ("selfand",.two "or" tx tx,tx),
 ("zeroadd",.two "add" tx t0,tx),
 ("zeroadd",.two "or" tx t0,tx),
 ("zeroadd",.two "odd" tx t0,tx),
 ("zeroadd",.two "sub" tx t0,tx)]
def xyz:List Str:=["x","y","z"]
theorem xM:∀y∈xyz,y∉Ya:=by decide +kernel
def Tm.okB:Tm->Bool
 | .lf w=>match w with
  | .str y=>decide (y∈xyz)
  | .int z=>decide (0<=z/\z < 1000)
  | _=>false
 | .one y a=>decide (y∈Jp/\ZR y=1) && a.okB
 | .two y a b=>decide (y∈Jp/\ZR y=2) && (a.okB && b.okB)
 | .thr y a b c=>decide (y∈Jp/\ZR y=3) && (a.okB && (b.okB && c.okB))
theorem Tm.okB_ok(t:Tm):t.okB=true->t.ok xyz:=by
 induction t with
 | lf w =>
  intro h;cases w with
  | str y=>exact .inl ⟨y,Qap h,rfl⟩
  | int z=>exact .inr ⟨z,rfl,Qap h⟩
  | _=>cases h
 | one y a G =>
  intro h;obtain ⟨h1,h2⟩:=Qbd.mp (show (decide _ && a.okB)=true from h);exact ⟨Qap h1,G h2⟩
 | two y a b f g =>
  intro h;obtain ⟨h1,h2⟩:=Qbd.mp (show (decide _ && (a.okB && b.okB))=true from h);obtain ⟨h2,d⟩:=Qbd.mp h2;exact ⟨Qap h1,f h2,g d⟩
 | thr y a b c f g E =>
  intro h;obtain ⟨h1,h2⟩:=Qbd.mp (show (decide _ && (a.okB && (b.okB && c.okB)))=true from h);obtain ⟨h2,d⟩:=Qbd.mp h2;obtain ⟨d,I⟩:=Qbd.mp d;exact ⟨Qap h1,f h2,g d,E I⟩
theorem vX:(turns.all fun e=>e.2.1.okB && e.2.2.okB && e.2.2.nms.all fun y=>decide (y∈e.2.1.nms))=true:=by decide +kernel
theorem JQ{e:Str × Tm × Tm}(h:e∈turns):e.2.1.ok xyz/\e.2.2.ok xyz/\∀y∈e.2.2.nms,y∈e.2.1.nms:=by
 have:=Qbt.mp vX e h;obtain ⟨h1,d⟩:=Qbd.mp this;obtain ⟨h1,h2⟩:=Qbd.mp h1;exact ⟨e.2.1.okB_ok h1,e.2.2.okB_ok h2,fun y f=>Qap (Qbt.mp d y f)⟩
theorem xN:∀e∈turns,∀σ:Str->Tm,(e.2.2.sub σ).flat.length<=2 * (e.2.1.sub σ).flat.length + 2:=by
 intro e he σ;simp only [turns,Qas,Qb6,Qew] at he;rcases he with rfl | rfl | rfl | rfl | rfl | rfl | rfl | rfl | rfl | rfl | rfl | rfl | rfl | rfl | rfl | rfl | rfl | rfl | rfl | rfl | rfl | rfl | rfl | rfl | rfl | rfl <;>
  simp only [Tm.sub,Tm.flat,Qan,Qab,Qe1] <;> lia
theorem wO:∀e∈turns,∀(σ:Str->Tm) (W:Nat) (ρ:Str->Int),(e.2.2.sub σ).ev (2 ^ W) ρ=(e.2.1.sub σ).ev (2 ^ W) ρ:=by
 intro e he σ W ρ;have hm:=js W;have g:(σ "x").ev (2 ^ W) ρ % 2 ^ W=(σ "x").ev (2 ^ W) ρ:=let b:=(σ "x").ev_bd hm ρ;Qdv b.1 b.2;have eb:(σ "y").ev (2 ^ W) ρ % 2 ^ W=(σ "y").ev (2 ^ W) ρ:=let b:=(σ "y").ev_bd hm ρ;Qdv b.1 b.2;have vx:(tx.sub σ).ev (2 ^ W) ρ=(σ "x").ev (2 ^ W) ρ:=rfl;have vy:(ty.sub σ).ev (2 ^ W) ρ=(σ "y").ev (2 ^ W) ρ:=rfl;have vz:(tz.sub σ).ev (2 ^ W) ρ=(σ "z").ev (2 ^ W) ρ:=rfl;generalize ha:(σ "x").ev (2 ^ W) ρ=a at *;generalize hb:(σ "y").ev (2 ^ W) ρ=b at *;generalize hc:(σ "z").ev (2 ^ W) ρ=c at *;have v0:(t0.sub σ).ev (2 ^ W) ρ=0 % 2 ^ W:=rfl;have v1:(t1.sub σ).ev (2 ^ W) ρ=1 % 2 ^ W:=rfl;have oa:=or_and a b W;have xa:=Za9 a b W;rw [g,eb] at oa;have d:∀x k,bt x k=0\/bt x k=1:=vS;have f1:∀y (t:Tm),((Tm.one y t).sub σ).ev (2 ^ W) ρ=wI y ((t.sub σ).ev (2 ^ W) ρ) % 2 ^ W:=fun _ _=>rfl;have f2:∀y (t u:Tm),((Tm.two y t u).sub σ).ev (2 ^ W) ρ=yr y ((t.sub σ).ev (2 ^ W) ρ) ((u.sub σ).ev (2 ^ W) ρ) % 2 ^ W:=fun _ _ _=>rfl;have f3:∀y (t u v:Tm),((Tm.thr y t u v).sub σ).ev (2 ^ W) ρ=Builtin.bitOr (Builtin.bitAnd ((t.sub σ).ev (2 ^ W) ρ) ((u.sub σ).ev (2 ^ W) ρ)) (Builtin.bitAnd (Builtin.bitNot ((t.sub σ).ev (2 ^ W) ρ)) ((v.sub σ).ev (2 ^ W) ρ)) % 2 ^ W:=fun _ _ _ _=>rfl;have f:∀p q,yr "and" p q=Builtin.bitAnd p q:=fun _ _=>rfl;have U:∀p q,yr "or" p q=Builtin.bitOr p q:=fun _ _=>rfl;have J:∀p q,yr "odd" p q=Builtin.bitXor p q:=fun _ _=>rfl;have O:∀p q,yr "add" p q=p + q:=fun _ _=>rfl;have E:∀p q,yr "sub" p q=p - q:=fun _ _=>rfl;have I:∀p,wI "not" p=Builtin.bitNot p:=fun _=>rfl;have L:∀p,wI "neg" p=-p:=fun _=>rfl;have Z:∀p,wI "twice" p=p + p:=fun _=>rfl;have G:∀p,wI "low" p=Builtin.bitAnd p (-p):=fun _=>rfl;have Y:∀p,Builtin.bitNot p=-p - 1:=fun _=>rfl;have cs:∀k,(bt a k=0\/bt a k=1)/\(bt b k=0\/bt b k=1)/\(bt c k=0\/bt c k=1):=fun k=>⟨d a k,d b k,d c k⟩;simp only [turns,Qas,Qb6,Qew] at he;rcases he with rfl | rfl | rfl | rfl | rfl | rfl | rfl | rfl | rfl | rfl | rfl | rfl | rfl | rfl | rfl | rfl | rfl | rfl | rfl | rfl | rfl | rfl | rfl | rfl | rfl | rfl <;>
  simp only [f1,f2,f3,vx,vy,vz,v0,v1,f,U,J,O,E,I,L,Z,G]
 case inl=>rw [Int.add_comm]
 case inr.inr.inr.inr.inl=>rw [mdA,mdB,Int.add_assoc]
 case inr.inr.inr.inr.inr.inr.inr.inr.inl=>rw [mdA];rfl
 case inr.inr.inr.inr.inr.inr.inr.inr.inr.inl=>rw [mdA,mdB,Y];congr 1;lia
 case inr.inr.inr.inr.inr.inr.inr.inr.inr.inr.inr.inl=>rw [mdN,Y,Y,show -(-a - 1) - 1=a by lia,g]
 case inr.inr.inr.inr.inr.inr.inr.inr.inr.inr.inr.inr.inr.inr.inr.inl=>rw [oa]
 case inr.inr.inr.inr.inr.inr.inr.inr.inr.inr.inr.inr.inr.inr.inr.inr.inl=>rw [mdA,<-oa,<-xa];congr 1;lia
 case inr.inr.inr.inr.inr.inr.inr.inr.inr.inr.inr.inr.inr.inr.inr.inr.inr.inl=>exact vU fun k hk=>by rw [xK,xK,ui _ _ _ hk]
 case inr.inr.inr.inr.inr.inr.inr.inr.inr.inr.inr.inr.inr.inr.inr.inr.inr.inr.inr.inr.inr.inr.inl=>rw [mdA,Int.add_zero,g]
 case inr.inr.inr.inr.inr.inr.inr.inr.inr.inr.inr.inr.inr.inr.inr.inr.inr.inr.inr.inr.inr.inr.inr.inr.inr=>rw [mdC,Int.sub_zero,g]
 all_goals try (conv=>lhs;rw [<-g])
 all_goals refine vU fun k hk=>?_
 all_goals obtain ⟨h1,h2,S⟩:=cs k
 all_goals rcases h1 with h1 | h1 <;> rcases h2 with h2 | h2 <;> rcases S with S | S <;> simp only [xK,Za6,uh,bt_not,Za7,ui _ _ _ hk,h1,h2,S] <;> decide
theorem jz{d:List Tm}{w:V}{r:List V}(h:w::r=Zq d):∃F Fr,d=F::Fr/\F.hd=w/\r=Zq (F.kids++Fr):=by
 match d with
 | []=>cases h
 | F::Fr =>
  have e:Zq (F::Fr)=F.hd::Zq (F.kids++Fr):=by
   show F.flat++Zq Fr=_;rw [F.flat_eq,Yi]
   rfl
  rw [e] at h;injection h with h1 h2;exact ⟨F,Fr,rfl,h1.symm,h2⟩
theorem qO{F:Tm}(σ:Str->Tm)(hn:∀y,F.hd=.str y->y∈Ya)(ok:F.ok xyz):(F.sub σ).hd=F.hd/\(F.sub σ).kids=F.kids.map (·.sub σ)/\∀y∈F.nms,∃G∈F.kids,y∈G.nms:=by
 cases F with
 | lf w =>
  rcases ok with ⟨y,d,rfl⟩ | ⟨z,rfl,_⟩
  ·exact absurd (hn y rfl) (xM y d)
  ·exact ⟨rfl,rfl,fun y d=>nomatch d⟩
 | one y a=>exact ⟨rfl,rfl,fun y d=>⟨a,Qaq,d⟩⟩
 | two y a b=>exact ⟨rfl,rfl,fun y d=>(Qam.mp d).elim (fun h=>⟨a,Qaq,h⟩) fun h=>⟨b,Qar _ Qaq,h⟩⟩
 | thr y a b c=>exact ⟨rfl,rfl,fun y d=>(Qam.mp d).elim (fun h=>⟨a,Qaq,h⟩) fun h=>(Qam.mp h).elim (fun h=>⟨b,Qar _ Qaq,h⟩) fun h=>⟨c,Qar _ (Qar _ Qaq),h⟩⟩
theorem hd_var{F:Tm}{y:Str}(ok:F.ok xyz)(h:F.hd=.str y)(d:y∉Ya):F=.lf (.str y):=by
 cases F with
 | lf w=>exact congrArg Tm.lf h
 | one x a=>injection h with h;exact absurd (YJ x ok.1.1) (by rw [h];exact d)
 | two x a b=>injection h with h;exact absurd (YJ x ok.1.1) (by rw [h];exact d)
 | thr x a b c=>injection h with h;exact absurd (YJ x ok.1.1) (by rw [h];exact d)
structure Mt(ys:List Str)(F s:Tm)(fr sr:List V)(τ:List (Str × Tm)):Prop where
 ex:∃Fs ts,fr=Zq Fs/\sr=Zq ts/\Fs.length=ts.length/\(∀x∈Fs,x.ok xyz)/\(∀x∈ts,x.ok ys)/\(∀σ,F.sub σ=s↔(∀p∈τ,σ p.1=p.2)/\Fs.map (·.sub σ)=ts)/\∀y∈F.nms,y∈τ.map (·.1)\/∃G∈Fs,y∈G.nms
 tok:∀p∈τ,p.2.ok ys
 nd:(τ.map (·.1)).Nodup
theorem Mt.beg{ys:List Str}{F s:Tm}(d:F.ok xyz)(hs:s.ok ys):Mt ys F s F.flat s.flat []:=by
 refine ⟨⟨[F],[s],(Qax _).symm,(Qax _).symm,rfl,fun x hx=>by rw [Qai.mp hx];exact d,fun x hx=>by rw [Qai.mp hx];exact hs,fun σ=>⟨fun e=>⟨(fun p hp=>nomatch hp),by rw [List.map_singleton,e]⟩,fun e=>?_⟩,fun y f=>.inr ⟨F,Qai.mpr rfl,f⟩⟩,(fun p hp=>nomatch hp),List.nodup_nil⟩;have:=e.2;injection this
theorem Mt.var{ys:List Str}{F s:Tm}{y:Str}{sr:List V}{τ:List (Str × Tm)}(hy:y∉Ya)(M:Mt ys F s (.str y::B) sr τ) :
  ∃t E,t.ok ys/\sr=t.flat++E/\(y∉τ.map (·.1)->Mt ys F s B E (τ++[(y,t)]))/\∀u,(y,u)∈τ->(u=t->Mt ys F s B E τ)/\(u≠t->∀σ,F.sub σ≠s):=by
 obtain ⟨⟨Fs,ts,h1,h2,hl,L,I,g,hn⟩,tok,nd⟩:=M;obtain ⟨F1,Fr,rfl,hd,hr⟩:=jz h1;have e1:=hd_var (L F1 Qaq) hd hy;subst e1
 match ts,hl with
 | t::J,hl =>
  have S:Fr.length=J.length:=Nat.succ.inj hl;have sv:∀σ:Str->Tm,(Tm.lf (.str y)).sub σ=σ y:=fun σ=>rfl;have d:∀x∈Fr,x.ok xyz:=fun x hx=>L x (Qar _ hx);have f:∀x∈J,x.ok ys:=fun x hx=>I x (Qar _ hx);have U:∀z∈F.nms,z∈τ.map (·.1)\/z=y\/∃G∈Fr,z∈G.nms:=fun z O=>by
   rcases hn z O with h | ⟨G,hG,h⟩
   ·exact .inl h
   rcases Qas.mp hG with e | e
   ·rw [e] at h
    exact .inr (.inl (Qai.mp h))
   ·exact .inr (.inr ⟨G,e,h⟩)
  refine ⟨t,Zq J,I t Qaq,h2,fun Y=>⟨⟨Fr,J,hr,rfl,S,d,f,fun σ=>?_,fun z O=>?_⟩,fun p hp=>?_,?_⟩,fun u hu=>⟨fun e=>⟨⟨Fr,J,hr,rfl,S,d,f,fun σ=>?_,fun z O=>?_⟩,tok,nd⟩,fun Z σ e=>?_⟩⟩
  ·rw [g σ]
   constructor
   ·rintro ⟨a,b⟩
    rw [Qa3] at b;injection b with b1 b2;exact ⟨fun p hp=>(Qam.mp hp).elim (a p) fun z=>by rw [Qai.mp z];exact b1,b2⟩
   ·rintro ⟨a,b⟩
    refine ⟨fun p hp=>a p (Qay _ hp),?_⟩;rw [Qa3,sv,a (y,t) (Qaf _ (Qai.mpr rfl)),b]
  ·rcases U z O with h | h | h
   ·exact .inl (by rw [Qa7];exact Qay _ h)
   ·exact .inl (by rw [Qa7];exact Qaf _ (Qai.mpr h))
   ·exact .inr h
  ·rcases Qam.mp hp with h | h
   ·exact tok p h
   ·rw [Qai.mp h]
    exact I t Qaq
  ·rw [Qa7]
   exact Qeh.mpr ⟨nd,by simp,fun a ha b hb e=>Y (by rw [List.map_singleton] at hb;have W:b=y:=Qai.mp hb;rw [<-W,<-e];exact ha)⟩
  ·rw [g σ]
   constructor
   ·rintro ⟨a,b⟩
    rw [Qa3] at b;injection b with b1 b2;exact ⟨a,b2⟩
   ·rintro ⟨a,b⟩
    refine ⟨a,?_⟩;rw [Qa3,sv,a (y,u) hu,b,e]
  ·rcases U z O with h | h | h
   ·exact .inl h
   ·exact .inl (Qbp.mpr ⟨(y,u),hu,h.symm⟩)
   ·exact .inr h
  ·obtain ⟨a,b⟩:=(g σ).mp e
   rw [Qa3] at b;injection b with b1 b2;exact Z ((a (y,u) hu).symm.trans b1)
theorem Mt.wrd{ys:List Str}(hk:∀y∈ys,y∉Ya){F s:Tm}{w:V}{τ:List (Str × Tm)}(hw:∀y,w=.str y->y∈Ya)(M:Mt ys F s (w::u) B τ) :
  ∃S J,B=S::J/\(S=w->Mt ys F s u J τ)/\(S≠w->∀σ,F.sub σ≠s):=by
 obtain ⟨⟨Fs,ts,h1,h2,hl,I,L,E,hn⟩,tok,nd⟩:=M;obtain ⟨O,Fr,rfl,hd,hr⟩:=jz h1;have g:=I O Qaq;have d:∀y,O.hd=.str y->y∈Ya:=fun y e=>hw y (hd.symm.trans e)
 match ts,hl with
 | t::f,hl =>
  have Y:Fr.length=f.length:=Nat.succ.inj hl;have ot:=L t Qaq;have e2:Zq (t::f)=t.hd::Zq (t.kids++f):=by
   show t.flat++Zq f=_;rw [t.flat_eq,Yi]
   rfl
  refine ⟨t.hd,Zq (t.kids++f),h2.trans e2,fun e=>?_,fun Z σ e=>?_⟩
  ·have lk:O.kids.length=t.kids.length:=by rw [<-Tm.npw_hd xM g,<-Tm.npw_hd hk ot,hd,e]
   refine ⟨⟨O.kids++Fr,t.kids++f,hr,rfl,by rw [Qab,Qab,lk,Y],fun x hx=>?_,fun x hx=>?_,fun σ=>?_,fun z hz=>?_⟩,tok,nd⟩
   ·exact (Qam.mp hx).elim (Tm.ok_kids g x) fun h=>I x (Qar _ h)
   ·exact (Qam.mp hx).elim (Tm.ok_kids ot x) fun h=>L x (Qar _ h)
   ·obtain ⟨k1,k2,_⟩:=qO σ d g
    rw [E σ,Qa7,Qa3];refine and_congr_right fun _=>⟨fun b=>?_,fun b=>?_⟩
    ·injection b with b1 b2
     rw [<-k2,b1,b2]
    ·obtain ⟨b1,b2⟩:=Qe4 b (by rw [Qaz,lk])
     rw [<-k2] at b1;rw [b2,vV (k1.trans (hd.trans e.symm)) (by rw [b1]) b1]
   ·rcases hn z hz with h | ⟨G,hG,h⟩
    ·exact .inl h
    rcases Qas.mp hG with W | W
    ·rw [W] at h
     obtain ⟨G',U,h'⟩:=(qO (fun _=>t0) d g).2.2 z h;exact .inr ⟨G',Qay _ U,h'⟩
    ·exact .inr ⟨G,Qaf _ W,h⟩
  ·obtain ⟨_,b⟩:=(E σ).mp e
   rw [Qa3] at b;injection b with b1 b2;exact Z (by rw [<-b1,(qO σ d g).1,hd])
theorem Mt.fin{ys:List Str}{F s:Tm}{τ:List (Str × Tm)}(M:Mt ys F s [] u τ):(∀σ,(∀p∈τ,σ p.1=p.2)->F.sub σ=s)/\∀y∈F.nms,y∈τ.map (·.1):=by
 obtain ⟨⟨f,ts,h1,h2,hl,g,I,d,hn⟩,tok,L⟩:=M;have e:f=[]:=by
  match f,h1 with
  | [],_=>rfl
  | F::Fr,h1 =>
   have:=congrArg List.length h1;have e1:Zq (F::Fr)=F.flat++Zq Fr:=rfl;rw [e1,Qab] at this;have:=F.flat_pos;simp at *;lia
 subst e
 match ts,hl with
 | [],_ =>
  refine ⟨fun σ h=>(d σ).mpr ⟨h,rfl⟩,fun y J=>?_⟩;rcases hn y J with h | ⟨G,E,_⟩
  ·exact h
  ·cases E
def bnd(τ:List (Str × Tm))(y:Str):Tm:=((τ.find? fun p=>decide (p.1=y)).map (·.2)).getD t0
theorem vY{τ:List (Str × Tm)}(d:(τ.map (·.1)).Nodup){p:Str × Tm}(h:p∈τ):bnd τ p.1=p.2:=by
 induction τ with
 | nil=>cases h
 | cons q r f =>
  rw [Qa3,Qco] at d;unfold bnd;rw [Qc6]
  by_cases e:q.1=p.1
  ·rw [Qad e]
   rcases Qas.mp h with h | h
   ·rw [h];rfl
   ·exact absurd (Qbp.mpr ⟨p,h,e.symm⟩) d.1
  ·rw [Qal e]
   rcases Qas.mp h with h | h
   ·exact absurd (by rw [h]) e
   ·exact f d.2 h
def Fit(e:Str × Tm × Tm)(s:Tm):Prop:=∃σ,e.2.1.sub σ=s
def Zbw(K:PySem.W.Frag):V->Option (List V)
 | .ref a=>match K.lookup a with
  | some o=>match o.cls,o.data with
   | .type n,.seq d _=>if n = "tuple" /\ d.size<=sizeLine then d.toList.mapM uD else none
   | _,_=>none
  | none=>none
 | _=>none
theorem Zbb{u:Value}{x:V}(h:uD u=some x):RelV x u:=by
 unfold uD at h
 split at h <;> first | (injection h with h;subst h;first | rfl | exact ⟨_,rfl⟩) | cases h
theorem xO:∀{d:List Value} {xs:List V},d.mapM uD=some xs->Vals xs d
 | [],xs,h=>by
  rw [List.mapM_nil] at h;cases h;exact .nil
 | u::d,xs,h=>by
  rw [List.mapM_cons] at h;cases e:uD u with
  | none=>rw [e] at h;cases h
  | some x =>
   rw [e] at h;cases e2:d.mapM uD with
   | none =>
    rw [e2] at h;cases h
   | some r =>
    rw [e2] at h;have:xs=x::r:=(Option.some.inj h).symm;rw [this];exact .cons (Zbb e) (xO e2)
theorem qP{v:V}{xs:List V}(h:Zbw K v=some xs):∃a,v=.ref a/\∀H,SqT K H a xs:=by
 unfold Zbw at h
 split at h
 ·rename_i a
  split at h
  ·rename_i o ho
   split at h
   ·rename_i n d m hc hd
    split at h
    ·rename_i hn
     exact ⟨a,rfl,fun H=>.inr ⟨o,d,m,ho,by rw [hc,hn.1],hd,hn.2,xO h⟩⟩
    ·cases h
   ·cases h
  ·cases h
 ·cases h
def rowV(K:PySem.W.Frag)(v:V)(r:Str × Tm × Tm):Bool:=match Zbw K v with
 | some [.str s,f,g]=>decide (s=r.1) && (decide (Zbw K f=some r.2.1.flat) && decide (Zbw K g=some r.2.2.flat))
 | _=>false
def Zbc(K:PySem.W.Frag)(v:V)(l:List (Str × Tm × Tm)):Bool:=match Zbw K v with
 | some es=>decide (es.length=l.length) && (es.zip l).all fun p=>rowV K p.1 p.2
 | none=>false
structure RlAt(K:PySem.W.Frag)(v:V)(r:Str × Tm × Tm):Prop where
 ex:∃a f g,v=.ref a/\(∀H,SqT K H a [.str r.1,.ref f,.ref g])/\(∀H,SqT K H f r.2.1.flat)/\∀H,SqT K H g r.2.2.flat
structure Zcy(K:PySem.W.Frag)(a:Addr)(l:List (Str × Tm × Tm)):Prop where
 ex:∃es,(∀H,SqT K H a es)/\es.length=l.length/\∀(i:Nat) (v:V) (r:Str × Tm × Tm),es[i]?=some v->l[i]?=some r->RlAt K v r
theorem Zbd{l:List (Str × Tm × Tm)}(h:Zbc K (.ref a) l=true):Zcy K a l:=by
 unfold Zbc at h
 split at h
 ·rename_i es he
  obtain ⟨h1,h2⟩:=Qbd.mp h;have hl:=Qap h1;obtain ⟨O,e,G⟩:=qP he;cases e;refine ⟨es,G,hl,fun i v r hv hr=>?_⟩;have hm:(v,r)∈es.zip l:=by
   refine Qae (i:=i) ?_;rw [List.getElem?_zip_eq_some];exact ⟨hv,hr⟩
  have d:=Qbt.mp h2 _ hm;unfold rowV at d
  split at d
  ·rename_i s f g hs
   obtain ⟨k1,k2⟩:=Qbd.mp d;obtain ⟨k2,k3⟩:=Qbd.mp k2;obtain ⟨a1,rfl,y⟩:=qP hs;obtain ⟨E,rfl,J⟩:=qP (Qap k2);obtain ⟨L,rfl,I⟩:=qP (Qap k3);rw [Qap k1] at y;exact ⟨a1,E,L,rfl,y,J,I⟩
  ·cases d
 ·cases h
structure Kr(K:PySem.W.Frag)(mg:Str->Option Value)(x:Str)(a:Addr)(l:List (Str × Tm × Tm)):Prop where
 m:mg x=some (.ref a)
 d:Zcy K a l
def NK(ys:List Str):Prop:=∀y∈ys,y∉Ya
theorem zG{l r:List D}{a:D}(h:l.drop n=a::r):l[n]?=some a/\l.drop (n + 1)=r/\n < l.length:=by
 have d:n < l.length:=by
  rcases Qf4 n l.length with z | z
  ·exact z
  ·rw [List.drop_eq_nil_of_le z] at h
   cases h
 rw [Qbx d] at h;injection h with h1 h2;exact ⟨by rw [Qag d,h1],h2,d⟩
theorem Jq(t:Tm)(r:List Tm):Zq (t::r)=t.hd::Zq (t.kids++r):=by
 show t.flat++Zq r=_;rw [t.flat_eq,Yi]
 rfl
theorem uj{ys:List Str}{t:Tm}(h:t.ok ys):t.hd=kV (keyOf t.hd):=by
 cases t with
 | lf w =>
  rcases h with ⟨y,_,rfl⟩ | ⟨z,rfl,_⟩
  ·rfl
  ·rfl
 | one y a=>rfl
 | two y a b=>rfl
 | thr y a b c=>rfl
theorem j4{ys:List Str}(hk:NK ys){t:Tm}(h:t.ok ys):YK (keyOf t.hd)=(t.kids.length:Int):=by rw [npw_eq,Tm.npw_hd hk h]
theorem Xp(t:Tm):Zq [t]=t.flat:=Qax _
theorem vZ{ys:List Str}{t:Tm}(h:t.ok ys):∀x∈[t],x.ok ys:=fun x hx=>by rw [Qai.mp hx];exact h
theorem ka{ys:List Str}{t:Tm}{r:List Tm}(h:∀x∈t::r,x.ok ys):∀x∈t.kids++r,x.ok ys:=fun x hx=>(Qam.mp hx).elim (Tm.ok_kids (h t Qaq) x) fun z=>h x (Qar _ z)
def JF(H:Hp)(v:V)(q:List Int):Prop:=∃a,v=.ref a/\H a=some (.tup (q.map V.int))
theorem JF.same{H H':Hp}{v:V}{q:List Int}(h:JF H v q)(s:Z0 H H'):JF H' v q:=let ⟨a,e,h⟩:=h;⟨a,e,s _ _ h⟩
theorem JF.put{v:V}{q:List Int}{c:Addr}{xs ys:List V}(h:JF H v q)(hc:H c=some (.lst xs)):JF (upd H c (.lst ys)) v q:=by
 obtain ⟨a,e,h⟩:=h;exact ⟨a,e,by rw [Zs (XI h hc (fun z=>nomatch z))];exact h⟩
def YD(H:Hp)(d:List V)(f:List (List Int)):Prop:=Paired (JF H) d f
theorem YD.same{H H':Hp}{d:List V}{f:List (List Int)}(h:YD H d f)(s:Z0 H H'):YD H' d f:=Paired.mapP h fun _ _ z=>z.same s
theorem YD.put{H:Hp}{d:List V}{f:List (List Int)}{c:Addr}{xs ys:List V}(h:YD H d f)(hc:H c=some (.lst xs)):YD (upd H c (.lst ys)) d f:=Paired.mapP h fun _ _ z=>z.put hc
def ndz(st:List (List Int))(ts:List Tm):List (List Int):=(st.zip ts).flatMap fun p=>(p.2.nds p.1).map (·.1)
theorem wQ(q:List Int)(f:List (List Int))(t:Tm)(d:List Tm):ndz (q::f) (t::d)=(t.nds q).map (·.1)++ndz f d:=rfl
theorem Zbe:ndz [] []=[]:=rfl
theorem j5{α β:Type}:∀{a:List α} {b:List β} {c:List α} {d:List β},a.length=b.length->(a++c).zip (b++d)=a.zip b++c.zip d
 | [],[],_,_,_=>rfl
 | x::a,y::b,c,d,h=>by
  show (x,y)::((a++c).zip (b++d))=(x,y)::(a.zip b++c.zip d);rw [j5 (Nat.succ.inj h)]
theorem Zbf{a c:List (List Int)}{b d:List Tm}(h:a.length=b.length):ndz (a++c) (b++d)=ndz a b++ndz c d:=by
 unfold ndz;rw [j5 h,Qcj]
def kb(q:List Int)(n:Nat):List (List Int):=(List.range n).map fun (m:Nat)=>q++[(m:Int)]
theorem qQ(q:List Int)(n:Nat):(kb q n).length=n:=by unfold kb;rw [Qaz,List.length_range]
theorem wR{q z:List Int}(h:z∈kb q n):z.length=q.length + 1:=by
 obtain ⟨m,_,rfl⟩:=Qbp.mp h;rw [Qab]
 rfl
theorem wU(t:Tm)(q:List Int):(t.nds q).map (·.1)=q::ndz (kb q t.kids.length) t.kids:=by
 cases t with
 | lf w=>rfl
 | one y a=>exact congrArg (q::·) (Qax _).symm
 | two y a b =>
  show q::(a.nds (q++[0])++b.nds (q++[1])).map (·.1)=q::((a.nds (q++[0])).map (·.1)++((b.nds (q++[1])).map (·.1)++[]));rw [Qa7,Qax]
 | thr y a b c =>
  show q::(a.nds (q++[0])++(b.nds (q++[1])++c.nds (q++[2]))).map (·.1)=q::((a.nds (q++[0])).map (·.1)++((b.nds (q++[1])).map (·.1)++((c.nds (q++[2])).map (·.1)++[])));rw [Qa7,Qa7,Qax]
theorem kf(q:List Int){j:Nat}(h:j < n):(kb q n).drop (n - (j + 1))=(q++[(n:Int) - 1 - j])::(kb q n).drop (n - j):=by
 have hl:(kb q n).length=n:=by unfold kb;rw [Qaz,List.length_range]
 rw [Qbx (by rw [hl];lia),show n - (j + 1) + 1=n - j by lia];congr 1;unfold kb;rw [List.getElem_map,List.getElem_range];congr 2;lia
theorem Gq(ts:List Tm):ts.length<=(Zq ts).length:=by
 induction ts with
 | nil=>exact Qao _
 | cons t r d =>
  show r.length + 1<=(t.flat++Zq r).length;rw [Qab];have:=t.flat_pos;lia
structure Gr(H:Hp)(d:Addr)(τ:List (Str × Tm)):Prop where
 ex:∃kvs,H d=some (.dK kvs)/\kvs.length<=τ.length/\(∀p∈τ,∃a,Y9 kvs (.inr p.1)=some (.ref a)/\H a=some (.tup p.2.flat))/\∀y,y∉τ.map (·.1)->Y9 kvs (.inr y)=none
theorem xP{F:Tm}:F.ok xyz->∀w∈F.flat,(∃y∈xyz,w=.str y/\nmB w=true/\y.length<=100)\/(nmB w=false/\(∀y,w=.str y->y∈Ya)/\((∃z,w=.int z)\/∃y,w=.str y/\y.length<=100)):=by
 have hx:∀y∈xyz,nmB (.str y)=true/\y.length<=100:=by decide +kernel
 have hs:∀y∈Jp,nmB (.str y)=false/\y.length<=100:=by decide +kernel
 have G:∀y∈Jp,(∃z∈xyz,V.str y=.str z/\nmB (.str y)=true/\z.length<=100)\/(nmB (.str y)=false/\(∀z,V.str y=.str z->z∈Ya)/\((∃z,V.str y=.int z)\/∃z,V.str y=.str z/\z.length<=100)):=fun y f=>.inr ⟨(hs y f).1,fun z e=>by injection e with e;rw [<-e];exact YJ y f,.inr ⟨y,rfl,(hs y f).2⟩⟩
 induction F with
 | lf w =>
  intro h x d;rw [Qai.mp d];rcases h with ⟨y,f,rfl⟩ | ⟨z,rfl,_⟩
  ·exact .inl ⟨y,f,rfl,(hx y f).1,(hx y f).2⟩
  ·exact .inr ⟨rfl,(fun y e=>nomatch e),.inl ⟨z,rfl⟩⟩
 | one y a J =>
  intro h x d;rcases Qas.mp d with e | e
  ·rw [e];exact G y h.1.1
  ·exact J h.2 x e
 | two y a b g E =>
  intro h x d;rcases Qas.mp d with e | e
  ·rw [e];exact G y h.1.1
  ·exact (Qam.mp e).elim (g h.2.1 x) (E h.2.2 x)
 | thr y a b c g E I =>
  intro h x d;rcases Qas.mp d with e | e
  ·rw [e];exact G y h.1.1
  ·exact (Qam.mp e).elim (g h.2.1 x) fun e=>(Qam.mp e).elim (E h.2.2.1 x) (I h.2.2.2 x)
def SI(w:V):Prop:=(∃z,w=.int z)\/∃y,w=.str y
theorem SI.flat{w:V}(h:SI w):Yv w=true:=by rcases h with ⟨z,rfl⟩ | ⟨y,rfl⟩ <;> rfl
theorem YU{xs:List V}(h:∀w∈xs,SI w):xs.all Yv=true:=Qbt.mpr fun w hw=>(h w hw).flat
theorem SI.scal{w x:V}(h:SI w)(g:SI x):scal w x=true:=by rcases h with ⟨z,rfl⟩ | ⟨y,rfl⟩ <;> rcases g with ⟨d,rfl⟩ | ⟨f,rfl⟩ <;> rfl
theorem SI.eq{w x:V}(h:SI w)(g:SI x):eqV w x=decide (w=x):=by
 rcases h with ⟨z,rfl⟩ | ⟨y,rfl⟩ <;> rcases g with ⟨d,rfl⟩ | ⟨f,rfl⟩
 ·rw [Qbu];show (z == d)=true↔_;simp
 ·rfl
 ·rfl
 ·rw [Qbu];show (y == f)=true↔_;simp
theorem Xh:∀{xs ys:List V},(∀w∈xs,SI w)->(∀w∈ys,SI w)->jV xs ys=decide (xs=ys)
 | [],[],_,_=>rfl
 | [],y::ys,_,_=>rfl
 | x::xs,[],_,_=>rfl
 | x::xs,y::ys,h,g=>by
  show (eqV x y && jV xs ys)=_;rw [(h x Qaq).eq (g y Qaq),Xh (fun w hw=>h w (Qar _ hw)) fun w hw=>g w (Qar _ hw),Qbu];simp
theorem Tm.si{ys:List Str}(t:Tm):t.ok ys->∀w∈t.flat,SI w:=by
 induction t with
 | lf w =>
  intro h x hx;rw [Qai.mp hx];rcases h with ⟨y,_,rfl⟩ | ⟨z,rfl,_⟩
  ·exact .inr ⟨y,rfl⟩
  ·exact .inl ⟨z,rfl⟩
 | one y a E=>intro h x hx;exact (Qas.mp hx).elim (fun e=>.inr ⟨y,e⟩) (E h.2 x)
 | two y a b d f=>intro h x hx;exact (Qas.mp hx).elim (fun e=>.inr ⟨y,e⟩) fun e=>(Qam.mp e).elim (d h.2.1 x) (f h.2.2 x)
 | thr y a b c d f g=>intro h x hx;exact (Qas.mp hx).elim (fun e=>.inr ⟨y,e⟩) fun e=>(Qam.mp e).elim (d h.2.1 x) fun e=>(Qam.mp e).elim (f h.2.2.1 x) (g h.2.2.2 x)
theorem Gs{xs:List V}{lo hi:Option Int}{Q:VK}(h:H a=some (.tup xs))(q:∀p H',H' p=some (.tup (xg xs lo hi))->Z0 H H'->Q (.ref p) H'):rSlT K (.ref a) lo hi H Q\/rSlW K (.ref a) lo hi H Q:=by
 by_cases w:HT.sIx xs.length 0 lo=0/\HT.sIx xs.length xs.length hi=xs.length
 ·refine .inr ⟨a,xs,rfl,SqT.of h,w,q a H ?_ (Z0.refl H)⟩
  rw [h];unfold xg;rw [w.1,w.2,Qfe,Nat.sub_zero,Qbo]
 ·exact .inl ⟨a,xs,rfl,SqT.of h,w,fun p hp=>q p _ Zc (Zd hp)⟩
theorem qR{s v:List V}{k:Int}(d:j=(u.length:Int))(hk:k=((u.length + s.length:Nat):Int)):xg (u++(s++v)) (some j) (some k)=s:=by
 subst d hk;unfold xg;rw [HT.sIx_nat,HT.sIx_nat,Qab,Qab,Qea (by lia),Qea (by lia),Qff,show u.length + s.length - u.length=s.length by lia,List.take_left]
theorem wV{v:List V}{k:Int}(hk:k=(u.length:Int)):xg (u++v) none (some k)=u:=by
 subst hk;unfold xg;rw [HT.sIx_nat,HT.sIx_none,Qab,Qea (by lia),Qfe,Nat.sub_zero,List.take_left]
theorem JR{v:List V}{k:Int}(hk:k=(u.length:Int)):xg (u++v) (some k) none=v:=by
 subst hk;unfold xg;rw [HT.sIx_nat,HT.sIx_none,Qab,Qea (by lia),Qff,show u.length + v.length - u.length=v.length by lia,Qbo]
theorem Gr.add{τ:List (Str × Tm)}{kvs:List (Key × V)}{y:Str}{x:Tm}(hd:H C=some (.dK kvs))(hl:kvs.length<=τ.length)(h1:∀p∈τ,∃a,Y9 kvs (.inr p.1)=some (.ref a)/\H a=some (.tup p.2.flat))(h2:∀y,y∉τ.map (·.1)->Y9 kvs (.inr y)=none)
  (ha:H a=some (.tup x.flat)) (f:y∉τ.map (·.1)):Gr (upd H C (.dK (putK kvs (.inr y) (.ref a)))) C (τ++[(y,x)]):=by
 have ne:∀{b:Addr} {xs:List V},H b=some (.tup xs)->b≠C:=fun h=>XI h hd (fun z=>nomatch z);refine ⟨_,Zc,?_,fun p hp=>?_,fun z d=>?_⟩
 ·unfold putK
  split
  ·rw [Qaz,Qab];lia
  ·rw [Qab,Qab]
   show kvs.length + 1<=τ.length + 1;lia
 ·rcases Qam.mp hp with m | m
  ·obtain ⟨b,e1,e2⟩:=h1 p m
   refine ⟨b,?_,by rw [Zs (ne e2)];exact e2⟩;rw [Wf,Qa5 fun z=>f (by rw [<-Sum.inr.inj z];exact Qbp.mpr ⟨p,m,rfl⟩)];exact e1
  ·rw [Qai.mp m]
   exact ⟨a,by rw [Wf,Qa4 rfl],by rw [Zs (ne ha)];exact ha⟩
 ·rw [Qa7] at d
  rw [Wf,Qa5 fun e=>d (Qaf _ (Qai.mpr (Sum.inr.inj e)))];exact h2 z fun m=>d (Qay _ m)
theorem Gr.same{H H':Hp}{d:Addr}{τ:List (Str × Tm)}(h:Gr H d τ)(s:Z0 H H'):Gr H' d τ:=by
 obtain ⟨kvs,e,hl,h1,h2⟩:=h.ex;exact ⟨kvs,s _ _ e,hl,fun p hp=>let ⟨a,e1,e2⟩:=h1 p hp;⟨a,e1,s _ _ e2⟩,h2⟩
theorem kg{G:Tm}:G.ok xyz->∀y,V.str y∈G.flat->y∉Ya->y∈G.nms:=by
 have g:∀{y x:Str},x∈Jp->V.str y=.str x->y∉Ya->False:=fun {y x} hx e d=>by
  injection e with e;exact d (by rw [e];exact YJ x hx)
 induction G with
 | lf w =>
  intro h y d hk;have e:=Qai.mp d;subst e;exact Qai.mpr rfl
 | one x a J=>intro h y d hk;exact (Qas.mp d).elim (fun e=>(g h.1.1 e hk).elim) fun e=>J h.2 y e hk
 | two x a b f E=>intro h y d hk;exact (Qas.mp d).elim (fun e=>(g h.1.1 e hk).elim) fun e=>(Qam.mp e).elim (fun e=>Qay _ (f h.2.1 y e hk)) fun e=>Qaf _ (E h.2.2 y e hk)
 | thr x a b c f E I=>intro h y d hk;exact (Qas.mp d).elim (fun e=>(g h.1.1 e hk).elim) fun e=>(Qam.mp e).elim (fun e=>Qay _ (f h.2.1 y e hk)) fun e=>(Qam.mp e).elim (fun e=>Qaf _ (Qay _ (E h.2.2.1 y e hk))) fun e=>Qaf _ (Qaf _ (I h.2.2.2 y e hk))
theorem uk{σ:Str->Tm}:∀l:List V,(∀w∈l,(fwd σ w).length<=300)->(l.flatMap (fwd σ)).length<=l.length * 300
 | [],_=>Qa8 _
 | w::l,h=>by
  rw [Qca,Qab,Qan];have:=uk l fun x hx=>h x (Qar _ hx);have:=h w Qaq;lia
open Classical in
def ZS(t:Tm):List (List Int × Str):=(t.nds []).flatMap fun p=>(turns.filter fun e=>decide (Fit e p.2)).map fun e=>(p.1,e.1)
def WE(H:Hp)(v:V)(x:List Int × Str):Prop:=∃a b,v=.ref a/\H a=some (.tup [.ref b,.str x.2])/\H b=some (.tup (x.1.map V.int))
theorem WE.same{H H':Hp}{v:V}{x:List Int × Str}(h:WE H v x)(s:Z0 H H'):WE H' v x:=let ⟨a,b,e,h1,h2⟩:=h;⟨a,b,e,s _ _ h1,s _ _ h2⟩
theorem WE.put{v:V}{x:List Int × Str}{c:Addr}{xs ys:List V}(h:WE H v x)(hc:H c=some (.lst xs)):WE (upd H c (.lst ys)) v x:=by
 obtain ⟨a,b,e,h1,h2⟩:=h;exact ⟨a,b,e,by rw [Zs (XI h1 hc (fun z=>nomatch z))];exact h1,by rw [Zs (XI h2 hc (fun z=>nomatch z))];exact h2⟩
def Yu(H:Hp)(d:List V)(xs:List (List Int × Str)):Prop:=Paired (WE H) d xs
theorem Yu.same{H H':Hp}{d:List V}{xs:List (List Int × Str)}(h:Yu H d xs)(s:Z0 H H'):Yu H' d xs:=Paired.mapP h fun _ _ z=>z.same s
theorem Yu.put{H:Hp}{d:List V}{zs:List (List Int × Str)}{c:Addr}{xs ys:List V}(h:Yu H d zs)(hc:H c=some (.lst xs)):Yu (upd H c (.lst ys)) d zs:=Paired.mapP h fun _ _ z=>z.put hc
theorem Jr{α β:Type}{F:α->β->Prop}:∀{a:List α} {b:List β} {c:List α} {d:List β},Paired F a b->Paired F c d->Paired F (a++c) (b++d)
 | _,_,_,_,.nil,h=>h
 | _,_,_,_,.cons x t,h=>.cons x (Jr t h)
theorem Zw{α β:Type}{F:α->β->Prop}:∀{a:List α} {b:List β} {i:Nat} {x:α},Paired F a b->a[i]?=some x->∃y,b[i]?=some y/\F x y
 | _,_,i,y,.nil,h=>by simp at h
 | _,_,0,y,.cons x t,h=>⟨_,rfl,by have:=Option.some.inj (show some _=some y from h);subst this;exact x⟩
 | _,_,i + 1,y,.cons x t,h=>by
  obtain ⟨z,h1,h2⟩:=Zw (i:=i) (x:=y) t (by simpa using h);exact ⟨z,by simpa using h1,h2⟩
theorem j6:∀e∈turns,e.2.1.flat.length<=20/\e.2.2.flat.length<=20:=by
 have h:(turns.all fun e=>decide (e.2.1.flat.length<=20) && decide (e.2.2.flat.length<=20))=true:=by decide +kernel
 intro e he;obtain ⟨h1,h2⟩:=Qbd.mp (Qbt.mp h e he);exact ⟨Qap h1,Qap h2⟩
open Classical in
def xQ(x:List Int × Tm)(l:List (Str × Tm × Tm)):List (List Int × Str):=(l.filter fun e=>decide (Fit e x.2)).map fun e=>(x.1,e.1)
open Classical in
theorem yd(x:List Int × Tm)(l:List (Str × Tm × Tm))(e:Str × Tm × Tm):(Fit e x.2->xQ x (l++[e])=xQ x l++[(x.1,e.1)])/\(¬Fit e x.2->xQ x (l++[e])=xQ x l):=by
 unfold xQ;rw [Qe7,Qa7]
 constructor
 ·intro h
  rw [Qde (by rw [Qcf];exact h)]
  rfl
 ·intro h
  rw [Qdf (by rw [Qcf];exact h)];simp
theorem kh(t:Tm):ZS t=(t.nds []).flatMap fun x=>xQ x turns:=rfl
theorem Z6{l:List D}{x:D}(h:l[i]?=some x):l.take (i + 1)=l.take i++[x]:=by rw [List.take_add_one,h];rfl
theorem Gu{ys:List Str}{σ:Str->Tm}(F:Tm):∀y∈F.nms,(σ y).flat.length<=(F.sub σ).flat.length/\((F.sub σ).ok ys->(σ y).ok ys)/\∀τ:Str->Tm,F.sub σ=F.sub τ->σ y=τ y:=by
 induction F with
 | lf w =>
  intro y d;cases w with
  | str x =>
   have e:y=x:=Qai.mp d;subst e;exact ⟨Qao _,fun h=>h,fun τ h=>h⟩
  | _=>cases d
 | one x a J =>
  intro y d;obtain ⟨h1,h2,f⟩:=J y d;refine ⟨Nat.le_succ_of_le h1,fun h=>h2 h.2,fun τ h=>f τ ?_⟩;injection h
 | two x a b g E =>
  intro y d;have G:((Tm.two x a b).sub σ).flat.length=(a.sub σ).flat.length + (b.sub σ).flat.length + 1:=by
   show ((a.sub σ).flat++(b.sub σ).flat).length + 1=_;rw [Qab]
  rcases Qam.mp d with d | d
  ·obtain ⟨h1,h2,f⟩:=g y d
   refine ⟨by lia,fun h=>h2 h.2.1,fun τ h=>f τ ?_⟩;injection h
  ·obtain ⟨h1,h2,f⟩:=E y d
   refine ⟨by lia,fun h=>h2 h.2.2,fun τ h=>f τ ?_⟩;injection h
 | thr x a b c g E I =>
  intro y d;have G:((Tm.thr x a b c).sub σ).flat.length=(a.sub σ).flat.length + ((b.sub σ).flat.length + (c.sub σ).flat.length) + 1:=by
   show ((a.sub σ).flat++((b.sub σ).flat++(c.sub σ).flat)).length + 1=_;rw [Qab,Qab]
  rcases Qam.mp d with d | d
  ·obtain ⟨h1,h2,f⟩:=g y d
   refine ⟨by lia,fun h=>h2 h.2.1,fun τ h=>f τ ?_⟩;injection h
  rcases Qam.mp d with d | d
  ·obtain ⟨h1,h2,f⟩:=E y d
   refine ⟨by lia,fun h=>h2 h.2.2.1,fun τ h=>f τ ?_⟩;injection h
  ·obtain ⟨h1,h2,f⟩:=I y d
   refine ⟨by lia,fun h=>h2 h.2.2.2,fun τ h=>f τ ?_⟩;injection h
def rls(r:Str)(l:List (Str × Tm × Tm)):List (Str × Tm × Tm):=l.filter fun e=>decide (e.1=r)
theorem j7(r:Str)(l:List (Str × Tm × Tm))(e:Str × Tm × Tm):rls r (l++[e])=rls r l++(if e.1=r then [e] else []):=by
 unfold rls;rw [Qe7];congr 1
 by_cases h:e.1=r
 ·rw [Qa4 h];simp [h]
 ·rw [Qa5 h];simp [h]
def Stp(g:Tm)(q:List Int)(r:Str)(d:Tm):Prop:=∃(i:Nat) (sm:Tm) (m:Nat) (e:Str × Tm × Tm) (σ:Str->Tm) (u v:List V) (f:Tm->Tm),(g.nds [])[i]?=some (q,sm)/\u.length=i/\Ctx g sm u v f/\(rls r turns)[m]?=some e/\(∀y E,y < m->(rls r turns)[y]?=some E->¬Fit E sm)/\e.2.1.sub σ=sm/\d=f (e.2.2.sub σ)
theorem Gv{r:Str}{m:Nat}{e:Str × Tm × Tm}(h:(rls r turns)[m]?=some e):e∈turns:=(Qbz.mp (Qae h)).1
theorem Stp.ok{ys:List Str}{E d:Tm}{q:List Int}{r:Str}(h:Stp E q r d)(G:E.ok ys):d.ok ys:=by
 obtain ⟨i,sm,m,e,σ,u,v,f,hn,hu,C,hm,J,g,rfl⟩:=h;have he:=JQ (Gv hm);have hs:=(C.ok ys G).1;rw [<-g] at hs;exact (C.ok ys G).2 _ (Tm.sub_ok _ he.2.1 fun y I=>(Gu (ys:=ys) e.2.1 y (he.2.2 y I)).2.1 hs)
theorem Stp.ev{y d:Tm}{q:List Int}{r:Str}(h:Stp y q r d)(W:Nat)(ρ:Str->Int):d.ev (2 ^ W) ρ=y.ev (2 ^ W) ρ:=by
 obtain ⟨i,sm,m,e,σ,u,v,f,hn,hu,C,hm,E,g,rfl⟩:=h;exact C.ev _ _ _ ((wO e (Gv hm) σ W ρ).trans (by rw [g]))
theorem Stp.len{y d:Tm}{q:List Int}{r:Str}(h:Stp y q r d):d.flat.length<=2 * y.flat.length + 2:=by
 obtain ⟨i,sm,m,e,σ,u,v,f,hn,hu,C,hm,E,g,rfl⟩:=h;have h1:=xN e (Gv hm) σ;rw [g] at h1;have h2:=congrArg List.length C.here;rw [C.put,Qab,Qab];rw [Qab,Qab] at h2;lia
theorem JS{l:List D}(h:l.Nodup){j:Nat}{x:D}(hi:l[i]?=some x)(E:l[j]?=some x):i=j:=by
 obtain ⟨y,d⟩:=Qah.mp hi;obtain ⟨g,f⟩:=Qah.mp E;exact (List.getElem_inj h).mp (d.trans f.symm)
theorem qd{d:Tm}{q:List Int}{sm:Tm}(h:(d.nds [])[i]?=some (q,sm)):((d.nds []).map (·.1))[i]?=some q:=by rw [Qbc,h];rfl
theorem Stp.det{O a b:Tm}{q:List Int}{r:Str}(h:Stp O q r a)(g:Stp O q r b):a.flat=b.flat:=by
 obtain ⟨i,sm,m,e,σ,u,v,f,hn,hu,C,hm,Y,L,rfl⟩:=h;obtain ⟨i',S,W,e',G,u',v',f',E,U,Z,I,J,d,rfl⟩:=g;have ei:=JS (O.nds_nd []) (qd hn) (qd E);subst ei;rw [hn] at E;have es:sm=S:=congrArg Prod.snd (Option.some.inj E);subst es;have em:m=W:=by
  rcases Nat.lt_trichotomy m W with z | z | z
  ·exact absurd ⟨σ,L⟩ (J m e z hm)
  ·exact z
  ·exact absurd ⟨G,d⟩ (Y W e' z I)
 subst em;rw [hm] at I;cases I;have ho:=JQ (Gv hm);have eg:e.2.2.sub σ=e.2.2.sub G:=Tm.sub_congr _ fun y hy=>(Gu (ys:=[]) e.2.1 y (ho.2.2 y hy)).2.2 G (L.trans d.symm);have h1:=C.here;rw [Z.here] at h1;obtain ⟨e1,e2⟩:=Qe4 h1 (U.trans hu.symm);have e3:=Qd9 e2;rw [C.put,Z.put,eg,e1,e3]
open Classical in
theorem WS{g:Tm}{q:List Int}{r:Str}(h:(q,r)∈ZS g):∃(i:Nat) (sm:Tm),(g.nds [])[i]?=some (q,sm)/\∃(m:Nat) (e:Str × Tm × Tm),(rls r turns)[m]?=some e/\Fit e sm:=by
 rw [kh] at h;obtain ⟨⟨q',sm⟩,hm,h⟩:=Qfw.mp h;obtain ⟨e,he,y⟩:=Qbp.mp h;obtain ⟨h1,h2⟩:=Qbz.mp he;have d:q'=q:=congrArg Prod.fst y;have f:e.1=r:=congrArg Prod.snd y;subst d;obtain ⟨i,hi⟩:=Qbq hm;obtain ⟨m,hm⟩:=Qbq (Qbz.mpr ⟨h1,Qad f⟩:e∈rls r turns);exact ⟨i,sm,hi,m,e,hm,Qap h2⟩
theorem zH{a b:List Int}:a.map V.int=b.map V.int↔a=b:=by
 constructor
 ·intro h
  have:=congrArg (List.map fun | V.int z=>z | _=>0) h;rw [Qdp,Qdp] at this;have e:∀l:List Int,l.map ((fun | V.int z=>z | _=>0) ∘ V.int)=l:=fun l=>(Qdd fun b _=>rfl).trans (List.map_id l);rw [e,e] at this;exact this
 ·intro h;rw [h]
theorem zI{u:V}{q r:List Int}{c:Addr}(h:JF H u q)(hc:H c=some (.tup (r.map V.int))):EqB H (n + 1) u (.ref c) (decide (q=r)):=by
 obtain ⟨a,rfl,ha⟩:=h;have si:∀l:List Int,∀w∈l.map V.int,SI w:=fun l w hw=>by
  obtain ⟨z,_,rfl⟩:=Qbp.mp hw;exact .inl ⟨z,rfl⟩
 refine .inr ⟨a,c,_,_,eqJ (q.map V.int) (r.map V.int),rfl,rfl,ha,hc,?_,fun j x y hx g=>?_⟩
 ·rw [Wg,Xh (si q) (si r),Qdy]
  exact zH.symm
 ·have f:=(si q x (Qae hx)).flat
  have d:=(si r y (Qae g)).flat;have e:eqJ (q.map V.int) (r.map V.int) j=eqV x y:=by
   unfold eqJ;rw [hx,g]
  rw [e];cases n with
  | zero=>exact ⟨f,d,rfl⟩
  | succ n=>exact .inl ⟨f,d,rfl⟩
inductive Chn:Tm->List (List Int × Str)->Tm->Prop
 | nil {tm:Tm}:Chn tm [] tm
 | cons {tm t1 t2:Tm} {x:List Int × Str} {c:List (List Int × Str)}:x∈ZS tm->tm.flat.length<=300->Stp tm x.1 x.2 t1->Chn t1 c t2->Chn tm (x::c) t2
theorem Chn.snoc{f t1 t2:Tm}{x:List Int × Str}{c:List (List Int × Str)}(h:Chn f c t1)(hx:x∈ZS t1)(hl:t1.flat.length<=300)(g:Stp t1 x.1 x.2 t2):Chn f (c++[x]) t2:=by
 induction h with
 | nil=>exact .cons hx hl g .nil
 | cons a b d _ y=>exact .cons a b d (y hx hl g)
theorem Chn.ok{ys:List Str}{f t1:Tm}{c:List (List Int × Str)}(h:Chn f c t1)(g:f.ok ys):t1.ok ys:=by
 induction h with
 | nil=>exact g
 | cons _ _ d _ y=>exact y (d.ok g)
theorem Chn.ev{f t1:Tm}{c:List (List Int × Str)}(h:Chn f c t1)(W:Nat)(ρ:Str->Int):t1.ev (2 ^ W) ρ=f.ev (2 ^ W) ρ:=by
 induction h with
 | nil=>rfl
 | cons _ _ d _ g=>rw [g,d.ev]
theorem Zbg{l:List Str}{i:Int}(f:0<=i)(h1:i < (l.length:Int)):∃y,y∈l/\atI (l.map V.str) i=some (.str y):=by
 obtain ⟨j,rfl⟩:∃j:Nat,i=(j:Int):=⟨i.toNat,by lia⟩;have d:j < l.length:=by lia
 exact ⟨l[j],Qb4 d,Yk (by rw [Qbc,Qag d];rfl)⟩
theorem Z7{xs:List V}(h:SqL K H a xs)(s:Z0 H S):SqL K S a xs:=by
 rcases h with h | h
 ·rcases h with h | ⟨u,h⟩
  ·exact .inl (.inl (s _ _ h))
  ·exact .inl (.inr ⟨u,s _ _ h⟩)
 ·exact .inr h
def manyN(d:List Int):Nat:=max 1 d.length
def Wj(d:List Int)(k:Nat):Int:=(d++[0]).getD (k % manyN d) 0
def ye(z:Int):Nat->Int
 | 0=>z
 | n + 1=>ye z n / 1000003
def Zbx(d:List Int)(k:Nat):Int:=(Wj d k % 2147483629 + 17 + 68209 * ((k:Int) / (manyN d:Int))) * 47791 % 2147483629
def mixB(d:List Int)(k:Nat):Int:=Zbx d k * Zbx d k % 2147483587
def drw(d:List Int)(k:Nat):Int:=if Wj d k>=10 ^ 18\/Wj d k<=-10 ^ 18 then ye (Wj d k) (min (k / manyN d) 60) % 1000003 else mixB d k * 38839 % 2147483579
theorem um(d:List Int)(k:Nat):0<=drw d k/\drw d k < 2147483629:=by
 unfold drw
 split
 ·have h1:=Qbk (ye (Wj d k) (min (k / manyN d) 60)) (b:=1000003) (by decide)
  have h2:=Qba (ye (Wj d k) (min (k / manyN d) 60)) (b:=1000003) (by decide);lia
 ·have h1:=Qbk (mixB d k * 38839) (b:=2147483579) (by decide)
  have h2:=Qba (mixB d k * 38839) (b:=2147483579) (by decide);lia
def qS(z:Int):Nat:=(atI vO.cps.toList (z % 26)).getD 0
theorem Wh(z:Int):Low (qS z)/\atI vO.cps.toList (z % 26)=some (qS z):=by
 obtain ⟨c,hc,e⟩:=low_at (i:=z % 26) (Qbk _ (by decide)) (Qba _ (by decide));unfold qS;rw [e];exact ⟨hc,rfl⟩
def Zbh(d:List Int):Nat:=qS (drw d 0)
def Zcz(d:List Int):Nat:=(drw d 1 % 7).toNat
def Zc0(d:List Int):Nat:=(drw d 2 % (7 - drw d 1 % 7)).toNat
def kI(d:List Int)(i:Nat):List Nat:=List.replicate (Zcz d) (Zbh d)++[qS ((i:Int) + drw d 3)]++List.replicate (Zc0 d) (Zbh d)
def j9(d:List Int)(i:Nat):List Nat:=if i % 2=1/\(kI d i).length < 7 then kI d i++[Zbh d] else kI d i
def Zby(d:List Int)(i:Nat):Str:=⟨(j9 d i++[120]).toArray⟩
theorem jA(d:List Int)(i:Nat):(kI d i).length=Zcz d + 1 + Zc0 d:=by
 unfold kI;rw [Qab,Qab,Qc0,Qc0]
 rfl
theorem uo(d:List Int):Zcz d + Zc0 d<=6:=by
 unfold Zcz Zc0;have h1:=Qbk (drw d 1) (b:=7) (by decide);have h2:=Qba (drw d 1) (b:=7) (by decide);have g:=Qbk (drw d 2) (b:=7 - drw d 1 % 7) (by lia);have f:=Qba (drw d 2) (b:=7 - drw d 1 % 7) (by lia);lia
theorem kept_x:∀y∈Ya,y.cps.toList.getLast?≠some 120:=by decide +kernel
theorem wrd_ok(d:List Int)(i:Nat):NmS (Zby d i):=by
 have hb:=uo d;have g:∀c∈kI d i,Low c:=fun c hc=>by
  unfold kI at hc;rcases Qam.mp hc with z | z
  ·rcases Qam.mp z with z | z
   ·rw [(List.mem_replicate.mp z).2];exact (Wh _).1
   ·rw [Qai.mp z];exact (Wh _).1
  ·rw [(List.mem_replicate.mp z).2];exact (Wh _).1
 have y:(∀c∈j9 d i,Low c)/\(j9 d i).length<=7:=by
  have hl:=jA d i;unfold j9
  split
  ·rename_i h
   refine ⟨fun c hc=>(Qam.mp hc).elim (g c) fun z=>by rw [Qai.mp z];exact (Wh _).1,?_⟩;rw [Qab];show _ + 1<=7;lia
  ·exact ⟨g,by lia⟩
 have hl:(Zby d i).length=(j9 d i).length + 1:=by
  rw [len_signs];show ((j9 d i++[120]).toArray.toList).length=_;rw [Qab]
  rfl
 refine ⟨⟨⟨by lia,by lia⟩,fun c hc=>?_⟩,fun hk=>kept_x _ hk ?_⟩
 ·have f:c∈j9 d i++[120]:=hc
  rcases Qam.mp f with z | z
  ·exact y.1 c z
  ·rw [Qai.mp z];decide +kernel
 ·show (j9 d i++[120]).getLast?=some 120
  rw [List.getLast?_concat]
def J5(d:List Int)(m:Nat):List Str:=(List.range m).map fun i=>Zby d i
theorem yf(h:x∉Jp):ZR x=0:=by
 unfold ZR;have e:Zc9.find? (fun p=>decide (p.1=x))=none:=by
  rw [List.find?_eq_none];intro p hp d;exact h (by rw [<-Qap d];exact Qd0 hp)
 rw [e]
 rfl
def Zdb:List Str:=["not","neg","twice","low"]
def Zc1:List Str:=["and","or","odd","add","sub"]
theorem ki:∀y∈Zdb,ZR y=1:=by decide +kernel
theorem kj:∀y∈Zc1,ZR y=2:=by decide +kernel
theorem km:ZR "pick" = 3:=by decide +kernel
theorem xR:∀y∈Jp,y∈Zdb\/y∈Zc1\/y = "pick" := by decide +kernel
def w12:List Str:=["and","or","odd","add","sub","not","neg","twice","low","pick","not","add"]
theorem w12_ok:∀y∈w12,y∈Jp/\(y = "pick" \/ ZR y=1\/ZR y=2):=by decide +kernel
theorem pw4:∀d,d<=8->4 ^ d<=65536:=by decide +kernel
theorem Zc2(h:n<=400000):n<=sizeLine:=Qa0 h (by decide)
def wW(H:Hp)(v:V)(t:Tm):Prop:=∃a,v=.ref a/\H a=some (.tup t.flat)
theorem wW.same{H H':Hp}{v:V}{t:Tm}(h:wW H v t)(s:Z0 H H'):wW H' v t:=let ⟨a,e,h⟩:=h;⟨a,e,s _ _ h⟩
theorem wW.put{v:V}{t:Tm}{c:Addr}{xs ys:List V}(h:wW H v t)(hc:H c=some (.lst xs)):wW (upd H c (.lst ys)) v t:=by
 obtain ⟨a,e,h⟩:=h;exact ⟨a,e,by rw [Zs (XI h hc (fun z=>nomatch z))];exact h⟩
def XH(H:Hp)(d:List V)(ts:List Tm):Prop:=Paired (wW H) d ts
theorem XH.same{H H':Hp}{d:List V}{ts:List Tm}(h:XH H d ts)(s:Z0 H H'):XH H' d ts:=Paired.mapP h fun _ _ z=>z.same s
theorem XH.put{H:Hp}{d:List V}{ts:List Tm}{c:Addr}{xs ys:List V}(h:XH H d ts)(hc:H c=some (.lst xs)):XH (upd H c (.lst ys)) d ts:=Paired.mapP h fun _ _ z=>z.put hc
theorem Gw{ys:List Str}(hk:NK ys){t:Tm}(h:t.ok ys):WQ t.hd=t.kids.length:=by
 cases t with
 | lf w =>
  rcases h with ⟨y,d,rfl⟩ | ⟨z,rfl,_⟩
  ·exact yb (hk y d)
  ·rfl
 | one y a=>exact h.1.2
 | two y a b=>exact h.1.2
 | thr y a b c=>exact h.1.2
theorem ko{ys:List Str}{t:Tm}(h:t.ok ys):SI t.hd:=t.si h _ (by rw [t.flat_eq];exact Qaq)
theorem seq0(a:V)(r:List V):seqIndex? 0 (a::r).length=some 0:=by
 unfold seqIndex?;simp
theorem qT{t k:Tm}(h:k∈t.kids):k.flat.length < t.flat.length:=by
 rw [t.flat_eq,Qan];have:∀{l:List Tm},k∈l->k.flat.length<=(Zq l).length:=fun {l}=>by
  induction l with
  | nil=>intro h;cases h
  | cons a r d =>
   intro h;show _<=(a.flat++Zq r).length;rw [Qab];rcases Qas.mp h with e | e
   ·rw [e];lia
   ·have:=d e;lia
 have:=this h;lia
def VlOk(W:Nat)(ys:List Str)(kvs:List (Key × V))(ρ:Str->Int):Prop:=∀y∈ys,Y9 kvs (.inr y)=some (.int (ρ y))/\0<=ρ y/\ρ y < 2 ^ W
theorem VlOk.put{ys:List Str}{kvs:List (Key × V)}{ρ:Str->Int}(h:VlOk i ys kvs ρ)(y:Str){z:Int}(d:0<=z)(h1:z < 2 ^ i):VlOk i (ys++[y]) (putK kvs (.inr y) (.int z)) (fun x=>if x=y then z else ρ x):=by
 intro x hx
 by_cases e:x=y
 ·subst e
  show _=some (V.int (if x=x then z else ρ x))/\0<=(if x=x then z else ρ x)/\(if x=x then z else ρ x) < _;rw [Qa4 rfl,Wf,Qa4 rfl];exact ⟨rfl,d,h1⟩
 ·show _=some (V.int (if x=y then z else ρ x))/\0<=(if x=y then z else ρ x)/\(if x=y then z else ρ x) < _
  rw [Qa5 e,Wf,Qa5 (fun q=>e (Sum.inr.inj q))];rcases Qam.mp hx with m | m
  ·exact h x m
  ·exact absurd (Qai.mp m) e
def dd:List Str->List Str
 | []=>[]
 | y::r=>if y∈dd r then dd r else y::dd r
theorem kq(d:List Int)(m:Nat):NK (J5 d m):=fun y f=>by
 obtain ⟨i,_,rfl⟩:=Qbp.mp f;exact (wrd_ok d i).k
theorem Tm.words{ys:List Str}(t:Tm):t.ok ys->∀w∈t.flat,xH ys w:=by
 induction t with
 | lf w=>intro h x hx;rw [Qai.mp hx];exact .inr h
 | one y a E=>intro h x hx;exact (Qas.mp hx).elim (fun e=>.inl ⟨y,e,h.1.1⟩) (E h.2 x)
 | two y a b d f=>intro h x hx;exact (Qas.mp hx).elim (fun e=>.inl ⟨y,e,h.1.1⟩) fun e=>(Qam.mp e).elim (d h.2.1 x) (f h.2.2 x)
 | thr y a b c d f g=>intro h x hx;exact (Qas.mp hx).elim (fun e=>.inl ⟨y,e,h.1.1⟩) fun e=>(Qam.mp e).elim (d h.2.1 x) fun e=>(Qam.mp e).elim (f h.2.2.1 x) (g h.2.2.2 x)
theorem wX{P:D->Prop}{l:List D}:∀(m:Nat) (e:D),l[m]?=some e->P e->∃(m:Nat) (e:D),l[m]?=some e/\P e/\∀(d:Nat) (f:D),d < m->l[d]?=some f->¬P f:=by
 intro m
 induction m using Nat.strongRecOn with
 | ind m E =>
  intro e h1 h2
  by_cases h:∃(d:Nat) (f:D),d < m/\l[d]?=some f/\P f
  ·obtain ⟨d,f,hm,y,g⟩:=h
   exact E d hm f y g
  ·exact ⟨m,e,h1,h2,fun d f hm y g=>h ⟨d,f,hm,y,g⟩⟩
theorem stp_ex{d:Tm}{q:List Int}{r:Str}(h:(q,r)∈ZS d):∃t',Stp d q r t':=by
 obtain ⟨i,sm,hn,m,e,hm,hf⟩:=WS h;obtain ⟨m,e,hm,⟨σ,g⟩,y⟩:=wX (P:=fun e=>Fit e sm) m e hm hf;obtain ⟨u,v,f,hu,C⟩:=d.ctx [] i q sm hn;exact ⟨_,i,sm,m,e,σ,u,v,f,hn,hu,C,hm,y,g,rfl⟩
def yu:List Str:=["add","and","or","odd"]
def aoL:List Str:=["and","or"]
def Zc3:List Str:=["add","or","odd","sub"]
def Wo:List Str:=["addboth","addthree","subneg","negnot","twiceadd","notnot","notand","notor","oddor","orsum","oddsum","lowneg","pickor","selfodd","selfand","zeroadd"]
def Zbi(f y:Str)(a:Tm):Option Tm :=
 if f = "negnot" /\ y = "neg" then some (.two "add" (.one "not" a) t1)
 else if f = "twiceadd" /\ y = "twice" then some (.two "add" a a)
 else if f = "lowneg" /\ y = "low" then some (.two "and" a (.one "neg" a))
 else if f = "notnot" /\ y = "not" /\ a.hd=.str "not" then a.kids.head?
 else if f = "notand" /\ y = "not" /\ a.hd=.str "and" then (a.kids.head?).bind fun c=>(a.kids[1]?).map fun d=>.two "or" (.one "not" c) (.one "not" d)
 else if f = "notor" /\ y = "not" /\ a.hd=.str "or" then (a.kids.head?).bind fun c=>(a.kids[1]?).map fun d=>.two "and" (.one "not" c) (.one "not" d)
 else none
def Zbj(f y:Str)(a b:Tm):Option Tm :=
 if f = "addboth" /\ y∈yu then some (.two y b a)
 else if f = "addthree" /\ y∈yu/\a.hd=.str y then (a.kids.head?).bind fun c=>(a.kids[1]?).map fun d=>.two y c (.two y d b)
 else if f = "subneg" /\ y = "sub" then some (.two "add" a (.one "neg" b))
 else if f = "oddor" /\ y = "odd" then some (.two "and" (.two "or" a b) (.one "not" (.two "and" a b)))
 else if f = "orsum" /\ y = "add" then some (.two "add" (.two "or" a b) (.two "and" a b))
 else if f = "oddsum" /\ y = "add" then some (.two "add" (.two "odd" a b) (.one "twice" (.two "and" a b)))
 else if f = "selfodd" /\ y = "odd" /\ a.flat=b.flat then some t0
 else if f = "selfand" /\ y∈aoL/\a.flat=b.flat then some a
 else if f = "zeroadd" /\ y∈Zc3/\b.flat=[.int 0] then some a
 else none
def trn(d:Str):Tm->Option Tm
 | .lf _=>none
 | .one y a=>Zbi d y a
 | .two y a b=>Zbj d y a b
 | .thr _ a b c=>if d = "pickor" then some (.two "or" (.two "and" a b) (.two "and" (.one "not" a) c)) else none
theorem kr{e:Str × Tm × Tm}(he:e∈turns)(σ:Str->Tm):trn e.1 (e.2.1.sub σ)=some (e.2.2.sub σ):=by
 simp only [turns,Qas,Qb6,Qew] at he;rcases he with rfl | rfl | rfl | rfl | rfl | rfl | rfl | rfl | rfl | rfl | rfl | rfl | rfl | rfl | rfl | rfl | rfl | rfl | rfl | rfl | rfl | rfl | rfl | rfl | rfl | rfl <;>
  simp only [Tm.sub,trn,Zbi,Zbj] <;>
  repeat (first | rfl | rw [Qa5 (fun h=>absurd h.1 (by decide +kernel))] | rw [Qa4 ⟨rfl,by decide +kernel⟩] | rw [Qa4 ⟨rfl,by decide +kernel,rfl⟩] | rw [Qa4 rfl])
theorem qf{ys:List Str}(hk:NK ys){a:Tm}(h:a.ok ys)(e:a.hd=.str x)(E:x∈Jp)(h2:ZR x=2):∃c d,a=.two x c d:=by
 have g:=YJ x E;cases a with
 | lf w =>
  have e:w=.str x:=e;rcases h with ⟨z,y,rfl⟩ | ⟨z,rfl,_⟩
  ·injection e with e;rw [e] at y;exact absurd g (hk x y)
  ·cases e
 | one z c=>injection e with e;subst e;have:=h.1.2;lia
 | two z c d=>injection e with e;subst e;exact ⟨c,d,rfl⟩
 | thr z c d f=>injection e with e;subst e;have:=h.1.2;lia
theorem uq{ys:List Str}(hk:NK ys){a:Tm}(h:a.ok ys)(e:a.hd=.str x)(E:x∈Jp)(h1:ZR x=1):∃c,a=.one x c:=by
 have g:=YJ x E;cases a with
 | lf w =>
  have e:w=.str x:=e;rcases h with ⟨z,y,rfl⟩ | ⟨z,rfl,_⟩
  ·injection e with e;rw [e] at y;exact absurd g (hk x y)
  ·cases e
 | one z c=>injection e with e;subst e;exact ⟨c,rfl⟩
 | two z c d=>injection e with e;subst e;have:=h.1.2;lia
 | thr z c d f=>injection e with e;subst e;have:=h.1.2;lia
def sg3 (a b c:Tm) (s:Str):Tm:=if s = "x" then a else if s = "y" then b else c
theorem ku{ys:List Str}(hk:NK ys){t:Tm}(g:t.ok ys){E:Str}{x:Tm}(h:trn E t=some x):∃e∈turns,e.1=E/\Fit e t:=by
 have G:∀y∈yu,y∈Jp/\ZR y=2:=by decide +kernel
 have I:∀{b:Tm},b.ok ys->b.flat=[.int 0]->b=t0:=fun {b} hb e=>WR (u:=t0) hk hb (.inr ⟨0,rfl,by decide,by decide⟩) e;cases t with
 | lf w=>cases h
 | thr y a b c =>
  have h:(if E = "pickor" then _ else none)=some x:=h
  split at h
  ·rename_i e
   subst e;have f:y = "pick" := (xR y g.1.1).elim (fun z=>absurd (ki y z) (by have:=g.1.2;lia)) fun z=>z.elim (fun z=>absurd (kj y z) (by have:=g.1.2;lia)) id;subst f;exact ⟨_,Qae (i:=18) rfl,rfl,sg3 a b c,rfl⟩
  ·cases h
 | one y a =>
  have h:Zbi E y a=some x:=h;unfold Zbi at h
  split at h
  ·rename_i c;obtain ⟨rfl,rfl⟩:=c
   exact ⟨_,Qae (i:=9) rfl,rfl,sg3 a a a,rfl⟩
  split at h
  ·rename_i c;obtain ⟨rfl,rfl⟩:=c
   exact ⟨_,Qae (i:=10) rfl,rfl,sg3 a a a,rfl⟩
  split at h
  ·rename_i c;obtain ⟨rfl,rfl⟩:=c
   exact ⟨_,Qae (i:=17) rfl,rfl,sg3 a a a,rfl⟩
  split at h
  ·rename_i c;obtain ⟨rfl,rfl,e⟩:=c
   obtain ⟨c,rfl⟩:=uq hk g.2 e (by decide +kernel) (by decide +kernel);exact ⟨_,Qae (i:=11) rfl,rfl,sg3 c c c,rfl⟩
  split at h
  ·rename_i c;obtain ⟨rfl,rfl,e⟩:=c
   obtain ⟨c,d,rfl⟩:=qf hk g.2 e (by decide +kernel) (by decide +kernel);exact ⟨_,Qae (i:=12) rfl,rfl,sg3 c d d,rfl⟩
  split at h
  ·rename_i c;obtain ⟨rfl,rfl,e⟩:=c
   obtain ⟨c,d,rfl⟩:=qf hk g.2 e (by decide +kernel) (by decide +kernel);exact ⟨_,Qae (i:=13) rfl,rfl,sg3 c d d,rfl⟩
  ·cases h
 | two y a b =>
  have h:Zbj E y a b=some x:=h;unfold Zbj at h
  split at h
  ·rename_i c;obtain ⟨rfl,f⟩:=c
   simp only [yu,Qas,Qb6,Qew] at f;rcases f with rfl | rfl | rfl | rfl
   ·exact ⟨_,Qae (i:=0) rfl,rfl,sg3 a b b,rfl⟩
   ·exact ⟨_,Qae (i:=1) rfl,rfl,sg3 a b b,rfl⟩
   ·exact ⟨_,Qae (i:=2) rfl,rfl,sg3 a b b,rfl⟩
   ·exact ⟨_,Qae (i:=3) rfl,rfl,sg3 a b b,rfl⟩
  split at h
  ·rename_i c;obtain ⟨rfl,f,e⟩:=c
   obtain ⟨c,d,rfl⟩:=qf hk g.2.1 e (G y f).1 (G y f).2;simp only [yu,Qas,Qb6,Qew] at f;rcases f with rfl | rfl | rfl | rfl
   ·exact ⟨_,Qae (i:=4) rfl,rfl,sg3 c d b,rfl⟩
   ·exact ⟨_,Qae (i:=5) rfl,rfl,sg3 c d b,rfl⟩
   ·exact ⟨_,Qae (i:=6) rfl,rfl,sg3 c d b,rfl⟩
   ·exact ⟨_,Qae (i:=7) rfl,rfl,sg3 c d b,rfl⟩
  split at h
  ·rename_i c;obtain ⟨rfl,rfl⟩:=c
   exact ⟨_,Qae (i:=8) rfl,rfl,sg3 a b b,rfl⟩
  split at h
  ·rename_i c;obtain ⟨rfl,rfl⟩:=c
   exact ⟨_,Qae (i:=14) rfl,rfl,sg3 a b b,rfl⟩
  split at h
  ·rename_i c;obtain ⟨rfl,rfl⟩:=c
   exact ⟨_,Qae (i:=15) rfl,rfl,sg3 a b b,rfl⟩
  split at h
  ·rename_i c;obtain ⟨rfl,rfl⟩:=c
   exact ⟨_,Qae (i:=16) rfl,rfl,sg3 a b b,rfl⟩
  split at h
  ·rename_i c;obtain ⟨rfl,rfl,e⟩:=c
   have e:=WR hk g.2.1 g.2.2 e;subst e;exact ⟨_,Qae (i:=19) rfl,rfl,sg3 a a a,rfl⟩
  split at h
  ·rename_i c;obtain ⟨rfl,f,e⟩:=c
   have e:=WR hk g.2.1 g.2.2 e;subst e;simp only [aoL,Qas,Qb6,Qew] at f;rcases f with rfl | rfl
   ·exact ⟨_,Qae (i:=20) rfl,rfl,sg3 a a a,rfl⟩
   ·exact ⟨_,Qae (i:=21) rfl,rfl,sg3 a a a,rfl⟩
  split at h
  ·rename_i c;obtain ⟨rfl,f,e⟩:=c
   have e:=I g.2.2 e;subst e;simp only [Zc3,Qas,Qb6,Qew] at f;rcases f with rfl | rfl | rfl | rfl
   ·exact ⟨_,Qae (i:=22) rfl,rfl,sg3 a a a,rfl⟩
   ·exact ⟨_,Qae (i:=23) rfl,rfl,sg3 a a a,rfl⟩
   ·exact ⟨_,Qae (i:=24) rfl,rfl,sg3 a a a,rfl⟩
   ·exact ⟨_,Qae (i:=25) rfl,rfl,sg3 a a a,rfl⟩
  ·cases h
def hdS(t:Tm):Str:=match t.hd with
 | .str y=>y
 | _ => ""
theorem wY:∀e∈turns,∃y,e.2.1.hd=.str y/\∀σ,(e.2.1.sub σ).hd=.str y:=by
 intro e he;simp only [turns,Qas,Qb6,Qew] at he;rcases he with rfl | rfl | rfl | rfl | rfl | rfl | rfl | rfl | rfl | rfl | rfl | rfl | rfl | rfl | rfl | rfl | rfl | rfl | rfl | rfl | rfl | rfl | rfl | rfl | rfl | rfl <;> exact ⟨_,rfl,fun _=>rfl⟩
theorem fit_hd{e:Str × Tm × Tm}(he:e∈turns){s:Tm}(h:Fit e s):hdS e.2.1=hdS s:=by
 obtain ⟨y,h1,h2⟩:=wY e he;obtain ⟨σ,rfl⟩:=h;unfold hdS;rw [h1,h2]
theorem rls_nd:∀h∈Wo,((rls h turns).map fun e=>hdS e.2.1).Nodup:=by decide +kernel
theorem yg:turns=Wo.flatMap fun h=>rls h turns:=by rfl
theorem qg{α β:Type}{F:α->Bool}{k:α->β}{c:β}:∀{l:List α},(l.map k).Nodup->(∀e∈l,F e=true->k e=c)->∀e∈l,F e=true->l.filter F=[e]
 | [],_,_,e,he,_=>by cases he
 | x::l,g,hc,e,he,f=>by
  obtain ⟨y,E⟩:=Qco.mp (show (k x::l.map k).Nodup from g);have off:∀z∈l,F x=true->F z=false:=fun z d hx=>by
   cases q:F z with
   | false=>rfl
   | true=>exact absurd (Qbp.mpr ⟨z,d,(hc z (Qar _ d) q).trans (hc x Qaq hx).symm⟩) y
  by_cases hx:F x=true
  ·rw [Qde hx,List.filter_eq_nil_iff.mpr fun z d=>by rw [off z d hx];exact Qav]
   rcases Qas.mp he with rfl | m
   ·rfl
   ·rw [off e m hx] at f;cases f
  ·rw [Qdf hx]
   rcases Qas.mp he with rfl | m
   ·exact absurd f hx
   ·exact qg E (fun z d=>hc z (Qar _ d)) e m f
open Classical in
theorem wZ{ys:List Str}(hk:NK ys){s:Tm}(hs:s.ok ys){h:Str}(hh:h∈Wo):((rls h turns).filter fun e=>decide (Fit e s)).map (·.1)=if (trn h s).isSome then [h] else []:=by
 by_cases c:∃e∈rls h turns,Fit e s
 ·obtain ⟨e,he,hf⟩:=c
  obtain ⟨f,d⟩:=Qbz.mp he;have d:e.1=h:=Qap d;rw [qg (l:=rls h turns) (k:=fun e=>hdS e.2.1) (c:=hdS s) (rls_nd h hh) (fun z g q=>fit_hd (Qbz.mp g).1 (Qap q)) e he (Qad hf)];obtain ⟨σ,rfl⟩:=hf;have:=kr f σ;rw [d] at this;rw [this];show [e.1]=[h];rw [d]
 ·rw [List.filter_eq_nil_iff.mpr fun e he q=>c ⟨e,he,Qap q⟩]
  cases q:trn h s with
  | none=>rfl
  | some x =>
   obtain ⟨e,h1,h2,y⟩:=ku hk hs q;exact absurd ⟨e,Qbz.mpr ⟨h1,Qad h2⟩,y⟩ c
theorem kx{α:Type}{p:α->Bool}:∀l:List α,(l.flatMap fun h=>if p h=true then [h] else [])=l.filter p
 | []=>rfl
 | x::l=>by
  rw [Qca,kx l];cases q:p x with
  | true=>rw [Qa4 rfl,Qde q];rfl
  | false=>rw [Qa5 Qav,Qdf (by rw [q];exact Qav)];rfl
theorem Xi{α β:Type}{f g:α->List β}:∀{l:List α},(∀x∈l,f x=g x)->l.flatMap f=l.flatMap g
 | [],_=>rfl
 | x::l,h=>by rw [Qca,Qca,h x Qaq,Xi fun z d=>h z (Qar _ d)]
open Classical in
theorem gb{ys:List Str}(hk:NK ys){s:Tm}(hs:s.ok ys):(turns.filter fun e=>decide (Fit e s)).map (·.1)=Wo.filter fun h=>(trn h s).isSome:=by
 rw [yg,List.filter_flatMap,List.map_flatMap,<-kx];exact Xi fun h hh=>wZ hk hs hh
theorem ky(t:Tm):∀(p r:List Int),t.nds (p++r)=(t.nds r).map fun z=>(p++z.1,z.2):=by
 induction t with
 | lf w=>intro p r;rfl
 | one y a g =>
  intro p r;show _::a.nds (p++r++[0])=_::(a.nds (r++[0])).map _;rw [Qbb,g]
 | two y a b f d =>
  intro p r;show _::(a.nds (p++r++[0])++b.nds (p++r++[1]))=_::(a.nds (r++[0])++b.nds (r++[1])).map _;rw [Qbb,Qbb,f,d,Qa7]
 | thr y a b c f d E =>
  intro p r;show _::(a.nds (p++r++[0])++(b.nds (p++r++[1])++c.nds (p++r++[2])))=_::(a.nds (r++[0])++(b.nds (r++[1])++c.nds (r++[2]))).map _;rw [Qbb,Qbb,Qbb,f,d,E,Qa7,Qa7]
def kn:List Tm->Nat->List (List Int × Tm)
 | [],_=>[]
 | t::r,j=>((t.nds []).map fun z=>((j:Int)::z.1,z.2))++kn r (j + 1)
theorem ur:∀(u v:List Tm) (j:Nat),kn (u++v) j=kn u j++kn v (j + u.length)
 | [],v,j=>rfl
 | t::u,v,j=>by
  show _++kn (u++v) (j + 1)=(_++kn u (j + 1))++kn v (j + (u.length + 1));rw [ur u v (j + 1),Qbb,show j + 1 + u.length=j + (u.length + 1) by lia]
theorem Gx(t:Tm):t.nds []=([],t)::kn t.kids 0:=by
 have s:∀(a:Tm) (k:Int),a.nds ([]++[k])=(a.nds []).map fun z=>(k::z.1,z.2):=fun a k=>ky a [k] [];cases t with
 | lf w=>rfl
 | one y a =>
  show _::a.nds ([]++[0])=_::(_++[]);rw [s,Qax]
  rfl
 | two y a b =>
  show _::(a.nds ([]++[0])++b.nds ([]++[1]))=_::(_++(_++[]));rw [s,s,Qax]
  rfl
 | thr y a b c =>
  show _::(a.nds ([]++[0])++(b.nds ([]++[1])++c.nds ([]++[2])))=_::(_++(_++(_++[])));rw [s,s,s,Qax]
  rfl
theorem yh:∀(ts:List Tm) (d i:Nat) (q:List Int) (s:Tm),(kn ts d)[i]?=some (q,s)->∃j f t' q',ts[j]?=some t'/\q=((d + j:Nat):Int)::q'/\(t'.nds [])[f]?=some (q',s)/\i=(Zq (ts.take j)).length + f
 | [],d,i,q,s,h=>by cases h
 | t::r,d,i,q,s,h=>by
  have hl:((t.nds []).map fun z=>((d:Int)::z.1,z.2)).length=t.flat.length:=by rw [Qaz,t.nds_len]
  rcases Qf4 i t.flat.length with c | c
  ·have h:(((t.nds []).map fun z=>((d:Int)::z.1,z.2))++kn r (d + 1))[i]?=some (q,s):=h
   rw [Qdx (by rw [hl];exact c),Qbc] at h;cases e:(t.nds [])[i]? with
   | none=>rw [e] at h;cases h
   | some z =>
    rw [e] at h;have h:((d:Int)::z.1,z.2)=(q,s):=Option.some.inj h;have g:z.2=s:=congrArg Prod.snd h;exact ⟨0,i,t,z.1,rfl,(congrArg Prod.fst h).symm,by rw [e,<-g],(Qe8 i).symm⟩
  ·have h:(((t.nds []).map fun z=>((d:Int)::z.1,z.2))++kn r (d + 1))[i]?=some (q,s):=h
   rw [Qcv (by rw [hl];exact c),hl] at h;obtain ⟨j,f,t',q',h1,h2,y,E⟩:=yh r (d + 1) _ q s h;refine ⟨j + 1,f,t',q',h1,by rw [h2,show d + 1 + j=d + (j + 1) by lia],y,?_⟩;show i=(t.flat++Zq (r.take j)).length + f;rw [Qab];lia
def Tm.re:Tm->List Tm->Tm
 | .one y _,[a]=>.one y a
 | .two y _ _,[a,b]=>.two y a b
 | .thr y _ _ _,[a,b,c]=>.thr y a b c
 | t,_=>t
theorem Tm.re_flat{t:Tm}{ts:List Tm}(h:ts.length=t.kids.length):(t.re ts).flat=t.hd::Zq ts:=by
 cases t with
 | lf w =>
  have:ts=[]:=Qdi h;subst this
  rfl
 | one y a =>
  match ts,h with
  | [b],_=>exact congrArg (V.str y::·) (Qax _).symm
 | two y a b =>
  match ts,h with
  | [c,d],_=>exact congrArg (fun z=>V.str y::(c.flat++z)) (Qax _).symm
 | thr y a b c =>
  match ts,h with
  | [d,e,f],_=>exact congrArg (fun z=>V.str y::(d.flat++(e.flat++z))) (Qax _).symm
def qh:Tm->List Int->Tm->Tm
 | _,[],x=>x
 | t,k::q,x=>t.re (t.kids.set k.toNat (qh ((t.kids[k.toNat]?).getD t) q x))
theorem WT{ts:List Tm}{j:Nat}{t' x:Tm}(h:ts[j]?=some t'):Zq (ts.set j x)=Zq (ts.take j)++(x.flat++Zq (ts.drop (j + 1)))/\Zq ts=Zq (ts.take j)++(t'.flat++Zq (ts.drop (j + 1))):=by
 have d:=(Qah.mp h);have e:ts=ts.take j++(t'::ts.drop (j + 1)):=by
  obtain ⟨h1,h2⟩:=d;rw [<-h2,<-Qbx h1,Qdq]
 constructor
 ·rw [List.set_eq_take_append_cons_drop,Qa4 d.1,Yi]
  rfl
 ·have:=congrArg Zq e
  rw [Yi] at this;exact this
theorem jB:∀(n:Nat) (t:Tm),t.flat.length<=n->∀i q s,(t.nds [])[i]?=some (q,s)->∃u v,u.length=i/\t.flat=u++(s.flat++v)/\∀x,(qh t q x).flat=u++(x.flat++v):=by
 intro n
 induction n with
 | zero=>intro t h;have:=t.flat_pos;lia
 | succ n y =>
  intro t hn i q s h;rw [Gx] at h;cases i with
  | zero =>
   have h:=Option.some.inj h;have e1:q=[]:=(congrArg Prod.fst h).symm;have e2:s=t:=(congrArg Prod.snd h).symm;subst e1 e2;exact ⟨[],[],rfl,(Qax _).symm,fun x=>by unfold qh;exact (Qax _).symm⟩
  | succ i =>
   obtain ⟨j,f,t',q',h1,h2,G,E⟩:=yh t.kids 0 i q s h;have g:=qT (Qae h1);obtain ⟨u,v,hu,hf,hp⟩:=y t' (by lia) f q' s G;rw [Qe8] at h2;subst h2;obtain ⟨_,d⟩:=WT (x:=t') h1;refine ⟨t.hd::(Zq (t.kids.take j)++u),v++Zq (t.kids.drop (j + 1)),by rw [Qan,Qab,hu,E],?_,fun x=>?_⟩
   ·rw [t.flat_eq,d,hf]
    simp
   ·unfold qh
    rw [Qbw,h1,Tm.re_flat (by rw [Qf0]),(WT h1).1];show _::(_++((qh t' q' x).flat++_))=_;rw [hp];simp
def Zbz(d:Tm):List (List Int × Str × Tm):=(d.nds []).flatMap fun p=>Wo.filterMap fun h=>(trn h p.2).map fun x=>(p.1,h,qh d p.1 x)
theorem X6{β γ:Type}(g:Str->Option β)(f:Str->β->γ)(k:γ->Str)(hk:∀h x,k (f h x)=h):∀l:List Str,(l.filterMap fun h=>(g h).map (f h)).map k=l.filter fun h=>(g h).isSome
 | []=>rfl
 | h::l=>by
  cases q:g h with
  | none=>rw [List.filterMap_cons_none (by rw [q];rfl),Qdf (by rw [q];exact Qav)];exact X6 g f k hk l
  | some x =>
   rw [List.filterMap_cons_some (b:=f h x) (by rw [q];rfl),Qde (by rw [q];rfl),Qa3,hk,X6 g f k hk l]
theorem kz{ys:List Str}{t:Tm}(h:t.ok ys){p:List Int × Tm}(hp:p∈t.nds []):p.2.ok ys:=by
 obtain ⟨i,hi⟩:=Qbq hp;obtain ⟨u,v,f,_,C⟩:=t.ctx [] i p.1 p.2 hi;exact (C.ok ys h).1
theorem XT{ys:List Str}(hk:NK ys){f:Tm}(g:f.ok ys):ZS f=(Zbz f).map fun d=>(d.1,d.2.1):=by
 unfold ZS Zbz;rw [List.map_flatMap];refine Xi fun p hp=>?_;have e:=gb hk (kz g hp);have e2:=X6 (fun h=>trn h p.2) (fun h x=>((p.1,h,qh f p.1 x):List Int × Str × Tm)) (fun d=>d.2.1) (fun _ _=>rfl) Wo;rw [<-e] at e2;have e3:=congrArg (List.map fun h=>(p.1,h)) e2.symm;rw [Qdp,Qdp] at e3;refine e3.trans ?_;refine Qdd fun d hd=>?_;obtain ⟨h,_,hd⟩:=Qdn.mp hd;cases q:trn h p.2 with
 | none=>rw [q] at hd;cases hd
 | some x=>rw [q] at hd;rw [<-Option.some.inj hd];rfl
theorem Zbk{d g x:Tm}{q:List Int}{r:Str}{s:Tm}(h:Stp d q r g)(hi:(d.nds [])[i]?=some (q,s))(hx:trn r s=some x):g.flat=(qh d q x).flat:=by
 obtain ⟨J,sm,m,e,σ,u,v,f,hn,hu,C,hm,_,G,rfl⟩:=h;have S:J=i:=JS (d.nds_nd []) (qd hn) (qd hi);subst S;rw [hn] at hi;have es:sm=s:=congrArg Prod.snd (Option.some.inj hi);subst es;obtain ⟨O,L⟩:=Qbz.mp (Qae hm);have t1:=kr O σ;rw [G,(Qap L:e.1=r),hx] at t1;have ex:=Option.some.inj t1;obtain ⟨W,U,E,I,y⟩:=jB _ d (Qao _) J q sm hn;have h1:=C.here;rw [I] at h1;obtain ⟨e1,e2⟩:=Qe4 h1 (E.trans hu.symm);have e3:=Qd9 e2;rw [C.put,y,e1,e3,ex]
def Zbl(H:Hp)(v:V)(z:List Int × Tm):Prop:=∃a b c,v=.ref a/\H a=some (.tup [.ref b,.ref c])/\H b=some (.tup (z.1.map V.int))/\H c=some (.tup z.2.flat)
theorem Zbl.same{H H':Hp}{v:V}{z:List Int × Tm}(h:Zbl H v z)(s:Z0 H H'):Zbl H' v z:=let ⟨a,b,c,e,h1,h2,h3⟩:=h;⟨a,b,c,e,s _ _ h1,s _ _ h2,s _ _ h3⟩
theorem Yg{c:Addr}{xs ys:List V}(h:H a=some (.tup u))(hc:H c=some (.lst xs)):upd H c (.lst ys) a=some (.tup u):=by rw [Zs (XI h hc (fun z=>nomatch z))];exact h
theorem Zbl.put{v:V}{z:List Int × Tm}{c:Addr}{xs ys:List V}(h:Zbl H v z)(hc:H c=some (.lst xs)):Zbl (upd H c (.lst ys)) v z:=let ⟨a,b,d,e,h1,h2,h3⟩:=h;⟨a,b,d,e,Yg h1 hc,Yg h2 hc,Yg h3 hc⟩
def JG(H:Hp)(d:List V)(zs:List (List Int × Tm)):Prop:=Paired (Zbl H) d zs
theorem JG.same{H H':Hp}{d:List V}{zs:List (List Int × Tm)}(h:JG H d zs)(s:Z0 H H'):JG H' d zs:=Paired.mapP h fun _ _ z=>z.same s
theorem JG.put{H:Hp}{d:List V}{zs:List (List Int × Tm)}{c:Addr}{xs ys:List V}(h:JG H d zs)(hc:H c=some (.lst xs)):JG (upd H c (.lst ys)) d zs:=Paired.mapP h fun _ _ z=>z.put hc
def Zbm(H:Hp)(v:V)(d:List Int × Str × Tm):Prop:=∃a b c,v=.ref a/\H a=some (.tup [.ref b,.str d.2.1,.ref c])/\H b=some (.tup (d.1.map V.int))/\H c=some (.tup d.2.2.flat)
theorem Zbm.same{H H':Hp}{v:V}{z:List Int × Str × Tm}(h:Zbm H v z)(s:Z0 H H'):Zbm H' v z:=let ⟨a,b,c,e,h1,h2,h3⟩:=h;⟨a,b,c,e,s _ _ h1,s _ _ h2,s _ _ h3⟩
theorem Zbm.put{v:V}{z:List Int × Str × Tm}{c:Addr}{xs ys:List V}(h:Zbm H v z)(hc:H c=some (.lst xs)):Zbm (upd H c (.lst ys)) v z:=let ⟨a,b,d,e,h1,h2,h3⟩:=h;⟨a,b,d,e,Yg h1 hc,Yg h2 hc,Yg h3 hc⟩
def JH(H:Hp)(d:List V)(zs:List (List Int × Str × Tm)):Prop:=Paired (Zbm H) d zs
theorem JH.same{H H':Hp}{d:List V}{zs:List (List Int × Str × Tm)}(h:JH H d zs)(s:Z0 H H'):JH H' d zs:=Paired.mapP h fun _ _ z=>z.same s
theorem JH.put{H:Hp}{d:List V}{zs:List (List Int × Str × Tm)}{c:Addr}{xs ys:List V}(h:JH H d zs)(hc:H c=some (.lst xs)):JH (upd H c (.lst ys)) d zs:=Paired.mapP h fun _ _ z=>z.put hc
structure Gives(te:TE)(σ:St)(H0:Hp)(ws:List V)(n:Nat):Prop where
 l:ws.length<=n
 g:∀(H:Hp) (Q:VK),Z0 H0 H->(∀p H',Z0 H H'->H' p=some (.tup ws)->Q (.ref p) H')->te σ H Q
theorem Gives.eq{σ:St}(h:Gives d σ H u n)(e:u=B):Gives d σ H B n:=e ▸ h
theorem Gy{σ:St}{p:Addr}(d:σ[i]?=some (some (.ref p)))(h:S p=some (.tup u))(hl:u.length<=n):Gives (zQ i) σ S u n:=⟨hl,fun H Q s k=>⟨.ref p,d,k p H (Z0.refl _) (s _ _ h)⟩⟩
theorem jC{ta:TA}{σ:St}{xs:List V}(n:Nat)(h:∀(H:Hp) (R:List V->Hp->Prop),R xs H->ta σ H R)(hl:xs.length<=n)(hn:n<=1000):Gives (gC ta) σ S xs n:=⟨hl,fun H Q s k=>h H _ ⟨Qbg (Zv (by lia)),fun p hp=>k p _ (Zd hp) Zc⟩⟩
theorem Z2{σ:St}{m:Nat}(a:Gives d σ S u n)(b:Gives Y σ S B m)(h:n + m<=1000:=by decide):Gives (tOp Zap d Y) σ S (u++B) (n + m):=by
 have J:=a.l;have L:=b.l;refine ⟨by rw [Qab];lia,fun H Q s k=>a.g H _ s fun p H1 f h1=>b.g H1 _ (s.trans f) fun q H2 y h2=>⟨p,q,u,B,rfl,rfl,y _ _ h1,h2,Qbg (Zv (by lia)),fun t E G I=>k t E (f.trans (y.trans I)) G⟩⟩
theorem JI{σ:St}{v:V}:Gives (gC (GD (tC v) uQ)) σ H [v] 1:=jC 1 (fun _ _ h=>h) (Qao _) (by decide)
theorem xS{σ:St}{v u:V}:Gives (gC (GD (tC v) (GD (tC u) uQ))) σ H [v,u] 2:=jC 2 (fun _ _ h=>h) (Qao _) (by decide)
theorem qU{σ:St}{l q:Addr}{xs:List V}(d:σ[i]?=some (some (.ref l)))(hl:S l=some (.lst xs))(hx:atI xs j=some (.ref q))(f:S q=some (.tup u))(hn:u.length<=n):Gives (tOp (rIxL K) (zQ i) (tC (.int j))) σ S u n :=
 ⟨hn,fun H Q s k=>⟨.ref l,d,l,xs,j,.ref q,rfl,rfl,SqL.of (s _ _ hl),hx,k q H (Z0.refl _) (s _ _ f)⟩⟩
theorem str_inj{a b:Str}[Decidable (V.str a=V.str b)](c:decide (V.str a=V.str b)=true):a=b:=by
 have:=Qap c;injection this
theorem k6(t:Tm):atI t.flat 0=some t.hd:=by rw [t.flat_eq];exact Yk (j:=0) rfl
theorem xT{xs:List V}{c d:Tm}(h:XH H xs [c,d]):∃p q,xs=[.ref p,.ref q]/\H p=some (.tup c.flat)/\H q=some (.tup d.flat):=by
 cases h with
 | cons h1 h =>
  cases h with
  | cons h2 h =>
   cases h;obtain ⟨p,rfl,hp⟩:=h1;obtain ⟨q,rfl,f⟩:=h2;exact ⟨p,q,rfl,hp,f⟩
theorem k7:∀y∈yu,y∈Jp/\ZR y=2:=by decide +kernel
theorem zJ{b:Bool}{A B:Prop}(h:b=true)(a:A):if b=true then A else B:=by rw [Qa4 h];exact a
theorem qi{n z:Int}[Decidable (V.int n=V.int z)](h:n≠z):¬(decide (V.int n=V.int z)=true):=fun c=>h (by have:=Qap c;injection this)
theorem tr_one{xs:List V}{c:Tm}(h:XH H xs [c]):∃p,xs=[.ref p]/\H p=some (.tup c.flat):=by
 cases h with
 | cons h1 h =>
  cases h;obtain ⟨p,rfl,hp⟩:=h1;exact ⟨p,rfl,hp⟩
theorem gf{xs:List V}{c d e:Tm}(h:XH H xs [c,d,e]):∃p q r,xs=[.ref p,.ref q,.ref r]/\H p=some (.tup c.flat)/\H q=some (.tup d.flat)/\H r=some (.tup e.flat):=by
 cases h with
 | cons h1 h =>
  obtain ⟨q,r,rfl,f,hr⟩:=xT h;obtain ⟨p,rfl,hp⟩:=h1;exact ⟨p,q,r,rfl,hp,f,hr⟩
theorem yi{β:Type}{F:D->β->Prop}{a:List D}{b:List β}{x:D}{y:β}(h:Paired F a b)(hx:F x y):∀j,Paired F (a.set j x) (b.set j y):=by
 induction h with
 | nil=>intro j;exact .nil
 | cons h1 h2 d =>
  intro j;cases j with
  | zero=>exact .cons hx h2
  | succ j=>exact .cons h1 (d j)
theorem ixN_j{j:Nat}(h:j < n):ixN n (j:Int)=some j:=by
 unfold ixN;rw [Qa4 (by lia),Qa4 (by lia),Qbw]
theorem Zbn(l:List Int):∀w∈l.map V.int,SI w:=fun w hw=>by
 obtain ⟨z,_,rfl⟩:=Qbp.mp hw;exact .inl ⟨z,rfl⟩
theorem kids3(t:Tm):t.kids.length<=3:=by cases t <;> show _<=3 <;> simp [Tm.kids]
theorem nds_pl:∀(n:Nat) (t:Tm),t.flat.length<=n->∀z∈t.nds [],z.1.length<=n:=by
 intro n
 induction n with
 | zero=>intro t h;have:=t.flat_pos;lia
 | succ n g =>
  intro t hn z f;obtain ⟨i,hi⟩:=Qbq f;rw [Gx] at hi;cases i with
  | zero =>
   rw [<-Option.some.inj hi];exact Qa8 _
  | succ i =>
   obtain ⟨j,E,t',q',h1,h2,y,G⟩:=yh t.kids 0 i z.1 z.2 hi;have d:=qT (Qae h1);have:=g t' (by lia) (q',z.2) (Qae y);rw [h2,Qan];exact Qfs this
theorem gh{t:Tm}{m:Nat}{z:List Int × Tm}(h:(t.nds [])[m]?=some z)(hl:t.flat.length<=900):z.1.length<=900:=Qa0 (nds_pl _ t (Qao _) z (Qae h)) hl
theorem Zbo{ys:List Str}(hk:NK ys){s:Tm}(hs:s.ok ys){d:Str}{x:Tm}(h:trn d s=some x):x.flat.length<=2 * s.flat.length + 2:=by
 obtain ⟨e,h1,h2,σ,rfl⟩:=ku hk hs h;have:=kr h1 σ;rw [h2,h] at this;rw [Option.some.inj this];exact xN e h1 σ
theorem nds_sl{t:Tm}{p:List Int × Tm}(hp:p∈t.nds []):p.2.flat.length<=t.flat.length:=by
 obtain ⟨i,hi⟩:=Qbq hp;obtain ⟨u,v,f,_,C⟩:=t.ctx [] i p.1 p.2 hi;have:=congrArg List.length C.here;rw [Qab,Qab] at this;lia
def k8(d:Tm)(hs:List Str)(p:List Int × Tm):List (List Int × Str × Tm):=hs.filterMap fun h=>(trn h p.2).map fun x=>(p.1,h,qh d p.1 x)
theorem k9{d:Tm}{hs:List Str}{h:Str}{p:List Int × Tm}(e:trn h p.2=none):k8 d (hs++[h]) p=k8 d hs p:=by
 unfold k8;rw [List.filterMap_append,List.filterMap_cons_none (by rw [e];rfl)];exact Qax _
theorem kA{d x:Tm}{hs:List Str}{h:Str}{p:List Int × Tm}(e:trn h p.2=some x):k8 d (hs++[h]) p=k8 d hs p++[(p.1,h,qh d p.1 x)]:=by
 unfold k8;rw [List.filterMap_append,List.filterMap_cons_some (b:=(p.1,h,qh d p.1 x)) (by rw [e];rfl)]
 rfl
theorem Zbp{u v:V}{d:List Int × Str}(hu:WE H u d)(hv:WE H v d):EqB H 3 u v true:=by
 obtain ⟨a,b,rfl,ha,hb⟩:=hu;obtain ⟨G,I,rfl,E,g⟩:=hv;refine .inr ⟨a,G,_,_,fun _=>true,rfl,rfl,ha,E,rfl,fun j x y hx f=>?_⟩
 match j,hx,f with
 | 0,hx,f =>
  cases hx;cases f;have:=zI (H:=H) (n:=1) (u:=.ref b) (q:=d.1) (r:=d.1) ⟨b,rfl,hb⟩ g;rw [Qad rfl] at this;exact this
 | 1,hx,f =>
  cases hx;cases f;exact .inl ⟨rfl,rfl,(qw rfl).symm⟩
theorem gi{xs ys:List V}{ds:List (List Int × Str)}(h1:Yu H xs ds)(h2:Yu H ys ds):∀(j:Nat) (u v:V),xs[j]?=some u->ys[j]?=some v->EqB H 3 u v true:=fun j u v hu hv=>by
 obtain ⟨d,hd,a⟩:=Zw h1 hu;obtain ⟨d',f,b⟩:=Zw h2 hv;rw [hd] at f;cases f;exact Zbp a b
theorem kB(d:Tm):(Zbz d).length<=16 * d.flat.length:=by
 have:∀l:List (List Int × Tm),(l.flatMap (k8 d Wo)).length<=16 * l.length:=fun l=>by
  induction l with
  | nil=>exact Qao _
  | cons p l f =>
   rw [Qca,Qab,Qan];have h:(k8 d Wo p).length<=16:=List.length_filterMap_le _ Wo;lia
 have h:=this (d.nds []);rw [d.nds_len] at h;exact h
theorem Zbq{f:Tm}{d:List Int × Str × Tm}(h:d∈Zbz f):∃(i:Nat) (s x:Tm),(f.nds [])[i]?=some (d.1,s)/\trn d.2.1 s=some x/\d.2.2=qh f d.1 x:=by
 obtain ⟨p,hp,h⟩:=Qfw.mp h;obtain ⟨h',_,h⟩:=Qdn.mp h;obtain ⟨i,hi⟩:=Qbq hp;cases e:trn h' p.2 with
 | none=>rw [e] at h;cases h
 | some x =>
  rw [e] at h;have h:=Option.some.inj h;subst h;exact ⟨i,p.2,x,hi,e,rfl⟩
open Classical in
theorem Zbr{d sm:Tm}{q:List Int}{r:Str}{m:Nat}{e:Str × Tm × Tm}(h:(d.nds [])[i]?=some (q,sm))(he:(rls r turns)[m]?=some e)(hf:Fit e sm):(q,r)∈ZS d:=by
 have h1:=Qbz.mp (Qae he);have h2:e.1=r:=Qap h1.2;unfold ZS;exact Qfw.mpr ⟨(q,sm),Qae h,Qbp.mpr ⟨e,Qbz.mpr ⟨h1.1,Qad hf⟩,by rw [h2]⟩⟩
inductive Ref:Tm->List (List Int × Str)->Prop
 | here {tm:Tm} {x:List Int × Str} {c:List (List Int × Str)}:x∉ZS tm->tm.flat.length<=300->Ref tm (x::c)
 | next {tm:Tm} {x:List Int × Str} {c:List (List Int × Str)}:x∈ZS tm->tm.flat.length<=300->(∀t',Stp tm x.1 x.2 t'->Ref t' c)->Ref tm (x::c)
def uu(x:List Int × Str):Prop:=x.1.length<=100/\(∀n∈x.1,n.natAbs.log2 < 1920)/\(reprText x.2).length<=1000
theorem gj{t s:Tm}(h:([],s)∈t.nds []):s=t:=by
 rw [Gx] at h;rcases Qas.mp h with e | e
 ·exact congrArg Prod.snd e
 ·obtain ⟨i,hi⟩:=Qbq e
  obtain ⟨_,_,_,_,_,e2,_⟩:=yh _ _ _ _ _ hi;cases e2
theorem JT{t s:Tm}{k:Int}{q:List Int}(h:(k::q,s)∈t.nds []):∃(j:Nat) (t':Tm),t.kids[j]?=some t'/\k=(j:Int)/\(q,s)∈t'.nds []:=by
 rw [Gx] at h;rcases Qas.mp h with e | e
 ·cases congrArg Prod.fst e
 ·obtain ⟨i,hi⟩:=Qbq e
  obtain ⟨j,y,t',q',h1,h2,g,_⟩:=yh _ _ _ _ _ hi;rw [Qe8] at h2;injection h2 with f d;subst d;exact ⟨j,t',h1,f,Qae g⟩
theorem qV:∀(q:List Int) (t s s':Tm) (k:Int),(q,s)∈t.nds []->(q++[k],s')∈t.nds []->0<=k/\k < (s.kids.length:Int)
 | [],t,s,s',k,h,h'=>by
  have e:=gj h;subst e;obtain ⟨j,t',h1,h2,_⟩:=JT h';have:=(Qah.mp h1).1;lia
 | j0::q,t,s,s',k,h,h'=>by
  obtain ⟨j,t',h1,h2,g⟩:=JT h;obtain ⟨j2,t2,d,y,f⟩:=JT (q:=q++[k]) h';have e:j2=j:=by lia
  subst e;rw [h1] at d;cases d;exact qV q t' s s' k g f
theorem Js(t:Tm):t.kids.length<=3:=by
 cases t with
 | lf w=>exact Qa8 _
 | one y a=>show 1<=3;decide
 | two y a b=>show 2<=3;decide
 | thr y a b c=>show 3<=3;decide
theorem G1{d:Tm}{q:List Int}{r:Str}(h:(q,r)∈ZS d):∃s,(q,s)∈d.nds []:=by
 obtain ⟨i,sm,h1,_⟩:=WS h;exact ⟨sm,Qae h1⟩
theorem gk{d s:Tm}{q:List Int}{k:Int}{r:Str}(h:(q,s)∈d.nds [])(hk:k < 0\/(s.kids.length:Int)<=k):(q++[k],r)∉ZS d:=fun z=>by
 obtain ⟨s',h'⟩:=G1 z;have:=qV q d s s' k h h';lia
theorem gm{d:Tm}{r:Str}:([9],r)∉ZS d:=fun z=>by
 obtain ⟨s',h'⟩:=G1 z;have f:([],d)∈d.nds []:=by rw [Gx];exact Qaq
 have:=qV [] d d s' 9 f h';have:=Js d;lia
theorem G2:∀(n:Nat) (t:Tm),t.flat.length<=n->∀q s,(q,s)∈t.nds []->q.length<=n/\∀k∈q,0<=k/\k < 3
 | 0,t,h,q,s,_=>by have:=t.flat_pos;lia
 | n + 1,t,h,[],s,_=>⟨Qa8 _,fun k hk=>nomatch hk⟩
 | n + 1,t,h,k::q,s,hm=>by
  obtain ⟨j,t',h1,h2,f⟩:=JT hm;have g:=(Qah.mp h1).1;have k3:=Js t;have hl:t'.flat.length<=n:=by
   have e:=congrArg List.length t.flat_eq;rw [Qan] at e;have e2:=(WT (x:=t') h1).2;have e3:=congrArg List.length e2;rw [Qab,Qab] at e3;lia
  obtain ⟨a,b⟩:=G2 n t' hl q s f;refine ⟨by rw [Qan];lia,fun z d=>?_⟩;rcases Qas.mp d with e | e
  ·subst e;lia
  ·exact b z e
theorem zK{n:Int}(h:n.natAbs < 2 ^ 1900):n.natAbs.log2 < 1920:=by
 by_cases z:n.natAbs=0
 ·rw [z];decide
 ·have:=(Nat.log2_lt z).mpr h
  lia
theorem xU{σ:St}{Q:VK}{ld:Addr}{ds:List (List Int × Str × Tm)}(hld:H ld=some (.lst u))(D:JH H u ds)(hl:u.length<=900)
  (k:∀p ys H',H p=none->H' p=some (.lst ys)->Yu H' ys (ds.map fun d=>(d.1,d.2.1))->Z0 H H'->Q (.ref p) H'):vI K [] Zbv (gC (GD (zQ 0) (GD (zQ 1) uQ))) σ Q (Itl K ld) H:=by
 refine ya (K:=K) (a:=ld) (xs:=u) (fun i zs H'=>Yu H' zs ((ds.take i).map fun d=>(d.1,d.2.1))/\zs.length<=i/\i<=u.length/\Z0 H H') ⟨.nil,Qao _,Qa8 _,Z0.refl _⟩ (fun i zs H' ⟨_,h1,h2,_⟩=>Qbg (Zv (by lia))) (fun i zs H' ⟨_,_,_,s⟩=>SqL.of (s _ _ hld)) ?_ ?_
 ·rintro i x zs H' R g hx ⟨S,y,hi,s⟩
  have f:=(Qah.mp hx).1;obtain ⟨d,hd,a,b,c,rfl,ha,hb,hc⟩:=Zw D hx;refine ⟨a,_,_,_,rfl,SqT.of (s _ _ ha),?_⟩;unfold Zbv
  try dsimp only
  rw [Qa4 rfl];refine ⟨_,rfl,_,rfl,by show 2<=sizeLine;decide,fun p hp=>g _ _ ⟨?_,by rw [Qab];show _ + 1<=_;lia,f,s.trans (Zd hp)⟩⟩;rw [Z6 hd,Qa7];exact (S.same (Zd hp)).snoc (b:=(d.1,d.2.1)) ⟨p,b,rfl,Zc,(s.trans (Zd hp)) _ _ hb⟩
 ·rintro zs H' ⟨S,y,hi,s⟩ p hp
  rw [D.length,Qbo] at S;exact k p zs _ (s.free hp) Zc (S.same (Zd hp)) (s.trans (Zd hp))
theorem gn{u v:V}{x y:List Int × Str}(h:WE H u x)(g:WE H v y):EqB H 3 u v (decide (x=y)):=by
 obtain ⟨a,b,rfl,ha,hb⟩:=h;obtain ⟨E,G,rfl,f,d⟩:=g;refine .inr ⟨a,E,_,_,fun j=>match j with | 0=>decide (x.1=y.1) | _=>decide (x.2=y.2),rfl,rfl,ha,f,?_,fun j u v hu hv=>?_⟩
 ·show _=((List.range 2).all _ && true)
  rw [Qdu];show _=(decide (x.1=y.1) && (decide (x.2=y.2) && true));rw [Qdu,<-Bool.decide_and,Qdy];exact Prod.ext_iff
 ·match j,hu,hv with
  | 0,hu,hv =>
   cases hu;cases hv;exact zI (H:=H) (n:=1) (u:=.ref b) ⟨b,rfl,hb⟩ d
  | 1,hu,hv =>
   cases hu;cases hv;refine .inl ⟨rfl,rfl,?_⟩;show decide (x.2=y.2)=(x.2 == y.2)
   by_cases e:x.2=y.2
   ·rw [Qad e,e]
    exact (Qb5 _).symm
   ·rw [Qal e]
    exact (Qc8.mpr e).symm
theorem jD{xs:List (List Int × Str)}{y:List Int × Str}(h:Yu H u xs):(List.range u.length).any (fun j=>decide (xs[j]?=some y))=decide (y∈xs):=by
 rw [Qbu,Qdh,decide_eq_true_eq]
 constructor
 ·rintro ⟨j,_,d⟩
  exact Qae (Qap d)
 ·intro hm
  obtain ⟨j,d⟩:=Qbq hm;refine ⟨j,Qck.mpr ?_,Qad d⟩;rw [h.length];exact (Qah.mp d).1
theorem kC{v:V}{xs:List (List Int × Str)}{y:List Int × Str}(h:Yu H B xs)(g:WE H v y):∀(j:Nat) (u:V),B[j]?=some u->EqB H 3 u v (decide (xs[j]?=some y)):=fun j u hu=>by
 obtain ⟨z,h1,h2⟩:=Zw h hu;have:=gn h2 g;rw [h1,show decide (some z=some y)=decide (z=y) by rw [Qdy];exact ⟨fun e=>Option.some.inj e,fun e=>by rw [e]⟩];exact this
def Good(d:Tm)(f:List (List Int × Str))(ta:Tm):Prop:=(f=[]/\ta=d)\/∃x,f=[x]/\x∈ZS d/\Stp d x.1 x.2 ta
theorem Good.ref{ys:List Str}(hk:NK ys){f ta:Tm}{E c:List (List Int × Str)}(g:Good f E ta)(y:f.ok ys)(hl:f.flat.length<=300)(h:Ref ta c):Ref f (E++c):=by
 rcases g with ⟨rfl,rfl⟩ | ⟨x,rfl,hx,G⟩
 ·exact h
 ·refine .next hx hl fun t' d=>?_
  have e:=WR hk (d.ok y) (G.ok y) (d.det G);rw [e];exact h
theorem Good.all{d ta:Tm}{f:List (List Int × Str)}(g:Good d f ta):∀x∈f,x∈ZS d:=by
 rcases g with ⟨rfl,rfl⟩ | ⟨x,rfl,hx,E⟩
 ·intro x h;cases h
 ·intro y h;rw [Qai.mp h];exact hx
theorem G3:∀h∈Wo,(reprText h).length<=1000:=by decide +kernel
theorem yj{d:Tm}{x:List Int × Str}(h:x∈ZS d):x.2∈Wo:=by
 obtain ⟨q,r⟩:=x;obtain ⟨i,sm,_,m,e,he,_⟩:=WS h;have h1:=Qbz.mp (Qae he);have h2:e.1=r:=Qap h1.2;have f:∀e∈turns,e.1∈Wo:=by decide +kernel
 have:=f e h1.1;rw [h2] at this;exact this
theorem uv{d s:Tm}{q:List Int}{h:Str}(hm:(q,s)∈d.nds [])(hl:d.flat.length<=60)(hh:h∈Wo):uu (q,h):=by
 obtain ⟨g,f⟩:=G2 _ d (Qao _) q s hm;refine ⟨by show q.length<=100;lia,fun n hn=>?_,G3 h hh⟩;refine zK (Qaw (m:=2 ^ 3) ?_ (Qc2 (by decide) (by decide)));have:=f n hn;lia
theorem gp{d:Tm}{x:List Int × Str}(h:x∈ZS d)(hl:d.flat.length<=60):uu x:=by
 obtain ⟨s,hs⟩:=G1 (q:=x.1) (r:=x.2) h;exact uv hs hl (yj h)
theorem gq:("addboth" : Str)∈Wo:=by decide +kernel
theorem Zbs:uu ([9],"addboth"):=⟨by decide,(fun n hn=>by rw [Qai.mp hn];decide),G3 _ gq⟩
set_option genInjectivity false in
set_option genSizeOfSpec false in
structure Adr where
 ff:Addr
 fg:FuncData
 dz:Addr
 ea:FuncData
 fh:Addr
 fi:FuncData
 ed:Addr
 ef:FuncData
 fq:Addr
 ft:FuncData
 bg:Addr
 bh:FuncData
 cx:Addr
 cy:FuncData
 fj:Addr
 fk:FuncData
 fu:Addr
 fw:FuncData
 et:Addr
 eu:FuncData
 ir:Addr
 iu:FuncData
 ij:Addr
 ik:FuncData
 bj:Addr
 bo:FuncData
 dh:Addr
 di:FuncData
 ew:Addr
 ez:FuncData
 cm:Addr
 cn:FuncData
 il:Addr
 ip:FuncData
 dj:Addr
 dk:FuncData
 dm:Addr
 dq:FuncData
 da:Addr
 dc:FuncData
 iy:Addr
 iz:FuncData
 fx:Addr
 fy:FuncData
 el:Addr
 en:FuncData
 kd:Addr
 kv:FuncData
 lj:Addr
 ll:FuncData
 fm:Addr
 fo:FuncData
 lg:Addr
 lh:FuncData
 ej:Addr
 ek:FuncData
 iw:Addr
 ix:FuncData
 bw:Addr
 bx:FuncData
 fz:Addr
 gg:FuncData
 ic:Addr
 ie:FuncData
 eo:Addr
 er:FuncData
 ly:Addr
 lz:FuncData
 aq:Addr
 cc:Addr
 bc:Addr
 bf:Addr
 ae:Addr
 ay:Addr
 cf:Addr
 cq:Addr
 az:Addr
 ao:Addr
 aj:Addr
 md:Tok
 lq:Tok
 au:Addr
structure Kg(K:PySem.W.Frag)(w:World)(mg:Str->Option Value)(x:Str)(a:Addr)(l:List (Str × Int)):Prop where
 m:mg x=some (.ref a)
 d:KD K w a l
structure Df(K:PySem.W.Frag)(mg:Str->Option Value)(x:Str)(st:Stmt)(ps:List Str)(f:Addr)(fd:FuncData):Prop where
 F:Fun K x x st f fd
 m:mg x=some (.ref f)
 b:Binds K fd ps []
set_option genInjectivity false in
set_option genSizeOfSpec false in
structure Txt(K:PySem.W.Frag)(w:World)(mg:Str->Option Value)(t:Adr):Prop where
 az:Kg K w mg "SUM_PARTS" t.az [("not",1),("neg",1),("twice",1),("low",1),("and",2),("or",2),("odd",2),("add",2),("sub",2),("pick",3)]
 ao:Kg K w mg "SUMS_IN_CLAIM" t.ao [("same",2),("under",2),("beneath",2),("sign",1),("nought",1)]
 aj:Kg K w mg "CLAIMS_IN_CLAIM" t.aj [("both",2),("either",2),("so",2),("never",1),("yes",0)]
 me:mg "LETTERS" = some (.str "abcdefghijklmnopqrstuvwxyz" t.md)
 lr:mg "LONGEST_NAME" = some (.int 8 t.lq)
 au:Kr K mg "TURNINGS" t.au turns
 de:Df K mg "is_sum_word" X2 ["text"] t.ff t.fg
 cj:Df K mg "is_claim_word" YQ ["text"] t.dz t.ea
 df:Df K mg "sums_behind" X3 ["word"] t.fh t.fi
 ck:Df K mg "claims_behind" YR ["word"] t.ed t.ef
 dt:Df K mg "is_made_of" Xb ["text","signs"] t.fq t.ft
 aa:Df K mg "_law_draw" Jj ["script","k"] t.bg t.bh
 ak:Df K mg "_law_arity" W8 ["word"] t.cx t.cy
 dg:Df K mg "_law_carries" YI ["words"] t.fj t.fk
 du:Df K mg "_law_joined" XQ ["word","shares"] t.fu t.fw
 br:Df K mg "parts_of" Jk ["word"] t.et t.eu
 ia:Df K mg "is_name" Gf ["text"] t.ir t.iu
 fc:Df K mg "_law_word" Jl ["script","i"] t.ij t.ik
 af:Df K mg "_law_parts" W9 ["words"] t.bj t.bo
 aw:Df K mg "part_end" Jm ["words","begin"] t.dh t.di
 bu:Df K mg "paths_of" Jn ["words"] t.ew t.ez
 ba:Df K mg "is_part_name" Xg ["word"] t.cm t.cn
 fe:Df K mg "_law_leaf" Jo ["script","draw","many"] t.il t.ip
 bz:Df K mg "_law_turned_two" YA ["how","word","shares"] t.dj t.dk
 cb:Df K mg "_law_turned_one" YB ["how","word","one"] t.dm t.dq
 bb:Df K mg "parts_bound" X4 ["form","words"] t.da t.dc
 ig:Df K mg "filled" qG ["form","bound"] t.iy t.iz
 dv:Df K mg "_law_turned" XR ["how","words"] t.fx t.fy
 cu:Df K mg "stepped_once" Y3 ["words","path","rule"] t.el t.en
 iq:Df K mg "steps" qH ["words"] t.kd t.kv
 lb:Df K mg "led" Za2 ["words","chain"] t.lj t.ll
 ai:Df K mg "_law_refused" X5 ["words","chain"] t.fm t.fo
 cg:Df K mg "_law_two" Gg ["script","at","many","fuel"] t.lg t.lh
 ah:Df K mg "_law_sum" Gh ["script","at","many","fuel"] t.ej t.ek
 ib:Df K mg "_law_fit" Gi ["script","at","many","most"] t.iw t.ix
 ag:Df K mg "_law_paths" WA ["words"] t.bw t.bx
 bq:Df K mg "_law_put" Gj ["words","path","part"] t.fz t.gg
 bp:Df K mg "_law_steps" WC ["words"] t.ic t.ie
 cv:Df K mg "_law_bad_path" Y4 ["script","words"] t.eo t.er
 mh:Df K mg "law" qI ["script"] t.ly t.lz
 lu:mg "ValueError" = none
 mi:mg "all" = none
 kc:mg "enumerate" = none
 mj:mg "int" = none
 dy:mg "isinstance" = none
 cz:mg "len" = none
 lx:mg "list" = none
 ml:mg "max" = none
 mm:mg "min" = none
 la:mg "range" = none
 mn:mg "str" = none
 mf:mg "tuple" = none
set_option genInjectivity false in
set_option genSizeOfSpec false in
structure Xcl(K:PySem.W.Frag)(mg:Str->Option Value)(base:Heap)(t:Adr):Prop where
 m_WidthError:mg "WidthError" = some (.ref t.aq)
 m_NoSum:mg "NoSum" = some (.ref t.cc)
 m_NoClaim:mg "NoClaim" = some (.ref t.bc)
 m_NoWords:mg "NoWords" = some (.ref t.bf)
 m_NoTurning:mg "NoTurning" = some (.ref t.ae)
 m_NoShorter:mg "NoShorter" = some (.ref t.ay)
 m_NoAsk:mg "NoAsk" = some (.ref t.cf)
 m_NoName:mg "NoName" = some (.ref t.cq)
 o_WidthError:kG "WidthError" t.aq mg base
 kp_WidthError:PySem.W.keepIn K (.ref t.aq)=true
 o_NoSum:kG "NoSum" t.cc mg base
 kp_NoSum:PySem.W.keepIn K (.ref t.cc)=true
 o_NoClaim:kG "NoClaim" t.bc mg base
 kp_NoClaim:PySem.W.keepIn K (.ref t.bc)=true
 o_NoWords:kG "NoWords" t.bf mg base
 kp_NoWords:PySem.W.keepIn K (.ref t.bf)=true
 o_NoTurning:kG "NoTurning" t.ae mg base
 kp_NoTurning:PySem.W.keepIn K (.ref t.ae)=true
 o_NoShorter:kG "NoShorter" t.ay mg base
 kp_NoShorter:PySem.W.keepIn K (.ref t.ay)=true
 o_NoAsk:kG "NoAsk" t.cf mg base
 kp_NoAsk:PySem.W.keepIn K (.ref t.cf)=true
 b_NoSum:Xn base t.cc t.aq
 b_NoClaim:Xn base t.bc t.aq
 b_NoWords:Xn base t.bf t.aq
 b_NoTurning:Xn base t.ae t.aq
 b_NoShorter:Xn base t.ay t.aq
 b_NoAsk:Xn base t.cf t.aq
 b_NoName:Xn base t.cq t.aq
 c_WidthError:Cl3 K t.aq
 c_NoSum:Cl3 K t.cc
 c_NoClaim:Cl3 K t.bc
 c_NoWords:Cl3 K t.bf
 c_NoTurning:Cl3 K t.ae
 c_NoShorter:Cl3 K t.ay
 c_NoAsk:Cl3 K t.cf
 c_NoName:Cl3 K t.cq
 q_not:PySem.W.kitAny K (.ref t.ae) [.ref t.cf,.ref t.bc,.ref t.cq,.ref t.ay,.ref t.cc,.ref t.bf]=some false
 q_val:PySem.W.kitOne K (.ref t.ae) (.type "ValueError")=some true
theorem GH:Zz ["text"] ["text"] (Zm X2):=⟨rfl,rfl,rfl,by decide +kernel,rfl,by decide +kernel,by decide +kernel⟩
theorem JJ:Zz ["text"] ["text"] (Zm YQ):=⟨rfl,rfl,rfl,by decide +kernel,rfl,by decide +kernel,by decide +kernel⟩
theorem GI:Zz ["word"] ["word"] (Zm X3):=⟨rfl,rfl,rfl,by decide +kernel,rfl,by decide +kernel,by decide +kernel⟩
theorem JK:Zz ["word"] ["word"] (Zm YR):=⟨rfl,rfl,rfl,by decide +kernel,rfl,by decide +kernel,by decide +kernel⟩
theorem qW:Zz ["text","signs"] ["text","signs"] (Zm Xb):=⟨rfl,rfl,rfl,by decide +kernel,rfl,by decide +kernel,by decide +kernel⟩
theorem Yl:Zz ["script","k","many","cell","turn","mixed"] ["script","k"] (Zm Jj):=⟨rfl,rfl,rfl,by decide +kernel,rfl,by decide +kernel,by decide +kernel⟩
theorem xV:Zz ["word"] ["word"] (Zm W8):=⟨rfl,rfl,rfl,by decide +kernel,rfl,by decide +kernel,by decide +kernel⟩
theorem GJ:Zz ["words"] ["words"] (Zm YI):=⟨rfl,rfl,rfl,by decide +kernel,rfl,by decide +kernel,by decide +kernel⟩
theorem YL:Zz ["word","shares","found","part"] ["word","shares"] (Zm XQ):=⟨rfl,rfl,rfl,by decide +kernel,rfl,by decide +kernel,by decide +kernel⟩
theorem zL:Zz ["word"] ["word"] (Zm Jk):=⟨rfl,rfl,rfl,by decide +kernel,rfl,by decide +kernel,by decide +kernel⟩
theorem yl:Zz ["text"] ["text"] (Zm Gf):=⟨rfl,rfl,rfl,by decide +kernel,rfl,by decide +kernel,by decide +kernel⟩
theorem Ym:Zz ["script","i","letters","pad","place","tail","word"] ["script","i"] (Zm Jl):=⟨rfl,rfl,rfl,by decide +kernel,rfl,by decide +kernel,by decide +kernel⟩
theorem ZN:Zz ["words","shares","left","part","wanted","found","word"] ["words"] (Zm W9):=⟨rfl,rfl,rfl,by decide +kernel,rfl,by decide +kernel,by decide +kernel⟩
theorem YV:Zz ["words","begin","place","lacking"] ["words","begin"] (Zm Jm):=⟨rfl,rfl,rfl,by decide +kernel,rfl,by decide +kernel,by decide +kernel⟩
theorem Yy:Zz ["words","paths","coming","word","path","number"] ["words"] (Zm Jn):=⟨rfl,rfl,rfl,by decide +kernel,rfl,by decide +kernel,by decide +kernel⟩
theorem G4:Zz ["word"] ["word"] (Zm Xg):=⟨rfl,rfl,rfl,by decide +kernel,rfl,by decide +kernel,by decide +kernel⟩
theorem zM:Zz ["script","draw","many"] ["script","draw","many"] (Zm Jo):=⟨rfl,rfl,rfl,by decide +kernel,rfl,by decide +kernel,by decide +kernel⟩
theorem ZK:Zz ["how","word","shares","one","other","both","some"] ["how","word","shares"] (Zm YA):=⟨rfl,rfl,rfl,by decide +kernel,rfl,by decide +kernel,by decide +kernel⟩
theorem Yz:Zz ["how","word","one","some"] ["how","word","one"] (Zm YB):=⟨rfl,rfl,rfl,by decide +kernel,rfl,by decide +kernel,by decide +kernel⟩
theorem ZG:Zz ["form","words","bound","place","word","end"] ["form","words"] (Zm X4):=⟨rfl,rfl,rfl,by decide +kernel,rfl,by decide +kernel,by decide +kernel⟩
theorem WU:Zz ["form","bound","words","word"] ["form","bound"] (Zm qG):=⟨rfl,rfl,rfl,by decide +kernel,rfl,by decide +kernel,by decide +kernel⟩
theorem WV:Zz ["how","words","shares"] ["how","words"] (Zm XR):=⟨rfl,rfl,rfl,by decide +kernel,rfl,by decide +kernel,by decide +kernel⟩
theorem ZL:Zz ["words","path","rule","paths","begin","end","turning","bound"] ["words","path","rule"] (Zm Y3):=⟨rfl,rfl,rfl,by decide +kernel,rfl,by decide +kernel,by decide +kernel⟩
theorem WW:Zz ["words","told","begin","path","part"] ["words"] (Zm qH):=⟨rfl,rfl,rfl,by decide +kernel,rfl,by decide +kernel,by decide +kernel⟩
theorem kD:Zz ["words","chain","step"] ["words","chain"] (Zm Za2):=⟨rfl,rfl,rfl,by decide +kernel,rfl,by decide +kernel,by decide +kernel⟩
theorem Y5:Zz ["words","chain","caught","e"] ["words","chain"] (Zm X5):=⟨rfl,rfl,rfl,by decide +kernel,rfl,by decide +kernel,by decide +kernel⟩
theorem Jt:Zz ["script","at","many","fuel","draw","one"] ["script","at","many","fuel"] (Zm Gg):=⟨rfl,rfl,rfl,by decide +kernel,rfl,by decide +kernel,by decide +kernel⟩
theorem YM:Zz ["script","at","many","fuel","draw","words","word","one"] ["script","at","many","fuel"] (Zm Gh):=⟨rfl,rfl,rfl,by decide +kernel,rfl,by decide +kernel,by decide +kernel⟩
theorem Ju:Zz ["script","at","many","most","fuel","found"] ["script","at","many","most"] (Zm Gi):=⟨rfl,rfl,rfl,by decide +kernel,rfl,by decide +kernel,by decide +kernel⟩
theorem Yb:Zz ["words","found","k","part","path","below"] ["words"] (Zm WA):=⟨rfl,rfl,rfl,by decide +kernel,rfl,by decide +kernel,by decide +kernel⟩
theorem Jv:Zz ["words","path","part","shares"] ["words","path","part"] (Zm Gj):=⟨rfl,rfl,rfl,by decide +kernel,rfl,by decide +kernel,by decide +kernel⟩
theorem ZO:Zz ["words","hows","found","path","below","how","spun"] ["words"] (Zm WC):=⟨rfl,rfl,rfl,by decide +kernel,rfl,by decide +kernel,by decide +kernel⟩
theorem ZC:Zz ["script","words","draw","some","path","below","many","far"] ["script","words"] (Zm Y4):=⟨rfl,rfl,rfl,by decide +kernel,rfl,by decide +kernel,by decide +kernel⟩
theorem YE:Zz ["script","words","due","fitting","hows","good","after","at","path","below","how","bad","then"] ["script"] (Zm qI):=⟨rfl,rfl,rfl,by decide +kernel,rfl,by decide +kernel,by decide +kernel⟩
section
variable {P:Program}{w:World}{K:PySem.W.Frag}{mg:Str->Option Value}{base:Heap}{t:Adr}
inductive X9(vs:List V)(H:Hp)(Q:VK):Prop
 | mk (y:Str):(vs=[.str y])->(Q (.bl (decide (y∈Jp))) H)->X9 vs H Q
def Wq(K:PySem.W.Frag):Sp:=fun d H Q _=>X9 d H Q
theorem GK (T:Txt K w mg t) (G:Xcl K mg base t):Z5 P w K mg base CX0 1 t.ff t.fg ["text"] (Wq K):=by
 refine T.de.F.ok GH (fun f H Q E h=>?_) (fun g A outer s H f Q E hr h=>?_)
 ·obtain ⟨y,rfl,k⟩:=h
  rfl
 ·obtain ⟨y,rfl,k⟩:=h
  have hu:=Yd hr;refine ⟨_,@QSs.out _ _ _ (Zh (Zp (XN zo (qv 0) (ZY (v:=.ref t.az) rfl T.az.m rfl) (by with_unfolding_all rfl)))),?_⟩;clear hu hr
  try dsimp only [L2.cxK,L2.cxK2]
  refine ⟨_,rfl,t.az,T1,.inr y,rfl,T.az.d,rfl,?_⟩;rw [uf,tw1];exact k
inductive Xc(vs:List V)(H:Hp)(Q:VK):Prop
 | mk (k:Key):(vs=[kV k])->(Q (.bl (clK k)) H)->Xc vs H Q
def XA(K:PySem.W.Frag):Sp:=fun d H Q _=>Xc d H Q
theorem kE(l:List (Str × Int))(k:Key):(Y9 (kvsOf l) k).isSome=(match k with | .inr y=>decide (y∈l.map (·.1)) | .inl _=>false):=by
 cases k with
 | inr y=>exact uf l y
 | inl z =>
  induction l with
  | nil=>rfl
  | cons p r d =>
   have e:Y9 (kvsOf (p::r)) (.inl z)=Y9 (kvsOf r) (.inl z):=ZV (p:=((Sum.inr p.1:Key),V.int p.2)) (fun z=>nomatch z);rw [e,d]
theorem gr(k:Key):clK k=((Y9 (kvsOf T2) k).isSome || (Y9 (kvsOf T3) k).isSome):=by
 rw [kE,kE];cases k with
 | inl z=>rfl
 | inr y =>
  show decide (y∈YS)=(decide (y∈T2.map (·.1)) || decide (y∈T3.map (·.1)));have e:YS=T2.map (·.1)++T3.map (·.1):=by decide +kernel
  rw [e]
  by_cases h1:y∈T2.map (·.1)
  ·rw [Qad h1,Qad (Qay _ h1)]
   rfl
  ·by_cases h2:y∈T3.map (·.1)
   ·rw [Qad h2,Qad (Qaf _ h2),Bool.or_true]
   ·rw [Qal h1,Qal h2,Qal (fun z=>(Qam.mp z).elim h1 h2)]
    rfl
theorem JL (T:Txt K w mg t) (G:Xcl K mg base t):Z5 P w K mg base CX0 1 t.dz t.ea ["text"] (XA K):=by
 refine T.cj.F.ok JJ (fun g H Q E h=>?_) (fun y A outer s H g Q E hr h=>?_)
 ·obtain ⟨f,rfl,k⟩:=h
  rfl
 ·obtain ⟨f,rfl,k⟩:=h
  have hu:=Yd hr;refine ⟨_,@QSs.out _ _ _ (Zh (Zp (qe_or (XN zo (qv 0) (ZY (v:=.ref t.ao) rfl T.ao.m rfl) (by with_unfolding_all rfl)) (xq (XN zo (qv 0) (ZY (v:=.ref t.aj) rfl T.aj.m rfl) (by with_unfolding_all rfl)))))),?_⟩;clear hu hr
  try dsimp only [L2.cxK,L2.cxK2]
  rw [gr] at k;refine ⟨_,rfl,t.ao,T2,f,rfl,T.ao.d,rfl,_,rfl,?_⟩;cases h:(Y9 (kvsOf T2) f).isSome with
  | true =>
   rw [h] at k;exact Yq k
  | false =>
   rw [h] at k;exact Yt ⟨_,rfl,t.aj,T3,f,rfl,T.aj.d,rfl,k⟩
inductive XC(vs:List V)(H:Hp)(Q:VK):Prop
 | mk (k:Key):(vs=[kV k])->(Q (.int (WD T1 k + WD T2 k)) H)->XC vs H Q
def Wr(K:PySem.W.Frag):Sp:=fun d H Q _=>XC d H Q
theorem GL (T:Txt K w mg t) (G:Xcl K mg base t):Z5 P w K mg base CX0 1 t.fh t.fi ["word"] (Wr K):=by
 refine T.df.F.ok GI (fun g H Q E h=>?_) (fun y A outer s H g Q E hr h=>?_)
 ·obtain ⟨f,rfl,k⟩:=h
  rfl
 ·obtain ⟨f,rfl,k⟩:=h
  have hu:=Yd hr;refine ⟨_,@QSs.out _ _ _ (Zh (Zp (Zl YC (zp (ZY (v:=.ref t.az) rfl T.az.m rfl) (qv 0) Ze) (zp (ZY (v:=.ref t.ao) rfl T.ao.m rfl) (qv 0) Ze)))),?_⟩;clear hu hr
  try dsimp only [L2.cxK,L2.cxK2]
  refine ⟨t.az,T1,rfl,T.az.d,_,rfl,f,rfl,t.ao,T2,rfl,T.ao.d,_,rfl,f,rfl,?_⟩;rw [kget,kget];exact ⟨_,_,rfl,rfl,k⟩
inductive Xd(vs:List V)(H:Hp)(Q:VK):Prop
 | mk (k:Key):(vs=[kV k])->(Q (.int (WD T3 k)) H)->Xd vs H Q
def XD(K:PySem.W.Frag):Sp:=fun d H Q _=>Xd d H Q
theorem JM (T:Txt K w mg t) (G:Xcl K mg base t):Z5 P w K mg base CX0 1 t.ed t.ef ["word"] (XD K):=by
 refine T.ck.F.ok JK (fun g H Q E h=>?_) (fun y A outer s H g Q E hr h=>?_)
 ·obtain ⟨f,rfl,k⟩:=h
  rfl
 ·obtain ⟨f,rfl,k⟩:=h
  have hu:=Yd hr;refine ⟨_,@QSs.out _ _ _ (Zh (Zp (zp (ZY (v:=.ref t.aj) rfl T.aj.m rfl) (qv 0) Ze))),?_⟩;clear hu hr
  try dsimp only [L2.cxK,L2.cxK2]
  refine ⟨t.aj,T3,rfl,T.aj.d,_,rfl,f,rfl,?_⟩;rw [kget];exact k
inductive XU(vs:List V)(H:Hp)(Q:VK):Prop
 | mk (y sg:Str):(vs=[.str y,.str sg])->(y.length<=100000)->(∀H',Z0 H H'->Q (.bl (decide (GZ y sg))) H')->XU vs H Q
def WX(K:PySem.W.Frag):Sp:=fun d H Q _=>XU d H Q
theorem qX (T:Txt K w mg t) (O:Xcl K mg base t):Z5 P w K mg base CX0 1 t.fq t.ft ["text","signs"] (WX K):=by
 refine T.dt.F.ok qW (fun I H Q E h=>?_) (fun L A outer s H I Q E hr h=>?_)
 ·obtain ⟨y,d,rfl,hl,k⟩:=h
  rfl
 ·obtain ⟨y,d,rfl,hl,k⟩:=h
  have hu:=Yd hr;refine ⟨_,@QSs.out _ _ _ (Zh (Zp (zW (XN Zb9 (qv 0) Zg (Zt _)) (xq (Z4 (vn rfl) (by rfl) T.mi bt_all (Zj (qt (⟨by rfl,by decide +kernel,by decide +kernel,by rfl,by decide +kernel,by decide +kernel,by rfl,by decide +kernel⟩:ZZ (Zm Xb) _ ["text","signs"] "sign" ["signs"] [1]) (qi_str (qv 0)) (fun _ _ _ _=>zZ) (fun _ _ _ _=>(XN yH (qv 0) (qv 1) (by with_unfolding_all rfl)))) Zb)))))),?_⟩;clear hu hr
  try dsimp only [L2.cxK,L2.cxK2]
  refine ⟨_,rfl,rfl,_,rfl,?_⟩
  by_cases g:y.cps.toList=[]
  ·have e:=Gm.mp g
   subst e;rw [Qad (rfl:V.str ("" : Str)=V.str ("" : Str))];refine Yt ?_;have e2:decide (GZ ("" : Str) d)=false:=Qal fun z=>z.1 (Gm.mpr rfl);have:=k H (Z0.refl H);rw [e2] at this;exact this
  have f:¬V.str y=V.str ("" : Str):=fun z=>g (Gm.mpr (by injection z));rw [Qal f];refine Yq ?_;refine ⟨_,rfl,y,rfl,wg (fun c=>.bl (decide (c∈d.cps.toList))) (Qa0 (show y.length<=100000 from hl) (by decide)) (fun c _ R J=>?_) (fun l G=>?_)⟩
  ·refine ⟨_,rfl,_,rfl,_,_,rfl,rfl,?_⟩
   rw [Za5];exact J
  have e1:(y.cps.toList.map fun c=>V.bl (decide (c∈d.cps.toList)))=(y.cps.toList.map fun c=>decide (c∈d.cps.toList)).map V.bl:=by rw [Qdp];rfl
  rw [e1];refine ⟨l,_,rfl,SqL.of Zc,?_⟩;rw [all_bs];have e2:decide (GZ y d)=decide (∀c∈y.cps.toList,decide (c∈d.cps.toList)=true):=by
   rw [Qbu,Qcf,Qcf]
   constructor
   ·intro z c hc
    exact Qad (z.2 c hc)
   ·intro z
    exact ⟨g,fun c hc=>Qap (z c hc)⟩
  rw [<-e2];exact k _ (Zd G)
inductive WY(K:PySem.W.Frag)(vs:List V)(H:Hp)(Q:VK):Prop
 | mk (a:Addr) (ns:List Int) (k:Nat):(vs=[.ref a,.int (k:Int)])->(SqL K H a (ns.map V.int))->(ns.length<=63)->(k<=10000)->(∀H',Z0 H H'->Q (.int (drw ns k)) H')->WY K vs H Q
def Yn(K:PySem.W.Frag):Sp:=fun d H Q _=>WY K d H Q
theorem Y0 (T:Txt K w mg t) (XB:Xcl K mg base t):Z5 P w K mg base CX0 1 t.bg t.bh ["script","k"] (Yn K):=by
 refine T.aa.F.ok Yl (fun vs H Q E h=>?_) (fun cdv A outer s H vs Q E hr h=>?_)
 ·obtain ⟨a,d,f,rfl,ha,hl,S,k⟩:=h
  rfl
 ·obtain ⟨a,d,f,rfl,ha,hl,S,k⟩:=h
  have hu:=Yd hr;refine ⟨_,@QSs.out _ _ _ (Za (Zo (i:=2) Yl.nd rfl (Or.inl rfl) (Z4 (yJ rfl) (by rfl) T.ml bt_max (Zj Ze (Zj (Z4 ZE (by rfl) T.cz XM (Zj (qv 0) Zb)) Zb))))
    (Za (Zo (i:=3) Yl.nd rfl (Or.inl rfl) (ZD ZQ (Zl op_cat (WN J2 (by rfl) T.lx ve (Zj (qv 0) Zb)) (XO (Zj Ze Zb))) (Zl ZM (qv 1) (qv 2)) (fun _ _=>rfl)))
    (Za (ZF (YO (Zab (Zk op_ge (qv 3) (Zl zR Ze Ze) (Zt _)) (vh (Zk uL (qv 3) (zg JX (Zl zR Ze Ze)) (Zt _)))))
    (Za (Y6 Qbl rfl (xr rfl T.la (Zj (Z4 (yK rfl) (by rfl) T.mm bt_min (Zj (Zl Y1 (qv 1) (qv 2)) (Zj Ze Zb))) Zb)) (Z8 (i:=4) Yl.nd rfl (Or.inl rfl))
    (Zh (Zo (i:=3) Yl.nd rfl (Or.inl rfl) (Zl Y1 (qv 3) Ze))))
    (Zh (Zp (Zl ZM (qv 3) Ze)))) Zu)
    (Za (Zo (i:=5) Yl.nd rfl (Or.inl rfl) (Zl ZM (Zl Xx (Zl YC (Zl YC (Zl ZM (qv 3) Ze) Ze) (Zl Xx Ze (Zl Y1 (qv 1) (qv 2)))) Ze) Ze))
    (Za (Zo (i:=5) Yl.nd rfl (Or.inl rfl) (Zl ZM (Zl Xx (qv 5) (qv 5)) Ze))
    (Zh (Zp (Zl ZM (Zl Xx (qv 5) Ze) Ze)))))))),?_⟩
  clear hu hr
  try dsimp only [L2.cxK,L2.cxK2]
  refine L2.let6 ?_;intro U5 U4 U3 U2 U1;have hmn:(if ((d.map V.int).length:Int) > 1 then ((d.map V.int).length:Int) else 1)=(manyN d:Int):=by
   unfold manyN;rw [Qaz]
   split <;> lia
  refine ⟨_,rfl,a,_,rfl,.inl ha,1,_,rfl,Zf ?_⟩
  try dsimp only
  rw [hmn];have m1:1<=manyN d:=by unfold manyN;lia
  have m2:manyN d<=d.length + 1:=by unfold manyN;lia
  refine ⟨_,rfl,a,_,rfl,.inl ha,fun O hc1=>⟨by show 1<=sizeLine;decide,fun L W=>⟨O,L,_,_,rfl,rfl,Zd W _ _ Zc,Zc,?_,fun c3 hc3=>?_⟩⟩⟩
  ·rw [Qaz]
   exact Qbg (Zv (by show d.length + 1<=1000;lia))
  have s1:=(Zd (o:=.lst (d.map V.int)) hc1).trans ((Zd (o:=.lst [V.int 0]) W).trans (Zd (o:=.lst (d.map V.int++[V.int 0])) hc3));have h3:=Zc (H:=upd (upd H O (.lst (d.map V.int))) L (.lst [V.int 0])) (a:=c3) (o:=.lst (d.map V.int++[V.int 0]));generalize upd (upd (upd H O (.lst (d.map V.int))) L (.lst [V.int 0])) c3 (.lst (d.map V.int++[V.int 0]))=H1 at *;have ec:atI (d.map V.int++[V.int 0]) ((f:Int) % (manyN d:Int))=some (.int (Wj d f)):=by
   have hlt:=Nat.mod_lt f m1;rw [<-Int.natCast_emod,show d.map V.int++[V.int 0]=(d++[0]).map V.int by rw [Qa7];rfl];have hl:f % manyN d < (d++[0]).length:=by rw [Qab];show _ < d.length + 1;lia
   refine Yk ?_;unfold Wj;rw [Qbc,Qag hl,List.getD_eq_getElem?_getD,Qag hl]
   rfl
  refine ⟨_,rfl,_,rfl,_,_,rfl,rfl,(by show (0:Int) < (manyN d:Int);lia),c3,_,_,_,rfl,rfl,SqL.of h3,ec,Zf ?_⟩;have Y:(f:Int) / (manyN d:Int)=((f / manyN d:Nat):Int):=by rw [Int.natCast_ediv]
  have hd2:f / manyN d<=10000:=Qa0 (Nat.div_le_self _ _) S;obtain ⟨Z,U,hn60⟩:∃n:Nat,n=min (f / manyN d) 60/\n<=60:=⟨_,rfl,Nat.min_le_right _ _⟩;have G:(if (60:Int) < (f:Int) / (manyN d:Int) then (60:Int) else (f:Int) / (manyN d:Int))=(Z:Int):=by
   rw [Y]
   split <;> lia
  refine ⟨_,rfl,_,_,rfl,rfl,⟨by decide,by decide,by decide⟩,_,_,rfl,rfl,_,rfl,Yw (fun O=>?_) (fun O=>?_)⟩
  ·refine Yq ?_
   have hb:Wj d f>=10 ^ 18\/Wj d f<=-10 ^ 18:=.inl (Qap O);refine ⟨_,rfl,_,rfl,_,_,rfl,rfl,.of (by lia) (by lia),_,_,rfl,(Z:Int),(by rw [G]),by lia,by lia,JW (fun i σ H'=>∃(J:Option V),σ=[some (.ref a),some (.int (f:Int)),some (.int (manyN d:Int)),some (.int (ye (Wj d f) i)),J,none]/\H'=H1) ⟨none,rfl,rfl⟩ ?_ ?_⟩
   ·rintro i σ H' hi y
    refine Zy fun I g=>?_;obtain ⟨J,rfl,rfl⟩:=y;refine g ?_;clear g I;exact ⟨_,rfl,_,_,rfl,rfl,.of (by decide) (by decide),Zf ⟨_,rfl,rfl⟩⟩
   ·rintro σ H' y
    refine Zy fun I g=>?_;obtain ⟨J,rfl,rfl⟩:=y;refine g ?_;clear g I;refine ⟨_,rfl,_,_,rfl,rfl,(by show (0:Int) < 1000003;decide),?_⟩;have e:=k _ s1;unfold drw at e;rw [Qa4 hb,<-U] at e;exact e
  refine ⟨_,rfl,_,_,rfl,rfl,⟨by decide,by decide,by decide⟩,_,rfl,_,_,rfl,rfl,_,rfl,Yw (fun L=>?_) (fun L=>?_)⟩
  ·have hb:Wj d f>=10 ^ 18\/Wj d f<=-10 ^ 18:=.inr (Qap L)
   refine ⟨_,rfl,_,rfl,_,_,rfl,rfl,.of (by lia) (by lia),_,_,rfl,(Z:Int),(by rw [G]),by lia,by lia,JW (fun i σ H'=>∃(J:Option V),σ=[some (.ref a),some (.int (f:Int)),some (.int (manyN d:Int)),some (.int (ye (Wj d f) i)),J,none]/\H'=H1) ⟨none,rfl,rfl⟩ ?_ ?_⟩
   ·rintro i σ H' hi y
    refine Zy fun I g=>?_;obtain ⟨J,rfl,rfl⟩:=y;refine g ?_;clear g I;exact ⟨_,rfl,_,_,rfl,rfl,.of (by decide) (by decide),Zf ⟨_,rfl,rfl⟩⟩
   ·rintro σ H' y
    refine Zy fun I g=>?_;obtain ⟨J,rfl,rfl⟩:=y;refine g ?_;clear g I;refine ⟨_,rfl,_,_,rfl,rfl,(by show (0:Int) < 1000003;decide),?_⟩;have e:=k _ s1;unfold drw at e;rw [Qa4 hb,<-U] at e;exact e
  have hb:¬(Wj d f>=10 ^ 18\/Wj d f<=-10 ^ 18):=fun z=>z.elim (fun z=>O (Qad z)) (fun z=>L (Qad z));have e:=k _ s1;unfold drw at e;rw [Qa5 hb] at e;have ma:0<=Zbx d f/\Zbx d f < 2147483629:=⟨Qbk _ (by decide),Qba _ (by decide)⟩;refine ⟨_,rfl,_,_,rfl,rfl,(by show (0:Int) < 2147483629;decide),_,_,rfl,rfl,_,rfl,_,rfl,_,_,rfl,rfl,.of (by lia) (by lia),_,_,rfl,rfl,.inr (.inl ⟨by decide,by decide⟩),_,_,rfl,rfl,_,_,rfl,rfl,.inr (.inr ⟨by decide,by decide⟩),_,_,rfl,rfl,(by show (0:Int) < 2147483629;decide),Zf ?_⟩;refine ⟨_,rfl,_,rfl,_,_,rfl,rfl,.inr (.inl ⟨?_,?_⟩),_,_,rfl,rfl,(by show (0:Int) < 2147483587;decide),Zf ?_⟩
  ·show -2 ^ 64 < Zbx d f
   lia
  ·show Zbx d f < 2 ^ 64
   lia
  exact ⟨_,rfl,_,_,rfl,rfl,.inr (.inr ⟨by decide,by decide⟩),_,_,rfl,rfl,(by show (0:Int) < 2147483579;decide),e⟩
inductive Ws(vs:List V)(H:Hp)(Q:VK):Prop
 | mk (x:V):(vs=[x])->(SI x)->(∀H',Z0 H H'->Q (.int (WQ x:Int)) H')->Ws vs H Q
def Xe(K:PySem.W.Frag):Sp:=fun d H Q _=>Ws d H Q
theorem XW (T:Txt K w mg t) (O:Xcl K mg base t):Z5 P w K mg base CX0 1 t.cx t.cy ["word"] (Xe K):=by
 refine T.ak.F.ok xV (fun I H Q E h=>?_) (fun J A outer s H I Q E hr h=>?_)
 ·obtain ⟨x,rfl,hx,k⟩:=h
  rfl
 ·obtain ⟨x,rfl,hx,k⟩:=h
  have hu:=Yd hr;refine ⟨_,@QSs.out _ _ _ (Za (ZF (Zk YN (qv 0) (Zr (Zj Zg (Zj Zg (Zj Zg (Zj Zg Zb))))) (by with_unfolding_all rfl))
    (Zh (Zp Ze)) Zu)
    (Za (ZF (Zk YN (qv 0) (Zr (Zj Zg (Zj Zg (Zj Zg (Zj Zg (Zj Zg Zb)))))) (by with_unfolding_all rfl))
    (Zh (Zp Ze)) Zu)
    (Zh (Zp (Zl Xx Ze (WN yL (by rfl) T.mj bt_int (Zj (XN ZH (qv 0) Zg (Zt _)) Zb))))))),?_⟩
  clear hu hr
  try dsimp only [L2.cxK,L2.cxK2]
  refine L2.let3 ?_;intro S U;refine ⟨_,rfl,by show 4<=sizeLine;decide,fun L hz1=>?_⟩;have g:=Zd (o:=.tup [V.str "not",V.str "neg",V.str "twice",V.str "low"]) hz1;refine ⟨L,Zdb.map V.str,rfl,.inr (SqT.of Zc),hx.flat,rfl,_,rfl,?_⟩;rcases hx with ⟨z,rfl⟩ | ⟨y,rfl⟩
  ·rw [zC]
   refine Yt ⟨_,rfl,by show 5<=sizeLine;decide,fun f hz2=>?_⟩;have G:=Zd (o:=.tup [V.str "and",V.str "or",V.str "odd",V.str "add",V.str "sub"]) hz2;refine ⟨f,Zc1.map V.str,rfl,.inr (SqT.of Zc),rfl,rfl,_,rfl,?_⟩;rw [zC];refine Yt ⟨_,rfl,rfl,.inr ⟨_,rfl,_,_,rfl,rfl,.inr (.inl ⟨by decide,by decide⟩),k _ (g.trans G)⟩⟩
  ·rw [Yj]
   by_cases h1:y∈Zdb
   ·rw [Qad h1]
    have e:=k _ g;rw [show WQ (.str y)=1 from ki y h1] at e;exact Yq e
   rw [Qal h1];refine Yt ⟨_,rfl,by show 5<=sizeLine;decide,fun f hz2=>?_⟩;have G:=Zd (o:=.tup [V.str "and",V.str "or",V.str "odd",V.str "add",V.str "sub"]) hz2;refine ⟨f,Zc1.map V.str,rfl,.inr (SqT.of Zc),rfl,rfl,_,rfl,?_⟩;rw [Yj];have e:=k _ (g.trans G)
   by_cases h2:y∈Zc1
   ·rw [Qad h2]
    rw [show WQ (.str y)=2 from kj y h2] at e;exact Yq e
   rw [Qal h2];refine Yt ⟨_,rfl,rfl,.inr ⟨_,rfl,_,_,rfl,rfl,.inr (.inl ⟨by decide,by decide⟩),?_⟩⟩
   by_cases d:y = "pick"
   ·rw [d,show WQ (.str "pick")=3 from km] at e
    rw [Qad (congrArg V.str d)];exact e
   ·rw [show WQ (.str y)=0 from yf fun z=>(xR y z).elim h1 fun z=>z.elim h2 d] at e
    rw [Qal (fun z=>d (by injection z))];exact e
inductive XE(vs:List V)(H:Hp)(Q:VK):Prop
 | mk (p:Addr) (ws:List V):(vs=[.ref p])->((H p=some (.lst ws)\/H p=some (.tup ws)))->((∀w∈ws,(∃y,w=.str y)\/∃z,w=.int z))->(ws.length<=100)->(∀H',Z0 H H'->Q (.int (ws.filter yt).length) H')->XE vs H Q
def Wt(K:PySem.W.Frag):Sp:=fun d H Q _=>XE d H Q
theorem GN (T:Txt K w mg t) (XB:Xcl K mg base t):Z5 P w K mg base CX0 1 t.fj t.fk ["words"] (Wt K):=by
 refine T.dg.F.ok GJ (fun vs H Q E h=>?_) (fun cdv A outer s H vs Q E hr h=>?_)
 ·obtain ⟨p,d,rfl,hp,hw,hl,k⟩:=h
  rfl
 ·obtain ⟨p,d,rfl,hp,hw,hl,k⟩:=h
  have hu:=Yd hr;refine ⟨_,@QSs.out _ _ _ (Zh (Zp (Z4 ZE (by rfl) T.cz XM (Zj (qt (⟨by rfl,by decide +kernel,by decide +kernel,by rfl,by decide +kernel,by decide +kernel,by rfl,by decide +kernel⟩:ZZ (Zm YI) _ ["words"] "word" [] []) (QI.or (Xy (qv 0)) (Wl (qv 0))) (fun _ _ _ _=>(vi (Zk (show OpR _ (compareOp .In) (rIn K false) from YN) (qv 0) (Zr (Zj Zg (Zj Zg (Zj Zg (Zj Zg (Zj Zg Zb)))))) (by with_unfolding_all rfl)))) (fun _ _ _ _=>(qv 0))) Zb)))),?_⟩;clear hu
  try dsimp only [L2.cxK,L2.cxK2]
  have J:∀x∈d,Yv x=true/\inV x ((["add","sub","neg","twice","low"]:List Str).map V.str)=yt x:=fun x hx=>by
   rcases hw x hx with ⟨y,rfl⟩ | ⟨z,rfl⟩
   ·refine ⟨rfl,?_⟩
    rw [Yj];show decide _=decide _;refine Qdy.mpr ?_;unfold remW;simp only [Qas,Qb6,Qew]
    constructor
    ·rintro (h | h | h | h | h) <;> simp [h]
    ·rintro (h | h | h | h | h) <;> simp [h]
   ·exact ⟨rfl,zC z _⟩
  have fin:∀(zs:List V) (H1:Hp),zs=(d.take d.length).filter yt/\Z0 H H1->∀q,H1 q=none->(tCB (fun xs H Q=>∃p ys,xs=[V.ref p]/\(SqL K H p ys\/SqT K H p ys)/\Q (V.int ys.length) H) (fun _ H Q=>Q [.ref q] H)) [] (upd H1 q (.lst zs)) Q:=by
   rintro zs H1 Y q f;refine Zy fun Gz S=>?_;obtain ⟨rfl,O⟩:=Y;refine S ?_;clear S Gz;refine ⟨q,_,rfl,.inl (SqL.of Zc),?_⟩;rw [Qbo];exact k _ (O.trans (Zd f))
  have I:∀i,((d.take i).filter yt).length<=sizeLine:=fun i=>Qbg (Zv (Qa0 (List.length_filter_le _ _) (by rw [Qcr];lia)));have G:∀(i:Nat) (x:V),d[i]?=some x->((d.take (i + 1)).filter yt)=if yt x=true then (d.take i).filter yt++[x] else (d.take i).filter yt:=fun i x hx=>by
   rw [take_snoc hx,Qe7,Qfu]
   split
   ·rfl
   ·rw [List.filter_nil,Qax]
  rcases hp with hp | hp
  ·refine .inl ⟨_,rfl,p,rfl,⟨_,SqL.of hp⟩,vm (K:=K) (a:=p) (xs:=d) (fun i zs H'=>zs=(d.take i).filter yt/\Z0 H H') ⟨rfl,Z0.refl _⟩ (fun i zs H' h=>by rw [h.1];exact I i) (fun i zs H' h=>SqL.of (h.2 _ _ hp)) (fun i x zs H1 R L hx h=>?_) (fun zs H1 h q f=>fin zs H1 h q f)⟩
   obtain ⟨rfl,O⟩:=h;obtain ⟨Z,W⟩:=J x (Qae hx);refine ⟨_,rfl,by show 5<=sizeLine;decide,fun q f=>⟨q,_,rfl,.inr (SqT.of Zc),Z,rfl,_,rfl,?_⟩⟩;show if inV x ((["add","sub","neg","twice","low"]:List Str).map V.str)=true then _ else _;rw [W];have U:=O.trans (Zd (o:=.tup [.str "add",.str "sub",.str "neg",.str "twice",.str "low"]) f);have g:=G i x hx
   by_cases hr:yt x=true
   ·rw [Qa4 hr] at g ⊢
    exact ⟨_,rfl,L _ _ ⟨g.symm,U⟩⟩
   ·rw [Qa5 hr] at g ⊢
    exact L _ _ ⟨g.symm,U⟩
  ·refine .inr ⟨_,rfl,p,rfl,⟨_,SqT.of hp⟩,qu (K:=K) (a:=p) (xs:=d) (fun i zs H'=>zs=(d.take i).filter yt/\Z0 H H') ⟨rfl,Z0.refl _⟩ (fun i zs H' h=>by rw [h.1];exact I i) (fun i zs H' h=>SqT.of (h.2 _ _ hp)) (fun i x zs H1 R L hx h=>?_) (fun zs H1 h q f=>fin zs H1 h q f)⟩
   obtain ⟨rfl,O⟩:=h;obtain ⟨Z,W⟩:=J x (Qae hx);refine ⟨_,rfl,by show 5<=sizeLine;decide,fun q f=>⟨q,_,rfl,.inr (SqT.of Zc),Z,rfl,_,rfl,?_⟩⟩;show if inV x ((["add","sub","neg","twice","low"]:List Str).map V.str)=true then _ else _;rw [W];have U:=O.trans (Zd (o:=.tup [.str "add",.str "sub",.str "neg",.str "twice",.str "low"]) f);have g:=G i x hx
   by_cases hr:yt x=true
   ·rw [Qa4 hr] at g ⊢
    exact ⟨_,rfl,L _ _ ⟨g.symm,U⟩⟩
   ·rw [Qa5 hr] at g ⊢
    exact L _ _ ⟨g.symm,U⟩
inductive XX(vs:List V)(H:Hp)(Q:VK):Prop
 | mk (w:V) (l:Addr) (xs:List V) (ts:List Tm):(vs=[w,.ref l])->(H l=some (.lst xs))->(XH H xs ts)->((Zq ts).length<=900)->(∀z H',H' z=some (.tup (w::Zq ts))->Z0 H H'->Q (.ref z) H')->XX vs H Q
def WZ(K:PySem.W.Frag):Sp:=fun d H Q _=>XX d H Q
theorem qY (T:Txt K w mg t) (XB:Xcl K mg base t):Z5 P w K mg base CX0 1 t.fu t.fw ["word","shares"] (WZ K):=by
 refine T.du.F.ok YL (fun Y H Q E h=>?_) (fun Z A outer s H Y Q E hr h=>?_)
 ·obtain ⟨w,l,xs,ts,rfl,hl,L,g,k⟩:=h
  rfl
 ·obtain ⟨w,l,xs,ts,rfl,hl,L,g,k⟩:=h
  have hu:=Yd hr;refine ⟨_,@QSs.out _ _ _ (Za (Zo (i:=2) YL.nd rfl (Or.inl rfl) (Zr (Zj (qv 0) Zb)))
    (Za (Y6 Qbl rfl (Xy (qv 1)) (Z8 (i:=3) YL.nd rfl (Or.inl rfl))
    (Zh (Zo (i:=2) YL.nd rfl (Or.inl rfl) (Zl Zn (qv 2) (qv 3)))))
    (Zh (Zp (qv 2))))),?_⟩
  clear hu hr
  try dsimp only [L2.cxK,L2.cxK2]
  refine L2.let3 ?_;intro U2 U1;refine ⟨_,rfl,by show 1<=sizeLine;decide,fun S W=>Zf ?_⟩;have G:=Zd (o:=.tup [w]) W;have g0:=Zc (H:=H) (a:=S) (o:=.tup [w]);generalize upd H S (.tup [w])=H0 at *;refine ⟨_,rfl,l,rfl,⟨_,SqL.of (G _ _ hl)⟩,WK (K:=K) (a:=l) (xs:=xs) (fun i σ H'=>∃(z:Addr) (J:Option V),σ=[some w,some (.ref l),some (.ref z),J]/\H' z=some (.tup (w::Zq (ts.take i)))/\Z0 H0 H') ⟨S,none,rfl,g0,Z0.refl _⟩ (fun i σ H' _ ⟨_,_,_,_,s⟩=>SqL.of (s _ _ (G _ _ hl))) ?_ ?_⟩
  ·rintro i x σ H2 hx f
   refine Zy fun y d=>?_;obtain ⟨z,J,rfl,I,s⟩:=f;refine d ?_;clear d y;refine Zf ?_;refine Zy fun y d=>?_;obtain ⟨ti,U,a,rfl,ha⟩:=Zw L hx;refine d ?_;clear d y;have e:Zq (ts.take (i + 1))=Zq (ts.take i)++ti.flat:=by rw [Z6 U,Yi,Xp]
   have O:(Zq (ts.take (i + 1))).length<=(Zq ts).length:=by
    have:Zq ts=Zq (ts.take (i + 1))++Zq (ts.drop (i + 1)):=by rw [<-Yi,Qdq]
    rw [this,Qab];lia
   rw [e,Qab] at O;refine ⟨_,rfl,_,rfl,z,a,_,_,rfl,rfl,I,s _ _ (G _ _ ha),Qbg (Zv (by rw [Qan];lia)),fun p H3 hp s3=>Zf ?_⟩;exact ⟨p,_,rfl,by rw [hp,e];rfl,s.trans s3⟩
  ·rintro σ H2 f
   refine Zy fun y d=>?_;obtain ⟨z,J,rfl,I,s⟩:=f;refine d ?_;clear d y;rw [L.length,Qbo] at I;exact ⟨_,rfl,k z H2 I (G.trans s)⟩
inductive Ja(vs:List V)(H:Hp)(Q:VK):Prop
 | mk (k:Key):(vs=[kV k])->(Q (.int (YK k)) H)->Ja vs H Q
def WG(K:PySem.W.Frag):Sp:=fun d H Q _=>Ja d H Q
theorem G5 (T:Txt K w mg t) (y:Xcl K mg base t):Z5 P w K mg base CX0 2 t.et t.eu ["word"] (WG K):=by
 have f:Z5 P w K mg base CX0 1 t.fh t.fi ["word"] (Wr K):=GL T y;have d:Z5 P w K mg base CX0 1 t.ed t.ef ["word"] (XD K):=JM T y;refine T.br.F.ok zL (fun G H Q E h=>?_) (fun I A outer s H G Q E hr h=>?_)
 ·obtain ⟨g,rfl,k⟩:=h
  rfl
 ·obtain ⟨g,rfl,k⟩:=h
  have hu:=Yd hr;refine ⟨_,@QSs.out _ _ _ (Zh (Zp (Zl YC (Zi f (hr.mono (by decide)) rfl T.df.m T.df.F.kp T.df.b .nil Z1 (Zj (qv 0) Zb)) (Zi d (hr.mono (by decide)) rfl T.ck.m T.ck.F.kp T.ck.b .nil Z1 (Zj (qv 0) Zb))))),?_⟩;clear hu hr
  try dsimp only [L2.cxK,L2.cxK2]
  exact ⟨_,rfl,g,rfl,_,rfl,g,rfl,_,_,rfl,rfl,k⟩
inductive J6(vs:List V)(H:Hp)(Q:VK):Prop
 | mk (y:Str):(vs=[.str y])->(y.length<=100000)->(∀H',Z0 H H'->Q (.bl (decide (y∉Ya/\NmL y))) H')->J6 vs H Q
def qj(K:PySem.W.Frag):Sp:=fun d H Q _=>J6 d H Q
theorem gu:NmL x↔x.length<=8/\GZ x vO:=by
 constructor
 ·intro h
  refine ⟨h.1.2,fun z=>?_,h.2⟩;have h1:=h.1.1;rw [len_signs,z] at h1;exact absurd h1 (by decide)
 ·intro h
  refine ⟨⟨?_,h.1⟩,h.2.2⟩;rw [len_signs];cases e:x.cps.toList with
  | nil=>exact absurd e h.2.1
  | cons a r=>exact Qfs (Qa8 _)
theorem ym (T:Txt K w mg t) (I:Xcl K mg base t):Z5 P w K mg base CX0 2 t.ir t.iu ["text"] (qj K):=by
 have g:Z5 P w K mg base CX0 1 t.fq t.ft ["text","signs"] (WX K):=qX T I;have d:Z5 P w K mg base CX0 1 t.dz t.ea ["text"] (XA K):=JL T I;have f:Z5 P w K mg base CX0 1 t.ff t.fg ["text"] (Wq K):=GK T I;refine T.ia.F.ok yl (fun L H Q E h=>?_) (fun O A outer s H L Q E hr h=>?_)
 ·obtain ⟨y,rfl,hl,k⟩:=h
  rfl
 ·obtain ⟨y,rfl,hl,k⟩:=h
  have hu:=Yd hr;refine ⟨_,@QSs.out _ _ _ (Za (ZF (YO (Zab (WM (Zi f (hr.mono (by decide)) rfl T.de.m T.de.F.kp T.de.b .nil Z1 (Zj (qv 0) Zb))) (vh (WM (Zi d (hr.mono (by decide)) rfl T.cj.m T.cj.F.kp T.cj.b .nil Z1 (Zj (qv 0) Zb))))))
    (Zh (Zp jS)) Zu)
    (Zh (Zp (zW (XN uL (Z4 J0 (by rfl) T.cz XM (Zj (qv 0) Zb)) (ZY (v:=.int 8) rfl T.lr ⟨_,rfl⟩) (Zt _)) (xq (Zi g (hr.mono (by decide)) rfl T.dt.m T.dt.F.kp T.dt.b .nil Z1 (Zj (qv 0) (Zj (ZY (v:=.str "abcdefghijklmnopqrstuvwxyz") rfl T.me ⟨_,rfl⟩) Zb)))))))),?_⟩
  clear hu hr
  try dsimp only [L2.cxK,L2.cxK2]
  refine L2.let2 ?_;intro S
  by_cases h1:y∈Ya
  ·have e:decide (y∉Ya/\NmL y)=false:=Qal fun z=>z.1 h1
   rw [e] at k;refine ⟨_,rfl,y,rfl,_,rfl,?_⟩
   by_cases h2:y∈Jp
   ·rw [Qad h2]
    exact Yq (Yq (k H (Z0.refl H)))
   ·rw [Qal h2]
    have G:y∈YS:=((z9 y).mp h1).resolve_left h2;refine Yt ⟨_,rfl,.inr y,rfl,_,rfl,?_⟩;rw [show clK (.inr y)=true from Qad G];exact Yq (k H (Z0.refl H))
  ·have h2:y∉Jp:=fun z=>h1 ((z9 y).mpr (.inl z))
   have G:y∉YS:=fun z=>h1 ((z9 y).mpr (.inr z));refine ⟨_,rfl,y,rfl,_,rfl,?_⟩;rw [Qal h2];refine Yt ⟨_,rfl,.inr y,rfl,_,rfl,?_⟩;rw [show clK (.inr y)=false from Qal G];refine Yt ?_;refine ⟨_,rfl,y,rfl,Qa0 hl (by decide),_,_,rfl,rfl,_,rfl,?_⟩
   by_cases J:y.length<=8
   ·rw [Qad (show (y.length:Int)<=8 by lia)]
    refine Yq ⟨_,rfl,y,vO,rfl,hl,fun H' s'=>?_⟩;have e:decide (GZ y vO)=decide (y∉Ya/\NmL y):=by
     rw [Qbu,Qcf,Qcf,gu];exact ⟨fun z=>⟨h1,J,z⟩,fun z=>z.2.2⟩
    rw [e];exact k H' s'
   ·rw [Qal (show ¬(y.length:Int)<=8 by lia)]
    have e:decide (y∉Ya/\NmL y)=false:=Qal fun z=>J z.2.1.2;rw [e] at k;exact Yt (k H (Z0.refl H))
inductive Jb(K:PySem.W.Frag)(vs:List V)(H:Hp)(Q:VK):Prop
 | mk (a:Addr) (ns:List Int) (i:Nat):(vs=[.ref a,.int (i:Int)])->(SqL K H a (ns.map V.int))->(ns.length<=63)->(i<=100)->(∀H',Z0 H H'->Q (.str (Zby ns i)) H')->Jb K vs H Q
def G6(K:PySem.W.Frag):Sp:=fun d H Q _=>Jb K d H Q
theorem zN (T:Txt K w mg t) (XB:Xcl K mg base t):Z5 P w K mg base CX0 2 t.ij t.ik ["script","i"] (G6 K):=by
 have d:Z5 P w K mg base CX0 1 t.bg t.bh ["script","k"] (Yn K):=Y0 T XB;refine T.fc.F.ok Ym (fun vs H Q E h=>?_) (fun cdv A outer s H vs Q E hr h=>?_)
 ·obtain ⟨a,f,i,rfl,ha,hl,hi,k⟩:=h
  rfl
 ·obtain ⟨a,f,i,rfl,ha,hl,hi,k⟩:=h
  have hu:=Yd hr;refine ⟨_,@QSs.out _ _ _ (Za (Zo (i:=2) Ym.nd rfl (Or.inl rfl) Zg)
    (Za (Zo (i:=3) Ym.nd rfl (Or.inl rfl) (ZD gJ (qv 2) (Zl ZM (Zi d (hr.mono (by decide)) rfl T.aa.m T.aa.F.kp T.aa.b .nil Z1 (Zj (qv 0) (Zj Ze Zb))) Ze) (fun _ _=>rfl)))
    (Za (Zo (i:=4) Ym.nd rfl (Or.inl rfl) (Zl ZM (Zi d (hr.mono (by decide)) rfl T.aa.m T.aa.F.kp T.aa.b .nil Z1 (Zj (qv 0) (Zj Ze Zb))) Ze))
    (Za (Zo (i:=5) Ym.nd rfl (Or.inl rfl) (Zl ZM (Zi d (hr.mono (by decide)) rfl T.aa.m T.aa.F.kp T.aa.b .nil Z1 (Zj (qv 0) (Zj Ze Zb))) (Zl Jz Ze (qv 4))))
    (Za (Zo (i:=6) Ym.nd rfl (Or.inl rfl) (Zl Wd (Zl Wd (Zl vN (qv 3) (qv 4)) (ZD gJ (qv 2) (Zl ZM (Zl YC (qv 1) (Zi d (hr.mono (by decide)) rfl T.aa.m T.aa.F.kp T.aa.b .nil Z1 (Zj (qv 0) (Zj Ze Zb)))) Ze) (fun _ _=>rfl))) (Zl vN (qv 3) (qv 5))))
    (Za (ZF (YO (ZJ (Zk ZH (Zl ZM (qv 1) Ze) Ze (Zt _)) (ZI (Zk uK (Z4 J0 (by rfl) T.cz XM (Zj (qv 6) Zb)) Ze (Zt _)))))
    (Zh (Zo (i:=6) Ym.nd rfl (Or.inl rfl) (Zl Wd (qv 6) (qv 3)))) Zu)
    (Zh (Zp (Zl Wd (qv 6) Zg))))))))),?_⟩
  clear hu hr
  try dsimp only [L2.cxK,L2.cxK2]
  refine L2.let7 ?_;intro U6 U5 U4 U3 U2 U1;refine Zf ?_;have ld:=um f;refine ⟨_,rfl,_,rfl,a,f,0,rfl,ha,hl,by decide,fun H1 s1=>?_⟩;have G:=Z7 ha s1;refine ⟨_,_,rfl,rfl,(by show (0:Int) < 26;decide),_,_,Zbh f,rfl,rfl,jt,(Wh _).2,Zf ?_⟩;refine ⟨_,rfl,a,f,1,rfl,G,hl,by decide,fun H2 s2=>⟨_,_,rfl,rfl,(by show (0:Int) < 7;decide),Zf ?_⟩⟩;have I:=Z7 G s2;have p1:=Qbk (drw f 1) (b:=7) (by decide);have p2:=Qba (drw f 1) (b:=7) (by decide);refine ⟨_,rfl,a,f,2,rfl,I,hl,by decide,fun H3 s3=>⟨_,rfl,_,_,rfl,rfl,_,_,rfl,rfl,?_,Zf ?_⟩⟩
  ·show (0:Int) < 7 - drw f 1 % 7
   lia
  have Y:=Z7 I s3;have q1:=Qbk (drw f 2) (b:=7 - drw f 1 % 7) (by lia);have q2:=Qba (drw f 2) (b:=7 - drw f 1 % 7) (by lia);have hb:=uo f;refine ⟨_,rfl,_,rfl,Zbh f,_,rfl,rfl,p1,?_,fun U hz1=>?_⟩
  ·show drw f 1 % 7<=1000
   lia
  refine ⟨_,rfl,_,rfl,_,rfl,a,f,3,rfl,Y,hl,by decide,fun H4 s4=>?_⟩;have l1:U.length=Zcz f:=by rw [len_signs,hz1,Qc0];rfl
  refine ⟨_,_,rfl,rfl,_,_,rfl,rfl,(by show (0:Int) < 26;decide),_,_,qS ((i:Int) + drw f 3),rfl,rfl,jt,(Wh _).2,_,_,rfl,rfl,?_,?_⟩
  ·rw [qK,l1]
   exact Qbg (Zv (by lia))
  refine ⟨_,rfl,_,rfl,Zbh f,_,rfl,rfl,q1,?_,fun W hz2=>?_⟩
  ·show drw f 2 % (7 - drw f 1 % 7)<=1000
   lia
  have l2:W.length=Zc0 f:=by rw [len_signs,hz2,Qc0];rfl
  refine ⟨_,_,rfl,rfl,?_,Zf ?_⟩
  ·rw [Str.length_append,qK,l1,l2]
   exact Qbg (Zv (by lia))
  have hw:(U++(⟨#[qS ((i:Int) + drw f 3)]⟩:Str)++W).cps.toList=kI f i:=by
   rw [XS,XS,hz1,hz2]
   rfl
  have g:(U++(⟨#[qS ((i:Int) + drw f 3)]⟩:Str)++W).length=(kI f i).length:=by rw [len_signs,hw]
  generalize U++(⟨#[qS ((i:Int) + drw f 3)]⟩:Str)++W=wd at *;have hll:=jA f i;have O:=s1.trans (s2.trans (s3.trans s4));refine qJ (fun L H'=>∃y:Str,L=[some (.ref a),some (.int (i:Int)),some (.str vO),some (.str ⟨#[Zbh f]⟩),some (.int (drw f 1 % 7)),some (.int (drw f 2 % (7 - drw f 1 % 7))),some (.str y)]/\y.cps.toList=j9 f i/\H'=H4) (fun N hN=>?_) ?_
  ·refine ⟨_,rfl,_,_,rfl,rfl,(by show (0:Int) < 2;decide),rfl,_,rfl,?_⟩
   by_cases h1:i % 2=1
   ·rw [Qad (by show V.int ((i:Int) % 2)=V.int 1;rw [show (i:Int) % 2=1 by lia])]
    refine Yq ⟨_,rfl,wd,rfl,by rw [g];exact Qbg (Zv (by lia)),_,_,rfl,rfl,_,rfl,?_⟩
    by_cases h2:(kI f i).length < 7
    ·rw [Qad (by rw [g];lia)]
     refine Yq ⟨_,rfl,_,rfl,_,_,rfl,rfl,?_,Zf (hN _ _ ⟨_,rfl,?_,rfl⟩)⟩
     ·rw [qK,g]
      exact Qbg (Zv (by lia))
     ·unfold j9
      rw [Qa4 ⟨h1,h2⟩,XS,hw]
    ·rw [Qal (by rw [g];lia)]
     refine Yt (hN _ _ ⟨wd,rfl,?_,rfl⟩);unfold j9;rw [Qa5 fun z=>h2 z.2,hw]
   ·rw [Qal (fun z=>h1 (by have z':V.int ((i:Int) % 2)=V.int 1:=z;injection z' with z';lia))]
    refine Yt (Yt (hN _ _ ⟨wd,rfl,?_,rfl⟩));unfold j9;rw [Qa5 fun z=>h1 z.1,hw]
  ·rintro L H' Z
   refine Zy fun Gz J=>?_;obtain ⟨y,rfl,S,rfl⟩:=Z;refine J ?_;clear J Gz;have hM:(j9 f i).length<=7:=by
    unfold j9
    split
    ·rw [Qab]
     show _ + 1<=7;lia
    ·lia
   refine ⟨_,rfl,_,_,rfl,rfl,?_,?_⟩
   ·rw [len_signs,S]
    exact Qbg (Zv (by show _ + 1<=_;lia))
   ·have e:y++("x" : Str)=Zby f i:=vt (by rw [XS,S];rfl)
    rw [e];exact k _ O
inductive Wu(vs:List V)(H:Hp)(Q:VK):Prop
 | mk (p:Addr) (ys:List Str) (tm:Tm):(vs=[.ref p])->(H p=some (.tup tm.flat))->(NK ys)->(tm.ok ys)->(tm.flat.length<=300)->(∀l xs H',H l=none->H' l=some (.lst xs)->XH H' xs tm.kids->Z0 H H'->Q (.ref l) H')->Wu vs H Q
def Yp(K:PySem.W.Frag):Sp:=fun d H Q _=>Wu d H Q
theorem Y7 (T:Txt K w mg t) (XB:Xcl K mg base t):Z5 P w K mg base CX0 2 t.bj t.bo ["words"] (Yp K):=by
 have f:Z5 P w K mg base CX0 1 t.cx t.cy ["word"] (Xe K):=XW T XB;refine T.af.F.ok ZN (fun vs H Q E h=>?_) (fun cdv A outer s H vs Q E hr h=>?_)
 ·obtain ⟨p,ys,d,rfl,hp,hk,ht,hlen,k⟩:=h
  rfl
 ·obtain ⟨p,ys,d,rfl,hp,hk,ht,hlen,k⟩:=h
  have hu:=Yd hr;refine ⟨_,@QSs.out _ _ _ (Za (Zo (i:=1) ZN.nd rfl (Or.inl rfl) (XO Zb))
    (Za (Zo (i:=2) ZN.nd rfl (Or.inl rfl) (WN J2 (by rfl) T.lx ve (Zj (Y2 (SlR.or Wk Xf) (qv 0) (Yr Ze) Jg) Zb)))
    (Za (Y6 Qbl rfl (xr rfl T.la (Zj (Zi f (hr.mono (by decide)) rfl T.ak.m T.ak.F.kp T.ak.b .nil Z1 (Zj (ZD ZU (qv 0) Ze (fun _ _=>rfl)) Zb)) Zb)) (Z8 (i:=3) ZN.nd rfl (Or.inl rfl))
    (Za (Zo (i:=4) ZN.nd rfl (Or.inl rfl) Ze)
    (Za (Zo (i:=5) ZN.nd rfl (Or.inl rfl) (XO Zb))
    (Za (zX Qbl (Zk uM (qv 4) Ze (Zt _))
    (Za (Zo (i:=6) ZN.nd rfl (Or.inl rfl) (Wm Qbm PySem.F.slot_list_pop PySem.F.type_list_pop kT (qv 2) (Zj Ze Zb)))
    (Za (W5 (Wm Qbm Qcb Qcc Xl (qv 5) (Zj (qv 6) Zb)))
    (Zh (Zo (i:=4) ZN.nd rfl (Or.inl rfl) (Zl YC (Zl Jz (qv 4) Ze) (Zi f (hr.mono (by decide)) rfl T.ak.m T.ak.F.kp T.ak.b .nil Z1 (Zj (qv 6) Zb))))))))
    (Zh (W5 (Wm Qbm Qcb Qcc Xl (qv 1) (Zj (WN qq (by rfl) T.mf kY (Zj (qv 5) Zb)) Zb))))))))
    (Zh (Zp (qv 1)))))),?_⟩
  clear hu hr
  try dsimp only [L2.cxK,L2.cxK2]
  refine L2.let4 ?_;intro U3 U2 U1;refine ⟨by show 0<=sizeLine;decide,fun l hl=>Zf ?_⟩;have u1:=Zd (o:=.lst []) hl;have g1:=Zc (H:=H) (a:=l) (o:=.lst []);generalize upd H l (.lst [])=H0 at *;refine ⟨_,rfl,_,rfl,Gs (u1 _ _ hp) fun ps H1 hps s1=>?_⟩;have hcut:xg d.flat (some 1) none=Zq d.kids:=by
   rw [d.flat_eq];exact JR (u:=[d.hd]) (v:=Zq d.kids) rfl
  rw [hcut] at hps;refine ⟨ps,_,rfl,.inr (SqT.of hps),fun y Y=>Zf ?_⟩;have w1:=Zd (o:=.lst (Zq d.kids)) Y;have hll:y≠l:=fun z=>by rw [z,s1 _ _ g1] at Y;cases Y
  have hlfn:H y=none:=by
   cases q:H y with
   | none=>rfl
   | some o=>rw [s1 _ _ (u1 _ _ q)] at Y;cases Y
  have g2:=Zc (H:=H1) (a:=y) (o:=.lst (Zq d.kids));have g1':=w1 _ _ (s1 _ _ g1);have s2:=u1.trans (s1.trans w1);generalize upd H1 y (.lst (Zq d.kids))=H2 at *;have hp2:=s2 _ _ hp;have hfl:d.flat.length=(Zq d.kids).length + 1:=by rw [d.flat_eq,Qan]
  have hkf:=Gq d.kids;have hat:atI d.flat 0=some d.hd:=by rw [d.flat_eq];exact Yk (j:=0) rfl
  have hpv:=Gw hk ht;refine ⟨_,rfl,p,_,0,_,rfl,rfl,SqT.of hp2,hat,d.hd,rfl,ko ht,fun H3 s3=>⟨(d.kids.length:Int),by rw [hpv],by lia,by lia,JW (fun i σ H'=>∃(xs:List V) (v3 v4 v5 O:Option V),σ=[some (.ref p),some (.ref l),some (.ref y),v3,v4,v5,O]/\i<=d.kids.length/\H' l=some (.lst xs)/\xs.length=i/\XH H' xs (d.kids.take i)/\H' y=some (.lst (Zq (d.kids.drop i)))/\Z0 H H') ⟨[],none,none,none,none,rfl,Qa8 _,s3 _ _ g1',rfl,.nil,s3 _ _ g2,s2.trans s3⟩ ?_ ?_⟩⟩
  ·rintro i σ H4 hi J
   refine Zy fun Gz g=>?_;obtain ⟨xs,v3,v4,v5,O,rfl,_,h1,hxl,hT,h2,s4⟩:=J;refine g ?_;clear g Gz;rw [Qbw] at hi;obtain ⟨W,hti⟩:∃W,d.kids[i]?=some W:=⟨_,Qag hi⟩;have hdk:d.kids.drop i=W::d.kids.drop (i + 1):=by
    obtain ⟨h1,h2⟩:=Qah.mp hti;rw [Qbx h1,h2]
   have oti:=Tm.ok_kids ht W (Qae hti);refine Zf ?_;refine Zf ?_;refine ⟨by show 0<=sizeLine;decide,fun L S=>Zf ?_⟩;have w5:=Zd (o:=.lst []) S;have f5:=Zc (H:=H4) (a:=L) (o:=.lst []);have h1':=w5 _ _ h1;have h2':=w5 _ _ h2;have hT':=hT.same w5;have s5:=s4.trans w5;have hfl1:L≠l:=fun z=>by rw [z,h1] at S;cases S
   have hfl2:L≠y:=fun z=>by rw [z,h2] at S;cases S
   have hfon:H L=none:=by
    cases q:H L with
    | none=>rfl
    | some o=>rw [s4 _ _ q] at S;cases S
   generalize upd H4 L (.lst [])=H5 at *;have hml:W.flat.length<=(Zq d.kids).length:=by
    have e:Zq d.kids=Zq (d.kids.take i)++Zq (d.kids.drop i):=by rw [<-Yi,Qdq]
    have e2:Zq (d.kids.drop i)=W.flat++Zq (d.kids.drop (i + 1)):=by rw [hdk];rfl
    rw [e,Qab,e2,Qab];lia
   refine qJ (fun Z H'=>∃(v4 O:Option V),Z=[some (.ref p),some (.ref l),some (.ref y),some (.int (0 + (i:Int))),v4,some (.ref L),O]/\H' l=some (.lst xs)/\XH H' xs (d.kids.take i)/\H' y=some (.lst (Zq (d.kids.drop (i + 1))))/\H' L=some (.lst W.flat)/\Z0 H H') (fun N hN=>?_) ?_
   ·refine vP (fun σ H'=>∃(ts:List Tm) (G:List V) (O:Option V),σ=[some (.ref p),some (.ref l),some (.ref y),some (.int (0 + (i:Int))),some (.int (ts.length:Int)),some (.ref L),O]/\(∀x∈ts,x.ok ys)/\G++Zq ts=W.flat/\H' L=some (.lst G)/\H' y=some (.lst (Zq ts++Zq (d.kids.drop (i + 1))))/\H' l=some (.lst xs)/\XH H' xs (d.kids.take i)/\Z0 H H') (fun _ H'=>match H' y with | some (.lst q)=>q.length | _=>0) ⟨[W],[],O,rfl,vZ oti,Xp W,f5,by rw [h2',hdk,Xp];rfl,h1',hT',s5⟩ ?_
    rintro σ H6 J;refine Zy fun Gz g=>?_;obtain ⟨ts,G,O,rfl,hok,I,q1,q2,q3,q4,s6⟩:=J;refine g ?_;clear g Gz;refine ⟨_,rfl,_,_,rfl,rfl,_,rfl,Yw (fun c=>?_) (fun c=>?_)⟩
    ·have c:=Qap c
     match ts,c,hok,I,q2 with
     | t1::U,_,hok,I,q2 =>
      rw [Jq] at I q2;have o1:=hok t1 Qaq;have hq2:upd H6 y (.lst (Zq (t1.kids++U)++Zq (d.kids.drop (i + 1)))) y=some (.lst (Zq (t1.kids++U)++Zq (d.kids.drop (i + 1)))):=Zc;have hq1:upd H6 y (.lst (Zq (t1.kids++U)++Zq (d.kids.drop (i + 1)))) L=some (.lst G):=by rw [Zs hfl2];exact q1
      have hq3:upd H6 y (.lst (Zq (t1.kids++U)++Zq (d.kids.drop (i + 1)))) l=some (.lst xs):=by rw [Zs hll.symm];exact q3
      have hq4:=XH.put (ys:=Zq (t1.kids++U)++Zq (d.kids.drop (i + 1))) q4 q2;have s7:Z0 H (upd H6 y (.lst (Zq (t1.kids++U)++Zq (d.kids.drop (i + 1))))):=Ys s6 hlfn;have hpl:=congrArg List.length I;rw [Qab] at hpl;have hmu:(match H6 y with | some (.lst q)=>q.length | _=>0)=(Zq (t1.kids++U)++Zq (d.kids.drop (i + 1))).length + 1:=by rw [q2];rfl
      rw [hmu];refine ⟨fun Z H'=>∃O,Z=[some (.ref p),some (.ref l),some (.ref y),some (.int (0 + (i:Int))),some (.int (((U.length + 1:Nat):Int) - 1 + (t1.kids.length:Int))),some (.ref L),O]/\H' L=some (.lst (G++[t1.hd]))/\H' y=some (.lst (Zq (t1.kids++U)++Zq (d.kids.drop (i + 1))))/\H' l=some (.lst xs)/\XH H' xs (d.kids.take i)/\Z0 H H',?_,?_⟩
      ·rintro Z H' J
       refine Zy fun Gz g=>?_;obtain ⟨O,rfl,r1,r2,r3,r4,r5⟩:=J;refine g ?_;clear g Gz;refine ⟨_,Qdg _,by rw [r2],t1.kids++U,G++[t1.hd],O,?_,ka hok,?_,r1,r2,r3,r4,r5⟩
       ·rw [Qab,show ((U.length + 1:Nat):Int) - 1 + (t1.kids.length:Int)=((t1.kids.length + U.length:Nat):Int) by lia]
       ·rw [<-I,Qbb]
        rfl
      ·refine ⟨_,rfl,.inl ⟨rfl,_,SqL.of q2⟩,y,_,0,0,t1.hd,rfl,rfl,q2,by decide,by decide,seq0 _ _,rfl,Zf ?_⟩
       refine ⟨_,rfl,.inl ⟨rfl,_,SqL.of hq1⟩,_,rfl,L,_,_,rfl,rfl,hq1,Zv (by lia),?_⟩;refine ⟨_,rfl,_,_,rfl,rfl,_,rfl,t1.hd,rfl,ko o1,fun H8 s8=>⟨_,_,rfl,rfl,Zf ?_⟩⟩;have e2:upd (upd H6 y (.lst (Zq (t1.kids++U)++Zq (d.kids.drop (i + 1))))) L (.lst (G++[t1.hd])) y=some (.lst (Zq (t1.kids++U)++Zq (d.kids.drop (i + 1)))):=by rw [Zs hfl2.symm];exact hq2
       have e3:upd (upd H6 y (.lst (Zq (t1.kids++U)++Zq (d.kids.drop (i + 1))))) L (.lst (G++[t1.hd])) l=some (.lst xs):=by rw [Zs hfl1.symm];exact hq3
       refine ⟨some t1.hd,by rw [Gw hk o1];rfl,s8 _ _ Zc,s8 _ _ e2,s8 _ _ e3,(hq4.put hq1).same s8,(Ys s7 hfon).trans s8⟩
    ·have c:ts=[]:=by
      cases ts with
      | nil=>rfl
      | cons a r=>exact absurd (Qad (show (0:Int) < ((r.length + 1:Nat):Int) by lia)) c
     subst c;have hpre':G=W.flat:=(Qax G).symm.trans I;rw [hpre'] at q1;exact hN _ _ ⟨_,O,rfl,q3,q4,q2,q1,s6⟩
   ·rintro Z H6 J
    refine Zy fun Gz g=>?_;obtain ⟨v4,O,rfl,r1,r2,r3,r4,s6⟩:=J;refine g ?_;clear g Gz;refine ⟨_,rfl,.inl ⟨rfl,_,SqL.of r1⟩,_,rfl,L,_,rfl,.inl ⟨SqL.of r4,fun z hz=>?_⟩⟩;have w7:=Zd (o:=.tup W.flat) hz;have r1':=w7 _ _ r1;refine ⟨l,_,_,rfl,rfl,r1',Zv (by lia),xs++[.ref z],_,_,_,_,rfl,hi,Zc,by rw [Qab,hxl];rfl,?_,?_,Ys (s6.trans w7) hl⟩
    ·rw [Z6 hti]
     exact ((r2.same w7).put r1').snoc (wW.put (H:=upd H6 z (.tup W.flat)) ⟨z,rfl,Zc⟩ r1')
    ·rw [Zs hll]
     exact w7 _ _ r3
  ·rintro σ H4 J
   refine Zy fun Gz g=>?_;obtain ⟨xs,v3,v4,v5,O,rfl,_,h1,hxl,hT,h2,s4⟩:=J;refine g ?_;clear g Gz;rw [Qbw,Qbo] at hT;exact ⟨_,rfl,k l xs H4 hl h1 hT s4⟩
inductive Jc(vs:List V)(H:Hp)(Q:VK):Prop
 | mk (p:Addr) (ys:List Str) (u v:List V) (tm:Tm):(vs=[.ref p,.int (u.length:Int)])->(H p=some (.tup (u++(tm.flat++v))))->(NK ys)->(tm.ok ys)->(Q (.int ((u.length + tm.flat.length:Nat):Int)) H)->Jc vs H Q
def X7(K:PySem.W.Frag):Sp:=fun d H Q _=>Jc d H Q
theorem WH (T:Txt K w mg t) (XB:Xcl K mg base t):Z5 P w K mg base CX0 3 t.dh t.di ["words","begin"] (X7 K):=by
 have d:Z5 P w K mg base CX0 2 t.et t.eu ["word"] (WG K):=G5 T XB;refine T.aw.F.ok YV (fun Y H Q E h=>?_) (fun Z A outer s H Y Q E hr h=>?_)
 ·obtain ⟨p,ys,u,v,I,rfl,hp,hk,W,k⟩:=h
  rfl
 ·obtain ⟨p,ys,u,v,I,rfl,hp,hk,W,k⟩:=h
  have hu:=Yd hr;refine ⟨_,@QSs.out _ _ _ (Za (Zo (i:=2) YV.nd rfl (Or.inl rfl) (qv 1))
    (Za (Zo (i:=3) YV.nd rfl (Or.inl rfl) Ze)
    (Za (zX Qbl (Zk uM (qv 3) Ze (Zt _))
    (Za (vK (i:=3) YV.nd rfl (Or.inl rfl) (Zl Jz (Zi d (hr.mono (by decide)) rfl T.br.m T.br.F.kp T.br.b .nil Z1 (Zj (ZD ZU (qv 0) (qv 2) (fun _ _=>rfl)) Zb)) Ze) g8)
    (Zh (vK (i:=2) YV.nd rfl (Or.inl rfl) Ze g8))))
    (Zh (Zp (qv 2)))))),?_⟩
  clear hu hr
  try dsimp only [L2.cxK,L2.cxK2]
  refine L2.let4 ?_;intro U3 U2 U1;refine ⟨_,rfl,Zf ?_⟩;refine Zf ?_;refine vP (fun σ H'=>∃(G:Nat) (ts:List Tm),σ=[some (.ref p),some (.int (u.length:Int)),some (.int (G:Int)),some (.int (ts.length:Int))]/\(u++(I.flat++v)).drop G=Zq ts++v/\(∀x∈ts,x.ok ys)/\G + (Zq ts).length=u.length + I.flat.length/\H'=H) (fun σ _=>match σ with | [_,_,some (.int m),_]=>((u.length + I.flat.length:Nat) - m).toNat | _=>0) ⟨u.length,[I],rfl,by rw [Xp,Qff],vZ W,by rw [Xp],rfl⟩ ?_;rintro σ H1 J;refine Zy fun S g=>?_;obtain ⟨G,ts,rfl,hd,y,f,rfl⟩:=J;refine g ?_;clear g S;refine ⟨_,rfl,_,_,rfl,rfl,_,rfl,Yw (fun c=>?_) (fun c=>?_)⟩
  ·have c:=Qap c
   match ts,c,hd,y,f with
   | t1::O,_,hd,y,f =>
    rw [Jq] at hd f;obtain ⟨h1,h2,h3⟩:=zG hd;have U:=y t1 Qaq;rw [Qan] at f;refine ⟨fun L H'=>L=[some (.ref p),some (.int (u.length:Int)),some (.int ((G:Int) + 1)),some (.int (((O.length + 1:Nat):Int) + ((t1.kids.length:Int) - 1)))]/\H'=H1,?_,?_⟩
    ·rintro L H' J
     refine Zy fun S g=>?_;obtain ⟨rfl,rfl⟩:=J;refine g ?_;clear g S;refine ⟨((u.length + I.flat.length:Nat) - ((G:Int) + 1)).toNat,?_,rfl,G + 1,t1.kids++O,?_,h2,ka y,by lia,rfl⟩
     ·show _ < ((u.length + I.flat.length:Nat) - (G:Int)).toNat
      lia
     ·rw [Qab]
      have e:((O.length + 1:Nat):Int) + ((t1.kids.length:Int) - 1)=((t1.kids.length + O.length:Nat):Int):=by lia
      rw [e]
      rfl
    ·refine ⟨_,rfl,_,rfl,_,rfl,p,_,_,_,rfl,rfl,SqT.of hp,Yk h1,keyOf t1.hd,congrArg (fun z=>[z]) (uj U),_,_,rfl,rfl,_,_,rfl,rfl,?_⟩
     rw [j4 hk U];exact ⟨_,rfl,_,_,rfl,rfl,rfl,rfl⟩
  ·have c:ts=[]:=by
    cases ts with
    | nil=>rfl
    | cons a r=>exact absurd (Qad (show (0:Int) < ((r.length + 1:Nat):Int) by lia)) c
   subst c;have e:G=u.length + I.flat.length:=f;subst e;exact ⟨_,rfl,k⟩
inductive Jd(vs:List V)(H:Hp)(Q:VK):Prop
 | mk (p:Addr) (ys:List Str) (tm:Tm):(vs=[.ref p])->(H p=some (.tup tm.flat))->(NK ys)->(tm.ok ys)->(tm.flat.length<=300)->(∀l xs H',H l=none->H' l=some (.lst xs)->YD H' xs ((tm.nds []).map (·.1))->Z0 H H'->Q (.ref l) H')->Jd vs H Q
def WI(K:PySem.W.Frag):Sp:=fun d H Q _=>Jd d H Q
theorem G7 (T:Txt K w mg t) (XB:Xcl K mg base t):Z5 P w K mg base CX0 3 t.ew t.ez ["words"] (WI K):=by
 have g:Z5 P w K mg base CX0 2 t.et t.eu ["word"] (WG K):=G5 T XB;refine T.bu.F.ok Yy (fun vs H Q E h=>?_) (fun cdv A outer s H vs Q E hr h=>?_)
 ·obtain ⟨p,ys,Y,rfl,hp,hk,ht,hlen,k⟩:=h
  rfl
 ·obtain ⟨p,ys,Y,rfl,hp,hk,ht,hlen,k⟩:=h
  have hu:=Yd hr;refine ⟨_,@QSs.out _ _ _ (Za (Zo (i:=1) Yy.nd rfl (Or.inl rfl) (XO Zb))
    (Za (Zo (i:=2) Yy.nd rfl (Or.inl rfl) (XO (Zj (Zr Zb) Zb)))
    (Za (Y6 Qbl rfl (Wl (qv 0)) (Z8 (i:=3) Yy.nd rfl (Or.inl rfl))
    (Za (Zo (i:=4) Yy.nd rfl (Or.inl rfl) (qe_bm0 Qbm PySem.F.slot_list_pop PySem.F.type_list_pop mt_pop (qv 2)))
    (Za (W5 (Wm Qbm Qcb Qcc Xl (qv 1) (Zj (qv 4) Zb)))
    (Zh (Y6 Qbl rfl (Zay rfl T.la (Zj (Zl Jz (Zi g (hr.mono (by decide)) rfl T.br.m T.br.F.kp T.br.b .nil Z1 (Zj (qv 3) Zb)) Ze) (Zj (zg JX Ze) (Zj (zg JX Ze) Zb)))) (Z8 (i:=5) Yy.nd rfl (Or.inl rfl))
    (Zh (W5 (Wm Qbm Qcb Qcc Xl (qv 2) (Zj (Zl Zn (qv 4) (Zr (Zj (qv 5) Zb))) Zb)))))))))
    (Zh (Zp (qv 1)))))),?_⟩
  clear hu hr
  try dsimp only [L2.cxK,L2.cxK2]
  refine L2.let4 ?_;intro U3 U2 U1;refine ⟨by show 0<=sizeLine;decide,fun l hl=>?_⟩;refine Zf ?_;refine ⟨by show 0<=sizeLine;decide,fun W he0=>⟨by show 1<=sizeLine;decide,fun c hc=>Zf ?_⟩⟩;have u1:=Zd (o:=.lst []) hl;have u2:=Zd (o:=.tup []) he0;have u3:=Zd (o:=.lst [.ref W]) hc;have g1:=u3 _ _ (u2 _ _ (Zc (H:=H) (a:=l) (o:=.lst [])));have g2:=u3 _ _ (Zc (H:=upd H l (.lst [])) (a:=W) (o:=.tup []));have g3:=Zc (H:=upd (upd H l (.lst [])) W (.tup [])) (a:=c) (o:=.lst [.ref W]);have s3:=u1.trans (u2.trans u3);have hcl:c≠l:=fun z=>by rw [z,u2 _ _ (Zc (H:=H) (a:=l) (o:=.lst []))] at hc;cases hc
  have hcn:H c=none:=by
   cases q:H c with
   | none=>rfl
   | some o=>rw [u2 _ _ (u1 _ _ q)] at hc;cases hc
  generalize upd (upd (upd H l (.lst [])) W (.tup [])) c (.lst [.ref W])=H0 at *;refine ⟨_,rfl,p,rfl,⟨_,SqT.of (s3 _ _ hp)⟩,W3 (K:=K) (a:=p) (xs:=Y.flat) (fun i σ H2=>∃(xs cs:List V) (dn st:List (List Int)) (ts:List Tm) (u3 u4 u5:Option V),σ=[some (.ref p),some (.ref l),some (.ref c),u3,u4,u5]/\H2 l=some (.lst xs)/\H2 c=some (.lst cs.reverse)/\YD H2 xs dn/\YD H2 cs st/\Y.flat.drop i=Zq ts/\st.length=ts.length/\(∀x∈ts,x.ok ys)/\dn++ndz st ts=(Y.nds []).map (·.1)/\xs.length=i/\i<=Y.flat.length/\(∀z∈st,z.length<=i)/\Z0 H H2) ⟨[],[.ref W],[],[[]],[Y],none,none,none,rfl,g1,g3,.nil,.cons ⟨W,rfl,g2⟩ .nil,by rw [Xp,Qfe],rfl,vZ ht,Qax _,rfl,Qa8 _,(fun z hz=>by rw [Qai.mp hz];exact Qao 0),s3⟩ (fun i σ H2 _ ⟨_,_,_,_,_,_,_,_,_,_,_,_,_,_,_,_,_,_,_,_,s⟩=>SqT.of (s _ _ hp)) ?_ ?_⟩
  ·rintro i x σ H2 hx y
   refine Zy fun Z d=>?_;obtain ⟨xs,cs,dn,st,ts,v3,v4,v5,rfl,h1,h2,p1,p2,hd,L,G,f,hxl,hi,I,s⟩:=y;refine d ?_;clear d Z;have hi':i < Y.flat.length:=(Qah.mp hx).1
   match ts,st,cs,L,p2,hd,G,f,I with
   | [],[],_,_,p2,hd,G,f,I =>
    rw [Qbx hi'] at hd;cases hd
   | t1::tr,q::sr,_,L,.cons (a:=S) (l₁:=J) ha p2,hd,G,f,I =>
    have hsz:=Gq (t1::tr);rw [<-hd,Qfr,Qan] at hsz;have hcl2:=p2.length;have hs1:sr.length=tr.length:=Nat.succ.inj L;have hq1:=I q Qaq;rw [Jq] at hd;obtain ⟨d1,d2,_⟩:=zG hd;rw [hx] at d1;have e1:=Option.some.inj d1;subst e1;have o1:=G t1 Qaq;rw [Qds] at h2;refine ⟨_,rfl,.inl ⟨rfl,_,SqL.of h2⟩,c,_,S,rfl,rfl,h2,vR _ _,Zf ?_⟩;rw [List.dropLast_concat];have f1:upd H2 c (.lst J.reverse) l=some (.lst xs):=by rw [Zs hcl.symm];exact h1
    have f2:upd H2 c (.lst J.reverse) c=some (.lst J.reverse):=Zc;have q1:=p1.put (ys:=J.reverse) h2;have q2:=YD.put (ys:=J.reverse) p2 h2;have qa:=JF.put (ys:=J.reverse) ha h2;have s4:Z0 H (upd H2 c (.lst J.reverse)):=Ys s hcn;generalize upd H2 c (.lst J.reverse)=H3 at *;refine ⟨_,rfl,.inl ⟨rfl,_,SqL.of f1⟩,_,rfl,l,_,S,rfl,rfl,f1,Zv (by lia),?_⟩;have f3:upd H3 l (.lst (xs++[S])) l=some (.lst (xs++[S])):=Zc;have f4:upd H3 l (.lst (xs++[S])) c=some (.lst J.reverse):=by rw [Zs hcl];exact f2
    have r1:=(YD.put (ys:=xs++[S]) q1 f1).snoc (JF.put (ys:=xs++[S]) qa f1);have r2:=YD.put (ys:=xs++[S]) q2 f1;have ra:=JF.put (ys:=xs++[S]) qa f1;have s5:Z0 H (upd H3 l (.lst (xs++[S]))):=Ys s4 hl;generalize upd H3 l (.lst (xs++[S]))=H4 at *;obtain ⟨a,rfl,ha4⟩:=ra;have hkl:=j4 hk o1;have hk9:=Gn (keyOf t1.hd);refine ⟨_,rfl,keyOf t1.hd,congrArg (fun z=>[z]) (uj o1),_,_,rfl,rfl,_,rfl,_,rfl,t1.kids.length,by rw [hkl],by lia,wB (fun j σ U=>∃(cs:List V) (u5:Option V),σ=[some (.ref p),some (.ref l),some (.ref c),some t1.hd,some (.ref a),u5]/\j<=t1.kids.length/\U l=some (.lst (xs++[V.ref a]))/\U c=some (.lst cs.reverse)/\cs.length=j + J.length/\YD U (xs++[V.ref a]) (dn++[q])/\YD U cs ((kb q t1.kids.length).drop (t1.kids.length - j)++sr)/\U a=some (.tup (q.map V.int))/\Z0 H U) ⟨J,v5,rfl,Qa8 _,f3,f4,by lia,r1,?_,ha4,s5⟩ ?_ ?_⟩
    ·rw [Nat.sub_zero,List.drop_eq_nil_of_le (Qd1 (qQ _ _))]
     exact r2
    ·rintro j σ U hj y
     refine Zy fun Z d=>?_;obtain ⟨cs,u5,rfl,_,b1,b2,bl,b3,b4,b5,b6⟩:=y;refine d ?_;clear d Z;refine Zf ?_;refine ⟨_,rfl,.inl ⟨rfl,_,SqL.of b2⟩,_,rfl,_,rfl,by show 1<=sizeLine;decide,fun z hz=>?_⟩;have w1:=Zd (o:=.tup [V.int ((t1.kids.length:Int) - 1 - j)]) hz;refine ⟨a,z,_,_,rfl,rfl,w1 _ _ b5,Zc,?_,fun pr H6 hpr w2=>?_⟩
     ·rw [Qaz]
      exact Qbg (Zv (show q.length + 1<=1000 by lia))
     have O:=w1.trans w2;refine ⟨c,_,_,rfl,rfl,O _ _ b2,?_,.ref pr::cs,some (.int ((t1.kids.length:Int) - 1 - j)),rfl,hj,?_,?_,?_,?_,?_,?_,Ys (b6.trans O) hcn⟩
     ·rw [List.length_reverse]
      exact Zv (by lia)
     ·rw [Zs hcl.symm]
      exact O _ _ b1
     ·rw [Zc,Qds]
     ·rw [Qan]
      lia
     ·exact (b3.same O).put (O _ _ b2)
     ·rw [kf q hj]
      exact .cons ⟨pr,rfl,by rw [Zs (XI hpr (O _ _ b2) (fun z=>nomatch z)),hpr,Qa7];rfl⟩ ((b4.same O).put (O _ _ b2))
     ·rw [Zs (XI (O _ _ b5) (O _ _ b2) (fun z=>nomatch z))]
      exact O _ _ b5
    ·rintro σ U y
     refine Zy fun Z d=>?_;obtain ⟨cs,u5,rfl,_,b1,b2,bl,b3,b4,b5,b6⟩:=y;refine d ?_;clear d Z;rw [Nat.sub_self,Qfe] at b4;refine ⟨xs++[V.ref a],cs,dn++[q],kb q t1.kids.length++sr,t1.kids++tr,_,_,_,rfl,b1,b2,b3,b4,d2,?_,ka G,?_,?_,hi',?_,b6⟩
     ·rw [Qab,Qab]
      rw [qQ,hs1]
     ·rw [<-f,wQ,wU,Zbf (qQ _ _)]
      simp
     ·rw [Qab,hxl]
      rfl
     ·intro z hz
      rcases Qam.mp hz with m | m
      ·have:=wR m
       lia
      ·exact Nat.le_succ_of_le (I z (Qar _ m))
  ·rintro σ H2 y
   refine Zy fun Z d=>?_;obtain ⟨xs,cs,dn,st,ts,v3,v4,v5,rfl,h1,h2,p1,p2,hd,L,G,f,hxl,hi,I,s⟩:=y;refine d ?_;clear d Z;rw [Qfx] at hd;have e:ts=[]:=by
    have:=Gq ts;rw [<-hd] at this;exact Qdi (by simpa using this)
   subst e;have e:st=[]:=Qdi L;subst e;rw [Zbe,Qax] at f;rw [f] at p1;exact ⟨_,rfl,k l xs H2 hl h1 p1 s⟩
inductive Xq(vs:List V)(H:Hp)(Q:VK):Prop
 | mk (x:V):(vs=[x])->(((∃z,x=.int z)\/∃y,x=.str y/\y.length<=100))->(∀H',Z0 H H'->Q (.bl (nmB x)) H')->Xq vs H Q
def YW(K:PySem.W.Frag):Sp:=fun d H Q _=>Xq d H Q
theorem XY (T:Txt K w mg t) (G:Xcl K mg base t):Z5 P w K mg base CX0 3 t.cm t.cn ["word"] (YW K):=by
 have d:Z5 P w K mg base CX0 2 t.ir t.iu ["text"] (qj K):=ym T G;refine T.ba.F.ok G4 (fun f H Q E h=>?_) (fun g A outer s H f Q E hr h=>?_)
 ·obtain ⟨x,rfl,hx,k⟩:=h
  rfl
 ·obtain ⟨x,rfl,hx,k⟩:=h
  have hu:=Yd hr;refine ⟨_,@QSs.out _ _ _ (Zh (Zp (zW (Z4 kW (by rfl) T.dy YG (Zj (qv 0) (Zj (vg (v:=.ty "str") (by rfl) T.mn bt_str rfl) Zb))) (xq (Zi d (hr.mono (by decide)) rfl T.ia.m T.ia.F.kp T.ia.b .nil Z1 (Zj (qv 0) Zb)))))),?_⟩;clear hu hr
  try dsimp only [L2.cxK,L2.cxK2]
  rcases hx with ⟨z,rfl⟩ | ⟨y,rfl,I⟩
  ·exact ⟨_,rfl,_,_,_,_,rfl,.int z,zf,_,rfl,k _ (Z0.refl _)⟩
  ·exact ⟨_,rfl,_,_,_,_,rfl,.str y,ze,_,rfl,_,rfl,y,rfl,Qa0 I (by decide),k⟩
inductive Je(K:PySem.W.Frag)(vs:List V)(H:Hp)(Q:VK):Prop
 | mk (a:Addr) (ns:List Int) (d:Int) (m:Nat):(vs=[.ref a,.int d,.int (m:Int)])->(SqL K H a (ns.map V.int))->(ns.length<=63)->(0<=d)->(1<=m)->(m<=3)->(∀x z H',GY (J5 ns m) x->H' z=some (.tup [x])->Z0 H H'->Q (.ref z) H')->Je K vs H Q
def G9(K:PySem.W.Frag):Sp:=fun d H Q _=>Je K d H Q
theorem zP (T:Txt K w mg t) (W:Xcl K mg base t):Z5 P w K mg base CX0 3 t.il t.ip ["script","draw","many"] (G9 K):=by
 have f:Z5 P w K mg base CX0 2 t.ij t.ik ["script","i"] (G6 K):=zN T W;refine T.fe.F.ok zM (fun S H Q E h=>?_) (fun U A outer s H S Q E hr h=>?_)
 ·obtain ⟨a,y,d,m,rfl,ha,hl,hd,hm,g,k⟩:=h
  rfl
 ·obtain ⟨a,y,d,m,rfl,ha,hl,hd,hm,g,k⟩:=h
  have hu:=Yd hr;refine ⟨_,@QSs.out _ _ _ (Za (ZF (Zk uM (Zl ZM (qv 1) Ze) Ze (Zt _))
    (Zh (Zp (Zr (Zj (ZD ZQ (XO (Zj Ze (Zj Ze (Zj Ze (Zj Ze (Zj Ze (Zj (Zl ZM (Zl Y1 (qv 1) Ze) Ze) Zb))))))) (Zl ZM (Zl Y1 (qv 1) Ze) Ze) (fun _ _=>rfl)) Zb)))) Zu)
    (Zh (Zp (Zr (Zj (Zi f (hr.mono (by decide)) rfl T.fc.m T.fc.F.kp T.fc.b .nil Z1 (Zj (qv 0) (Zj (Zl ZM (Zl Y1 (qv 1) Ze) (qv 2)) Zb))) Zb))))),?_⟩
  clear hu hr
  try dsimp only [L2.cxK,L2.cxK2]
  refine L2.let2 ?_;intro U1;have d8:0<=d / 8:=Qe5 hd (by decide);refine ⟨_,rfl,_,_,rfl,rfl,(by show (0:Int) < 8;decide),_,_,rfl,rfl,_,rfl,Yw (fun c=>?_) (fun c=>?_)⟩
  ·refine ⟨_,rfl,_,_,rfl,rfl,.of (by decide) (by decide),_,_,rfl,rfl,(by show (0:Int) < 1000;decide),by show 6<=sizeLine;decide,fun l J=>?_⟩
   obtain ⟨j,G,O⟩:∃j:Nat,d / 8 % 6=(j:Int)/\j < 6:=⟨(d / 8 % 6).toNat,by lia,by lia⟩;have h1:=Qbk (d / 64) (b:=1000) (by decide);have h2:=Qba (d / 64) (b:=1000) (by decide);obtain ⟨z,Z,L,hz1⟩:∃z:Int,atI [V.int 0,V.int 1,V.int 2,V.int 5,V.int 999,V.int (d / 64 % 1000)] (d / 8 % 6)=some (.int z)/\0<=z/\z < 1000:=by
    rw [G]
    match j,O with
    | 0,_=>exact ⟨0,rfl,by decide,by decide⟩
    | 1,_=>exact ⟨1,rfl,by decide,by decide⟩
    | 2,_=>exact ⟨2,rfl,by decide,by decide⟩
    | 3,_=>exact ⟨5,rfl,by decide,by decide⟩
    | 4,_=>exact ⟨999,rfl,by decide,by decide⟩
    | 5,_=>exact ⟨_,rfl,h1,h2⟩
   refine ⟨_,rfl,_,_,rfl,rfl,.of (by decide) (by decide),_,_,rfl,rfl,(by show (0:Int) < 6;decide),l,_,_,_,rfl,rfl,SqL.of Zc,Z,by show 1<=sizeLine;decide,fun p hp=>?_⟩;exact k (.int z) p _ (.inr ⟨z,rfl,L,hz1⟩) Zc ((Zd J).trans (Zd hp))
  ·obtain ⟨j,G,I⟩:∃j:Nat,d / 8 % (m:Int)=(j:Int)/\j < m:=by
    have h1:=Qbk (d / 8) (b:=(m:Int)) (by lia);have h2:=Qba (d / 8) (b:=(m:Int)) (by lia);exact ⟨(d / 8 % (m:Int)).toNat,by lia,by lia⟩
   refine ⟨_,rfl,_,rfl,_,_,rfl,rfl,.of (by decide) (by decide),_,rfl,_,_,rfl,rfl,(by show (0:Int) < (m:Int);lia),a,y,j,by show [V.ref a,V.int (d / 8 % (m:Int))]=_;rw [G],ha,hl,by lia,fun H1 Y=>⟨by show 1<=sizeLine;decide,fun p hp=>?_⟩⟩;exact k _ p _ (.inl ⟨Zby y j,Qbp.mpr ⟨j,Qck.mpr I,rfl⟩,rfl⟩) Zc (Y.trans (Zd hp))
inductive YX(vs:List V)(H:Hp)(Q:VK):Prop
 | mk (how y:Str) (l pa pb:Addr) (ys:List Str) (a b:Tm):(vs=[.str how,.str y,.ref l])->(H l=some (.lst [.ref pa,.ref pb]))->(H pa=some (.tup a.flat))->(H pb=some (.tup b.flat))->(NK ys)->(a.ok ys)->(b.ok ys)->(a.flat.length + b.flat.length<=300)->((Zbj how y a b=none->∀H',Z0 H H'->Q .non H'))->(∀x z H',Zbj how y a b=some x->H' z=some (.tup x.flat)->Z0 H H'->Q (.ref z) H')->YX vs H Q
def Xr(K:PySem.W.Frag):Sp:=fun d H Q _=>YX d H Q
theorem Jw (T:Txt K w mg t) (XB:Xcl K mg base t):Z5 P w K mg base CX0 3 t.dj t.dk ["how","word","shares"] (Xr K):=by
 have O:Z5 P w K mg base CX0 2 t.bj t.bo ["words"] (Yp K):=Y7 T XB;refine T.bz.F.ok ZK (fun vs H Q E h=>?_) (fun cdv A outer s H vs Q E hr h=>?_)
 ·obtain ⟨G,y,l,pa,L,ys,a,b,rfl,hl,ha,hb,hk,oka,okb,hlen,k0,k⟩:=h
  rfl
 ·obtain ⟨G,y,l,pa,L,ys,a,b,rfl,hl,ha,hb,hk,oka,okb,hlen,k0,k⟩:=h
  have hu:=Yd hr;refine ⟨_,@QSs.out _ _ _ (Za (gR (qv 2) (wD rfl (Z8 (i:=3) ZK.nd rfl (Or.inl rfl)) (Z8 (i:=4) ZK.nd rfl (Or.inl rfl))))
    (Za (Zo (i:=5) ZK.nd rfl (Or.inl rfl) (Zl Zn (Zl Zn (Zr (Zj Zg Zb)) (qv 3)) (qv 4)))
    (Za (ZF (YO (ZJ (Zk ZH (qv 0) Zg (Zt _)) (ZI (Zk YN (qv 1) (Zr (Zj Zg (Zj Zg (Zj Zg (Zj Zg Zb))))) (by with_unfolding_all rfl)))))
    (Zh (Zp (Zl Zn (Zl Zn (Zr (Zj (qv 1) Zb)) (qv 4)) (qv 3)))) Zu)
    (Za (ZF (YO (ZJ (Zk ZH (qv 0) Zg (Zt _)) (ZJ (Zk YN (qv 1) (Zr (Zj Zg (Zj Zg (Zj Zg (Zj Zg Zb))))) (by with_unfolding_all rfl)) (ZI (Zk ZH (ZD ZU (qv 3) Ze (fun _ _=>rfl)) (qv 1) (Zt _))))))
    (Za (Zo (i:=6) ZK.nd rfl (Or.inl rfl) (Zi O (hr.mono (by decide)) rfl T.af.m T.af.F.kp T.af.b .nil Z1 (Zj (qv 3) Zb)))
    (Zh (Zp (Zl Zn (Zl Zn (Zl Zn (Zl Zn (Zr (Zj (qv 1) Zb)) (ZD ZQ (qv 6) Ze (fun _ _=>rfl))) (Zr (Zj (qv 1) Zb))) (ZD ZQ (qv 6) Ze (fun _ _=>rfl))) (qv 4))))) Zu)
    (Za (ZF (YO (ZJ (Zk ZH (qv 0) Zg (Zt _)) (ZI (Zk ZH (qv 1) Zg (Zt _)))))
    (Zh (Zp (Zl Zn (Zl Zn (Zl Zn (Zr (Zj Zg Zb)) (qv 3)) (Zr (Zj Zg Zb))) (qv 4)))) Zu)
    (Za (ZF (YO (ZJ (Zk ZH (qv 0) Zg (Zt _)) (ZI (Zk ZH (qv 1) Zg (Zt _)))))
    (Zh (Zp (Zl Zn (Zl Zn (Zl Zn (Zl Zn (Zr (Zj Zg (Zj Zg Zb))) (qv 3)) (qv 4)) (Zr (Zj Zg Zb))) (qv 5)))) Zu)
    (Za (ZF (YO (ZJ (Zk ZH (qv 0) Zg (Zt _)) (ZI (Zk ZH (qv 1) Zg (Zt _)))))
    (Zh (Zp (Zl Zn (Zl Zn (Zl Zn (Zr (Zj Zg (Zj Zg Zb))) (qv 3)) (qv 4)) (qv 5)))) Zu)
    (Za (ZF (YO (ZJ (Zk ZH (qv 0) Zg (Zt _)) (ZI (Zk ZH (qv 1) Zg (Zt _)))))
    (Zh (Zp (Zl Zn (Zl Zn (Zl Zn (Zl Zn (Zr (Zj Zg (Zj Zg Zb))) (qv 3)) (qv 4)) (Zr (Zj Zg Zb))) (qv 5)))) Zu)
    (Za (ZF (YO (ZJ (Zk ZH (qv 0) Zg (Zt _)) (ZJ (Zk ZH (qv 1) Zg (Zt _)) (ZI (Zk (qx (We hr)) (qv 3) (qv 4) (Zt _))))))
    (Zh (Zp (Zr (Zj Ze Zb)))) Zu)
    (Za (ZF (YO (ZJ (Zk ZH (qv 0) Zg (Zt _)) (ZJ (Zk YN (qv 1) (Zr (Zj Zg (Zj Zg Zb))) (by with_unfolding_all rfl)) (ZI (Zk (qx (We hr)) (qv 3) (qv 4) (Zt _))))))
    (Zh (Zp (qv 3))) Zu)
    (Za (ZF (YO (ZJ (Zk ZH (qv 0) Zg (Zt _)) (ZJ (Zk YN (qv 1) (Zr (Zj Zg (Zj Zg (Zj Zg (Zj Zg Zb))))) (by with_unfolding_all rfl)) (ZI (Zk (qx (We hr)) (qv 4) (Zr (Zj Ze Zb)) (Zt _))))))
    (Zh (Zp (qv 3))) Zu)
    (Zh (Zp WL))))))))))))),?_⟩
  clear hu hr
  try dsimp only [L2.cxK,L2.cxK2]
  refine L2.let12 ?_;intro U11 U10 U9 U8 U7 U6 U5 U4 U3 U2 U1;have hat:=k6 a;have si:=ko oka;have sc:∀c:Str,scal a.hd (.str c)=true:=fun c=>si.scal (.inr ⟨c,rfl⟩);have Y:=a.si oka;have J:=b.si okb;unfold Zbj at k0 k;refine ⟨_,rfl,l,_,rfl,SqL.of hl,rfl,_,_,rfl,_,_,rfl,rfl,?_⟩;refine (Z2 (Z2 JI (Gy (n:=300) rfl ha (by lia))) (Gy (n:=300) rfl hb (by lia))).g H _ (Z0.refl H) fun Z H1 s1 hpo=>Zf ?_
  replace ha:=s1 _ _ ha
  replace hb:=s1 _ _ hb
  replace k0:=fun e H' (s:Z0 H1 H')=>k0 e H' (s1.trans s)
  replace k:=fun x z H' e h (s:Z0 H1 H')=>k x z H' e h (s1.trans s)
  clear s1 hl;have one:Gives (zQ 3) [some (.str G),some (.str y),some (.ref l),some (.ref pa),some (.ref L),some (.ref Z),none] H1 a.flat 300:=Gy rfl ha (by lia);have oth:Gives (zQ 4) [some (.str G),some (.str y),some (.ref l),some (.ref pa),some (.ref L),some (.ref Z),none] H1 b.flat 300:=Gy rfl hb (by lia);have bot:Gives (zQ 5) [some (.str G),some (.str y),some (.ref l),some (.ref pa),some (.ref L),some (.ref Z),none] H1 (V.str "and" :: (a.flat++b.flat)) 301:=Gy rfl (by rw [hpo];simp) (by rw [Qan,Qab];lia);have wrd:Gives (gC (GD (zQ 1) uQ)) [some (.str G),some (.str y),some (.ref l),some (.ref pa),some (.ref L),some (.ref Z),none] H1 [.str y] 1:=jC 1 (fun _ _ h=>⟨_,rfl,h⟩) (Qao _) (by decide)
  suffices g:∀H2,Z0 H1 H2->U2 { nx:=fun _ H'=>Q .non H',rt:=Q } [some (.str G),some (.str y),some (.ref l),some (.ref pa),some (.ref L),some (.ref Z),none] H2 from g H1 (Z0.refl H1)
  intro H2 f;have si0:∀w∈[V.int 0],SI w:=fun w hw=>by rw [Qai.mp hw];exact .inl ⟨0,rfl⟩
  by_cases c:G = "addboth" /\ y∈yu
  ·refine ⟨_,rfl,rfl,_,rfl,?_⟩
   rw [Qad (congrArg V.str c.1)];refine Yq ⟨_,rfl,by show 4<=sizeLine;decide,fun S hz1=>?_⟩;have s3:=f.trans (Zd (o:=.tup [V.str "add",V.str "and",V.str "or",V.str "odd"]) hz1);refine ⟨S,yu.map V.str,rfl,.inr (SqT.of Zc),rfl,rfl,_,rfl,?_⟩;generalize upd H2 S (.tup [V.str "add",V.str "and",V.str "or",V.str "odd"])=I at *;rw [Yj,Qad c.2];rw [Qa4 c] at k;exact Yq ((Z2 (Z2 wrd oth) one).g I _ s3 fun p H' s h=>k _ p H' rfl (by rw [h];simp [Tm.flat]) (s3.trans s))
  rw [Qa5 c] at k0 k
  suffices r:∀I,Z0 H1 I->U3 { nx:=fun _ H'=>Q .non H',rt:=Q } [some (.str G),some (.str y),some (.ref l),some (.ref pa),some (.ref L),some (.ref Z),none] I by
   exact ⟨_,rfl,rfl,_,rfl,Yw (fun W=>⟨_,rfl,by show 4<=sizeLine;decide,fun S hz1=>⟨S,yu.map V.str,rfl,.inr (SqT.of Zc),rfl,rfl,_,rfl,Yw (fun U=>absurd ⟨str_inj W,Qap ((Yj _ _).symm.trans U)⟩ c) (fun _=>r _ (f.trans (Zd hz1)))⟩⟩) (fun _=>Yt (r H2 f))⟩
  clear c f H2;intro H2 f
  by_cases c:G = "addthree" /\ y∈yu/\a.hd=.str y
  ·refine ⟨_,rfl,rfl,_,rfl,?_⟩
   rw [Qad (congrArg V.str c.1)];refine Yq ⟨_,rfl,by show 4<=sizeLine;decide,fun S hz1=>?_⟩;have s3:=f.trans (Zd (o:=.tup [V.str "add",V.str "and",V.str "or",V.str "odd"]) hz1);refine ⟨S,yu.map V.str,rfl,.inr (SqT.of Zc),rfl,rfl,_,rfl,?_⟩;generalize upd H2 S (.tup [V.str "add",V.str "and",V.str "or",V.str "odd"])=I at *;rw [Yj,Qad c.2.1];refine Yq ⟨_,rfl,pa,_,0,_,rfl,rfl,SqT.of (s3 _ _ ha),hat,_,rfl,sc _,_,rfl,?_⟩;rw [Qad c.2.2];rw [Qa4 c] at k;obtain ⟨d,e,rfl⟩:=qf hk oka c.2.2 (k7 y c.2.1).1 (k7 y c.2.1).2;have hfl:(Tm.two y d e).flat.length=d.flat.length + e.flat.length + 1:=by show (V.str y::(d.flat++e.flat)).length=_;rw [Qan,Qab]
   refine Yq ⟨_,rfl,pa,ys,_,rfl,s3 _ _ ha,hk,oka,(by lia),fun l3 xs H4 _ hl4 hT s4=>Zf ?_⟩;refine Zy fun Gz hGz=>?_;obtain ⟨p,q,rfl,hp,hq⟩:=xT hT;refine hGz ?_;clear hGz Gz;have s5:=s3.trans s4;have w4:Gives (gC (GD (zQ 1) uQ)) [some (.str G),some (.str y),some (.ref l),some (.ref pa),some (.ref L),some (.ref Z),some (.ref l3)] H4 [.str y] 1:=jC 1 (fun _ _ h=>⟨_,rfl,h⟩) (Qao _) (by decide);have o4:Gives (zQ 4) [some (.str G),some (.str y),some (.ref l),some (.ref pa),some (.ref L),some (.ref Z),some (.ref l3)] H4 b.flat 300:=Gy rfl (s5 _ _ hb) (by lia);refine (Z2 (Z2 (Z2 (Z2 w4 (qU (n:=300) rfl hl4 rfl hp (by lia))) w4) (qU (n:=300) rfl hl4 rfl hq (by lia))) o4 (by decide)).g H4 _ (Z0.refl H4) fun z H' s h=>k _ z H' rfl ?_ (s5.trans s);rw [h];simp [Tm.flat]
  rw [Qa5 c] at k0 k
  suffices r:∀I,Z0 H1 I->U4 { nx:=fun _ H'=>Q .non H',rt:=Q } [some (.str G),some (.str y),some (.ref l),some (.ref pa),some (.ref L),some (.ref Z),none] I by
   exact ⟨_,rfl,rfl,_,rfl,Yw (fun W=>⟨_,rfl,by show 4<=sizeLine;decide,fun S hz1=>⟨S,yu.map V.str,rfl,.inr (SqT.of Zc),rfl,rfl,_,rfl,Yw (fun U=>⟨_,rfl,pa,_,0,_,rfl,rfl,SqT.of ((f.trans (Zd hz1)) _ _ ha),hat,_,rfl,sc _,_,rfl,Yw (fun c3=>absurd ⟨str_inj W,Qap ((Yj _ _).symm.trans U),Qap c3⟩ c) (fun _=>r _ (f.trans (Zd hz1)))⟩) (fun _=>Yt (r _ (f.trans (Zd hz1))))⟩⟩) (fun _=>Yt (r H2 f))⟩
  clear c f H2;intro H2 f
  by_cases c:G = "subneg" /\ y = "sub"
  ·refine ⟨_,rfl,rfl,_,rfl,?_⟩
   rw [Qad (congrArg V.str c.1)];refine Yq ⟨_,rfl,rfl,_,rfl,?_⟩;rw [Qad (congrArg V.str c.2)];rw [Qa4 c] at k;exact Yq ((Z2 (Z2 (Z2 JI one) JI) oth).g H2 _ f fun p H' s h=>k _ p H' rfl (by rw [h];simp [Tm.flat]) (f.trans s))
  rw [Qa5 c] at k0 k
  suffices r:∀I,Z0 H1 I->U5 { nx:=fun _ H'=>Q .non H',rt:=Q } [some (.str G),some (.str y),some (.ref l),some (.ref pa),some (.ref L),some (.ref Z),none] I by
   exact ⟨_,rfl,rfl,_,rfl,Yw (fun W=>⟨_,rfl,rfl,_,rfl,Yw (fun U=>absurd ⟨str_inj W,str_inj U⟩ c) (fun _=>r H2 f)⟩) (fun _=>Yt (r H2 f))⟩
  clear c f H2;intro H2 f
  by_cases c:G = "oddor" /\ y = "odd"
  ·refine ⟨_,rfl,rfl,_,rfl,?_⟩
   rw [Qad (congrArg V.str c.1)];refine Yq ⟨_,rfl,rfl,_,rfl,?_⟩;rw [Qad (congrArg V.str c.2)];rw [Qa4 c] at k;exact Yq ((Z2 (Z2 (Z2 (Z2 xS one) oth) JI) bot).g H2 _ f fun p H' s h=>k _ p H' rfl (by rw [h];simp [Tm.flat]) (f.trans s))
  rw [Qa5 c] at k0 k
  suffices r:∀I,Z0 H1 I->U6 { nx:=fun _ H'=>Q .non H',rt:=Q } [some (.str G),some (.str y),some (.ref l),some (.ref pa),some (.ref L),some (.ref Z),none] I by
   exact ⟨_,rfl,rfl,_,rfl,Yw (fun W=>⟨_,rfl,rfl,_,rfl,Yw (fun U=>absurd ⟨str_inj W,str_inj U⟩ c) (fun _=>r H2 f)⟩) (fun _=>Yt (r H2 f))⟩
  clear c f H2;intro H2 f
  by_cases c:G = "orsum" /\ y = "add"
  ·refine ⟨_,rfl,rfl,_,rfl,?_⟩
   rw [Qad (congrArg V.str c.1)];refine Yq ⟨_,rfl,rfl,_,rfl,?_⟩;rw [Qad (congrArg V.str c.2)];rw [Qa4 c] at k;exact Yq ((Z2 (Z2 (Z2 xS one) oth) bot).g H2 _ f fun p H' s h=>k _ p H' rfl (by rw [h];simp [Tm.flat]) (f.trans s))
  rw [Qa5 c] at k0 k
  suffices r:∀I,Z0 H1 I->U7 { nx:=fun _ H'=>Q .non H',rt:=Q } [some (.str G),some (.str y),some (.ref l),some (.ref pa),some (.ref L),some (.ref Z),none] I by
   exact ⟨_,rfl,rfl,_,rfl,Yw (fun W=>⟨_,rfl,rfl,_,rfl,Yw (fun U=>absurd ⟨str_inj W,str_inj U⟩ c) (fun _=>r H2 f)⟩) (fun _=>Yt (r H2 f))⟩
  clear c f H2;intro H2 f
  by_cases c:G = "oddsum" /\ y = "add"
  ·refine ⟨_,rfl,rfl,_,rfl,?_⟩
   rw [Qad (congrArg V.str c.1)];refine Yq ⟨_,rfl,rfl,_,rfl,?_⟩;rw [Qad (congrArg V.str c.2)];rw [Qa4 c] at k;exact Yq ((Z2 (Z2 (Z2 (Z2 xS one) oth) JI) bot).g H2 _ f fun p H' s h=>k _ p H' rfl (by rw [h];simp [Tm.flat]) (f.trans s))
  rw [Qa5 c] at k0 k
  suffices r:∀I,Z0 H1 I->U8 { nx:=fun _ H'=>Q .non H',rt:=Q } [some (.str G),some (.str y),some (.ref l),some (.ref pa),some (.ref L),some (.ref Z),none] I by
   exact ⟨_,rfl,rfl,_,rfl,Yw (fun W=>⟨_,rfl,rfl,_,rfl,Yw (fun U=>absurd ⟨str_inj W,str_inj U⟩ c) (fun _=>r H2 f)⟩) (fun _=>Yt (r H2 f))⟩
  clear c f H2;intro H2 f
  by_cases c:G = "selfodd" /\ y = "odd" /\ a.flat=b.flat
  ·refine ⟨_,rfl,rfl,_,rfl,?_⟩
   rw [Qad (congrArg V.str c.1)];refine Yq ⟨_,rfl,rfl,_,rfl,?_⟩;rw [Qad (congrArg V.str c.2.1)];refine Yq ⟨_,rfl,_,rfl,pa,L,_,_,rfl,rfl,SqT.of (f _ _ ha),SqT.of (f _ _ hb),YU Y,YU J,_,rfl,?_⟩;rw [Xh Y J];refine zJ (Qad c.2.2) ?_;rw [Qa4 c] at k;exact ((JI).g H2 _ f fun p H' s h=>k _ p H' rfl (by rw [h];rfl) (f.trans s))
  rw [Qa5 c] at k0 k
  suffices r:∀I,Z0 H1 I->U9 { nx:=fun _ H'=>Q .non H',rt:=Q } [some (.str G),some (.str y),some (.ref l),some (.ref pa),some (.ref L),some (.ref Z),none] I by
   exact ⟨_,rfl,rfl,_,rfl,Yw (fun W=>⟨_,rfl,rfl,_,rfl,Yw (fun U=>⟨_,rfl,_,rfl,pa,L,_,_,rfl,rfl,SqT.of (f _ _ ha),SqT.of (f _ _ hb),YU Y,YU J,_,rfl,Yw (fun c3=>absurd ⟨str_inj W,str_inj U,Qap ((Xh Y J).symm.trans c3)⟩ c) (fun _=>r _ f)⟩) (fun _=>Yt (r H2 f))⟩) (fun _=>Yt (r H2 f))⟩
  clear c f H2;intro H2 f
  by_cases c:G = "selfand" /\ y∈aoL/\a.flat=b.flat
  ·refine ⟨_,rfl,rfl,_,rfl,?_⟩
   rw [Qad (congrArg V.str c.1)];refine Yq ⟨_,rfl,by show 2<=sizeLine;decide,fun S hz1=>?_⟩;have s3:=f.trans (Zd (o:=.tup [V.str "and",V.str "or"]) hz1);refine ⟨S,aoL.map V.str,rfl,.inr (SqT.of Zc),rfl,rfl,_,rfl,?_⟩;generalize upd H2 S (.tup [V.str "and",V.str "or"])=I at *;rw [Yj,Qad c.2.1];refine Yq ⟨_,rfl,_,rfl,pa,L,_,_,rfl,rfl,SqT.of (s3 _ _ ha),SqT.of (s3 _ _ hb),YU Y,YU J,_,rfl,?_⟩;rw [Xh Y J];refine zJ (Qad c.2.2) ?_;rw [Qa4 c] at k;exact (⟨_,rfl,k _ pa I rfl (s3 _ _ ha) s3⟩)
  rw [Qa5 c] at k0 k
  suffices r:∀I,Z0 H1 I->U10 { nx:=fun _ H'=>Q .non H',rt:=Q } [some (.str G),some (.str y),some (.ref l),some (.ref pa),some (.ref L),some (.ref Z),none] I by
   exact ⟨_,rfl,rfl,_,rfl,Yw (fun W=>⟨_,rfl,by show 2<=sizeLine;decide,fun S hz1=>⟨S,aoL.map V.str,rfl,.inr (SqT.of Zc),rfl,rfl,_,rfl,Yw (fun U=>⟨_,rfl,_,rfl,pa,L,_,_,rfl,rfl,SqT.of ((f.trans (Zd hz1)) _ _ ha),SqT.of ((f.trans (Zd hz1)) _ _ hb),YU Y,YU J,_,rfl,Yw (fun c3=>absurd ⟨str_inj W,Qap ((Yj _ _).symm.trans U),Qap ((Xh Y J).symm.trans c3)⟩ c) (fun _=>r _ (f.trans (Zd hz1)))⟩) (fun _=>Yt (r _ (f.trans (Zd hz1))))⟩⟩) (fun _=>Yt (r H2 f))⟩
  clear c f H2;intro H2 f
  by_cases c:G = "zeroadd" /\ y∈Zc3/\b.flat=[.int 0]
  ·refine ⟨_,rfl,rfl,_,rfl,?_⟩
   rw [Qad (congrArg V.str c.1)];refine Yq ⟨_,rfl,by show 4<=sizeLine;decide,fun S hz1=>?_⟩;have s3:=f.trans (Zd (o:=.tup [V.str "add",V.str "or",V.str "odd",V.str "sub"]) hz1);refine ⟨S,Zc3.map V.str,rfl,.inr (SqT.of Zc),rfl,rfl,_,rfl,?_⟩;generalize upd H2 S (.tup [V.str "add",V.str "or",V.str "odd",V.str "sub"])=I at *;rw [Yj,Qad c.2.1];refine Yq ⟨_,rfl,by show 1<=sizeLine;decide,fun z2 hz2=>?_⟩;have s4:=s3.trans (Zd (o:=.tup [V.int 0]) hz2);refine ⟨L,z2,_,_,rfl,rfl,SqT.of (s4 _ _ hb),SqT.of Zc,YU J,rfl,_,rfl,?_⟩;rw [Xh J si0];refine zJ (Qad c.2.2) ?_;generalize upd I z2 (.tup [V.int 0])=H4 at *;rw [Qa4 c] at k;exact (⟨_,rfl,k _ pa H4 rfl (s4 _ _ ha) s4⟩)
  rw [Qa5 c] at k0 k;have r:∀I,Z0 H1 I->U11 { nx:=fun _ H'=>Q .non H',rt:=Q } [some (.str G),some (.str y),some (.ref l),some (.ref pa),some (.ref L),some (.ref Z),none] I:=fun I s3=>k0 rfl I s3;exact ⟨_,rfl,rfl,_,rfl,Yw (fun W=>⟨_,rfl,by show 4<=sizeLine;decide,fun S hz1=>⟨S,Zc3.map V.str,rfl,.inr (SqT.of Zc),rfl,rfl,_,rfl,Yw (fun U=>⟨_,rfl,by show 1<=sizeLine;decide,fun z2 hz2=>⟨L,z2,_,_,rfl,rfl,SqT.of (((f.trans (Zd hz1)).trans (Zd hz2)) _ _ hb),SqT.of Zc,YU J,rfl,_,rfl,Yw (fun c3=>absurd ⟨str_inj W,Qap ((Yj _ _).symm.trans U),Qap ((Xh J si0).symm.trans c3)⟩ c) (fun _=>r _ ((f.trans (Zd hz1)).trans (Zd hz2)))⟩⟩) (fun _=>Yt (r _ (f.trans (Zd hz1))))⟩⟩) (fun _=>Yt (r H2 f))⟩
inductive YY(vs:List V)(H:Hp)(Q:VK):Prop
 | mk (how y:Str) (pa:Addr) (ys:List Str) (a:Tm):(vs=[.str how,.str y,.ref pa])->(H pa=some (.tup a.flat))->(NK ys)->(a.ok ys)->(a.flat.length<=300)->((Zbi how y a=none->∀H',Z0 H H'->Q .non H'))->(∀x z H',Zbi how y a=some x->H' z=some (.tup x.flat)->Z0 H H'->Q (.ref z) H')->YY vs H Q
def Xs(K:PySem.W.Frag):Sp:=fun d H Q _=>YY d H Q
theorem Jx (T:Txt K w mg t) (XB:Xcl K mg base t):Z5 P w K mg base CX0 3 t.dm t.dq ["how","word","one"] (Xs K):=by
 have f:Z5 P w K mg base CX0 2 t.bj t.bo ["words"] (Yp K):=Y7 T XB;refine T.cb.F.ok Yz (fun vs H Q E h=>?_) (fun cdv A outer s H vs Q E hr h=>?_)
 ·obtain ⟨G,y,pa,ys,a,rfl,ha,hk,ok,I,k0,k⟩:=h
  rfl
 ·obtain ⟨G,y,pa,ys,a,rfl,ha,hk,ok,I,k0,k⟩:=h
  have hu:=Yd hr;refine ⟨_,@QSs.out _ _ _ (Za (ZF (YO (ZJ (Zk ZH (qv 0) Zg (Zt _)) (ZI (Zk ZH (qv 1) Zg (Zt _)))))
    (Zh (Zp (Zl Zn (Zl Zn (Zr (Zj Zg (Zj Zg Zb))) (qv 2)) (Zr (Zj Ze Zb))))) Zu)
    (Za (ZF (YO (ZJ (Zk ZH (qv 0) Zg (Zt _)) (ZI (Zk ZH (qv 1) Zg (Zt _)))))
    (Zh (Zp (Zl Zn (Zl Zn (Zr (Zj Zg Zb)) (qv 2)) (qv 2)))) Zu)
    (Za (ZF (YO (ZJ (Zk ZH (qv 0) Zg (Zt _)) (ZI (Zk ZH (qv 1) Zg (Zt _)))))
    (Zh (Zp (Zl Zn (Zl Zn (Zl Zn (Zr (Zj Zg Zb)) (qv 2)) (Zr (Zj Zg Zb))) (qv 2)))) Zu)
    (Za (ZF (YO (ZJ (Zk ZH (qv 0) Zg (Zt _)) (ZJ (Zk ZH (qv 1) Zg (Zt _)) (ZI (Zk ZH (ZD ZU (qv 2) Ze (fun _ _=>rfl)) Zg (Zt _))))))
    (Zh (Zp (Y2 (SlR.or Wk Xf) (qv 2) (Yr Ze) Jg))) Zu)
    (Za (ZF (YO (ZJ (Zk ZH (qv 0) Zg (Zt _)) (ZJ (Zk ZH (qv 1) Zg (Zt _)) (ZI (Zk ZH (ZD ZU (qv 2) Ze (fun _ _=>rfl)) Zg (Zt _))))))
    (Za (Zo (i:=3) Yz.nd rfl (Or.inl rfl) (Zi f (hr.mono (by decide)) rfl T.af.m T.af.F.kp T.af.b .nil Z1 (Zj (qv 2) Zb)))
    (Zh (Zp (Zl Zn (Zl Zn (Zl Zn (Zr (Zj Zg (Zj Zg Zb))) (ZD ZQ (qv 3) Ze (fun _ _=>rfl))) (Zr (Zj Zg Zb))) (ZD ZQ (qv 3) Ze (fun _ _=>rfl)))))) Zu)
    (Za (ZF (YO (ZJ (Zk ZH (qv 0) Zg (Zt _)) (ZJ (Zk ZH (qv 1) Zg (Zt _)) (ZI (Zk ZH (ZD ZU (qv 2) Ze (fun _ _=>rfl)) Zg (Zt _))))))
    (Za (Zo (i:=3) Yz.nd rfl (Or.inl rfl) (Zi f (hr.mono (by decide)) rfl T.af.m T.af.F.kp T.af.b .nil Z1 (Zj (qv 2) Zb)))
    (Zh (Zp (Zl Zn (Zl Zn (Zl Zn (Zr (Zj Zg (Zj Zg Zb))) (ZD ZQ (qv 3) Ze (fun _ _=>rfl))) (Zr (Zj Zg Zb))) (ZD ZQ (qv 3) Ze (fun _ _=>rfl)))))) Zu)
    (Zh (Zp WL)))))))),?_⟩
  clear hu hr
  try dsimp only [L2.cxK,L2.cxK2]
  refine L2.let7 ?_;intro U6 U5 U4 U3 U2 U1;have J:=k6 a;have si:=ko ok;have W:∀c:Str,scal a.hd (.str c)=true:=fun c=>si.scal (.inr ⟨c,rfl⟩);unfold Zbi at k0 k;have one:Gives (zQ 2) [some (.str G),some (.str y),some (.ref pa),none] H a.flat 300:=Gy rfl ha I
  by_cases c:G = "negnot" /\ y = "neg"
  ·refine ⟨_,rfl,rfl,_,rfl,?_⟩
   rw [Qad (congrArg V.str c.1)];refine Yq ⟨_,rfl,rfl,_,rfl,?_⟩;rw [Qad (congrArg V.str c.2)];rw [Qa4 c] at k;exact Yq ((Z2 (Z2 xS one) JI).g H _ (Z0.refl H) fun p H' s h=>k _ p H' rfl (by rw [h];rfl) s)
  rw [Qa5 c] at k0 k
  suffices r:U1 { nx:=fun _ H'=>Q .non H',rt:=Q } [some (.str G),some (.str y),some (.ref pa),none] H from ⟨_,rfl,rfl,_,rfl,Yw (fun U=>⟨_,rfl,rfl,_,rfl,Yw (fun S=>absurd ⟨str_inj U,str_inj S⟩ c) (fun _=>r)⟩) (fun _=>Yt r)⟩
  clear c
  by_cases c:G = "twiceadd" /\ y = "twice"
  ·refine ⟨_,rfl,rfl,_,rfl,?_⟩
   rw [Qad (congrArg V.str c.1)];refine Yq ⟨_,rfl,rfl,_,rfl,?_⟩;rw [Qad (congrArg V.str c.2)];rw [Qa4 c] at k;exact Yq ((Z2 (Z2 JI one) one).g H _ (Z0.refl H) fun p H' s h=>k _ p H' rfl (by rw [h];rfl) s)
  rw [Qa5 c] at k0 k
  suffices r:U2 { nx:=fun _ H'=>Q .non H',rt:=Q } [some (.str G),some (.str y),some (.ref pa),none] H from ⟨_,rfl,rfl,_,rfl,Yw (fun U=>⟨_,rfl,rfl,_,rfl,Yw (fun S=>absurd ⟨str_inj U,str_inj S⟩ c) (fun _=>r)⟩) (fun _=>Yt r)⟩
  clear c
  by_cases c:G = "lowneg" /\ y = "low"
  ·refine ⟨_,rfl,rfl,_,rfl,?_⟩
   rw [Qad (congrArg V.str c.1)];refine Yq ⟨_,rfl,rfl,_,rfl,?_⟩;rw [Qad (congrArg V.str c.2)];rw [Qa4 c] at k;exact Yq ((Z2 (Z2 (Z2 JI one) JI) one).g H _ (Z0.refl H) fun p H' s h=>k _ p H' rfl (by rw [h];simp [Tm.flat]) s)
  rw [Qa5 c] at k0 k
  suffices r:U3 { nx:=fun _ H'=>Q .non H',rt:=Q } [some (.str G),some (.str y),some (.ref pa),none] H from ⟨_,rfl,rfl,_,rfl,Yw (fun U=>⟨_,rfl,rfl,_,rfl,Yw (fun S=>absurd ⟨str_inj U,str_inj S⟩ c) (fun _=>r)⟩) (fun _=>Yt r)⟩
  clear c
  by_cases c:G = "notnot" /\ y = "not" /\ a.hd=.str "not"
  ·refine ⟨_,rfl,rfl,_,rfl,?_⟩
   rw [Qad (congrArg V.str c.1)];refine Yq ⟨_,rfl,rfl,_,rfl,?_⟩;rw [Qad (congrArg V.str c.2.1)];refine Yq ⟨_,rfl,pa,_,0,_,rfl,rfl,SqT.of ha,J,W _,_,rfl,?_⟩;rw [Qad c.2.2];rw [Qa4 c] at k;obtain ⟨d,rfl⟩:=uq hk ok c.2.2 (by decide +kernel) (by decide +kernel);refine Yq ⟨_,rfl,_,rfl,Gs ha fun z H' hz s=>k d z H' rfl ?_ s⟩;rw [hz];exact congrArg (fun z=>some (HO.tup z)) (JR (u:=[V.str "not"]) (v:=d.flat) rfl)
  rw [Qa5 c] at k0 k
  suffices r:U4 { nx:=fun _ H'=>Q .non H',rt:=Q } [some (.str G),some (.str y),some (.ref pa),none] H from ⟨_,rfl,rfl,_,rfl,Yw (fun U=>⟨_,rfl,rfl,_,rfl,Yw (fun S=>⟨_,rfl,pa,_,0,_,rfl,rfl,SqT.of ha,J,W _,_,rfl,Yw (fun Y=>absurd ⟨str_inj U,str_inj S,Qap Y⟩ c) (fun _=>r)⟩) (fun _=>Yt r)⟩) (fun _=>Yt r)⟩
  clear c
  by_cases c:G = "notand" /\ y = "not" /\ a.hd=.str "and"
  ·refine ⟨_,rfl,rfl,_,rfl,?_⟩
   rw [Qad (congrArg V.str c.1)];refine Yq ⟨_,rfl,rfl,_,rfl,?_⟩;rw [Qad (congrArg V.str c.2.1)];refine Yq ⟨_,rfl,pa,_,0,_,rfl,rfl,SqT.of ha,J,W _,_,rfl,?_⟩;rw [Qad c.2.2];rw [Qa4 c] at k;obtain ⟨d,e,rfl⟩:=qf hk ok c.2.2 (by decide +kernel) (by decide +kernel);refine Yq ⟨_,rfl,pa,ys,_,rfl,ha,hk,ok,I,fun l xs H1 _ O hT s1=>Zf ?_⟩;refine Zy fun Z L=>?_;obtain ⟨p,q,rfl,hp,hq⟩:=xT hT;refine L ?_;clear L Z;have hle:d.flat.length + e.flat.length + 1<=300:=by have:(V.str "and" :: (d.flat++e.flat)).length<=300:=I;rw [Qan,Qab] at this;lia
   refine (Z2 (Z2 (Z2 xS (qU (n:=300) rfl O rfl hp (by lia))) JI) (qU (n:=300) rfl O rfl hq (by lia))).g H1 _ (Z0.refl H1) fun z H' s h=>k _ z H' rfl ?_ (s1.trans s);rw [h];simp [Tm.flat]
  rw [Qa5 c] at k0 k
  suffices r:U5 { nx:=fun _ H'=>Q .non H',rt:=Q } [some (.str G),some (.str y),some (.ref pa),none] H from ⟨_,rfl,rfl,_,rfl,Yw (fun U=>⟨_,rfl,rfl,_,rfl,Yw (fun S=>⟨_,rfl,pa,_,0,_,rfl,rfl,SqT.of ha,J,W _,_,rfl,Yw (fun Y=>absurd ⟨str_inj U,str_inj S,Qap Y⟩ c) (fun _=>r)⟩) (fun _=>Yt r)⟩) (fun _=>Yt r)⟩
  clear c
  by_cases c:G = "notor" /\ y = "not" /\ a.hd=.str "or"
  ·refine ⟨_,rfl,rfl,_,rfl,?_⟩
   rw [Qad (congrArg V.str c.1)];refine Yq ⟨_,rfl,rfl,_,rfl,?_⟩;rw [Qad (congrArg V.str c.2.1)];refine Yq ⟨_,rfl,pa,_,0,_,rfl,rfl,SqT.of ha,J,W _,_,rfl,?_⟩;rw [Qad c.2.2];rw [Qa4 c] at k;obtain ⟨d,e,rfl⟩:=qf hk ok c.2.2 (by decide +kernel) (by decide +kernel);refine Yq ⟨_,rfl,pa,ys,_,rfl,ha,hk,ok,I,fun l xs H1 _ O hT s1=>Zf ?_⟩;refine Zy fun Z L=>?_;obtain ⟨p,q,rfl,hp,hq⟩:=xT hT;refine L ?_;clear L Z;have hle:d.flat.length + e.flat.length + 1<=300:=by have:(V.str "or" :: (d.flat++e.flat)).length<=300:=I;rw [Qan,Qab] at this;lia
   refine (Z2 (Z2 (Z2 xS (qU (n:=300) rfl O rfl hp (by lia))) JI) (qU (n:=300) rfl O rfl hq (by lia))).g H1 _ (Z0.refl H1) fun z H' s h=>k _ z H' rfl ?_ (s1.trans s);rw [h];simp [Tm.flat]
  rw [Qa5 c] at k0 k;have r:=k0 rfl H (Z0.refl H);exact ⟨_,rfl,rfl,_,rfl,Yw (fun U=>⟨_,rfl,rfl,_,rfl,Yw (fun S=>⟨_,rfl,pa,_,0,_,rfl,rfl,SqT.of ha,J,W _,_,rfl,Yw (fun Y=>absurd ⟨str_inj U,str_inj S,Qap Y⟩ c) (fun _=>r)⟩) (fun _=>Yt r)⟩) (fun _=>Yt r)⟩
inductive XF(K:PySem.W.Frag)(vs:List V)(H:Hp)(Q:VK):Prop
 | mk (fa pa:Addr) (ys:List Str) (F sm:Tm):(vs=[.ref fa,.ref pa])->((∀H,SqT K H fa F.flat))->(F.ok xyz)->(F.flat.length<=20)->(H pa=some (.tup sm.flat))->(NK ys)->(sm.ok ys)->(sm.flat.length<=300)->((∀H',¬(∃σ,F.sub σ=sm)->Z0 H H'->Q .non H'))->(∀d τ H',H d=none->Gr H' d τ->F.sub (bnd τ)=sm->(∀y∈F.nms,y∈τ.map (·.1))->(∀p∈τ,p.2.ok ys/\bnd τ p.1=p.2)->Z0 H H'->Q (.ref d) H')->XF K vs H Q
def Xj(K:PySem.W.Frag):Sp:=fun d H Q _=>XF K d H Q
theorem Wv (T:Txt K w mg t) (XB:Xcl K mg base t):Z5 P w K mg base CX0 4 t.da t.dc ["form","words"] (Xj K):=by
 have g:Z5 P w K mg base CX0 3 t.cm t.cn ["word"] (YW K):=XY T XB;have I:Z5 P w K mg base CX0 3 t.dh t.di ["words","begin"] (X7 K):=WH T XB;refine T.bb.F.ok ZG (fun vs H Q E h=>?_) (fun cdv A outer s H vs Q E hr h=>?_)
 ·obtain ⟨fa,pa,ys,F,sm,rfl,hf,hF,hFl,hp,hk,hs,hsl,k1,k2⟩:=h
  rfl
 ·obtain ⟨fa,pa,ys,F,sm,rfl,hf,hF,hFl,hp,hk,hs,hsl,k1,k2⟩:=h
  have hu:=Yd hr;refine ⟨_,@QSs.out _ _ _ (Za (Zo (i:=2) ZG.nd rfl (Or.inl rfl) Zaj)
    (Za (Zo (i:=3) ZG.nd rfl (Or.inl rfl) Ze)
    (Za (Y6 Qbl rfl (Wl (qv 0)) (Z8 (i:=4) ZG.nd rfl (Or.inl rfl))
    (Za (Zo (i:=5) ZG.nd rfl (Or.inl rfl) (Zl YC (qv 3) Ze))
    (Za (ZF (WM (Zi g (hr.mono (by decide)) rfl T.ba.m T.ba.F.kp T.ba.b .nil Z1 (Zj (qv 4) Zb)))
    (Za (Zo (i:=5) ZG.nd rfl (Or.inl rfl) (Zi I (hr.mono (by decide)) rfl T.aw.m T.aw.F.kp T.aw.b .nil Z1 (Zj (qv 1) (Zj (qv 3) Zb))))
    (Zh (ZF (Zk (Zam (We hr)) (Wm PySem.F.plainAttrs_dict PySem.F.slot_dict_setdefault PySem.F.type_dict_setdefault Zax (qv 2) (Zj (qv 4) (Zj (Y2 (SlR.or Wk Xf) (qv 1) (Yr (qv 3)) (Yr (qv 5))) Zb))) (Y2 (SlR.or Wk Xf) (qv 1) (Yr (qv 3)) (Yr (qv 5))) (Zt _))
    (Zh (Zp WL)) Zu))) (Zh (ZF (Zk Zb9 (ZD ZU (qv 1) (qv 3) (fun _ _=>rfl)) (qv 4) (Zt _))
    (Zh (Zp WL)) Zu)))
    (Zh (Zo (i:=3) ZG.nd rfl (Or.inl rfl) (qv 5))))))
    (Zh (Zp (qv 2)))))),?_⟩
  clear hu hr
  try dsimp only [L2.cxK,L2.cxK2]
  refine L2.let4 ?_;intro U3 U2 U1;intro d hd;refine Zf ?_;refine Zf ?_;have u0:=Zd (o:=.dK []) hd;have g0:=Zc (H:=H) (a:=d) (o:=.dK []);generalize upd H d (.dK [])=H0 at *;refine ⟨_,rfl,fa,rfl,⟨_,hf _⟩,W3 (K:=K) (a:=fa) (xs:=F.flat) (fun i σ H2=>∃(τ:List (Str × Tm)) (j:Nat) (v4 v5:Option V),σ=[some (.ref fa),some (.ref pa),some (.ref d),some (.int (j:Int)),v4,v5]/\Gr H2 d τ/\Mt ys F sm (F.flat.drop i) (sm.flat.drop j) τ/\j<=sm.flat.length/\τ.length<=i/\Z0 H H2) ⟨[],0,none,none,rfl,⟨[],g0,Qao _,(fun p hp=>nomatch hp),fun _ _=>rfl⟩,Mt.beg hF hs,Qa8 _,Qao _,u0⟩ (fun i σ H2 _ _=>hf _) ?_ ?_⟩
  ·rintro i w σ H2 hw J
   refine Zy fun L f=>?_;obtain ⟨τ,j,v4,v5,rfl,B,M,hj,hxy,s2⟩:=J;refine f ?_;clear f L;refine Zf ?_;refine ⟨_,rfl,_,_,rfl,rfl,Zf ?_⟩;have hwm:=Qae hw;have hfd:F.flat.drop i=w::F.flat.drop (i + 1):=by
    obtain ⟨h1,h2⟩:=Qah.mp hw;rw [Qbx h1,h2]
   rw [hfd] at M;have hp2:=s2 _ _ hp;have hsi:=sm.si hs;rcases xP hF w hwm with ⟨y,hy,rfl,hnm,hyl⟩ | ⟨hnm,hkp,hsc⟩
   ·refine qJ (fun W H'=>∃(τ:List (Str × Tm)) (j':Nat),W=[some (.ref fa),some (.ref pa),some (.ref d),some (.int (j:Int)),some (.str y),some (.int (j':Int))]/\Gr H' d τ/\Mt ys F sm (F.flat.drop (i + 1)) (sm.flat.drop j') τ/\j'<=sm.flat.length/\τ.length<=i + 1/\Z0 H H') (fun N hN=>?_) ?_
    ·refine ⟨_,rfl,.str y,rfl,.inr ⟨y,rfl,hyl⟩,fun H3 Y=>?_⟩
     rw [hnm];refine ⟨_,rfl,Yq ?_⟩;refine Zy fun L f=>?_;obtain ⟨t1,sr,ht1,hsr,mv1,mv2⟩:=M.var (xM y hy);refine f ?_;clear f L;have hsp:sm.flat=sm.flat.take j++(t1.flat++sr):=by rw [<-hsr,Qdq]
     have U:(sm.flat.take j).length=j:=by rw [Qcr];lia
     have hp3:=Y _ _ hp2;have hlen:=congrArg List.length hsp;rw [Qab,Qab,U] at hlen;refine ⟨_,rfl,_,rfl,pa,ys,sm.flat.take j,sr,t1,by rw [U];rfl,by rw [<-hsp];exact hp3,hk,ht1,Zf ?_⟩;rw [U];have O:xg sm.flat (some (j:Int)) (some ((j + t1.flat.length:Nat):Int))=t1.flat:=by rw [hsp];exact qR (by rw [U]) (by rw [U])
     have hdr:sm.flat.drop (j + t1.flat.length)=sr:=by rw [<-List.drop_drop,hsr,Qff]
     refine Zy fun L f=>?_;obtain ⟨kvs,hdk,hkl,hb1,hb2⟩:=(B.same Y).ex;refine f ?_;clear f L;have hML:=M.tok;have G:∀w∈t1.flat,SI w:=t1.si ht1;refine ⟨_,rfl,.inr (.inr (.inl ⟨rfl,.inl ⟨_,hdk⟩⟩)),_,rfl,_,rfl,_,rfl,_,rfl,_,rfl,_,rfl,Gs hp3 fun p1 H4 Z s4=>?_⟩;rw [O] at Z;refine ⟨d,.inr y,.ref p1,kvs,rfl,rfl,s4 _ _ hdk,Zv (by have:=(Qah.mp hw).1;lia),fun v hv=>?_,fun hv=>?_⟩
     ·have hmem:y∈τ.map (·.1):=by
       refine Classical.byContradiction fun z=>?_;rw [hb2 y z] at hv;cases hv
      obtain ⟨⟨y',x⟩,hpx,rfl⟩:=Qbp.mp hmem;obtain ⟨b,e1,e2⟩:=hb1 _ hpx;have e1':Y9 kvs (.inr y')=some (.ref b):=e1;rw [e1'] at hv;cases hv;refine ⟨_,rfl,_,rfl,_,rfl,_,rfl,_,rfl,Gs (s4 _ _ hp3) fun p2 H5 hp5 s5=>?_⟩;rw [O] at hp5;have S:=hML _ hpx;refine ⟨b,p2,_,_,rfl,rfl,SqT.of (s5 _ _ (s4 _ _ e2)),SqT.of hp5,YU (x.si S),YU G,_,rfl,?_⟩;rw [Xh (x.si S) G];have s25:=s2.trans (Y.trans (s4.trans s5))
      by_cases e:x.flat=t1.flat
      ·have ex:=WR hk S ht1 e
       rw [Qad e];exact Yt (hN _ _ ⟨τ,j + t1.flat.length,rfl,(B.same Y).same (s4.trans s5),by rw [hdr];exact (mv2 x hpx).1 ex,by lia,by lia,s25⟩)
      ·rw [Qal e]
       exact Yq (k1 _ (fun ⟨σ,hσ⟩=>(mv2 x hpx).2 (fun z=>e (by rw [z])) σ hσ) s25)
     ·have hny:y∉τ.map (·.1):=fun z=>by
       obtain ⟨q,hq,rfl⟩:=Qbp.mp z;obtain ⟨b,e1,_⟩:=hb1 q hq;rw [e1] at hv;cases hv
      have B4:=Gr.add (s4 _ _ hdk) hkl (fun q hq=>let ⟨b,e1,e2⟩:=hb1 q hq;⟨b,e1,s4 _ _ e2⟩) hb2 Z hny;have s14:Z0 H (upd H4 d (.dK (putK kvs (.inr y) (.ref p1)))):=Ys (s2.trans (Y.trans s4)) hd;have n1:p1≠d:=XI Z (s4 _ _ hdk) (fun z=>nomatch z);have hp14:upd H4 d (.dK (putK kvs (.inr y) (.ref p1))) p1=some (.tup t1.flat):=by rw [Zs n1];exact Z
      have hpa:upd H4 d (.dK (putK kvs (.inr y) (.ref p1))) pa=some (.tup sm.flat):=s14 _ _ hp;generalize upd H4 d (.dK (putK kvs (.inr y) (.ref p1)))=H5 at *;refine ⟨_,rfl,_,rfl,_,rfl,_,rfl,_,rfl,Gs hpa fun p2 H6 hp6 s6=>?_⟩;rw [O] at hp6;refine ⟨p1,p2,_,_,rfl,rfl,SqT.of (s6 _ _ hp14),SqT.of hp6,YU G,YU G,_,rfl,?_⟩;rw [Xh G G,Qad rfl];exact Yt (hN _ _ ⟨τ++[(y,t1)],j + t1.flat.length,rfl,B4.same s6,by rw [hdr];exact mv1 hny,by lia,by rw [Qab];show τ.length + 1<=_;lia,s14.trans s6⟩)
    ·rintro W H' J
     refine Zy fun L f=>?_;obtain ⟨τ,j',rfl,B,M,hj,hl,s⟩:=J;refine f ?_;clear f L;exact ⟨_,rfl,τ,j',_,_,rfl,B,M,hj,hl,s⟩
   ·refine qJ (fun W H'=>W=[some (.ref fa),some (.ref pa),some (.ref d),some (.int (j:Int)),some w,some (.int ((j:Int) + 1))]/\Gr H' d τ/\Mt ys F sm (F.flat.drop (i + 1)) (sm.flat.drop (j + 1)) τ/\j + 1<=sm.flat.length/\Z0 H H') (fun N hN=>?_) ?_
    ·refine ⟨_,rfl,w,rfl,hsc,fun H3 Y=>?_⟩
     rw [hnm];refine ⟨_,rfl,Yt ?_⟩;refine Zy fun L f=>?_;obtain ⟨w',sr,hsr,mw1,mw2⟩:=M.wrd hk hkp;refine f ?_;clear f L;obtain ⟨d1,d2,d3⟩:=zG hsr;have w1:=hsi w' (Qae d1);have w2:SI w:=hsc.elim .inl fun ⟨y,e,_⟩=>.inr ⟨y,e⟩;refine ⟨_,rfl,_,rfl,pa,_,_,_,rfl,rfl,SqT.of (Y _ _ hp2),Yk d1,_,rfl,w1.scal w2,_,rfl,?_⟩
     by_cases e:w'=w
     ·rw [Qad e]
      exact Yt (hN _ _ ⟨rfl,B.same Y,by rw [d2];exact mw1 e,by lia,s2.trans Y⟩)
     ·rw [Qal e]
      exact Yq (k1 _ (fun ⟨σ,hσ⟩=>mw2 e σ hσ) (s2.trans Y))
    ·rintro W H' J
     refine Zy fun L f=>?_;obtain ⟨rfl,B,M,hj,s⟩:=J;refine f ?_;clear f L;exact ⟨_,rfl,τ,j + 1,_,_,rfl,B,M,hj,by lia,s⟩
  ·rintro σ H2 J
   refine Zy fun L f=>?_;obtain ⟨τ,j,v4,v5,rfl,B,M,hj,hxy,s2⟩:=J;refine f ?_;clear f L;rw [Qfx] at M;obtain ⟨f1,f2⟩:=M.fin;exact ⟨_,rfl,k2 d τ H2 hd B (f1 _ fun p hp=>vY M.nd hp) f2 (fun p hp=>⟨M.tok p hp,vY M.nd hp⟩) s2⟩
inductive GA(K:PySem.W.Frag)(vs:List V)(H:Hp)(Q:VK):Prop
 | mk (ga d:Addr) (τ:List (Str × Tm)) (G:Tm):(vs=[.ref ga,.ref d])->((∀H,SqT K H ga G.flat))->(G.ok xyz)->(G.flat.length<=20)->(Gr H d τ)->((∀y∈G.nms,y∈τ.map (·.1)))->((∀p∈τ,bnd τ p.1=p.2))->((∀y∈G.nms,(bnd τ y).flat.length<=300))->(∀p H',H' p=some (.tup (G.sub (bnd τ)).flat)->Z0 H H'->Q (.ref p) H')->GA K vs H Q
def xW(K:PySem.W.Frag):Sp:=fun d H Q _=>GA K d H Q
theorem kF (T:Txt K w mg t) (XB:Xcl K mg base t):Z5 P w K mg base CX0 4 t.iy t.iz ["form","bound"] (xW K):=by
 have f:Z5 P w K mg base CX0 3 t.cm t.cn ["word"] (YW K):=XY T XB;refine T.ig.F.ok WU (fun vs H Q E h=>?_) (fun cdv A outer s H vs Q E hr h=>?_)
 ·obtain ⟨ga,d,τ,G,rfl,hg,hG,hGl,B,hn,hb,Z,k⟩:=h
  rfl
 ·obtain ⟨ga,d,τ,G,rfl,hg,hG,hGl,B,hn,hb,Z,k⟩:=h
  have hu:=Yd hr;refine ⟨_,@QSs.out _ _ _ (Za (Zo (i:=2) WU.nd rfl (Or.inl rfl) (Zr Zb))
    (Za (Y6 Qbl rfl (Wl (qv 0)) (Z8 (i:=3) WU.nd rfl (Or.inl rfl))
    (Zh (vK (i:=2) WU.nd rfl (Or.inl rfl) (kZ (WM (Zi f (hr.mono (by decide)) rfl T.ba.m T.ba.F.kp T.ba.b .nil Z1 (Zj (qv 3) Zb))) (Zai hu (qv 1) (qv 3) (fun _ _=>rfl)) (Zr (Zj (qv 3) Zb))) Zaz)))
    (Zh (Zp (qv 2))))),?_⟩
  clear hu hr
  try dsimp only [L2.cxK,L2.cxK2]
  refine L2.let3 ?_;intro U2 U1;refine ⟨by show 0<=sizeLine;decide,fun z hz=>Zf ?_⟩;have u0:=Zd (o:=.tup []) hz;have g0:=Zc (H:=H) (a:=z) (o:=.tup []);generalize upd H z (.tup [])=H0 at *;have fl:∀w∈G.flat,(fwd (bnd τ) w).length<=300:=fun w hw=>by
   unfold fwd
   split
   ·split
    ·show 1<=300;decide
    ·rename_i y hy
     exact Z _ (kg hG y hw hy)
   ·show 1<=300;decide
  refine ⟨_,rfl,ga,rfl,⟨_,hg _⟩,W3 (K:=K) (a:=ga) (xs:=G.flat) (fun i σ H2=>∃(z:Addr) (v3:Option V),σ=[some (.ref ga),some (.ref d),some (.ref z),v3]/\H2 z=some (.tup ((G.flat.take i).flatMap (fwd (bnd τ))))/\Z0 H H2) ⟨z,none,rfl,g0,u0⟩ (fun i σ H2 _ _=>hg _) ?_ ?_⟩
  ·rintro i w σ H2 hw J
   refine Zy fun Y g=>?_;obtain ⟨z,v3,rfl,hz2,s2⟩:=J;refine g ?_;clear g Y;refine Zf ?_;have S:=Qae hw;have hil:=(Qah.mp hw).1;have I:(G.flat.take (i + 1)).flatMap (fwd (bnd τ))=(G.flat.take i).flatMap (fwd (bnd τ))++fwd (bnd τ) w:=by
    rw [List.take_add_one,hw,Qcj];simp
   have hsz:((G.flat.take i).flatMap (fwd (bnd τ))).length + (fwd (bnd τ) w).length<=sizeLine:=by
    have h1:=uk (G.flat.take i) fun x hx=>fl x (List.mem_of_mem_take hx);have h2:=fl w S;rw [Qcr] at h1;exact Qbg (Qd5 (show _<=10000 by lia) (by decide))
   rcases xP hG w S with ⟨y,hy,rfl,O,hyl⟩ | ⟨O,hkp,W⟩
   ·have L:=xM y hy
    obtain ⟨q,hq,hqy⟩:=Qbp.mp (hn y (kg hG y S L));subst hqy;refine ⟨_,rfl,_,rfl,.str q.1,rfl,.inr ⟨q.1,rfl,hyl⟩,fun H3 U=>?_⟩;rw [O];refine Zy fun Y g=>?_;obtain ⟨kvs,e,_,h1,_⟩:=((B.same s2).same U).ex;refine g ?_;clear g Y;obtain ⟨b,e1,e2⟩:=h1 q hq;refine ⟨_,rfl,Yq ⟨_,rfl,_,rfl,d,_,rfl,.inl ⟨kvs,.inr q.1,.inl e,rfl,e1.symm⟩,z,b,_,_,rfl,rfl,U _ _ hz2,e2,?_,fun p H4 hp s4=>⟨p,_,rfl,?_,s2.trans (U.trans s4)⟩⟩⟩
    ·have:fwd (bnd τ) (.str q.1)=q.2.flat:=by
      show (if q.1∈Ya then _ else _)=_;rw [Qa5 L,hb q hq]
     rw [this] at hsz;exact hsz
    ·rw [I,hp]
     show some (HO.tup (_++q.2.flat))=some (HO.tup (_++if q.1∈Ya then _ else _));rw [Qa5 L,hb q hq]
   ·have hfw:fwd (bnd τ) w=[w]:=by
     rcases W with ⟨n,rfl⟩ | ⟨y,rfl,_⟩
     ·rfl
     ·exact Qa4 (hkp y rfl)
    rw [hfw] at I hsz;refine ⟨_,rfl,_,rfl,w,rfl,W,fun H3 U=>?_⟩;rw [O];refine ⟨_,rfl,Yt ⟨_,rfl,by show 1<=sizeLine;decide,fun o ho=>?_⟩⟩;have s4:=Zd (o:=.tup [w]) ho;exact ⟨z,o,_,_,rfl,rfl,s4 _ _ (U _ _ hz2),Zc,hsz,fun p H4 hp s5=>⟨p,_,rfl,by rw [I,hp],s2.trans (U.trans (s4.trans s5))⟩⟩
  ·rintro σ H2 J
   refine Zy fun Y g=>?_;obtain ⟨z,v3,rfl,hz2,s2⟩:=J;refine g ?_;clear g Y;rw [Qbo,<-G.sub_flat xM hG] at hz2;exact ⟨_,rfl,k z H2 hz2 s2⟩
inductive XZ(vs:List V)(H:Hp)(Q:VK):Prop
 | mk (how:Str) (p:Addr) (ys:List Str) (tm:Tm):(vs=[.str how,.ref p])->(H p=some (.tup tm.flat))->(NK ys)->(tm.ok ys)->(tm.flat.length<=200)->((trn how tm=none->∀H',Z0 H H'->Q .non H'))->(∀x z H',trn how tm=some x->H' z=some (.tup x.flat)->Z0 H H'->Q (.ref z) H')->XZ vs H Q
def Jf(K:PySem.W.Frag):Sp:=fun d H Q _=>XZ d H Q
theorem qZ (T:Txt K w mg t) (XB:Xcl K mg base t):Z5 P w K mg base CX0 4 t.fx t.fy ["how","words"] (Jf K):=by
 have f:Z5 P w K mg base CX0 3 t.dj t.dk ["how","word","shares"] (Xr K):=Jw T XB;have d:Z5 P w K mg base CX0 3 t.dm t.dq ["how","word","one"] (Xs K):=Jx T XB;have I:Z5 P w K mg base CX0 2 t.bj t.bo ["words"] (Yp K):=Y7 T XB;refine T.dv.F.ok WV (fun vs H Q E h=>?_) (fun cdv A outer s H vs Q E hr h=>?_)
 ·obtain ⟨L,p,ys,W,rfl,hp,hk,ok,J,k0,k⟩:=h
  rfl
 ·obtain ⟨L,p,ys,W,rfl,hp,hk,ok,J,k0,k⟩:=h
  have hu:=Yd hr;refine ⟨_,@QSs.out _ _ _ (Za (Zo (i:=2) WV.nd rfl (Or.inl rfl) (Zi I (hr.mono (by decide)) rfl T.af.m T.af.F.kp T.af.b .nil Z1 (Zj (qv 1) Zb)))
    (Za (ZF (Zk ZH (Z4 ZE (by rfl) T.cz XM (Zj (qv 2) Zb)) Ze (Zt _))
    (Zh (Zp (Zi d (hr.mono (by decide)) rfl T.cb.m T.cb.F.kp T.cb.b .nil Z1 (Zj (qv 0) (Zj (ZD ZU (qv 1) Ze (fun _ _=>rfl)) (Zj (ZD ZQ (qv 2) Ze (fun _ _=>rfl)) Zb)))))) Zu)
    (Za (ZF (Zk ZH (Z4 ZE (by rfl) T.cz XM (Zj (qv 2) Zb)) Ze (Zt _))
    (Zh (Zp (Zi f (hr.mono (by decide)) rfl T.bz.m T.bz.F.kp T.bz.b .nil Z1 (Zj (qv 0) (Zj (ZD ZU (qv 1) Ze (fun _ _=>rfl)) (Zj (qv 2) Zb)))))) Zu)
    (Za (ZF (YO (ZJ (Zk ZH (Z4 ZE (by rfl) T.cz XM (Zj (qv 2) Zb)) Ze (Zt _)) (ZI (Zk ZH (qv 0) Zg (Zt _)))))
    (Zh (Zp (Zl Zn (Zl Zn (Zl Zn (Zl Zn (Zl Zn (Zr (Zj Zg (Zj Zg Zb))) (ZD ZQ (qv 2) Ze (fun _ _=>rfl))) (ZD ZQ (qv 2) Ze (fun _ _=>rfl))) (Zr (Zj Zg (Zj Zg Zb)))) (ZD ZQ (qv 2) Ze (fun _ _=>rfl))) (ZD ZQ (qv 2) Ze (fun _ _=>rfl))))) Zu)
    (Zh (Zp WL)))))),?_⟩
  clear hu hr
  try dsimp only [L2.cxK,L2.cxK2]
  refine L2.let5 ?_;intro U4 U3 U2 U1;have S:=k6 W;refine ⟨_,rfl,p,ys,W,rfl,hp,hk,ok,(Qa0 J (by decide)),fun l xs H1 _ G Y Z=>Zf ?_⟩
  replace hp:=Z _ _ hp
  replace k0:=fun e H' (s:Z0 H1 H')=>k0 e H' (Z.trans s)
  replace k:=fun x z H' e h (s:Z0 H1 H')=>k x z H' e h (Z.trans s)
  clear Z;cases W with
  | lf w =>
   cases Y;refine ⟨_,rfl,l,_,rfl,.inl (SqL.of G),rfl,_,rfl,Yw (fun c=>absurd c (qi (by simp))) (fun _=>?_)⟩;refine ⟨_,rfl,l,_,rfl,.inl (SqL.of G),rfl,_,rfl,Yw (fun c=>absurd c (qi (by simp))) (fun _=>?_)⟩;refine ⟨_,rfl,l,_,rfl,.inl (SqL.of G),rfl,_,rfl,Yw (fun c=>absurd c (qi (by simp))) (fun _=>Yt ?_)⟩;exact k0 rfl H1 (Z0.refl H1)
  | one y a =>
   obtain ⟨pa,rfl,ha⟩:=tr_one Y;have U:a.flat.length + 1<=200:=J;refine ⟨_,rfl,l,_,rfl,.inl (SqL.of G),rfl,_,rfl,zJ rfl ⟨_,rfl,_,rfl,p,_,0,_,rfl,rfl,SqT.of hp,S,_,rfl,l,_,0,_,rfl,rfl,SqL.of G,rfl,L,y,pa,ys,a,rfl,ha,hk,ok.2,by lia,k0,k⟩⟩
  | two y a b =>
   refine Zy fun Gz O=>?_;obtain ⟨pa,pb,rfl,ha,hb⟩:=xT Y;refine O ?_;clear O Gz;have U:a.flat.length + b.flat.length + 1<=200:=by have:(V.str y::(a.flat++b.flat)).length<=200:=J;rw [Qan,Qab] at this;exact this
   refine ⟨_,rfl,l,_,rfl,.inl (SqL.of G),rfl,_,rfl,Yw (fun c=>absurd c (qi (by simp))) (fun _=>?_)⟩;refine ⟨_,rfl,l,_,rfl,.inl (SqL.of G),rfl,_,rfl,zJ rfl ⟨_,rfl,_,rfl,p,_,0,_,rfl,rfl,SqT.of hp,S,_,rfl,L,y,l,pa,pb,ys,a,b,rfl,G,ha,hb,hk,ok.2.1,ok.2.2,by lia,k0,k⟩⟩
  | thr y a b c =>
   refine Zy fun Gz O=>?_;obtain ⟨pa,pb,pc,rfl,ha,hb,hc⟩:=gf Y;refine O ?_;clear O Gz;have U:a.flat.length + b.flat.length + c.flat.length + 1<=200:=by have:(V.str y::(a.flat++(b.flat++c.flat))).length<=200:=J;rw [Qan,Qab,Qab] at this;lia
   refine ⟨_,rfl,l,_,rfl,.inl (SqL.of G),rfl,_,rfl,Yw (fun c=>absurd c (qi (by simp))) (fun _=>?_)⟩;refine ⟨_,rfl,l,_,rfl,.inl (SqL.of G),rfl,_,rfl,Yw (fun c=>absurd c (qi (by simp))) (fun _=>?_)⟩;refine ⟨_,rfl,l,_,rfl,.inl (SqL.of G),rfl,_,rfl,zJ rfl ⟨_,rfl,rfl,_,rfl,?_⟩⟩
   by_cases c1:L = "pickor"
   ·rw [Qad (congrArg V.str c1)]
    have a0:=fun (n:Nat) (h:a.flat.length<=n)=>qU (K:=K) (i:=2) (σ:=[some (.str L),some (.ref p),some (.ref l)]) (n:=n) rfl G (j:=0) rfl ha h;have b0:=fun (n:Nat) (h:b.flat.length<=n)=>qU (K:=K) (i:=2) (σ:=[some (.str L),some (.ref p),some (.ref l)]) (n:=n) rfl G (j:=1) rfl hb h;have c0:=fun (n:Nat) (h:c.flat.length<=n)=>qU (K:=K) (i:=2) (σ:=[some (.str L),some (.ref p),some (.ref l)]) (n:=n) rfl G (j:=2) rfl hc h;refine Yq ((Z2 (Z2 (Z2 (Z2 (Z2 xS (a0 200 ?_)) (b0 200 ?_)) xS) (a0 200 ?_)) (c0 200 ?_)).g H1 _ (Z0.refl H1) fun z H' s h=>k _ z H' (Qa4 c1) ?_ s)
    all_goals first | lia | (rw [h];simp [Tm.flat])
   ·rw [Qal (fun z=>c1 (by injection z))]
    exact Yt (k0 (Qa5 c1) H1 (Z0.refl H1))
inductive Xt(C:Addr)(vs:List V)(H:Hp)(Q:VK)(E:XK):Prop
 | mk (p pq:Addr) (ys:List Str) (tm:Tm) (q:List Int) (r:Str):(vs=[.ref p,.ref pq,.str r])->(H p=some (.tup tm.flat))->(H pq=some (.tup (q.map V.int)))->(NK ys)->(tm.ok ys)->(tm.flat.length<=300)->(uu (q,r))->(((q,r)∈ZS tm->∀tm' z H',Stp tm q r tm'->H' z=some (.tup tm'.flat)->Z0 H H'->Q (.ref z) H'))->(((q,r)∉ZS tm->∀e H',Z0 H H'->H' e=none->E (.ref C) (some e) H'))->Xt C vs H Q E
def Wa(K:PySem.W.Frag)(C:Addr):Sp:=fun d H Q E=>Xt C d H Q E
theorem GB (T:Txt K w mg t) (XB:Xcl K mg base t):Z5 P w K mg base (CXO P w) 5 t.el t.en ["words","path","rule"] (Wa K t.ae):=by
 have W:Z5 P w K mg base CX0 4 t.iy t.iz ["form","bound"] (xW K):=kF T XB;have G:Z5 P w K mg base CX0 4 t.da t.dc ["form","words"] (Xj K):=Wv T XB;have I:Z5 P w K mg base CX0 3 t.dh t.di ["words","begin"] (X7 K):=WH T XB;have J:Z5 P w K mg base CX0 3 t.ew t.ez ["words"] (WI K):=G7 T XB;refine T.cu.F.okX ZL (fun vs H Q E h=>?_) (fun cdv A outer s H vs Q E hr h=>?_)
 ·obtain ⟨p,pq,ys,O,q,r,rfl,hp,hpq,hk,ht,hlen,⟨hql,hqn,hrl⟩,k,ke⟩:=h
  rfl
 ·obtain ⟨p,pq,ys,O,q,r,rfl,hp,hpq,hk,ht,hlen,⟨hql,hqn,hrl⟩,k,ke⟩:=h
  have hu:=Yd hr;refine ⟨_,@QSs.out _ _ _ (Za (Zo (i:=3) ZL.nd rfl (Or.inl rfl) (Zi J (hr.mono (by decide)) rfl T.bu.m T.bu.F.kp T.bu.b .nil Z1 (Zj (qv 0) Zb)))
    (Za (ZF (Zk (Ge (Xo hr)) (qv 1) (qv 3) (by with_unfolding_all rfl))
    (Zh (je FnX.of.made rfl XB.o_NoTurning rfl (Zj (qe_fsT (We hr) (qv 1)) Zb))) Zu)
    (Za (Zo (i:=4) ZL.nd rfl (Or.inl rfl) (Wm Qbm PySem.F.slot_list_index PySem.F.type_list_index (jZ (Xo hr)) (qv 3) (Zj (qv 1) Zb)))
    (Za (Zo (i:=5) ZL.nd rfl (Or.inl rfl) (Zi I (hr.mono (by decide)) rfl T.aw.m T.aw.F.kp T.aw.b .nil Z1 (Zj (qv 0) (Zj (qv 4) Zb))))
    (Za (Y6 PassesOwn.leaving rfl (Xy (qt (⟨by rfl,by decide +kernel,by decide +kernel,by rfl,by decide +kernel,by decide +kernel,by rfl,by decide +kernel⟩:ZZ (Zm Y3) _ ["words","path","rule","paths","begin","end","turning","bound"] "turning" ["rule"] [2]) (Wl (ZY (v:=.ref t.au) rfl T.au.m rfl)) (fun _ _ _ _=>(vi (Zk ZH (ZD (show IxR _ (Zc6 K) from ZU) (qv 0) Ze (fun _ _=>rfl)) (qv 1) (Zt _)))) (fun _ _ _ _=>(qv 0)))) (Z8 (i:=6) ZL.nd rfl (Or.inl rfl))
    (Za (Zo (i:=7) ZL.nd rfl (Or.inl rfl) (Zi G (hr.mono (by decide)) rfl T.bb.m T.bb.F.kp T.bb.b .nil Z1 (Zj (ZD ZU (qv 6) Ze (fun _ _=>rfl)) (Zj (Y2 (SlR.or Wk Xf) (qv 0) (Yr (qv 4)) (Yr (qv 5))) Zb))))
    (Zh (ZF (Zk xZ (qv 7) WL (by with_unfolding_all rfl))
    (Zh (Zp (Zl Zn (Zl Zn (Y2 (SlR.or Wk Xf) (qv 0) Jg (Yr (qv 4))) (Zi W (hr.mono (by decide)) rfl T.ig.m T.ig.F.kp T.ig.b .nil Z1 (Zj (ZD ZU (qv 6) Ze (fun _ _=>rfl)) (Zj (qv 7) Zb)))) (Y2 (SlR.or Wk Xf) (qv 0) (Yr (qv 5)) Jg)))) Zu))))
    (Zh (je FnX.of.made rfl XB.o_NoTurning rfl (Zj (qe_fsR (qv 2)) Zb)))))))),?_⟩
  clear hu
  try dsimp only [L2.cxK,L2.cxK2]
  refine L2.let6 ?_;intro U5 U4 U3 U2 U1;refine ⟨_,rfl,p,ys,O,rfl,hp,hk,ht,hlen,fun lp xp H1 hlp hxp P s1=>Zf ?_⟩;have hxl:xp.length=(O.nds []).length:=by rw [P.length,Qaz]
  have hpq1:=s1 _ _ hpq;have hqs:∀(j:Nat) (x:V),xp[j]?=some x->∃z,((O.nds []).map (·.1))[j]?=some z/\JF H1 x z:=fun j x hx=>Zw P hx;have heq:∀(j:Nat) (x:V),xp[j]?=some x->EqB H1 3 x (.ref pq) (decide (((O.nds []).map (·.1))[j]?=some q)):=fun j x hx=>by
   obtain ⟨z,h1,h2⟩:=hqs j x hx;have:=zI (n:=2) h2 hpq1;rw [h1,show decide (some z=some q)=decide (z=q) by rw [Qdy];exact ⟨fun e=>Option.some.inj e,fun e=>by rw [e]⟩];exact this
  refine ⟨_,rfl,_,rfl,lp,xp,_,rfl,SqL.of hxp,heq,_,rfl,?_⟩
  by_cases hin:∃(i:Nat) (sm:Tm),(O.nds [])[i]?=some (q,sm)
  rotate_left
  ·rw [show (List.range xp.length).any (fun j=>decide (((O.nds []).map (·.1))[j]?=some q))=false from by
    rw [List.any_eq_false];intro j _ z;have z:=Qap z;rw [Qbc] at z;obtain ⟨⟨q',sm⟩,h1,h2⟩:=Option.map_eq_some_iff.mp z;cases h2;exact hin ⟨j,sm,h1⟩]
   refine Yq ⟨_,rfl,pq,q,rfl,SqT.of hpq1,hql,hqn,fun z=>?_⟩;exact ⟨by show 1<=sizeLine;decide,fun e he=>ke (fun z=>hin (let ⟨i,sm,h,_⟩:=WS z;⟨i,sm,h⟩)) e H1 s1 he⟩
  obtain ⟨i,sm,U⟩:=hin;have hil:i < (O.nds []).length:=(Qah.mp U).1;have Y:=qd U;rw [show (List.range xp.length).any (fun j=>decide (((O.nds []).map (·.1))[j]?=some q))=true from Qdh.mpr ⟨i,Qck.mpr (by lia),Qad Y⟩];refine Yt ?_;refine ⟨_,rfl,.inl ⟨rfl,_,SqL.of hxp⟩,_,rfl,lp,xp,.ref pq,_,i,rfl,rfl,hxp,by rw [O.nds_len] at hxl;lia,by lia,heq,Qad Y,fun j hj=>Qal fun z=>?_,Zf ?_⟩
  ·have:=JS (O.nds_nd []) z Y
   lia
  refine Zy fun S g=>?_;obtain ⟨u,v,f,hul,C⟩:=O.ctx [] i q sm U;refine g ?_;clear g S;have hsm:=(C.ok ys ht).1;have hp1:=s1 _ _ hp;have hp1':=hp1;rw [C.here] at hp1';have hsml:sm.flat.length<=300:=by
   have:=congrArg List.length C.here;rw [Qab,Qab] at this;lia
  refine ⟨_,rfl,_,rfl,p,ys,u,v,sm,by rw [hul];rfl,hp1',hk,hsm,Zf ?_⟩;obtain ⟨es,sq,hel,rows⟩:=T.au.d.ex;have e26:turns.length=26:=rfl;refine ⟨t.au,rfl,⟨_,sq _⟩,qu (K:=K) (a:=t.au) (xs:=es) (fun k zs H'=>Paired (RlAt K) zs (rls r (turns.take k))/\zs.length<=k/\k<=es.length/\H'=H1) ⟨.nil,Qao _,Qa8 _,rfl⟩ (fun k zs H' ⟨_,h,h',_⟩=>Qbg (Zv (by lia))) (fun _ _ H' _=>sq H') ?_ ?_⟩
  ·rintro k y zs H5 R hR hy L
   refine Zy fun S g=>?_;obtain ⟨S5,hzl,hkl,rfl⟩:=L;refine g ?_;clear g S;have hky:=(Qah.mp hy).1;obtain ⟨e,he⟩:∃e,turns[k]?=some e:=⟨_,Qag (by lia)⟩;have RA:=rows k y e hy he;refine Zy fun S g=>?_;obtain ⟨a1,f1,g1,rfl,q1,q2,q3⟩:=RA.ex;refine g ?_;clear g S;refine ⟨_,rfl,a1,_,0,_,rfl,rfl,q1 _,rfl,_,rfl,rfl,_,rfl,?_⟩
   by_cases hr:e.1=r
   ·rw [Qad (congrArg V.str hr)]
    refine Yq ⟨_,rfl,hR _ _ ⟨?_,by rw [Qab];show _ + 1<=_;lia,hky,rfl⟩⟩;rw [Z6 he,j7,Qa4 hr];exact S5.snoc RA
   ·rw [Qal (fun z=>hr (by injection z))]
    refine Yt (hR _ _ ⟨?_,by lia,hky,rfl⟩);rw [Z6 he,j7,Qa5 hr,Qax];exact S5
  ·rintro zs H5 L pc hpc
   refine Zy fun S g=>?_;obtain ⟨S5,hzl,_,rfl⟩:=L;refine g ?_;clear g S;rw [hel,Qbo] at S5;have w1:=Zd (o:=.lst zs) hpc;have g1:=Zc (H:=H5) (a:=pc) (o:=.lst zs);have hp2:=w1 _ _ hp1;have s2:=s1.trans w1;generalize upd H5 pc (.lst zs)=H2 at *;refine ⟨pc,rfl,⟨_,SqL.of g1⟩,WK (K:=K) (a:=pc) (xs:=zs) (fun m σ H'=>∃(v6 v7:Option V),σ=[some (.ref p),some (.ref pq),some (.str r),some (.ref lp),some (.int (i:Int)),some (.int ((u.length + sm.flat.length:Nat):Int)),v6,v7]/\(∀m' e',m' < m->(rls r turns)[m']?=some e'->¬Fit e' sm)/\Z0 H2 H') ⟨none,none,rfl,(fun m' e' h=>absurd h (Nat.not_lt_zero _)),Z0.refl _⟩ (fun m σ H' _ ⟨_,_,_,_,s⟩=>SqL.of (s _ _ g1)) ?_ ?_⟩
   ·rintro m y σ H3 hy L
    refine Zy fun S g=>?_;obtain ⟨v6,v7,rfl,Z,s3⟩:=L;refine g ?_;clear g S;refine Zf ?_;obtain ⟨e,he,RA⟩:=Zw S5 hy;refine Zy fun S g=>?_;obtain ⟨a1,f1,g1,rfl,q1,q2,q3⟩:=RA.ex;refine g ?_;clear g S;have hem:=Gv he;obtain ⟨o1,o2,o3⟩:=JQ hem;have fl:=j6 e hem;have hp3:=s3 _ _ hp2;refine ⟨_,rfl,a1,_,1,_,rfl,rfl,q1 _,rfl,_,rfl,_,rfl,_,rfl,_,rfl,_,rfl,Gs hp3 fun pa H4 hpa s4=>?_⟩;rw [C.here,qR (by rw [hul]) rfl] at hpa;refine ⟨f1,pa,ys,e.2.1,sm,rfl,q2,o1,fl.1,hpa,hk,hsm,hsml,fun H5 hn5 s5=>Zf ?_,fun d τ H5 hd B hσ hn hτ s5=>Zf ?_⟩
    ·refine ⟨_,rfl,rfl,_,rfl,Yt ⟨_,_,rfl,fun m' e' hm' he'=>?_,s3.trans (s4.trans s5)⟩⟩
     by_cases z:m'=m
     ·subst z
      rw [he] at he';cases he';exact hn5
     ·exact Z m' e' (by lia) he'
    ·have s35:=s3.trans (s4.trans s5)
     have hp5:=s35 _ _ hp2;refine ⟨_,rfl,rfl,_,rfl,Yq ⟨_,rfl,_,rfl,_,rfl,Gs hp5 fun pb H6 hpb s6=>?_⟩⟩;rw [C.here,wV (by rw [hul])] at hpb;have hbl:∀y∈e.2.2.nms,(bnd τ y).flat.length<=300:=fun y hy=>by
      have:=(Gu (ys:=ys) (σ:=bnd τ) e.2.1 y (o3 y hy)).1;rw [hσ] at this;lia
     refine ⟨_,rfl,a1,_,2,_,rfl,rfl,q1 _,rfl,_,rfl,g1,d,τ,e.2.2,rfl,q3,o2,fl.2,B.same s6,(fun y hy=>hn y (o3 y hy)),(fun p hp=>(hτ p hp).2),hbl,fun pf H7 hpf s7=>?_⟩;have hStp:Stp O q r (f (e.2.2.sub (bnd τ))):=⟨i,sm,m,e,bnd τ,u,v,f,U,hul,C,he,Z,hσ,rfl⟩;have hSl:=hStp.len;have hput:=C.put (e.2.2.sub (bnd τ));have hpl:=congrArg List.length hput;rw [Qab,Qab] at hpl;have sz:∀n,n<=1000->n<=sizeLine:=fun n hn=>Qbg (Zv hn);refine ⟨pb,pf,_,_,rfl,rfl,s7 _ _ hpb,hpf,sz _ (by lia),fun pc2 H8 hpc2 s8=>?_⟩;have hp8:=s8 _ _ (s7 _ _ (s6 _ _ hp5));refine ⟨_,rfl,_,rfl,_,rfl,Gs hp8 fun pd H9 hpd s9=>?_⟩;have hct:xg O.flat (some ((u.length + sm.flat.length:Nat):Int)) none=v:=by
      rw [C.here,<-Qbb];exact JR (by rw [Qab])
     rw [hct] at hpd;refine ⟨pc2,pd,_,_,rfl,rfl,s9 _ _ hpc2,hpd,sz _ (by rw [Qab];lia),fun z Hz hz sz'=>?_⟩;refine k (Zbr U he ⟨_,hσ⟩) _ z Hz hStp ?_ (s2.trans (s35.trans (s6.trans (s7.trans (s8.trans (s9.trans sz'))))));rw [hz,hput,Qbb]
   ·rintro σ H3 L
    refine Zy fun S g=>?_;obtain ⟨v6,v7,rfl,Z,s3⟩:=L;refine g ?_;clear g S;refine ⟨_,rfl,r,rfl,?_,by show 1<=sizeLine;decide,fun e he=>ke (fun z=>?_) e H3 (s2.trans s3) he⟩
    ·have e1:("the rule does not fit there: " : Str).length=29:=by decide +kernel
     rw [e1];have:(reprText r).length<=1000:=hrl;lia
    ·obtain ⟨i',sm',h1,m0,e0,hm0,hfit⟩:=WS z
     have e1:=JS (O.nds_nd []) (qd h1) Y;subst e1;rw [U] at h1;cases h1;refine Z m0 e0 ?_ hm0 hfit;rw [S5.length];exact (Qah.mp hm0).1
inductive qk(vs:List V)(H:Hp)(Q:VK):Prop
 | mk (p:Addr) (ys:List Str) (tm:Tm):(vs=[.ref p])->(H p=some (.tup tm.flat))->(NK ys)->(tm.ok ys)->(tm.flat.length<=300)->(∀l xs H',H l=none->H' l=some (.lst xs)->Yu H' xs (ZS tm)->Z0 H H'->Q (.ref l) H')->qk vs H Q
def jE(K:PySem.W.Frag):Sp:=fun d H Q _=>qk d H Q
theorem gv (T:Txt K w mg t) (XB:Xcl K mg base t):Z5 P w K mg base CX0 5 t.kd t.kv ["words"] (jE K):=by
 have I:Z5 P w K mg base CX0 3 t.ew t.ez ["words"] (WI K):=G7 T XB;have g:Z5 P w K mg base CX0 4 t.da t.dc ["form","words"] (Xj K):=Wv T XB;have J:Z5 P w K mg base CX0 3 t.dh t.di ["words","begin"] (X7 K):=WH T XB;refine T.iq.F.ok WW (fun vs H Q E h=>?_) (fun cdv A outer s H vs Q E hr h=>?_)
 ·obtain ⟨p,ys,L,rfl,hp,hk,ht,Y,k⟩:=h
  rfl
 ·obtain ⟨p,ys,L,rfl,hp,hk,ht,Y,k⟩:=h
  have hu:=Yd hr;refine ⟨_,@QSs.out _ _ _ (Za (Zo (i:=1) WW.nd rfl (Or.inl rfl) (XO Zb))
    (Za (Y6 Qbl rfl (jo rfl T.kc (Zi I (hr.mono (by decide)) rfl T.bu.m T.bu.F.kp T.bu.b .nil Z1 (Zj (qv 0) Zb))) (Ga rfl (Z8 (i:=2) WW.nd rfl (Or.inl rfl)) (Z8 (i:=3) WW.nd rfl (Or.inr rfl)))
    (Za (Zo (i:=4) WW.nd rfl (Or.inr rfl) (Y2 (SlR.or Wk Xf) (qv 0) (Yr (qv 2)) (Yr (Zi J (hr.mono (by decide)) rfl T.aw.m T.aw.F.kp T.aw.b .nil Z1 (Zj (qv 0) (Zj (qv 2) Zb))))))
    (Zh (W5 (Wm Qbm PySem.F.slot_list_extend PySem.F.type_list_extend yX (qv 1) (Zj (qt (⟨by rfl,by decide +kernel,by decide +kernel,by rfl,by decide +kernel,by decide +kernel,by rfl,by decide +kernel⟩:ZZ (Zm qH) _ ["words","told","begin","path","part"] "turning" ["path","part"] [3,4]) (Wl (ZY (v:=.ref t.au) rfl T.au.m rfl)) (fun _ _ _ _=>(vi (Zk xZ (Zi g (hr.mono (by decide)) rfl T.bb.m T.bb.F.kp T.bb.b .nil Z1 (Zj (ZD (show IxR _ (Zc6 K) from ZU) (qv 0) Ze (fun _ _=>rfl)) (Zj (qv 2) Zb))) WL (by with_unfolding_all rfl)))) (fun _ _ _ _=>(Zr (Zj (qv 1) (Zj (ZD (show IxR _ (Zc6 K) from ZU) (qv 0) Ze (fun _ _=>rfl)) Zb))))) Zb))))))
    (Zh (Zp (qv 1))))),?_⟩
  clear hu hr
  try dsimp only [L2.cxK,L2.cxK2]
  refine L2.let3 ?_;intro U2 U1;refine ⟨by show 0<=sizeLine;decide,fun l hl=>?_⟩;refine Zf ?_;have u0:=Zd (o:=.lst []) hl;have g0:=Zc (H:=H) (a:=l) (o:=.lst []);generalize upd H l (.lst [])=H0 at *;refine ⟨_,rfl,p,ys,L,rfl,u0 _ _ hp,hk,ht,Y,fun lp xp H1 hlp hxp P s1=>?_⟩;have s01:=u0.trans s1;have hxl:xp.length=L.flat.length:=by rw [P.length,Qaz,L.nds_len]
  have hlpn:l≠lp:=fun z=>by rw [z,hlp] at g0;cases g0
  obtain ⟨es,sq,hel,rows⟩:=T.au.d.ex;refine ⟨lp,_,rfl,SqL.of hxp,xF (K:=K) (a:=lp) (xs:=xp) (fun i σ H'=>∃(xs:List V) (v2 v3 v4:Option V),σ=[some (.ref p),some (.ref l),v2,v3,v4]/\H' l=some (.lst xs)/\H' lp=some (.lst xp)/\Yu H' xs (((L.nds []).take i).flatMap fun x=>xQ x turns)/\YD H' xp ((L.nds []).map (·.1))/\xs.length<=26 * i/\i<=xp.length/\Z0 H H') ⟨[],none,none,none,rfl,s1 _ _ g0,hxp,.nil,P,Qa8 _,Qa8 _,s01⟩ (fun i σ H' _ ⟨_,_,_,_,_,_,h,_⟩=>SqL.of h) ?_ ?_⟩
  ·rintro i x σ H2 pt hx hpt hz_
   refine Zy fun Z G=>?_;obtain ⟨xs,v2,v3,v4,rfl,h1,h2,S,P2,hxsl,hil,s2⟩:=hz_;refine G ?_;clear G Z;have hi':=(Qah.mp hx).1;have w0:=Zd (o:=.tup [.int (i:Int),x]) hpt;have h1':=w0 _ _ h1;have h2':=w0 _ _ h2;have S':=S.same w0;have P':=P2.same w0;have s3:=s2.trans w0;generalize upd H2 pt (.tup [.int (i:Int),x])=H3 at *;obtain ⟨q,hq,hxq⟩:=Zw P' hx;obtain ⟨⟨q',sm⟩,hnd,rfl⟩:∃z,(L.nds [])[i]?=some z/\z.1=q:=by
    rw [Qbc] at hq;cases e:(L.nds [])[i]? with
    | none=>rw [e] at hq;cases hq
    | some z=>rw [e] at hq;exact ⟨z,rfl,Option.some.inj hq⟩
   refine Zy fun Z G=>?_;obtain ⟨u,v,f,hul,C⟩:=L.ctx [] i q' sm hnd;refine G ?_;clear G Z;have hsm:=(C.ok ys ht).1;have hp3:=s3 _ _ hp;have W:=hp3;rw [C.here] at W;have hsml:sm.flat.length<=300:=by
    have:=congrArg List.length C.here;rw [Qab,Qab] at this;lia
   refine ⟨_,rfl,_,rfl,_,rfl,_,rfl,_,rfl,p,ys,u,v,sm,by rw [hul];rfl,W,hk,hsm,_,rfl,Gs hp3 fun pa H4 hpa s4=>Zf ?_⟩;rw [C.here,qR (by rw [hul]) rfl] at hpa;refine ⟨_,rfl,.inl ⟨rfl,_,SqL.of (s4 _ _ h1')⟩,t.au,rfl,⟨_,sq _⟩,qu (K:=K) (a:=t.au) (xs:=es) (fun k zs H'=>Yu H' zs (xQ (q',sm) (turns.take k))/\zs.length<=k/\k<=es.length/\Z0 H4 H') ⟨.nil,Qao _,Qa8 _,Z0.refl _⟩ (fun k zs H' ⟨_,h,h',_⟩=>Qbg (Zv (by have:turns.length=26:=rfl;lia))) (fun _ _ H' _=>sq H') ?_ ?_⟩
   ·rintro k y zs H5 R hR hy ⟨S5,hzl,hkl,s5⟩
    have hky:=(Qah.mp hy).1;obtain ⟨e,he⟩:∃e,turns[k]?=some e:=⟨_,Qag (by lia)⟩;have hem:=Qae he;refine Zy fun Z G=>?_;obtain ⟨a1,f1,g1,rfl,q1,q2,q3⟩:=(rows k y e hy he).ex;refine G ?_;clear G Z;obtain ⟨o1,o2,o3⟩:=JQ hem;have fl:=j6 e hem;obtain ⟨n1,n2⟩:=yd (q',sm) (turns.take k) e;refine ⟨_,rfl,a1,_,1,_,rfl,rfl,q1 _,rfl,_,rfl,f1,pa,ys,e.2.1,sm,rfl,q2,o1,fl.1,s5 _ _ hpa,hk,hsm,hsml,fun H6 hno s6=>?_,fun d τ H6 hd B hσ _ _ s6=>?_⟩
    ·refine ⟨rfl,_,rfl,Yt (hR _ _ ⟨?_,by lia,hky,s5.trans s6⟩)⟩
     rw [Z6 he,n2 hno];exact S5.same s6
    ·obtain ⟨ax,rfl,hax⟩:=hxq
     refine ⟨rfl,_,rfl,Yq ⟨_,rfl,_,rfl,a1,_,0,_,rfl,rfl,q1 _,rfl,by show 2<=sizeLine;decide,fun z hz=>hR _ _ ⟨?_,?_,hky,?_⟩⟩⟩
     ·rw [Z6 he,n1 ⟨_,hσ⟩]
      have w1:=Zd (o:=.tup [V.ref ax,V.str e.1]) hz;exact ((S5.same s6).same w1).snoc ⟨z,ax,rfl,Zc,w1 _ _ (s6 _ _ (s5 _ _ (s4 _ _ hax)))⟩
     ·rw [Qab]
      show _ + 1<=_;lia
     ·exact s5.trans (s6.trans (Zd hz))
   ·rintro zs H5 ⟨S5,hzl,_,s5⟩ pc hpc
    have w1:=Zd (o:=.lst zs) hpc;have e26:turns.length=26:=rfl;have O:=w1 _ _ (s5 _ _ (s4 _ _ h1'));have U:Z0 H3 (upd H5 pc (.lst zs)):=s4.trans (s5.trans w1);have hpcl:lp≠l:=hlpn.symm;rw [hel,Qbo] at S5;refine ⟨l,pc,_,_,rfl,rfl,O,Zc,Qbg (Qd5 (show _<=10000 by lia) (by decide)),xs++zs,_,_,_,rfl,Zc,?_,?_,?_,?_,hi',Ys (s3.trans U) hl⟩
    ·rw [Zs hpcl]
     exact U _ _ h2'
    ·rw [Z6 hnd,Qcj]
     refine Jr ((S'.same U).put O) ?_;simp only [Qca,List.flatMap_nil,Qax];exact (S5.same w1).put O
    ·exact (P'.same U).put O
    ·rw [Qab]
     lia
  ·rintro σ H2 hz_
   refine Zy fun Z G=>?_;obtain ⟨xs,v2,v3,v4,rfl,h1,h2,S,P2,hxsl,hil,s2⟩:=hz_;refine G ?_;clear G Z;rw [hxl,<-L.nds_len [],Qbo] at S;exact ⟨_,rfl,k l xs H2 hl h1 S s2⟩
inductive jF(C:Addr)(vs:List V)(H:Hp)(E:XK):Prop
 | mk (p pc:Addr) (ys:List Str) (tm:Tm) (xs:List V) (c:List (List Int × Str)):(vs=[.ref p,.ref pc])->(H p=some (.tup tm.flat))->(H pc=some (.tup xs))->(Yu H xs c)->(NK ys)->(tm.ok ys)->((∀x∈c,uu x))->(Ref tm c)->(∀e H',Z0 H H'->H' e=none->E (.ref C) (some e) H')->jF C vs H E
def uw(K:PySem.W.Frag)(C:Addr):Sp:=fun d H Q E=>jF C d H E
theorem ok_led (T:Txt K w mg t) (XB:Xcl K mg base t):Z5 P w K mg base (CXO P w) 6 t.lj t.ll ["words","chain"] (uw K t.ae):=by
 have d:Z5 P w K mg base (CXO P w) 5 t.el t.en ["words","path","rule"] (Wa K t.ae):=GB T XB;refine T.lb.F.okX kD (fun vs H Q E h=>?_) (fun cdv A outer s H vs Q E hr h=>?_)
 ·obtain ⟨p,pc,ys,tm,xs,c,rfl,hp,G,S,hk,ht,Y,hC,ke⟩:=h
  rfl
 ·obtain ⟨p,pc,ys,tm,xs,c,rfl,hp,G,S,hk,ht,Y,hC,ke⟩:=h
  have hu:=Yd hr;refine ⟨_,@QSs.out _ _ _ (Za (Y6 PassesOwn.leaving rfl (Wl (qv 1)) (Z8 (i:=2) kD.nd rfl (Or.inl rfl))
    (Zh (Zo (i:=0) kD.nd rfl (Or.inl rfl) (Zi d (hr.mono (by decide)) rfl T.cu.m T.cu.F.kp T.cu.b .nil FnX.of.passes (Zj (qv 0) (Zj (ZD ZU (qv 2) Ze (fun _ _=>rfl)) (Zj (ZD ZU (qv 2) Ze (fun _ _=>rfl)) Zb)))))))
    (Zh (Zp (qv 0)))),?_⟩
  clear hu hr
  try dsimp only [L2.cxK,L2.cxK2]
  refine L2.let2 ?_;intro U1;refine ⟨_,rfl,pc,rfl,⟨_,SqT.of G⟩,W3 (K:=K) (a:=pc) (xs:=xs) (fun i σ H2=>∃(z:Addr) (I:Tm) (v2:Option V),σ=[some (.ref z),some (.ref pc),v2]/\H2 z=some (.tup I.flat)/\I.ok ys/\Ref I (c.drop i)/\Z0 H H2) ⟨p,tm,none,rfl,hp,ht,hC,Z0.refl _⟩ (fun i σ H2 _ ⟨_,_,_,_,_,_,_,s⟩=>SqT.of (s _ _ G)) ?_ ?_⟩
  ·rintro i x σ H2 hx J
   refine Zy fun U f=>?_;obtain ⟨z,I,v2,rfl,hz,L,g,Z⟩:=J;refine f ?_;clear f U;refine Zf ?_;refine Zy fun U f=>?_;obtain ⟨⟨q,r⟩,hy,a,b,rfl,ha,hb⟩:=Zw S hx;refine f ?_;clear f U;have hcd:c.drop i=(q,r)::c.drop (i + 1):=by
    obtain ⟨h1,h2⟩:=Qah.mp hy;rw [Qbx h1,h2]
   rw [hcd] at g;have hb2:=Z _ _ hb;have W:=Z _ _ ha;have hs1:=Y _ (Qae hy);have O:I.flat.length<=300:=by cases g <;> assumption
   refine ⟨_,rfl,_,rfl,a,_,0,_,rfl,rfl,SqT.of W,rfl,_,rfl,a,_,1,_,rfl,rfl,SqT.of W,rfl,z,b,ys,I,q,r,rfl,hz,hb2,hk,L,O,hs1,fun hin t' z' H3 y hz' s3=>Zf ?_,fun hno e H3 s3 he=>ke e H3 (Z.trans s3) he⟩;cases g with
   | here h _=>exact absurd hin h
   | next _ _ hn=>exact ⟨z',t',_,rfl,hz',y.ok L,hn t' y,Z.trans s3⟩
  ·rintro σ H2 J
   refine Zy fun U f=>?_;obtain ⟨z,I,v2,rfl,hz,L,g,Z⟩:=J;refine f ?_;clear f U;rw [S.length,Qfx] at g;cases g
inductive XG(vs:List V)(H:Hp)(Q:VK):Prop
 | mk (p pc:Addr) (ys:List Str) (tm:Tm) (xs:List V) (c:List (List Int × Str)):(vs=[.ref p,.ref pc])->(H p=some (.tup tm.flat))->(H pc=some (.tup xs))->(Yu H xs c)->(NK ys)->(tm.ok ys)->((∀x∈c,uu x))->(Ref tm c)->(∀H',Z0 H H'->Q (.bl true) H')->XG vs H Q
def Ww(K:PySem.W.Frag):Sp:=fun d H Q _=>XG d H Q
theorem GO (T:Txt K w mg t) (d:Xcl K mg base t):Z5 P w K mg base CX0 7 t.fm t.fo ["words","chain"] (Ww K):=by
 have g:Z5 P w K mg base (CXO P w) 6 t.lj t.ll ["words","chain"] (uw K t.ae):=ok_led T d;refine T.ai.F.ok Y5 (fun Y H Q E h=>?_) (fun Z A outer s H Y Q E hr h=>?_)
 ·obtain ⟨p,O,ys,J,xs,c,rfl,hp,y,S,hk,L,G,W,k⟩:=h
  rfl
 ·obtain ⟨p,O,ys,J,xs,c,rfl,hp,y,S,hk,L,G,W,k⟩:=h
  have hu:=Yd hr;refine ⟨_,@QSs.out _ _ _ (Za (Zo (i:=2) Y5.nd rfl (Or.inl rfl) WL)
    (Za (Zau (j:=3) rfl rfl rfl g (hr.mono (by decide)) rfl T.lb.m T.lb.F.kp T.lb.b (fun _=>(Zj (qv 0) (Zj (qv 1) Zb))) Y5.nd rfl rfl rfl d.o_WidthError (fun _ _=>(Zh (Zo (i:=2) Y5.nd rfl (Or.inl rfl) (qv 3)))))
    (Za (ZF (WM (Z4 qC (by rfl) T.dy YG (Zj (qv 2) (Zj (Zr (Zj (ZY (v:=.ref t.cf) rfl d.m_NoAsk rfl) (Zj (ZY (v:=.ref t.bc) rfl d.m_NoClaim rfl) (Zj (ZY (v:=.ref t.cq) rfl d.m_NoName rfl) (Zj (ZY (v:=.ref t.ay) rfl d.m_NoShorter rfl) (Zj (ZY (v:=.ref t.cc) rfl d.m_NoSum rfl) (Zj (ZY (v:=.ref t.bf) rfl d.m_NoWords rfl) Zb))))))) Zb))))
    (Zh (Zp jS)) Zu)
    (Zh (Zp (zW (Z4 qC (by rfl) T.dy YG (Zj (qv 2) (Zj (ZY (v:=.ref t.ae) rfl d.m_NoTurning rfl) Zb))) (xq (Z4 qC (by rfl) T.dy YG (Zj (qv 2) (Zj (vg (v:=.ty "ValueError") (by rfl) T.lu qE rfl) Zb)))))))))),?_⟩
  clear hu hr
  try dsimp only [L2.cxK,L2.cxK2]
  refine L2.let4 ?_;intro U3 U2 U1;refine ⟨_,rfl,_,rfl,p,O,ys,J,xs,c,rfl,hp,y,S,hk,L,G,W,fun e H3 s3 he=>?_⟩;have s4:=Zd (o:=.ext (xB t.ae e)) he;refine ⟨t.ae,e,rfl,rfl,d.b_NoTurning,_,rfl,?_⟩;refine ⟨_,rfl,by show 6<=sizeLine;decide,fun tp I=>?_⟩;have U:=Zd (o:=.tup [.ref t.cf,.ref t.bc,.ref t.cq,.ref t.ay,.ref t.cc,.ref t.bf]) I;have f:=U _ _ (Zc (H:=H3) (a:=e) (o:=.ext (xB t.ae e)));refine ⟨_,_,.ref t.ae,false,rfl,.exc f d.c_NoTurning,.inr (.inr ⟨tp,[t.cf,t.bc,t.cq,t.ay,t.cc,t.bf],rfl,Zc,d.q_not⟩),_,rfl,Yt ?_⟩;refine ⟨_,rfl,_,_,.ref t.ae,true,rfl,.exc f d.c_NoTurning,.inr (.inl ⟨t.ae,rfl,wJ⟩),_,rfl,Yq ?_⟩;exact ⟨_,rfl,_,_,.ref t.ae,true,rfl,.exc f d.c_NoTurning,.inl ⟨"ValueError",rfl,d.q_val⟩,k _ (s3.trans (s4.trans U))⟩
inductive J7(K:PySem.W.Frag)(d:Nat)(vs:List V)(H:Hp)(Q:VK):Prop
 | mk (a:Addr) (ns:List Int) (e m:Nat) (fuel:Int):(vs=[.ref a,.int (e:Int),.int (m:Int),.int fuel])->(SqL K H a (ns.map V.int))->(ns.length<=63)->(1<=m)->(m<=3)->(-1<=fuel)->(fuel + 2<=(d:Int))->(d<=8)->((e + 2) * 2 ^ d<=512)->(∀(x:Tm) z H',x.ok (J5 ns m)->x.flat.length<=4 ^ fuel.toNat->H' z=some (.tup x.flat)->Z0 H H'->Q (.ref z) H')->J7 K d vs H Q
def Wi(K:PySem.W.Frag)(d:Nat):Sp:=fun f H Q _=>J7 K d f H Q
inductive J8(K:PySem.W.Frag)(d:Nat)(vs:List V)(H:Hp)(Q:VK):Prop
 | mk (a:Addr) (ns:List Int) (e m:Nat) (fuel:Int):(vs=[.ref a,.int (e:Int),.int (m:Int),.int fuel])->(SqL K H a (ns.map V.int))->(ns.length<=63)->(1<=m)->(m<=3)->(0<=fuel)->(fuel + 1<=(d:Int))->(d<=8)->((2 * e + 4) * 2 ^ d<=512)->(∀(x y:Tm) z H',x.ok (J5 ns m)->y.ok (J5 ns m)->x.flat.length<=4 ^ (fuel - 1).toNat->y.flat.length<=4 ^ (fuel - 1).toNat->H' z=some (.tup (x.flat++y.flat))->Z0 H H'->Q (.ref z) H')->J8 K d vs H Q
def yn(K:PySem.W.Frag)(d:Nat):Sp:=fun f H Q _=>J8 K d f H Q
theorem xb (T:Txt K w mg t) (XB:Xcl K mg base t)  (d:Z5 P w K mg base CX0 (3 + 2 * n + 1) t.ej t.ek ["script","at","many","fuel"] (Wi K n)):Z5 P w K mg base CX0 (3 + 2 * n + 2) t.lg t.lh ["script","at","many","fuel"] (yn K n):=by
 have g:Z5 P w K mg base CX0 1 t.bg t.bh ["script","k"] (Yn K):=Y0 T XB;refine T.cg.F.ok Jt (fun vs H Q E h=>?_) (fun cdv A outer s H vs Q E hr h=>?_)
 ·obtain ⟨a,W,e,m,f,rfl,ha,hl,hm,J,hf0,hf,hd,he,k⟩:=h
  rfl
 ·obtain ⟨a,W,e,m,f,rfl,ha,hl,hm,J,hf0,hf,hd,he,k⟩:=h
  have hu:=Yd hr;refine ⟨_,@QSs.out _ _ _ (Za (Zo (i:=4) Jt.nd rfl (Or.inl rfl) (Zi g (hr.mono (by lia)) rfl T.aa.m T.aa.F.kp T.aa.b .nil Z1 (Zj (qv 0) (Zj (Zl YC Ze (qv 1)) Zb))))
    (Za (Zo (i:=5) Jt.nd rfl (Or.inl rfl) (Zi d (hr.mono (by lia)) rfl T.ah.m T.ah.F.kp T.ah.b .nil Z1 (Zj (qv 0) (Zj (Zl YC (Zl Xx Ze (qv 1)) Ze) (Zj (qv 2) (Zj (Zl Jz (qv 3) Ze) Zb))))))
    (Za (ZF (Zk ZH (Zl ZM (qv 4) Ze) Ze (Zt _))
    (Zh (Zp (Zl Zn (qv 5) (qv 5)))) Zu)
    (Za (ZF (Zk ZH (Zl ZM (qv 4) Ze) Ze (Zt _))
    (Zh (Zp (Zl Zn (qv 5) (Zr (Zj Ze Zb))))) Zu)
    (Zh (Zp (Zl Zn (qv 5) (Zi d (hr.mono (by lia)) rfl T.ah.m T.ah.F.kp T.ah.b .nil Z1 (Zj (qv 0) (Zj (Zl YC (Zl Xx Ze (qv 1)) Ze) (Zj (qv 2) (Zj (Zl Jz (qv 3) Ze) Zb)))))))))))),?_⟩
  clear hu hr
  try dsimp only [L2.cxK,L2.cxK2]
  refine L2.let5 ?_;intro U4 U3 U2 U1;have h1d:1<=2 ^ n:=Nat.one_le_two_pow;have he5:2 * e + 4<=512:=Qa0 (Nat.le_mul_of_pos_right _ h1d) he;have p4:=pw4 (f - 1).toNat (by lia);have p1:1<=4 ^ (f - 1).toNat:=Nat.one_le_pow _ _ (by decide);refine ⟨_,rfl,_,rfl,_,_,rfl,rfl,a,W,500 + e,rfl,ha,hl,by lia,fun H1 s1=>Zf ?_⟩;have S:=Z7 ha s1;refine ⟨_,rfl,_,rfl,_,_,rfl,rfl,.inr (.inl ⟨by lia,by lia⟩),_,_,rfl,rfl,_,rfl,_,rfl,_,_,rfl,rfl,a,W,2 * e + 1,m,f - 1,rfl,S,hl,hm,J,by lia,by lia,hd,Qa0 (Nat.mul_le_mul_right _ (by lia)) he,fun x U H2 I hx hz1 s2=>Zf ?_⟩;have L:=s1.trans s2;have G:∀n1 n2:Nat,n1<=4 ^ (f - 1).toNat->n2<=4 ^ (f - 1).toNat->n1 + n2<=sizeLine:=fun n1 n2 h1 h2=>Zc2 (by lia);refine ⟨_,rfl,_,_,rfl,rfl,(by show (0:Int) < 4;decide),rfl,_,rfl,Yw (fun _=>?_) (fun _=>?_)⟩
  ·exact ⟨_,rfl,_,rfl,U,U,_,_,rfl,rfl,hz1,hz1,G _ _ hx hx,fun p Y hp O=>k x x p Y I I hx hx hp (L.trans O)⟩
  refine ⟨_,rfl,_,_,rfl,rfl,(by show (0:Int) < 4;decide),rfl,_,rfl,Yw (fun _=>?_) (fun _=>?_)⟩
  ·refine ⟨_,rfl,by show 1<=sizeLine;decide,fun o ho=>?_⟩
   have w:=Zd (o:=.tup [V.int 0]) ho;exact ⟨U,o,_,_,rfl,rfl,w _ _ hz1,Zc,G _ 1 hx p1,fun p Y hp O=>k x (.lf (.int 0)) p Y I (.inr ⟨0,rfl,by decide,by decide⟩) hx p1 hp (L.trans (w.trans O))⟩
  ·have Z:=Z7 S s2
   refine ⟨_,rfl,_,rfl,_,rfl,_,_,rfl,rfl,.inr (.inl ⟨by lia,by lia⟩),_,_,rfl,rfl,_,rfl,_,rfl,_,_,rfl,rfl,a,W,2 * e + 2,m,f - 1,rfl,Z,hl,hm,J,by lia,by lia,hd,he,fun y z2 Y oky hy hz2 O=>?_⟩;exact ⟨U,z2,_,_,rfl,rfl,O _ _ hz1,hz2,G _ _ hx hy,fun p H4 hp s4=>k x y p H4 I oky hx hy hp (L.trans (O.trans s4))⟩
theorem yo (T:Txt K w mg t) (XB:Xcl K mg base t) (d:Nat):Z5 P w K mg base CX0 (3 + 2 * d + 1) t.ej t.ek ["script","at","many","fuel"] (Wi K d):=by
 induction d with
 | zero=>exact T.ah.F.ok YM (fun vs H Q E h=>by obtain ⟨a,S,e,m,f,rfl,ha,hl,hm,I,hf0,hf,hd,he,k⟩:=h;exfalso;lia) (fun cdv A outer s H vs Q E hr h=>by obtain ⟨a,S,e,m,f,rfl,ha,hl,hm,I,hf0,hf,hd,he,k⟩:=h;exfalso;lia)
 | succ d ih =>
 have g:Z5 P w K mg base CX0 (3 + 2 * d + 1) t.ej t.ek ["script","at","many","fuel"] (Wi K d):=ih;have G:=xb T XB g;have J:Z5 P w K mg base CX0 1 t.cx t.cy ["word"] (Xe K):=XW T XB;have O:Z5 P w K mg base CX0 3 t.il t.ip ["script","draw","many"] (G9 K):=zP T XB;have L:Z5 P w K mg base CX0 1 t.bg t.bh ["script","k"] (Yn K):=Y0 T XB;refine T.ah.F.ok YM (fun vs H Q E h=>?_) (fun cdv A outer s H vs Q E hr h=>?_)
 ·obtain ⟨a,S,e,m,f,rfl,ha,hl,hm,I,hf0,hf,hd,he,k⟩:=h
  rfl
 ·obtain ⟨a,S,e,m,f,rfl,ha,hl,hm,I,hf0,hf,hd,he,k⟩:=h
  have hu:=Yd hr;refine ⟨_,@QSs.out _ _ _ (Za (Zo (i:=4) YM.nd rfl (Or.inl rfl) (Zi L (hr.mono (by lia)) rfl T.aa.m T.aa.F.kp T.aa.b .nil Z1 (Zj (qv 0) (Zj (Zl YC Ze (qv 1)) Zb))))
    (Za (Zo (i:=5) YM.nd rfl (Or.inl rfl) (Zr (Zj Zg (Zj Zg (Zj Zg (Zj Zg (Zj Zg (Zj Zg (Zj Zg (Zj Zg (Zj Zg (Zj Zg (Zj Zg (Zj Zg Zb))))))))))))))
    (Za (Zo (i:=6) YM.nd rfl (Or.inl rfl) (ZD ZU (qv 5) (Zl ZM (Zl Y1 (qv 4) Ze) Ze) (fun _ _=>rfl)))
    (Za (ZF (YO (Zab (Zk uK (qv 3) Ze (Zt _)) (vh (Zk ZH (Zl ZM (qv 4) Ze) Ze (Zt _)))))
    (Zh (Zp (Zi O (hr.mono (by lia)) rfl T.fe.m T.fe.F.kp T.fe.b .nil Z1 (Zj (qv 0) (Zj (Zl Y1 (qv 4) Ze) (Zj (qv 2) Zb)))))) Zu)
    (Za (ZF (Zk ZH (qv 6) Zg (Zt _))
    (Za (Zo (i:=7) YM.nd rfl (Or.inl rfl) (Zi g (hr.mono (by lia)) rfl T.ah.m T.ah.F.kp T.ah.b .nil Z1 (Zj (qv 0) (Zj (Zl YC (Zl Xx Ze (qv 1)) Ze) (Zj (qv 2) (Zj (Zl Jz (qv 3) Ze) Zb))))))
    (Zh (Zp (Zl Zn (Zl Zn (Zr (Zj (qv 6) Zb)) (qv 7)) (Zi G (hr.mono (by lia)) rfl T.cg.m T.cg.F.kp T.cg.b .nil Z1 (Zj (qv 0) (Zj (qv 1) (Zj (qv 2) (Zj (qv 3) Zb))))))))) Zu)
    (Za (ZF (Zk ZH (Zi J (hr.mono (by lia)) rfl T.ak.m T.ak.F.kp T.ak.b .nil Z1 (Zj (qv 6) Zb)) Ze (Zt _))
    (Zh (Zp (Zl Zn (Zr (Zj (qv 6) Zb)) (Zi g (hr.mono (by lia)) rfl T.ah.m T.ah.F.kp T.ah.b .nil Z1 (Zj (qv 0) (Zj (Zl YC (Zl Xx Ze (qv 1)) Ze) (Zj (qv 2) (Zj (Zl Jz (qv 3) Ze) Zb)))))))) Zu)
    (Zh (Zp (Zl Zn (Zr (Zj (qv 6) Zb)) (Zi G (hr.mono (by lia)) rfl T.cg.m T.cg.F.kp T.cg.b .nil Z1 (Zj (qv 0) (Zj (qv 1) (Zj (qv 2) (Zj (qv 3) Zb)))))))))))))),?_⟩
  try dsimp only [L2.cxK,L2.cxK2]
  refine L2.let7 ?_;intro U6 U5 U4 U3 U2 U1;have h1d:1<=2 ^ d:=Nat.one_le_two_pow;have U:(2 * e + 4) * 2 ^ d<=512:=by
   have h:=he;rw [Nat.pow_succ] at h;rw [show 2 * e + 4=(e + 2) * 2 by lia,Nat.mul_assoc,Nat.mul_comm 2];exact h
  have he5:2 * e + 4<=512:=Qa0 (Nat.le_mul_of_pos_right _ h1d) U;refine ⟨_,rfl,_,rfl,_,_,rfl,rfl,a,S,300 + e,rfl,ha,hl,by lia,fun H1 s1=>Zf ?_⟩;have db:=um S (300 + e);generalize drw S (300 + e)=dw at *;have d8:0<=dw / 8:=Qe5 db.1 (by decide);refine ⟨by show 12<=sizeLine;decide,fun tw htw=>Zf ?_⟩;have s2:=s1.trans (Zd (o:=.tup (w12.map V.str)) htw);have g2:=Zc (H:=H1) (a:=tw) (o:=.tup (w12.map V.str));obtain ⟨y,hy,ey⟩:=Zbg (l:=w12) (i:=dw / 8 % 12) (Qbk _ (by decide)) (Qba _ (by decide));refine ⟨_,rfl,_,rfl,_,_,rfl,rfl,.of (by decide) (by decide),_,_,rfl,rfl,(by show (0:Int) < 12;decide),tw,_,_,_,rfl,rfl,SqT.of g2,ey,Zf ?_⟩;have s3:Z0 H (upd H1 tw (.tup [V.str "and",V.str "or",V.str "odd",V.str "add",V.str "sub",V.str "not",V.str "neg",V.str "twice",V.str "low",V.str "pick",V.str "not",V.str "add"])):=s2;clear s2 g2;generalize upd H1 tw (.tup [V.str "and",V.str "or",V.str "odd",V.str "add",V.str "sub",V.str "not",V.str "neg",V.str "twice",V.str "low",V.str "pick",V.str "not",V.str "add"])=H2 at *;have W:=Z7 ha s3;obtain ⟨yw,yk⟩:=w12_ok y hy;have Y:∀x z H',GY (J5 S m) x->H' z=some (.tup [x])->Z0 H2 H'->Q (.ref z) H':=fun x z H' lo hz s=>k (.lf x) z H' lo (Nat.one_le_pow _ _ (by decide)) hz (s3.trans s);refine ⟨_,rfl,_,_,rfl,rfl,_,rfl,Yw (fun c1=>?_) (fun c1=>?_)⟩
  ·exact Yq ⟨_,rfl,_,rfl,_,_,rfl,rfl,.of (by decide) (by decide),_,rfl,a,S,dw / 128,m,rfl,W,hl,Qe5 db.1 (by decide),hm,I,Y⟩
  have c1:¬f < 1:=fun z=>c1 (Qad z);have p4:=pw4 (f - 1).toNat (by lia);rw [show f.toNat=(f - 1).toNat + 1 by lia,Nat.pow_succ] at k;have p1:1<=4 ^ (f - 1).toNat:=Nat.one_le_pow _ _ (by decide);refine ⟨_,rfl,_,_,rfl,rfl,(by show (0:Int) < 8;decide),rfl,_,rfl,Yw (fun c2=>?_) (fun c2=>?_)⟩
  ·exact ⟨_,rfl,_,rfl,_,_,rfl,rfl,.of (by decide) (by decide),_,rfl,a,S,dw / 128,m,rfl,W,hl,Qe5 db.1 (by decide),hm,I,Y⟩
  refine ⟨_,rfl,rfl,_,rfl,?_⟩
  by_cases hp:y = "pick"
  ·rw [Qad (congrArg V.str hp)]
   refine Yq ⟨_,rfl,_,rfl,_,_,rfl,rfl,.inr (.inl ⟨by lia,by lia⟩),_,_,rfl,rfl,_,rfl,_,rfl,_,_,rfl,rfl,a,S,2 * e + 2,m,f - 2,rfl,W,hl,hm,I,by lia,by lia,by lia,U,fun x z1 H3 okx hx0 hz1 s4=>Zf ?_⟩;have hx:=Qa0 hx0 (Qc2 (n:=4) (by decide) (show (f - 2).toNat<=(f - 1).toNat by lia));refine ⟨_,rfl,by show 1<=sizeLine;decide,fun o ho=>⟨_,rfl,?_⟩⟩;have w:=Zd (o:=.tup [V.str y]) ho;refine ⟨o,z1,_,_,rfl,rfl,Zc,w _ _ hz1,Zc2 (by show 1 + _<=_;lia),fun p1 H4 hp1 Z=>?_⟩;have ha4:=Z7 W (s4.trans (w.trans Z));refine ⟨_,rfl,_,rfl,_,rfl,_,rfl,a,S,e,m,f,rfl,ha4,hl,hm,I,by lia,by lia,by lia,U,fun u v z2 H5 oku okv hu hv hz2 s6=>?_⟩;refine ⟨p1,z2,_,_,rfl,rfl,s6 _ _ hp1,hz2,Zc2 (by rw [Qab,Qab];show (1 + _) + _<=_;lia),fun z H6 hz s7=>k (.thr y x u v) z H6 ⟨⟨yw,by rw [hp];exact km⟩,okx,oku,okv⟩ ?_ ?_ (s3.trans (s4.trans (w.trans (Z.trans (s6.trans s7)))))⟩
   ·show (x.flat++(u.flat++v.flat)).length + 1<=_
    rw [Qab,Qab];lia
   ·rw [hz]
    show some (HO.tup (([V.str y]++x.flat)++(u.flat++v.flat)))=some (HO.tup (V.str y::(x.flat++(u.flat++v.flat))));simp
  rw [Qal (fun z=>hp (by injection z))];refine Yt ⟨_,rfl,.str y,rfl,.inr ⟨y,rfl⟩,fun H3 s4=>⟨rfl,_,rfl,?_⟩⟩;have ha3:=Z7 W s4
  by_cases h1:ZR y=1
  ·rw [Qad (by show V.int (ZR y:Int)=V.int 1;rw [h1];rfl)]
   refine Yq ⟨_,rfl,by show 1<=sizeLine;decide,fun o ho=>?_⟩;have w:=Zd (o:=.tup [V.str y]) ho;refine ⟨_,rfl,_,rfl,_,_,rfl,rfl,.inr (.inl ⟨by lia,by lia⟩),_,_,rfl,rfl,_,rfl,_,rfl,_,_,rfl,rfl,a,S,2 * e + 1,m,f - 1,rfl,Z7 ha3 w,hl,hm,I,by lia,by lia,by lia,Qa0 (Nat.mul_le_mul_right _ (by lia)) U,fun x z1 H4 okx hx hz1 Z=>?_⟩;refine ⟨o,z1,_,_,rfl,rfl,Z _ _ Zc,hz1,Zc2 (by show 1 + _<=_;lia),fun z H5 hz s6=>k (.one y x) z H5 ⟨⟨yw,h1⟩,okx⟩ ?_ ?_ (s3.trans (s4.trans (w.trans (Z.trans s6))))⟩
   ·show x.flat.length + 1<=_
    lia
   ·rw [hz]
    rfl
  ·have h2:ZR y=2:=yk.elim (fun z=>absurd z hp) fun z=>z.elim (fun z=>absurd z h1) fun z=>z
   rw [Qal (by show ¬(V.int (ZR y:Int)=V.int 1);rw [h2];intro z;injection z with z;lia)];refine Yt ⟨_,rfl,by show 1<=sizeLine;decide,fun o ho=>?_⟩;have w:=Zd (o:=.tup [V.str y]) ho;refine ⟨_,rfl,_,rfl,_,rfl,_,rfl,a,S,e,m,f,rfl,Z7 ha3 w,hl,hm,I,by lia,by lia,by lia,U,fun u v z1 H4 oku okv hu hv hz1 Z=>?_⟩;refine ⟨o,z1,_,_,rfl,rfl,Z _ _ Zc,hz1,Zc2 (by rw [Qab];show 1 + _<=_;lia),fun z H5 hz s6=>k (.two y u v) z H5 ⟨⟨yw,h2⟩,oku,okv⟩ ?_ ?_ (s3.trans (s4.trans (w.trans (Z.trans s6))))⟩
   ·show (u.flat++v.flat).length + 1<=_
    rw [Qab];lia
   ·rw [hz]
    rfl
inductive JA(K:PySem.W.Frag)(vs:List V)(H:Hp)(Q:VK):Prop
 | mk (a:Addr) (ns:List Int) (m mo:Nat):(vs=[.ref a,.int 0,.int (m:Int),.int (mo:Int)])->(SqL K H a (ns.map V.int))->(ns.length<=63)->(1<=m)->(m<=3)->(1<=mo)->(mo<=100)->(∀(x:Tm) z H',x.ok (J5 ns m)->x.flat.length<=mo->H' z=some (.tup x.flat)->Z0 H H'->Q (.ref z) H')->JA K vs H Q
def ql(K:PySem.W.Frag):Sp:=fun d H Q _=>JA K d H Q
theorem yp (T:Txt K w mg t) (XB:Xcl K mg base t):Z5 P w K mg base CX0 21 t.iw t.ix ["script","at","many","most"] (ql K):=by
 have g:Z5 P w K mg base CX0 20 t.ej t.ek ["script","at","many","fuel"] (Wi K 8):=yo T XB 8;have y:Z5 P w K mg base CX0 1 t.bg t.bh ["script","k"] (Yn K):=Y0 T XB;have d:Z5 P w K mg base CX0 1 t.fj t.fk ["words"] (Wt K):=GN T XB;refine T.ib.F.ok Ju (fun vs H Q E h=>?_) (fun cdv A outer s H vs Q E hr h=>?_)
 ·obtain ⟨a,ns,m,mo,rfl,ha,hl,hm,L,Y,S,k⟩:=h
  rfl
 ·obtain ⟨a,ns,m,mo,rfl,ha,hl,hm,L,Y,S,k⟩:=h
  have hu:=Yd hr;refine ⟨_,@QSs.out _ _ _ (Za (Y6 Qbl rfl (Wl (Y2 (SlR.or Wk Xf) (Zr (Zj Ze (Zj Ze (Zj Ze (Zj Ze (Zj Ze (Zj Ze Zb))))))) (Yr (Zl ZM (Zi y (hr.mono (by decide)) rfl T.aa.m T.aa.F.kp T.aa.b .nil Z1 (Zj (qv 0) (Zj (Zl YC Ze (qv 1)) Zb))) Ze)) Jg)) (Z8 (i:=4) Ju.nd rfl (Or.inl rfl))
    (Za (Zo (i:=5) Ju.nd rfl (Or.inl rfl) (Zi g (hr.mono (by decide)) rfl T.ah.m T.ah.F.kp T.ah.b .nil Z1 (Zj (qv 0) (Zj (qv 1) (Zj (qv 2) (Zj (qv 4) Zb))))))
    (Zh (ZF (YO (ZJ (Zk uL (Z4 ZE (by rfl) T.cz XM (Zj (qv 5) Zb)) (qv 3) (Zt _)) (ZI (Zk uK (Zi d (hr.mono (by decide)) rfl T.dg.m T.dg.F.kp T.dg.b .nil Z1 (Zj (qv 5) Zb)) Ze (Zt _)))))
    (Zh (Zp (qv 5))) Zu))))
    (Zh (Zp (Zi g (hr.mono (by decide)) rfl T.ah.m T.ah.F.kp T.ah.b .nil Z1 (Zj (qv 0) (Zj (qv 1) (Zj (qv 2) (Zj Ze Zb)))))))),?_⟩
  clear hu hr
  try dsimp only [L2.cxK,L2.cxK2]
  refine L2.let2 ?_;intro U1;refine ⟨by show 6<=sizeLine;decide,fun t6 ht6=>?_⟩;have w6:=Zd (o:=.tup [V.int 6,V.int 5,V.int 4,V.int 3,V.int 2,V.int 1]) ht6;have g6:=Zc (H:=H) (a:=t6) (o:=.tup [V.int 6,V.int 5,V.int 4,V.int 3,V.int 2,V.int 1]);generalize upd H t6 (.tup [V.int 6,V.int 5,V.int 4,V.int 3,V.int 2,V.int 1])=H0 at *;refine ⟨_,rfl,_,rfl,_,_,rfl,rfl,a,ns,900,rfl,Z7 ha w6,hl,by decide,fun H1 s1=>⟨_,_,rfl,rfl,(by show (0:Int) < 4;decide),_,rfl,Gs (s1 _ _ g6) fun pl H2 hpl s2=>?_⟩⟩;have W:=w6.trans (s1.trans s2);generalize hxs:xg [V.int 6,V.int 5,V.int 4,V.int 3,V.int 2,V.int 1] (some (drw ns 900 % 4)) none=xs at *;have hin:∀x∈xs,∃f:Int,x=.int f/\1<=f/\f<=6:=fun x hx=>by
   rw [<-hxs] at hx;have hx:=List.mem_of_mem_drop (List.mem_of_mem_take hx);simp only [Qas,Qb6,Qew] at hx;rcases hx with rfl | rfl | rfl | rfl | rfl | rfl <;> exact ⟨_,rfl,by decide,by decide⟩
  refine ⟨pl,rfl,⟨_,SqT.of hpl⟩,W3 (K:=K) (a:=pl) (xs:=xs) (fun i σ H'=>∃(v4 v5:Option V),σ=[some (.ref a),some (.int 0),some (.int (m:Int)),some (.int (mo:Int)),v4,v5]/\Z0 H2 H') ⟨none,none,rfl,Z0.refl _⟩ (fun i σ H' _ ⟨_,_,_,s⟩=>SqT.of (s _ _ hpl)) ?_ ?_⟩
  ·rintro i x σ H3 hx O
   refine Zy fun Gz I=>?_;obtain ⟨v4,v5,rfl,Z⟩:=O;refine I ?_;clear I Gz;refine Zf ?_;obtain ⟨f,rfl,f1,f2⟩:=hin x (Qae hx);have G:=W.trans Z;refine ⟨_,rfl,_,rfl,_,rfl,_,rfl,a,ns,0,m,f,rfl,Z7 ha G,hl,hm,L,by lia,by show f + 2<=8;lia,by decide,by decide,fun x z H4 J U hz s4=>Zf ?_⟩;have si:=x.si J;refine ⟨_,rfl,z,_,rfl,.inr (SqT.of hz),_,rfl,_,_,rfl,rfl,_,rfl,Yw (fun c=>?_) (fun c=>?_)⟩
   ·have c:=Qap c
    refine ⟨_,rfl,z,x.flat,rfl,.inr hz,fun w hw=>(si w hw).symm,by lia,fun H5 s5=>⟨_,_,rfl,rfl,_,rfl,Yw (fun _=>?_) (fun _=>?_)⟩⟩
    ·exact ⟨_,rfl,k x z H5 J (by lia) (s5 _ _ hz) (G.trans (s4.trans s5))⟩
    ·exact ⟨_,_,rfl,Z.trans (s4.trans s5)⟩
   ·exact Yt ⟨_,_,rfl,Z.trans s4⟩
  ·rintro σ H3 O
   refine Zy fun Gz I=>?_;obtain ⟨v4,v5,rfl,Z⟩:=O;refine I ?_;clear I Gz;have G:=W.trans Z;exact ⟨_,rfl,_,rfl,_,rfl,a,ns,0,m,0,rfl,Z7 ha G,hl,hm,L,by decide,by decide,by decide,by decide,fun x z H4 J U hz s4=>k x z H4 J (Qa0 U Y) hz (G.trans s4)⟩
inductive Wx(d:Nat)(vs:List V)(H:Hp)(Q:VK):Prop
 | mk (p:Addr) (ys:List Str) (tm:Tm):(vs=[.ref p])->(H p=some (.tup tm.flat))->(NK ys)->(tm.ok ys)->(tm.flat.length<=60)->(tm.flat.length<=d)->(∀l xs H',H l=none->H' l=some (.lst xs)->JG H' xs (tm.nds [])->Z0 H H'->Q (.ref l) H')->Wx d vs H Q
def Y8(K:PySem.W.Frag)(d:Nat):Sp:=fun f H Q _=>Wx d f H Q
theorem Wb (T:Txt K w mg t) (XB:Xcl K mg base t) (d:Nat):Z5 P w K mg base CX0 (2 + 1 * d + 1) t.bw t.bx ["words"] (Y8 K d):=by
 induction d with
 | zero=>exact T.ag.F.ok Yb (fun vs H Q E h=>by obtain ⟨p,ys,J,rfl,hp,hk,ht,S,hd,k⟩:=h;exfalso;(have:=J.flat_pos;lia)) (fun cdv A outer s H vs Q E hr h=>by obtain ⟨p,ys,J,rfl,hp,hk,ht,S,hd,k⟩:=h;exfalso;(have:=J.flat_pos;lia))
 | succ d ih =>
 have G:Z5 P w K mg base CX0 (2 + 1 * d + 1) t.bw t.bx ["words"] (Y8 K d):=ih;have g:Z5 P w K mg base CX0 2 t.bj t.bo ["words"] (Yp K):=Y7 T XB;refine T.ag.F.ok Yb (fun vs H Q E h=>?_) (fun cdv A outer s H vs Q E hr h=>?_)
 ·obtain ⟨p,ys,J,rfl,hp,hk,ht,S,hd,k⟩:=h
  rfl
 ·obtain ⟨p,ys,J,rfl,hp,hk,ht,S,hd,k⟩:=h
  have hu:=Yd hr;refine ⟨_,@QSs.out _ _ _ (Za (Zo (i:=1) Yb.nd rfl (Or.inl rfl) (XO (Zj (Zr (Zj (Zr Zb) (Zj (qv 0) Zb))) Zb)))
    (Za (Y6 Qbl rfl (jo rfl T.kc (Zi g (hr.mono (by lia)) rfl T.af.m T.af.F.kp T.af.b .nil Z1 (Zj (qv 0) Zb))) (Ga rfl (Z8 (i:=2) Yb.nd rfl (Or.inl rfl)) (Z8 (i:=3) Yb.nd rfl (Or.inl rfl)))
    (Zh (Y6 Qbl rfl (Xy (Zi G (hr.mono (by lia)) rfl T.ag.m T.ag.F.kp T.ag.b .nil Z1 (Zj (qv 3) Zb))) (Ga rfl (Z8 (i:=4) Yb.nd rfl (Or.inl rfl)) (Z8 (i:=5) Yb.nd rfl (Or.inl rfl)))
    (Zh (W5 (Wm Qbm Qcb Qcc Xl (qv 1) (Zj (Zr (Zj (Zl Zn (Zr (Zj (qv 2) Zb)) (qv 4)) (Zj (qv 5) Zb))) Zb)))))))
    (Zh (Zp (qv 1))))),?_⟩
  clear hu hr
  try dsimp only [L2.cxK,L2.cxK2]
  refine L2.let3 ?_;intro U2 U1;refine ⟨by show 0<=sizeLine;decide,fun Y he0=>⟨_,rfl,by show 2<=sizeLine;decide,fun t0 ht0=>⟨by show 1<=sizeLine;decide,fun l hl=>Zf ?_⟩⟩⟩;have u1:=Zd (o:=.tup []) he0;have u2:=Zd (o:=.tup [.ref Y,.ref p]) ht0;have u3:=Zd (o:=.lst [.ref t0]) hl;have g1:=u3 _ _ (u2 _ _ (Zc (H:=H) (a:=Y) (o:=.tup [])));have g2:=u3 _ _ (Zc (H:=upd H Y (.tup [])) (a:=t0) (o:=.tup [.ref Y,.ref p]));have g3:=Zc (H:=upd (upd H Y (.tup [])) t0 (.tup [.ref Y,.ref p])) (a:=l) (o:=.lst [.ref t0]);have s0:=u1.trans (u2.trans u3);have hln:H l=none:=by
   cases q:H l with
   | none=>rfl
   | some o=>rw [u2 _ _ (u1 _ _ q)] at hl;cases hl
  generalize upd (upd (upd H Y (.tup [])) t0 (.tup [.ref Y,.ref p])) l (.lst [.ref t0])=H0 at *;clear u1 u2 u3 he0 ht0 hl;refine ⟨_,rfl,p,ys,J,rfl,s0 _ _ hp,hk,ht,Qa0 S (by decide),fun lp xp H1 hlp hxp P s1=>?_⟩;have s01:=s0.trans s1;have hlpn:l≠lp:=fun z=>by rw [z,hlp] at g3;cases g3
  have hk3:=kids3 J;have hxl:xp.length=J.kids.length:=P.length;refine ⟨lp,_,rfl,SqL.of hxp,xF (K:=K) (a:=lp) (xs:=xp) (fun i σ H'=>∃(fs:List V) (v2 v3 v4 v5:Option V),σ=[some (.ref p),some (.ref l),v2,v3,v4,v5]/\H' l=some (.lst fs)/\H' lp=some (.lst xp)/\JG H' fs (([],J)::kn (J.kids.take i) 0)/\XH H' xp J.kids/\fs.length<=1 + 60 * i/\i<=xp.length/\Z0 H H') ⟨[.ref t0],none,none,none,none,rfl,s1 _ _ g3,hxp,.cons ⟨t0,Y,p,rfl,s1 _ _ g2,s1 _ _ g1,s01 _ _ hp⟩ .nil,P,Qao _,Qa8 _,s01⟩ (fun i σ H' _ ⟨_,_,_,_,_,_,_,h,_⟩=>SqL.of h) ?_ ?_⟩
  ·rintro i x σ H2 pt hx hpt L
   refine Zy fun U f=>?_;obtain ⟨fs,v2,v3,v4,v5,rfl,h1,h2,F,P2,hfl,hil,s2⟩:=L;refine f ?_;clear f U;have hi':=(Qah.mp hx).1;have w0:=Zd (o:=.tup [.int (i:Int),x]) hpt
   replace h1:=w0 _ _ h1
   replace h2:=w0 _ _ h2
   replace F:=F.same w0
   replace P2:=P2.same w0
   have s3:=s2.trans w0;clear s2;generalize upd H2 pt (.tup [.int (i:Int),x])=H3 at *;refine Zy fun U f=>?_;obtain ⟨Z,hti,pk,rfl,hpk⟩:=Zw P2 hx;refine f ?_;clear f U;have hlt:=qT (Qae hti);have okt:=Tm.ok_kids ht Z (Qae hti);refine ⟨_,rfl,pk,ys,Z,rfl,hpk,hk,okt,by lia,by lia,fun l2 W H4 hl2n hl2 P4 s4=>?_⟩;have hll2:l≠l2:=fun z=>by rw [z,hl2n] at h1;cases h1
   have hnl:(Z.nds []).length=Z.flat.length:=Z.nds_len [];have hxl2:W.length=Z.flat.length:=by rw [P4.length,hnl]
   have key:kn (J.kids.take (i + 1)) 0=kn (J.kids.take i) 0++(Z.nds []).map fun z=>((i:Int)::z.1,z.2):=by
    rw [Z6 hti,ur,Qcr,Qea (by lia),Qe8];exact congrArg _ (Qax _)
   refine ⟨l2,rfl,⟨_,SqL.of hl2⟩,WK (K:=K) (a:=l2) (xs:=W) (fun m σ H'=>∃(fs:List V) (v4 v5:Option V),σ=[some (.ref p),some (.ref l),some (.int (i:Int)),some (.ref pk),v4,v5]/\H' l=some (.lst fs)/\H' l2=some (.lst W)/\H' lp=some (.lst xp)/\JG H' fs (([],J)::(kn (J.kids.take i) 0++((Z.nds []).take m).map fun z=>((i:Int)::z.1,z.2)))/\JG H' W (Z.nds [])/\XH H' xp J.kids/\fs.length<=1 + 60 * i + m/\m<=W.length/\Z0 H H') ⟨fs,v4,v5,rfl,s4 _ _ h1,hl2,s4 _ _ h2,by rw [List.take_zero,List.map_nil,Qax];exact F.same s4,P4,P2.same s4,by lia,Qa8 _,s3.trans s4⟩ (fun m σ H' _ ⟨_,_,_,_,_,h,_⟩=>SqL.of h) ?_ ?_⟩
   ·rintro m y σ H5 hy L
    refine Zy fun U f=>?_;obtain ⟨fs,v4,v5,rfl,f1,f2,f3,F5,P5,T5,hfl5,hml,s5⟩:=L;refine f ?_;clear f U;have hm':=(Qah.mp hy).1;refine Zy fun U f=>?_;obtain ⟨z,hz,a,b,c,rfl,ha,hb,hc⟩:=Zw P5 hy;refine f ?_;clear f U;refine ⟨a,_,rfl,SqT.of ha,rfl,_,_,rfl,_,_,rfl,rfl,?_⟩;refine ⟨_,rfl,.inl ⟨rfl,_,SqL.of f1⟩,_,rfl,by show 1<=sizeLine;decide,fun o ho=>⟨_,rfl,?_⟩⟩;have w6:=Zd (o:=.tup [V.int (i:Int)]) ho;have hzl:z.1.length<=900:=gh hz (by lia);refine ⟨o,b,_,_,rfl,rfl,Zc,w6 _ _ hb,Qbg (Zv (by rw [Qaz];show 1 + _<=1000;lia)),fun pr H7 hpr s7=>⟨_,rfl,by show 2<=sizeLine;decide,fun pp hpp=>?_⟩⟩;have w8:=Zd (o:=.tup [.ref pr,.ref c]) hpp;have I:=w6.trans (s7.trans w8);have O:=I _ _ f1;refine ⟨l,_,_,rfl,rfl,O,Zv (by lia),fs++[.ref pp],_,_,rfl,Zc,?_,?_,?_,(P5.same I).put O,(T5.same I).put O,by rw [Qab];show _ + 1<=_;lia,hm',Ys (s5.trans I) hln⟩
    ·rw [Zs hll2.symm];exact I _ _ f2
    ·rw [Zs hlpn.symm];exact I _ _ f3
    ·rw [Z6 hz,Qa7,<-Qbb]
     refine ((F5.same I).put O).snoc (b:=((i:Int)::z.1,z.2)) ⟨pp,pr,c,rfl,Yg Zc O,Yg (w8 _ _ ?_) O,Yg (I _ _ hc) O⟩;rw [hpr]
     rfl
   ·rintro σ H5 L
    refine Zy fun U f=>?_;obtain ⟨fs,v4,v5,rfl,f1,f2,f3,F5,P5,T5,hfl5,hml,s5⟩:=L;refine f ?_;clear f U;rw [hxl2,<-hnl,Qbo,<-key] at F5;exact ⟨fs,_,_,_,_,rfl,f1,f3,F5,T5,by lia,hi',s5⟩
  ·rintro σ H2 L
   refine Zy fun U f=>?_;obtain ⟨fs,v2,v3,v4,v5,rfl,h1,h2,F,P2,hfl,hil,s2⟩:=L;refine f ?_;clear f U;rw [hxl,Qbo,<-Gx] at F;exact ⟨_,rfl,k l fs H2 hln h1 F s2⟩
inductive JB(d:Nat)(vs:List V)(H:Hp)(Q:VK):Prop
 | mk (p pq px:Addr) (ys:List Str) (tm x s:Tm) (q:List Int):(vs=[.ref p,.ref pq,.ref px])->(H p=some (.tup tm.flat))->(H pq=some (.tup (q.map V.int)))->(H px=some (.tup x.flat))->(NK ys)->(tm.ok ys)->(tm.flat.length<=60)->(tm.flat.length<=d)->(x.flat.length<=200)->((q,s)∈tm.nds [])->(∀z H',H' z=some (.tup (qh tm q x).flat)->Z0 H H'->Q (.ref z) H')->JB d vs H Q
def Jy(K:PySem.W.Frag)(d:Nat):Sp:=fun f H Q _=>JB d f H Q
theorem yq (T:Txt K w mg t) (XB:Xcl K mg base t) (d:Nat):Z5 P w K mg base CX0 (2 + 1 * d + 1) t.fz t.gg ["words","path","part"] (Jy K d):=by
 induction d with
 | zero=>exact T.bq.F.ok Jv (fun vs H Q E h=>by obtain ⟨p,pq,px,ys,g,x,s,q,rfl,hp,I,O,hk,ht,L,hd,W,S,k⟩:=h;exfalso;(have:=g.flat_pos;lia)) (fun cdv A outer s H vs Q E hr h=>by obtain ⟨p,pq,px,ys,g,x,s,q,rfl,hp,I,O,hk,ht,L,hd,W,S,k⟩:=h;exfalso;(have:=g.flat_pos;lia))
 | succ d ih =>
 have J:Z5 P w K mg base CX0 (2 + 1 * d + 1) t.fz t.gg ["words","path","part"] (Jy K d):=ih;have f:Z5 P w K mg base CX0 1 t.fu t.fw ["word","shares"] (WZ K):=qY T XB;have y:Z5 P w K mg base CX0 2 t.bj t.bo ["words"] (Yp K):=Y7 T XB;refine T.bq.F.ok Jv (fun vs H Q E h=>?_) (fun cdv A outer s H vs Q E hr h=>?_)
 ·obtain ⟨p,pq,px,ys,g,x,s,q,rfl,hp,I,O,hk,ht,L,hd,W,S,k⟩:=h
  rfl
 ·obtain ⟨p,pq,px,ys,g,x,s,q,rfl,hp,I,O,hk,ht,L,hd,W,S,k⟩:=h
  have hu:=Yd hr;refine ⟨_,@QSs.out _ _ _ (Za (ZF (Zk (qx (We hr)) (qv 1) (Zr Zb) (Zt _))
    (Zh (Zp (qv 2))) Zu)
    (Za (Zo (i:=3) Jv.nd rfl (Or.inl rfl) (Zi y (hr.mono (by lia)) rfl T.af.m T.af.F.kp T.af.b .nil Z1 (Zj (qv 0) Zb)))
    (Za (gR (Zi J (hr.mono (by lia)) rfl T.bq.m T.bq.F.kp T.bq.b .nil Z1 (Zj (ZD ZQ (qv 3) (ZD ZU (qv 1) Ze (fun _ _=>rfl)) (fun _ _=>rfl)) (Zj (Y2 (SlR.or Wk Xf) (qv 1) (Yr Ze) Jg) (Zj (qv 2) Zb)))) (qg_sub (qv 3) (ZD ZU (qv 1) Ze (fun _ _=>rfl)) set_list))
    (Zh (Zp (Zi f (hr.mono (by lia)) rfl T.du.m T.du.F.kp T.du.b .nil Z1 (Zj (ZD ZU (qv 0) Ze (fun _ _=>rfl)) (Zj (qv 3) Zb)))))))),?_⟩
  try dsimp only [L2.cxK,L2.cxK2]
  refine L2.let4 ?_;intro U3 U2 U1;refine ⟨_,rfl,by show 0<=sizeLine;decide,fun z0 hz0=>?_⟩;have u0:=Zd (o:=.tup []) hz0;refine ⟨pq,z0,_,_,rfl,rfl,SqT.of (u0 _ _ I),SqT.of Zc,YU (Zbn q),rfl,_,rfl,?_⟩;generalize upd H z0 (.tup [])=H1 at *;cases q with
  | nil =>
   refine zJ rfl ⟨_,rfl,k px H1 ?_ u0⟩;unfold qh;exact u0 _ _ O
  | cons kk q' =>
   refine Yt ?_;obtain ⟨i,hi⟩:=Qbq S;rw [Gx] at hi;cases i with
   | zero =>
    have:=congrArg Prod.fst (Option.some.inj hi);cases this
   | succ i =>
    refine Zy fun Gz G=>?_;obtain ⟨j,i',t',q2,h1,h2,h3,h4⟩:=yh g.kids 0 i _ _ hi;refine G ?_;clear G Gz;rw [Qe8] at h2;injection h2 with e1 e2;subst e1 e2;have hj:=(Qah.mp h1).1;have hlt:=qT (Qae h1);have okt:=Tm.ok_kids ht t' (Qae h1);refine ⟨_,rfl,p,ys,g,rfl,u0 _ _ hp,hk,ht,Qa0 L (by decide),fun l xs H2 hln hl2 hT s2=>Zf ?_⟩;have Y:=u0.trans s2;have hln0:H l=none:=by
     cases q:H l with
     | none=>rfl
     | some o=>rw [u0 _ _ q] at hln;cases hln
    obtain ⟨v,hv⟩:∃v,xs[j]?=some v:=⟨_,Qag (by rw [hT.length];exact hj)⟩;refine Zy fun Gz G=>?_;obtain ⟨t2,ht2,pt,rfl,hpt⟩:=Zw hT hv;refine G ?_;clear G Gz;rw [h1] at ht2;cases ht2;refine ⟨_,rfl,_,rfl,pq,_,0,_,rfl,rfl,SqT.of (Y _ _ I),Yk (j:=0) rfl,l,xs,(j:Int),_,rfl,rfl,SqL.of hl2,Yk hv,_,rfl,_,rfl,Gs (Y _ _ I) fun pq' H3 hq' s3=>?_⟩;rw [show xg (((j:Int)::q').map V.int) (some 1) none=q'.map V.int from JR (u:=[V.int (j:Int)]) rfl] at hq';have s03:=Y.trans s3;refine ⟨_,rfl,pt,pq',px,ys,t',x,s,q',rfl,s3 _ _ hpt,hq',s03 _ _ O,hk,okt,by lia,by lia,W,Qae h3,fun z H4 hz s4=>?_⟩;have Z:=s03.trans s4;have s24:=s3.trans s4;have U:=s24 _ _ hl2;refine Zy fun Gz G=>?_;obtain ⟨u,v,hu,hf,hpu⟩:=jB _ t' (Qao _) i' q' s h3;refine G ?_;clear G Gz;have hpl:=congrArg List.length (hpu x);have hfl:=congrArg List.length hf;rw [Qab,Qab] at hpl hfl;obtain ⟨g1,g2⟩:=WT (x:=qh t' q' x) h1;have gl1:=congrArg List.length g1;have gl2:=congrArg List.length g2;rw [Qab,Qab] at gl1 gl2;have hfk:g.flat.length=(Zq g.kids).length + 1:=by rw [g.flat_eq,Qan]
    refine ⟨_,rfl,_,rfl,pq,_,0,_,rfl,rfl,SqT.of (Z _ _ I),Yk (j:=0) rfl,l,xs,(j:Int),j,rfl,rfl,U,ixN_j (by rw [hT.length];exact hj),?_⟩;have T5:=yi ((hT.same s24).put (ys:=xs.set j (.ref z)) U) (wW.put (ys:=xs.set j (.ref z)) (H:=H4) ⟨z,rfl,hz⟩ U) j;refine ⟨_,rfl,p,_,0,_,rfl,rfl,SqT.of (Yg (Z _ _ hp) U),k6 g,_,rfl,g.hd,l,xs.set j (.ref z),g.kids.set j (qh t' q' x),rfl,Zc,T5,by lia,fun z2 H5 hz2 s5=>k z2 H5 ?_ ((Ys Z hln0).trans s5)⟩;have e:qh g ((j:Int)::q') x=g.re (g.kids.set j (qh t' q' x)):=by
     show g.re (g.kids.set (j:Int).toNat (qh ((g.kids[(j:Int).toNat]?).getD g) q' x))=_;rw [Qbw,h1]
     rfl
    rw [hz2,e,Tm.re_flat (by rw [Qf0])]
inductive Wy(vs:List V)(H:Hp)(Q:VK):Prop
 | mk (p:Addr) (ys:List Str) (tm:Tm):(vs=[.ref p])->(H p=some (.tup tm.flat))->(NK ys)->(tm.ok ys)->(tm.flat.length<=52)->(∀l xs H',H l=none->H' l=some (.lst xs)->JH H' xs (Zbz tm)->Z0 H H'->Q (.ref l) H')->Wy vs H Q
def JC(K:PySem.W.Frag):Sp:=fun d H Q _=>Wy d H Q
theorem xX (T:Txt K w mg t) (XB:Xcl K mg base t):Z5 P w K mg base CX0 56 t.ic t.ie ["words"] (JC K):=by
 have G:Z5 P w K mg base CX0 55 t.bw t.bx ["words"] (Y8 K 52):=Wb T XB 52;have L:Z5 P w K mg base CX0 55 t.fz t.gg ["words","path","part"] (Jy K 52):=yq T XB 52;have f:Z5 P w K mg base CX0 4 t.fx t.fy ["how","words"] (Jf K):=qZ T XB;refine T.bp.F.ok ZO (fun vs H Q E h=>?_) (fun cdv A outer s H vs Q E hr h=>?_)
 ·obtain ⟨p,ys,J,rfl,hp,hk,ht,W,k⟩:=h
  rfl
 ·obtain ⟨p,ys,J,rfl,hp,hk,ht,W,k⟩:=h
  have hu:=Yd hr;refine ⟨_,@QSs.out _ _ _ (Za (Zo (i:=1) ZO.nd rfl (Or.inl rfl) (Zr (Zj Zg (Zj Zg (Zj Zg (Zj Zg (Zj Zg (Zj Zg (Zj Zg (Zj Zg Zb))))))))))
    (Za (Zo (i:=1) ZO.nd rfl (Or.inl rfl) (Zl Zn (qv 1) (Zr (Zj Zg (Zj Zg (Zj Zg (Zj Zg (Zj Zg (Zj Zg (Zj Zg (Zj Zg Zb)))))))))))
    (Za (Zo (i:=2) ZO.nd rfl (Or.inl rfl) (XO Zb))
    (Za (Y6 Qbl rfl (Xy (Zi G (hr.mono (by decide)) rfl T.ag.m T.ag.F.kp T.ag.b .nil Z1 (Zj (qv 0) Zb))) (Ga rfl (Z8 (i:=3) ZO.nd rfl (Or.inl rfl)) (Z8 (i:=4) ZO.nd rfl (Or.inl rfl)))
    (Zh (Y6 Qbl rfl (Wl (qv 1)) (Z8 (i:=5) ZO.nd rfl (Or.inl rfl))
    (Za (Zo (i:=6) ZO.nd rfl (Or.inl rfl) (Zi f (hr.mono (by decide)) rfl T.dv.m T.dv.F.kp T.dv.b .nil Z1 (Zj (qv 5) (Zj (qv 4) Zb))))
    (Zh (ZF (Zk xZ (qv 6) WL (by with_unfolding_all rfl))
    (Zh (W5 (Wm Qbm Qcb Qcc Xl (qv 2) (Zj (Zr (Zj (qv 3) (Zj (qv 5) (Zj (Zi L (hr.mono (by decide)) rfl T.bq.m T.bq.F.kp T.bq.b .nil Z1 (Zj (qv 0) (Zj (qv 3) (Zj (qv 6) Zb)))) Zb)))) Zb)))) Zu))))))
    (Zh (Zp (qv 2))))))),?_⟩
  clear hu hr
  try dsimp only [L2.cxK,L2.cxK2]
  refine L2.let5 ?_;intro U4 U3 U2 U1;refine ⟨by show 8<=sizeLine;decide,fun h0 hn0=>Zf ?_⟩;have s1:=Zd (o:=.tup [V.str "addboth",V.str "addthree",V.str "subneg",V.str "negnot",V.str "twiceadd",V.str "notnot",V.str "notand",V.str "notor"]) hn0;have hh0:=Zc (H:=H) (a:=h0) (o:=.tup [V.str "addboth",V.str "addthree",V.str "subneg",V.str "negnot",V.str "twiceadd",V.str "notnot",V.str "notand",V.str "notor"]);generalize upd H h0 (.tup [V.str "addboth",V.str "addthree",V.str "subneg",V.str "negnot",V.str "twiceadd",V.str "notnot",V.str "notand",V.str "notor"])=H1 at *;refine ⟨_,rfl,by show 8<=sizeLine;decide,fun h1 hn1=>?_⟩;have w1:=Zd (o:=.tup [V.str "oddor",V.str "orsum",V.str "oddsum",V.str "lowneg",V.str "pickor",V.str "selfodd",V.str "selfand",V.str "zeroadd"]) hn1;refine ⟨h0,h1,_,_,rfl,rfl,w1 _ _ hh0,Zc,by show 16<=sizeLine;decide,fun ph H2 U s2'=>Zf ?_⟩;have s2:=w1.trans s2';clear s2' w1 hn1 hn0
  replace U:H2 ph=some (.tup (Wo.map V.str)):=U
  have s02:=s1.trans s2;clear hh0;refine ⟨by show 0<=sizeLine;decide,fun l hl=>Zf ?_⟩;have w2:=Zd (o:=.lst []) hl;have g2:=Zc (H:=H2) (a:=l) (o:=.lst []);have hln:H l=none:=by
   cases q:H l with
   | none=>rfl
   | some o=>rw [s02 _ _ q] at hl;cases hl
  replace U:=w2 _ _ U
  have s03:=s02.trans w2;clear hl w2 s1 s2 s02;generalize upd H2 l (.lst [])=H3 at *;refine ⟨_,rfl,p,ys,J,rfl,s03 _ _ hp,hk,ht,Qa0 W (by decide),Qa0 W (by decide),fun lp xp H4 hlp hxp P s4=>?_⟩;have s04:=s03.trans s4;have hlpn:l≠lp:=fun z=>by rw [z,hlp] at g2;cases g2
  have hph4:=s4 _ _ U;have hnl:(J.nds []).length=J.flat.length:=J.nds_len [];have hxl:xp.length=J.flat.length:=by rw [P.length,hnl]
  have hhl:Wo.length=16:=rfl;refine ⟨lp,rfl,⟨_,SqL.of hxp⟩,WK (K:=K) (a:=lp) (xs:=xp) (fun i σ H'=>∃(fs:List V) (v3 v4 v5 v6:Option V),σ=[some (.ref p),some (.ref ph),some (.ref l),v3,v4,v5,v6]/\H' l=some (.lst fs)/\H' lp=some (.lst xp)/\H' ph=some (.tup (Wo.map V.str))/\JH H' fs (((J.nds []).take i).flatMap (k8 J Wo))/\JG H' xp (J.nds [])/\fs.length<=16 * i/\i<=xp.length/\Z0 H H') ⟨[],none,none,none,none,rfl,s4 _ _ g2,hxp,hph4,.nil,P,Qa8 _,Qa8 _,s04⟩ (fun i σ H' _ ⟨_,_,_,_,_,_,_,h,_⟩=>SqL.of h) ?_ ?_⟩
  ·rintro i x σ H5 hx O
   refine Zy fun Z d=>?_;obtain ⟨fs,v3,v4,v5,v6,rfl,f1,f2,f3,F,P5,Y,hil,s5⟩:=O;refine d ?_;clear d Z;have hi':=(Qah.mp hx).1;refine Zy fun Z d=>?_;obtain ⟨z,hz,a,b,c,rfl,ha,hb,hc⟩:=Zw P5 hx;refine d ?_;clear d Z;have hzm:=Qae hz;have okz:=kz ht hzm;have hzl:=nds_sl hzm;refine ⟨a,_,rfl,SqT.of ha,rfl,_,_,rfl,_,_,rfl,rfl,?_⟩;refine ⟨_,rfl,ph,rfl,⟨_,SqT.of f3⟩,W3 (K:=K) (a:=ph) (xs:=Wo.map V.str) (fun m σ H'=>∃(fs:List V) (v5 v6:Option V),σ=[some (.ref p),some (.ref ph),some (.ref l),some (.ref b),some (.ref c),v5,v6]/\H' l=some (.lst fs)/\H' lp=some (.lst xp)/\H' ph=some (.tup (Wo.map V.str))/\JH H' fs (((J.nds []).take i).flatMap (k8 J Wo)++k8 J (Wo.take m) z)/\JG H' xp (J.nds [])/\H' b=some (.tup (z.1.map V.int))/\H' c=some (.tup z.2.flat)/\fs.length<=16 * i + m/\m<=16/\Z0 H H') ⟨fs,v5,v6,rfl,f1,f2,f3,by show JH H5 fs (_++[]);rw [Qax];exact F,P5,hb,hc,Y,Qa8 _,s5⟩ (fun m σ H' _ ⟨_,_,_,_,_,_,h,_⟩=>SqT.of h) ?_ ?_⟩
   ·rintro m y σ H6 hy O
    refine Zy fun Z d=>?_;obtain ⟨fs,v5,v6,rfl,f1,f2,f3,F,P6,hb,hc,Y,hm,s6⟩:=O;refine d ?_;clear d Z;have hm':m < 16:=by
     have:=(Qah.mp hy).1;rw [Qaz,hhl] at this;exact this
    obtain ⟨h,hh,rfl⟩:∃h,Wo[m]?=some h/\y=.str h:=by
     rw [Qbc] at hy;cases e:Wo[m]? with
     | none=>rw [e] at hy;cases hy
     | some h=>rw [e] at hy;exact ⟨h,rfl,(Option.some.inj hy).symm⟩
    refine Zf ?_;refine ⟨_,rfl,_,rfl,h,c,ys,z.2,rfl,hc,hk,okz,by lia,fun e H7 S=>Zf ?_,fun x zx H7 e hzx S=>Zf ?_⟩
    ·refine ⟨_,rfl,rfl,_,rfl,Yt ⟨fs,_,_,rfl,S _ _ f1,S _ _ f2,S _ _ f3,?_,P6.same S,S _ _ hb,S _ _ hc,by lia,hm',s6.trans S⟩⟩
     rw [Z6 hh,k9 e];exact F.same S
    ·have hxl2:=Zbo hk okz e
     refine ⟨_,rfl,rfl,_,rfl,Yq ⟨_,rfl,.inl ⟨rfl,_,SqL.of (S _ _ f1)⟩,_,rfl,_,rfl,_,rfl,_,rfl,_,rfl,p,b,zx,ys,J,x,z.2,z.1,rfl,(s6.trans S) _ _ hp,S _ _ hb,hzx,hk,ht,by lia,by lia,by lia,hzm,fun z2 H8 hz2 s8=>⟨by show 3<=sizeLine;decide,fun pp hpp=>?_⟩⟩⟩;have w9:=Zd (o:=.tup [.ref b,.str h,.ref z2]) hpp;have g:=S.trans (s8.trans w9);have I:=g _ _ f1;refine ⟨l,_,_,rfl,rfl,I,Zv (by lia),fs++[.ref pp],_,_,rfl,Zc,?_,Yg (g _ _ f3) I,?_,(P6.same g).put I,Yg (g _ _ hb) I,Yg (g _ _ hc) I,by rw [Qab];show _ + 1<=_;lia,hm',Ys (s6.trans g) hln⟩
     ·rw [Zs hlpn.symm];exact g _ _ f2
     ·rw [Z6 hh,kA e,<-Qbb]
      exact ((F.same g).put I).snoc (b:=(z.1,h,qh J z.1 x)) ⟨pp,b,z2,rfl,Yg Zc I,Yg (g _ _ hb) I,Yg (w9 _ _ hz2) I⟩
   ·rintro σ H6 O
    refine Zy fun Z d=>?_;obtain ⟨fs,v5,v6,rfl,f1,f2,f3,F,P6,hb,hc,Y,hm,s6⟩:=O;refine d ?_;clear d Z;rw [Qaz,Qbo] at F;refine ⟨fs,_,_,_,_,rfl,f1,f2,f3,?_,P6,?_,hi',s6⟩
    ·rw [Z6 hz,Qcj]
     show JH H6 fs (_++(_++[]));rw [Qax];exact F
    ·rw [Qaz,hhl] at Y
     lia
  ·rintro σ H5 O
   refine Zy fun Z d=>?_;obtain ⟨fs,v3,v4,v5,v6,rfl,f1,f2,f3,F,P5,Y,hil,s5⟩:=O;refine d ?_;clear d Z;rw [hxl,<-hnl,Qbo] at F;exact ⟨_,rfl,k l fs H5 hln f1 F s5⟩
inductive Xu(K:PySem.W.Frag)(vs:List V)(H:Hp)(Q:VK):Prop
 | mk (a p:Addr) (ns:List Int) (ys:List Str) (tm:Tm):(vs=[.ref a,.ref p])->(SqL K H a (ns.map V.int))->(ns.length<=63)->(H p=some (.tup tm.flat))->(NK ys)->(tm.ok ys)->(tm.flat.length<=52)->(∀z q H',(∀r,(q,r)∉ZS tm)->q.length<=60->(∀n∈q,n.natAbs.log2 < 1920)->H' z=some (.tup (q.map V.int))->Z0 H H'->Q (.ref z) H')->Xu K vs H Q
def Wc(K:PySem.W.Frag):Sp:=fun d H Q _=>Xu K d H Q
theorem GC (T:Txt K w mg t) (XB:Xcl K mg base t):Z5 P w K mg base CX0 56 t.eo t.er ["script","words"] (Wc K):=by
 have y:Z5 P w K mg base CX0 1 t.cx t.cy ["word"] (Xe K):=XW T XB;have g:Z5 P w K mg base CX0 55 t.bw t.bx ["words"] (Y8 K 52):=Wb T XB 52;have G:Z5 P w K mg base CX0 1 t.bg t.bh ["script","k"] (Yn K):=Y0 T XB;refine T.cv.F.ok ZC (fun vs H Q E h=>?_) (fun cdv A outer s H vs Q E hr h=>?_)
 ·obtain ⟨a,p,L,ys,O,rfl,ha,hl,hp,hk,ht,hlen,k⟩:=h
  rfl
 ·obtain ⟨a,p,L,ys,O,rfl,ha,hl,hp,hk,ht,hlen,k⟩:=h
  have hu:=Yd hr;refine ⟨_,@QSs.out _ _ _ (Za (Zo (i:=2) ZC.nd rfl (Or.inl rfl) (Zi G (hr.mono (by decide)) rfl T.aa.m T.aa.F.kp T.aa.b .nil Z1 (Zj (qv 0) (Zj Ze Zb))))
    (Za (wk (i:=3) ZC.nd rfl rfl (⟨by rfl,by decide +kernel,by decide +kernel,by rfl,by decide +kernel,by decide +kernel,by rfl,by decide +kernel⟩:ZZ (Zm Y4) _ ["script","words","draw","some","path","below","many","far"] "path" [] []) (⟨by rfl,by decide +kernel⟩:Two _ "path" "below" []) (Xy (Zi g (hr.mono (by decide)) rfl T.ag.m T.ag.F.kp T.ag.b .nil Z1 (Zj (qv 1) Zb))) (fun _ _ _ _=>zZ) (fun _ _ _ _=>(qv 0)))
    (Za (Zo (i:=4) ZC.nd rfl (Or.inl rfl) (ZD ZQ (qv 3) (Zl ZM (Zl Y1 (qv 2) Ze) (Z4 ZE (by rfl) T.cz XM (Zj (qv 3) Zb))) (fun _ _=>rfl)))
    (Za (Zo (i:=5) ZC.nd rfl (Or.inl rfl) (ZD ZU (ZD ZQ (Zi g (hr.mono (by decide)) rfl T.ag.m T.ag.F.kp T.ag.b .nil Z1 (Zj (qv 1) Zb)) (Zl ZM (Zl Y1 (qv 2) Ze) (Z4 ZE (by rfl) T.cz XM (Zj (qv 3) Zb))) (fun _ _=>rfl)) Ze (fun _ _=>rfl)))
    (Za (Zo (i:=6) ZC.nd rfl (Or.inl rfl) (Zi y (hr.mono (by decide)) rfl T.ak.m T.ak.F.kp T.ak.b .nil Z1 (Zj (ZD ZU (qv 5) Ze (fun _ _=>rfl)) Zb)))
    (Za (Zo (i:=7) ZC.nd rfl (Or.inl rfl) (ZD ZQ (XO (Zj (zg JX Ze) (Zj (zg JX Ze) (Zj (qv 6) (Zj (Zl YC (qv 6) Ze) (Zj (Zl zR Ze Ze) (Zj (zg JX (Zl zR Ze Ze)) (Zj (qv 6) (Zj (zg JX Ze) Zb))))))))) (Zl ZM (qv 2) Ze) (fun _ _=>rfl)))
    (Zh (Zp (Zl Zn (qv 4) (Zr (Zj (qv 7) Zb))))))))))),?_⟩
  clear hu hr
  try dsimp only [L2.cxK,L2.cxK2]
  refine L2.let7 ?_;intro U6 U5 U4 U3 U2 U1;have hnl:=O.nds_len [];have hfp:=O.flat_pos;refine ⟨_,rfl,a,L,11,rfl,ha,hl,by decide,fun H1 s1=>Zf ?_⟩;refine ⟨_,rfl,p,ys,O,rfl,s1 _ _ hp,hk,ht,by lia,by lia,fun l xs H2 hln hxs P s2=>?_⟩;have hxl:xs.length=(O.nds []).length:=P.length;refine ⟨l,rfl,⟨_,SqL.of hxs⟩,jW (K:=K) (a:=l) (xs:=xs) (fun i zs H'=>YD H' zs (((O.nds []).take i).map (·.1))/\zs.length<=i/\i<=xs.length/\H'=H2) ⟨.nil,Qao _,Qa8 _,rfl⟩ (fun i zs H' ⟨_,h1,h2,_⟩=>Qbg (Zv (by lia))) (fun i zs H' ⟨_,_,_,e⟩=>by rw [e];exact SqL.of hxs) ?_ ?_⟩
  ·rintro i x zs H' R hR hx Z
   refine Zy fun U f=>?_;obtain ⟨S,hz,hi,rfl⟩:=Z;refine f ?_;clear f U;have hi':=(Qah.mp hx).1;refine Zy fun U f=>?_;obtain ⟨d,hd,a1,b,c,rfl,ha1,hb,hc⟩:=Zw P hx;refine f ?_;clear f U;refine ⟨a1,_,_,rfl,SqT.of ha1,?_⟩;unfold Zbv
   try dsimp only
   rw [Qa4 rfl];refine ⟨_,rfl,hR _ _ ⟨?_,by rw [Qab];show _ + 1<=_;lia,hi',rfl⟩⟩;rw [Z6 hd,Qa7];exact S.snoc (b:=d.1) ⟨b,rfl,hb⟩
  rintro zs H' Z c hc;refine Zy fun U f=>?_;obtain ⟨S,hz,hi,rfl⟩:=Z;refine f ?_;clear f U;rw [hxl,Qbo] at S;have u3:=Zd (o:=.lst zs) hc;have g3:=Zc (H:=H') (a:=c) (o:=.lst zs)
  replace S:=S.same u3
  have s13:=s1.trans (s2.trans u3);clear u3 hz hi hc;generalize upd H' c (.lst zs)=H3 at *;have zl:zs.length=O.flat.length:=by rw [S.length,Qaz,hnl]
  obtain ⟨j,hj,hjl⟩:∃j:Nat,drw L 11 / 8 % (zs.length:Int)=(j:Int)/\j < zs.length:=by
   have h1:=Qbk (drw L 11 / 8) (b:=(zs.length:Int)) (by lia);have h2:=Qba (drw L 11 / 8) (b:=(zs.length:Int)) (by lia);exact ⟨(drw L 11 / 8 % (zs.length:Int)).toNat,by lia,by lia⟩
  obtain ⟨⟨q,sm⟩,Y⟩:∃z,(O.nds [])[j]?=some z:=⟨_,Qag (by lia)⟩;have J:=Qae Y;obtain ⟨vz,hvz⟩:∃v,zs[j]?=some v:=⟨_,Qag hjl⟩;refine Zy fun U f=>?_;obtain ⟨q',hq',b,rfl,hb⟩:=Zw S hvz;refine f ?_;clear f U;rw [Qbc,Y] at hq';cases hq';have hat:atI zs (drw L 11 / 8 % (zs.length:Int))=some (.ref b):=by rw [hj];exact Yk hvz
  refine Zf ?_;refine ⟨_,rfl,_,rfl,_,_,rfl,rfl,.of (by decide) (by decide),_,rfl,c,_,rfl,.inl (SqL.of g3),_,_,rfl,rfl,(by show (0:Int) < (zs.length:Int);lia),c,_,_,_,rfl,rfl,SqL.of g3,hat,Zf ?_⟩;refine ⟨_,rfl,p,ys,O,rfl,s13 _ _ hp,hk,ht,by lia,by lia,fun l2 W H4 hl2 hxs2 P4 s4=>?_⟩;have hx2:W.length=zs.length:=by rw [P4.length,zl,hnl]
  obtain ⟨v2,hv2⟩:∃v,W[j]?=some v:=⟨_,Qag (by lia)⟩;refine Zy fun U f=>?_;obtain ⟨d,hd,a2,b2,c2,rfl,ha2,hb2,hc2⟩:=Zw P4 hv2;refine f ?_;clear f U;rw [Y] at hd;cases hd;have hat2:atI W (drw L 11 / 8 % (zs.length:Int))=some (.ref a2):=by rw [hj];exact Yk hv2
  refine ⟨_,rfl,_,_,rfl,rfl,.of (by decide) (by decide),_,rfl,c,_,rfl,.inl (SqL.of (s4 _ _ g3)),_,_,rfl,rfl,(by show (0:Int) < (zs.length:Int);lia),l2,_,_,_,rfl,rfl,SqL.of hxs2,hat2,a2,_,1,_,rfl,rfl,SqT.of ha2,rfl,Zf ?_⟩;have oks:=kz ht J;refine ⟨_,rfl,c2,_,0,_,rfl,rfl,SqT.of hc2,k6 sm,sm.hd,rfl,ko oks,fun H5 s5=>Zf ?_⟩
  try dsimp only
  rw [Gw hk oks];refine ⟨_,rfl,_,rfl,_,rfl,_,rfl,_,_,rfl,rfl,_,_,rfl,rfl,⟨by decide,by decide,by decide⟩,_,_,rfl,rfl,⟨by decide,by decide,by decide⟩,_,rfl,_,rfl,_,rfl,by show 8<=sizeLine;decide,fun l3 hl3=>?_⟩;obtain ⟨j8,hj8,hl8⟩:∃j:Nat,drw L 11 % 8=(j:Int)/\j < 8:=⟨(drw L 11 % 8).toNat,by lia,by lia⟩;obtain ⟨I,hz,hfar,hbig⟩:∃I:Int,atI [V.int (-1),V.int (-2),V.int (sm.kids.length:Int),V.int ((sm.kids.length:Int) + 1),V.int (10 ^ (20:Int).toNat),V.int (-(10 ^ (20:Int).toNat)),V.int (sm.kids.length:Int),V.int (-1)] (drw L 11 % 8)=some (.int I)/\(I < 0\/(sm.kids.length:Int)<=I)/\I.natAbs < 2 ^ 1900:=by
   have k3:=Js sm;have b1:(4:Nat) < 2 ^ 1900:=Qaw (by decide:4 < 2 ^ 3) (Qc2 (by decide) (by decide));have b2:(10 ^ 20:Nat) < 2 ^ 1900:=Qaw (by decide:10 ^ 20 < 2 ^ 70) (Qc2 (by decide) (by decide));have e20:((10:Int) ^ (20:Int).toNat)=100000000000000000000:=by decide
   have e21:(10 ^ 20:Nat)=100000000000000000000:=by decide
   rw [hj8,e20];rw [e21] at b2;generalize (2 ^ 1900:Nat)=B at b1 b2
   match j8,hl8 with
   | 0,_=>exact ⟨_,rfl,by lia,by lia⟩
   | 1,_=>exact ⟨_,rfl,by lia,by lia⟩
   | 2,_=>exact ⟨_,rfl,by lia,by lia⟩
   | 3,_=>exact ⟨_,rfl,by lia,by lia⟩
   | 4,_=>exact ⟨_,rfl,by lia,by lia⟩
   | 5,_=>exact ⟨_,rfl,by lia,by lia⟩
   | 6,_=>exact ⟨_,rfl,by lia,by lia⟩
   | 7,_=>exact ⟨_,rfl,by lia,by lia⟩
  refine ⟨_,rfl,_,_,rfl,rfl,(by show (0:Int) < 8;decide),l3,_,_,_,rfl,rfl,SqL.of Zc,hz,Zf ?_⟩;have u6:=Zd (o:=.lst [V.int (-1),V.int (-2),V.int (sm.kids.length:Int),V.int ((sm.kids.length:Int) + 1),V.int (10 ^ (20:Int).toNat),V.int (-(10 ^ (20:Int).toNat)),V.int (sm.kids.length:Int),V.int (-1)]) hl3;have s36:=s4.trans (s5.trans u6);obtain ⟨nl,nn⟩:=G2 _ O (Qao _) q sm J;refine ⟨_,rfl,_,rfl,by show 1<=sizeLine;decide,fun pt hpt=>⟨b,pt,_,_,rfl,rfl,Zd hpt _ _ (s36 _ _ hb),Zc,?_,fun z Hz hz' sz=>?_⟩⟩
  ·show (q.map V.int).length + 1<=sizeLine
   rw [Qaz];exact Qbg (Zv (by lia))
  refine k z (q++[I]) Hz (fun r=>gk J hfar) (by rw [Qab];show _ + 1<=_;lia) (fun n hn=>?_) (by rw [hz',Qa7];rfl) (s13.trans (s36.trans ((Zd hpt).trans sz)));rcases Qam.mp hn with h | h
  ·refine zK (Qaw (m:=2 ^ 3) ?_ (Qc2 (by decide) (by decide)))
   have:=nn n h;lia
  ·rw [Qai.mp h]
   exact zK hbig
inductive jG(K:PySem.W.Frag)(vs:List V)(H:Hp)(Q:VK):Prop
 | mk (a:Addr) (ns:List Int):(vs=[.ref a])->(SqL K H a (ns.map V.int))->(ns.length<=63)->(∀H',Q (.bl true) H')->jG K vs H Q
def jH(K:PySem.W.Frag):Sp:=fun d H Q _=>jG K d H Q
theorem ok_law (T:Txt K w mg t) (XB:Xcl K mg base t):Z5 P w K mg base CX0 57 t.ly t.lz ["script"] (jH K):=by
 have G_steps:Z5 P w K mg base CX0 5 t.kd t.kv ["words"] (jE K):=gv T XB;have f:Z5 P w K mg base CX0 7 t.fm t.fo ["words","chain"] (Ww K):=GO T XB;have J:Z5 P w K mg base CX0 56 t.ic t.ie ["words"] (JC K):=xX T XB;have G:Z5 P w K mg base CX0 1 t.bg t.bh ["script","k"] (Yn K):=Y0 T XB;have L:Z5 P w K mg base CX0 56 t.eo t.er ["script","words"] (Wc K):=GC T XB;have W:Z5 P w K mg base CX0 55 t.bw t.bx ["words"] (Y8 K 52):=Wb T XB 52;have G_law_fit:Z5 P w K mg base CX0 21 t.iw t.ix ["script","at","many","most"] (ql K):=yp T XB;refine T.mh.F.ok YE (fun vs H Q E h=>?_) (fun cdv A outer s H vs Q E hr h=>?_)
 ·obtain ⟨a,U,rfl,ha,hl,k⟩:=h
  rfl
 ·obtain ⟨a,U,rfl,ha,hl,k⟩:=h
  have hu:=Yd hr;refine ⟨_,@QSs.out _ _ _ (Za (Zo (i:=1) YE.nd rfl (Or.inl rfl) (Zi G_law_fit (hr.mono (by decide)) rfl T.ib.m T.ib.F.kp T.ib.b .nil Z1 (Zj (qv 0) (Zj Ze (Zj (Zl YC Ze (Zl ZM (Zi G (hr.mono (by decide)) rfl T.aa.m T.aa.F.kp T.aa.b .nil Z1 (Zj (qv 0) (Zj Ze Zb))) Ze)) (Zj Ze Zb))))))
    (Za (Zo (i:=2) YE.nd rfl (Or.inl rfl) (Zi J (hr.mono (by decide)) rfl T.bp.m T.bp.F.kp T.bp.b .nil Z1 (Zj (qv 1) Zb)))
    (Za (jl (i:=3) YE.nd rfl rfl (⟨by rfl,by decide +kernel,by decide +kernel,by rfl,by decide +kernel,by decide +kernel,by rfl,by decide +kernel⟩:ZZ (Zm qI) _ ["script","words","due","fitting","hows","good","after","at","path","below","how","bad","then"] "path" [] []) (⟨by rfl,by rfl,by decide +kernel⟩:Thr _ "path" "how" "spun" []) (Xy (qv 2)) (fun _ _ _ _=>zZ) (fun _ _ _ _=>(Zr (Zj (qv 0) (Zj (qv 1) Zb)))))
    (Za (Zo (i:=4) YE.nd rfl (Or.inl rfl) (Zr (Zj Zg (Zj Zg (Zj Zg (Zj Zg (Zj Zg (Zj Zg (Zj Zg (Zj Zg Zb))))))))))
    (Za (Zo (i:=4) YE.nd rfl (Or.inl rfl) (Zl Zn (qv 4) (Zr (Zj Zg (Zj Zg (Zj Zg (Zj Zg (Zj Zg (Zj Zg (Zj Zg (Zj Zg Zb)))))))))))
    (Za (Zo (i:=5) YE.nd rfl (Or.inl rfl) (Zr Zb))
    (Za (Zo (i:=6) YE.nd rfl (Or.inl rfl) (qv 1))
    (Za (ZF (Zk (Za0 (Xo hr)) (qv 2) (XO Zb) (Zt _))
    (Za (Zo (i:=7) YE.nd rfl (Or.inl rfl) (Zl ZM (Zi G (hr.mono (by decide)) rfl T.aa.m T.aa.F.kp T.aa.b .nil Z1 (Zj (qv 0) (Zj Ze Zb))) (Z4 ZE (by rfl) T.cz XM (Zj (qv 2) Zb))))
    (Za (Zo (i:=5) YE.nd rfl (Or.inl rfl) (Zr (Zj (ZD ZQ (qv 3) (qv 7) (fun _ _=>rfl)) Zb)))
    (Zh (Zo (i:=6) YE.nd rfl (Or.inl rfl) (ZD ZU (ZD ZQ (qv 2) (qv 7) (fun _ _=>rfl)) Ze (fun _ _=>rfl)))))) Zu)
    (Za (Y6 Qbl rfl (Xy (Zi W (hr.mono (by decide)) rfl T.ag.m T.ag.F.kp T.ag.b .nil Z1 (Zj (qv 1) Zb))) (Ga rfl (Z8 (i:=8) YE.nd rfl (Or.inl rfl)) (Z8 (i:=9) YE.nd rfl (Or.inl rfl)))
    (Zh (Y6 Qbl rfl (Wl (qv 4)) (Z8 (i:=10) YE.nd rfl (Or.inl rfl))
    (Zh (ZF (YO (ZJ (Zk (Ge (Xo hr)) (Zr (Zj (qv 8) (Zj (qv 10) Zb))) (qv 3) (by with_unfolding_all rfl)) (ZI (zV (WM (Zi f (hr.mono (by decide)) rfl T.ai.m T.ai.F.kp T.ai.b .nil Z1 (Zj (qv 1) (Zj (Zr (Zj (Zr (Zj (qv 8) (Zj (qv 10) Zb))) Zb)) Zb))))))))
    (Zh (Zp jS)) Zu)))))
    (Za (Zo (i:=11) YE.nd rfl (Or.inl rfl) (Zr (Zj (Zi L (hr.mono (by decide)) rfl T.cv.m T.cv.F.kp T.cv.b .nil Z1 (Zj (qv 0) (Zj (qv 1) Zb))) (Zj (ZD ZU (qv 4) (Zl ZM (Zi G (hr.mono (by decide)) rfl T.aa.m T.aa.F.kp T.aa.b .nil Z1 (Zj (qv 0) (Zj Ze Zb))) Ze) (fun _ _=>rfl)) Zb))))
    (Za (ZF (zV (WM (Zi f (hr.mono (by decide)) rfl T.ai.m T.ai.F.kp T.ai.b .nil Z1 (Zj (qv 1) (Zj (Zr (Zj (qv 11) Zb)) Zb)))))
    (Zh (Zp jS)) Zu)
    (Za (jl (i:=12) YE.nd rfl rfl (⟨by rfl,by decide +kernel,by decide +kernel,by rfl,by decide +kernel,by decide +kernel,by rfl,by decide +kernel⟩:ZZ (Zm qI) _ ["script","words","due","fitting","hows","good","after","at","path","below","how","bad","then"] "path" [] []) (⟨by rfl,by rfl,by decide +kernel⟩:Thr _ "path" "how" "spun" []) (Xy (Zi J (hr.mono (by decide)) rfl T.bp.m T.bp.F.kp T.bp.b .nil Z1 (Zj (qv 6) Zb))) (fun _ _ _ _=>zZ) (fun _ _ _ _=>(Zr (Zj (qv 0) (Zj (qv 1) Zb)))))
    (Za (ZF (YO (ZJ (Zk (Ge (Xo hr)) (qv 11) (qv 12) (by with_unfolding_all rfl)) (ZI (zV (WM (Zi f (hr.mono (by decide)) rfl T.ai.m T.ai.F.kp T.ai.b .nil Z1 (Zj (qv 1) (Zj (Zl Zn (qv 5) (Zr (Zj (qv 11) Zb))) Zb))))))))
    (Zh (Zp jS)) Zu)
    (Za (ZF (zV (WM (Zi f (hr.mono (by decide)) rfl T.ai.m T.ai.F.kp T.ai.b .nil Z1 (Zj (qv 1) (Zj (Zl Zn (Zl Zn (qv 5) (Zr (Zj (Zr (Zj (Zr (Zj Ze Zb)) (Zj Zg Zb))) Zb))) (qv 5)) Zb)))))
    (Zh (Zp jS)) Zu)
    (Zh (Zp (XN (Za1 (Xo hr)) (Zi G_steps (hr.mono (by decide)) rfl T.iq.m T.iq.F.kp T.iq.b .nil Z1 (Zj (qv 1) Zb)) (qv 3) (Zt _)))))))))))))))))),?_⟩
  clear hu
  try dsimp only [L2.cxK,L2.cxK2]
  refine L2.let15 ?_;intro U14 U13 U12 U11 U10 U9 U8 U7 U6 U5 U4 U3 U2 U1;obtain ⟨m,hm,hm1,hm3⟩:∃m:Nat,1 + drw U 4 % 3=(m:Int)/\1<=m/\m<=3:=by
   have h1:=Qbk (drw U 4) (b:=3) (by decide);have h2:=Qba (drw U 4) (b:=3) (by decide);exact ⟨(1 + drw U 4 % 3).toNat,by lia,by lia,by lia⟩
  have hk:=kq U m;refine ⟨_,rfl,_,rfl,a,U,4,rfl,ha,hl,by decide,fun H1 s1=>⟨_,_,rfl,rfl,(by show (0:Int) < 3;decide),_,_,rfl,rfl,a,U,m,24,by show [V.ref a,V.int 0,V.int (1 + drw U 4 % 3),V.int 24]=_;rw [hm];rfl,Z7 ha s1,hl,hm1,hm3,by decide,by decide,fun tm zw H2 ok hx hzw s2=>Zf ?_⟩⟩;refine ⟨_,rfl,zw,_,tm,rfl,hzw,hk,ok,by lia,fun ld Z H3 _ hld D3 s3=>Zf ?_⟩;have hdl:=kB tm;have hxd:Z.length<=900:=by rw [D3.length];lia
  refine ⟨_,rfl,ld,rfl,⟨_,SqL.of hld⟩,xU hld D3 hxd fun lf xf H4 hlfn hlf S4 s4=>Zf ?_⟩;rw [<-XT hk ok] at S4;have ha4:=Z7 ha (s1.trans (s2.trans (s3.trans s4)));have hzw4:=s4 _ _ (s3 _ _ hzw);have D4:=D3.same s4;have hld4:=s4 _ _ hld;clear hld D3 s3 s4 hzw s2 s1 ha;refine ⟨by show 8<=sizeLine;decide,fun h0 hn0=>Zf ?_⟩;have s5:=Zd (o:=.tup [V.str "addboth",V.str "addthree",V.str "subneg",V.str "negnot",V.str "twiceadd",V.str "notnot",V.str "notand",V.str "notor"]) hn0;have hh0:=Zc (H:=H4) (a:=h0) (o:=.tup [V.str "addboth",V.str "addthree",V.str "subneg",V.str "negnot",V.str "twiceadd",V.str "notnot",V.str "notand",V.str "notor"]);generalize upd H4 h0 (.tup [V.str "addboth",V.str "addthree",V.str "subneg",V.str "negnot",V.str "twiceadd",V.str "notnot",V.str "notand",V.str "notor"])=H5 at *;refine ⟨_,rfl,by show 8<=sizeLine;decide,fun h1 hn1=>?_⟩;have w1:=Zd (o:=.tup [V.str "oddor",V.str "orsum",V.str "oddsum",V.str "lowneg",V.str "pickor",V.str "selfodd",V.str "selfand",V.str "zeroadd"]) hn1;refine ⟨h0,h1,_,_,rfl,rfl,w1 _ _ hh0,Zc,by show 16<=sizeLine;decide,fun ph H6 hph s6'=>Zf ?_⟩;have s46:=s5.trans (w1.trans s6');clear s6' w1 hn1 hn0 hh0 s5
  replace hph:H6 ph=some (.tup (Wo.map V.str)):=hph
  refine ⟨by show 0<=sizeLine;decide,fun g0 hg0=>Zf ?_⟩;have w2:=Zd (o:=.tup []) hg0;have hg:=Zc (H:=H6) (a:=g0) (o:=.tup [])
  replace hph:=w2 _ _ hph
  have s47:=s46.trans w2;clear w2 s46 hg0;generalize upd H6 g0 (.tup [])=H7 at *;refine ⟨_,rfl,Zf ?_⟩;have hzw7:=s47 _ _ hzw4;have hld7:=s47 _ _ hld4;have hlf7:=s47 _ _ hlf;have S7:=S4.same s47;have D7:=D4.same s47;have ha7:=Z7 ha4 s47;clear hzw4 hld4 hlf S4 D4 ha4 s47;refine ji (fun σ H'=>∃(pg pa:Addr) (gs:List V) (gc:List (List Int × Str)) (ta:Tm) (v7:Option V),σ=[some (.ref a),some (.ref zw),some (.ref ld),some (.ref lf),some (.ref ph),some (.ref pg),some (.ref pa),v7,none,none,none,none,none]/\H' pg=some (.tup gs)/\Yu H' gs gc/\H' pa=some (.tup ta.flat)/\ta.ok (J5 U m)/\ta.flat.length<=52/\Good tm gc ta/\Z0 H7 H') (fun M _ _ _ hM=>?_) ?_
  ·refine ⟨_,rfl,by show 0<=sizeLine;decide,fun l0 hl0=>?_⟩
   have w3:=Zd (o:=.lst []) hl0;refine ⟨ld,l0,Z,[],fun _=>true,rfl,rfl,w3 _ _ hld7,Zc,(fun _ j u v _ hv=>by cases hv),_,rfl,?_⟩;have hxl:Z.length=(Zbz tm).length:=D7.length;refine Yw (fun c=>?_) (fun c=>?_)
   ·have hpos:0 < Z.length:=by
     cases e:Z.length with
     | succ n=>exact Nat.succ_pos _
     | zero=>rw [e] at c;exact absurd c (by decide)
    refine ⟨_,rfl,a,U,12,rfl,Z7 ha7 w3,hl,by decide,fun H8 s8=>?_⟩;have s78:=w3.trans s8;refine ⟨_,rfl,ld,_,rfl,.inl (SqL.of (s78 _ _ hld7)),_,_,rfl,rfl,(by show (0:Int) < (Z.length:Int);lia),Zf ?_⟩;obtain ⟨j,hj,hjl⟩:∃j:Nat,drw U 12 % (Z.length:Int)=(j:Int)/\j < Z.length:=by
     have h1:=Qbk (drw U 12) (b:=(Z.length:Int)) (by lia);have h2:=Qba (drw U 12) (b:=(Z.length:Int)) (by lia);exact ⟨(drw U 12 % (Z.length:Int)).toNat,by lia,by lia⟩
    obtain ⟨vd,hvd⟩:∃v,Z[j]?=some v:=⟨_,Qag hjl⟩;refine Zy fun Y g=>?_;obtain ⟨d,hd,a1,b1,c1,rfl,ha1,hb1,hc1⟩:=Zw D7 hvd;refine g ?_;clear g Y;have hxf:xf.length=Z.length:=by rw [S7.length,XT hk ok,Qaz,hxl]
    obtain ⟨vf,hvf⟩:∃v,xf[j]?=some v:=⟨_,Qag (by lia)⟩;obtain ⟨x,hxj,hxs⟩:=Zw S7 hvf;have ex:x=(d.1,d.2.1):=by
     rw [XT hk ok,Qbc,hd] at hxj;exact (Option.some.inj hxj).symm
    subst ex;have hat1:atI xf (drw U 12 % (Z.length:Int))=some vf:=by rw [hj];exact Yk hvf
    have hat2:atI Z (drw U 12 % (Z.length:Int))=some (.ref a1):=by rw [hj];exact Yk hvd
    refine ⟨_,rfl,_,rfl,lf,_,_,_,rfl,rfl,SqL.of (s78 _ _ hlf7),hat1,by show 1<=sizeLine;decide,fun pg hpg=>Zf ?_⟩;have w4:=Zd (o:=.tup [vf]) hpg;have s79:=s78.trans w4;refine ⟨_,rfl,_,rfl,ld,_,_,_,rfl,rfl,SqL.of (s79 _ _ hld7),hat2,a1,_,2,_,rfl,rfl,SqT.of (s79 _ _ ha1),rfl,Zf ?_⟩;have hdm:=Qae hd;refine Zy fun Y g=>?_;obtain ⟨jj,sm,y,hjj,htr,hput⟩:=Zbq hdm;refine g ?_;clear g Y;have hst:(d.1,d.2.1)∈ZS tm:=by rw [XT hk ok];exact Qbp.mpr ⟨d,hdm,rfl⟩
    obtain ⟨tn,hS⟩:=stp_ex hst;have hfl:=Zbk hS hjj htr;rw [<-hput] at hfl;have hc9:=s79 _ _ hc1;rw [<-hfl] at hc9;have hle:=hS.len;exact hM _ _ ⟨pg,c1,[vf],[(d.1,d.2.1)],tn,_,rfl,Zc,.cons (hxs.same s79) .nil,hc9,hS.ok ok,by lia,.inr ⟨_,rfl,hst,hS⟩,s79⟩
   ·exact hM _ _ ⟨g0,zw,[],[],tm,none,rfl,w3 _ _ hg,.nil,w3 _ _ hzw7,ok,by lia,.inl ⟨rfl,rfl⟩,w3⟩
  rintro σ H8 O;refine Zy fun Y g=>?_;obtain ⟨pg,pa,gs,gc,ta,v7,rfl,hpg,G8,hpa,oka,hal,hgd,s8⟩:=O;refine g ?_;clear g Y;have hzw8:=s8 _ _ hzw7;have hlf8:=s8 _ _ hlf7;have hph8:=s8 _ _ hph;have S8:=S7.same s8;have ha8:=Z7 ha7 s8;clear hzw7 hlf7 hld7 S7 D7 ha7 hph hg s8;have hsl:tm.flat.length<=300:=by lia
  refine ⟨_,rfl,zw,_,tm,rfl,hzw8,hk,ok,by lia,by lia,fun lp xp H9 _ hlp P9 s9=>?_⟩;refine ⟨lp,rfl,⟨_,SqL.of hlp⟩,WK (K:=K) (a:=lp) (xs:=xp) (fun i σ H'=>∃(u8 u9 u10:Option V),σ=[some (.ref a),some (.ref zw),some (.ref ld),some (.ref lf),some (.ref ph),some (.ref pg),some (.ref pa),v7,u8,u9,u10,none,none]/\Z0 H9 H') ⟨none,none,none,rfl,Z0.refl _⟩ (fun i σ H' _ ⟨_,_,_,_,s⟩=>SqL.of (s _ _ hlp)) ?_ ?_⟩
  ·rintro i v σ H' hv O
   refine Zy fun Y g=>?_;obtain ⟨u8,u9,u10,rfl,s'⟩:=O;refine g ?_;clear g Y;refine Zy fun Y g=>?_;obtain ⟨z,hz,a1,b,c,rfl,ha1,hb,hc⟩:=Zw P9 hv;refine g ?_;clear g Y;have hzm:=Qae hz;have hph':=s' _ _ (s9 _ _ hph8);refine ⟨a1,_,rfl,SqT.of (s' _ _ ha1),rfl,_,_,rfl,_,_,rfl,rfl,?_⟩;refine ⟨_,rfl,ph,rfl,⟨_,SqT.of hph'⟩,W3 (K:=K) (a:=ph) (xs:=Wo.map V.str) (fun j σ H''=>∃(u10:Option V),σ=[some (.ref a),some (.ref zw),some (.ref ld),some (.ref lf),some (.ref ph),some (.ref pg),some (.ref pa),v7,some (.ref b),some (.ref c),u10,none,none]/\Z0 H9 H'') ⟨u10,rfl,s'⟩ (fun j σ H'' _ ⟨_,_,s⟩=>SqT.of (s _ _ (s9 _ _ hph8))) ?_ ?_⟩
   ·rintro j y σ H'' hy O
    refine Zy fun Y g=>?_;obtain ⟨w10,rfl,s''⟩:=O;refine g ?_;clear g Y;obtain ⟨h,hh,rfl⟩:∃h,Wo[j]?=some h/\y=.str h:=by
     rw [Qbc] at hy;cases e:Wo[j]? with
     | none=>rw [e] at hy;cases hy
     | some h=>rw [e] at hy;exact ⟨h,rfl,(Option.some.inj hy).symm⟩
    have hhm:=Qae hh;refine Zf ?_;refine ⟨_,rfl,_,rfl,by show 2<=sizeLine;decide,fun t1 ht1=>?_⟩;have v1:=Zd (o:=.tup [.ref b,.str h]) ht1;have s91:=s''.trans v1;have at1:WE (upd H'' t1 (.tup [.ref b,.str h])) (.ref t1) (z.1,h):=⟨t1,b,rfl,Zc,s91 _ _ hb⟩;have S9:=(S8.same s9).same s91;refine ⟨_,rfl,lf,xf,_,rfl,SqL.of (s91 _ _ (s9 _ _ hlf8)),kC S9 at1,_,rfl,?_⟩;rw [Qa4 rfl,jD S9]
    by_cases hin:(z.1,h)∈ZS tm
    ·rw [Qad hin]
     exact Yt ⟨_,rfl,s91⟩
    ·rw [Qal hin]
     refine Yq ⟨_,rfl,_,rfl,_,rfl,by show 2<=sizeLine;decide,fun t2 ht2=>⟨by show 1<=sizeLine;decide,fun t3 ht3=>?_⟩⟩;have v2:=Zd (o:=.tup [.ref b,.str h]) ht2;have v3:=Zd (o:=.tup [.ref t2]) ht3;have s93:=s91.trans (v2.trans v3);refine ⟨zw,t3,_,tm,[.ref t2],[(z.1,h)],rfl,s93 _ _ (s9 _ _ hzw8),Zc,.cons ⟨t2,b,rfl,v3 _ _ Zc,s93 _ _ hb⟩ .nil,hk,ok,(fun x hx=>by rw [Qai.mp hx];exact uv hzm (by lia) hhm),.here hin hsl,fun H10 s10=>⟨_,rfl,Yt ⟨_,rfl,s93.trans s10⟩⟩⟩
   ·rintro σ H'' O
    refine Zy fun Y g=>?_;obtain ⟨w10,rfl,s''⟩:=O;refine g ?_;clear g Y;exact ⟨_,_,_,rfl,s''⟩
  rintro σ H10 O;refine Zy fun Y g=>?_;obtain ⟨u8,u9,u10,rfl,s10⟩:=O;refine g ?_;clear g Y;have I:=s9.trans s10;have hzw10:=I _ _ hzw8;have hlf10:=I _ _ hlf8;have hph10:=I _ _ hph8;have hpg10:=I _ _ hpg;have hpa10:=I _ _ hpa;have S10:=S8.same I;have G10:=G8.same I;have ha10:=Z7 ha8 I;clear hzw8 hlf8 hph8 hpg hpa S8 G8 ha8 s9 s10 I P9 hlp;have hgl:gs.length<=1:=by
   rw [G10.length];rcases hgd with ⟨rfl,_⟩ | ⟨x,rfl,_⟩
   ·exact Qa8 _
   ·exact Qao 1
  have hgsh:∀x∈gc,uu x:=fun x hx=>gp (hgd.all x hx) (by lia);refine ⟨_,rfl,_,rfl,a,zw,U,_,tm,rfl,ha10,hl,hzw10,hk,ok,by lia,fun zb qb H11 hbad hbl hbn hzb s11=>?_⟩;obtain ⟨j,hj,hjl⟩:∃j:Nat,drw U 13 % 16=(j:Int)/\j < 16:=⟨(drw U 13 % 16).toNat,by lia,by lia⟩;obtain ⟨r,hr,hrm⟩:∃r,Wo[j]?=some r/\r∈Wo:=by
   have:j < Wo.length:=hjl;exact ⟨_,Qag this,Qb4 this⟩
  have hat:atI (Wo.map V.str) (drw U 13 % 16)=some (.str r):=by rw [hj];exact Yk (by rw [Qbc,hr];rfl)
  refine ⟨_,rfl,_,rfl,a,U,13,rfl,Z7 ha10 s11,hl,by decide,fun H12 s12=>⟨_,_,rfl,rfl,(by show (0:Int) < 16;decide),ph,_,_,_,rfl,rfl,SqT.of (s12 _ _ (s11 _ _ hph10)),hat,by show 2<=sizeLine;decide,fun tb htb=>Zf ?_⟩⟩;have w3:=Zd (o:=.tup [.ref zb,.str r]) htb;have htb':=Zc (H:=H12) (a:=tb) (o:=.tup [.ref zb,.str r]);have s13:=s11.trans (s12.trans w3);have hzb':=w3 _ _ (s12 _ _ hzb);generalize upd H12 tb (.tup [.ref zb,.str r])=H13 at *;have hzw13:=s13 _ _ hzw10;have hlf13:=s13 _ _ hlf10;have hpg13:=s13 _ _ hpg10;have hpa13:=s13 _ _ hpa10;have S13:=S10.same s13;have G13:=G10.same s13;have atb:WE H13 (.ref tb) (qb,r):=⟨tb,zb,rfl,htb',hzb'⟩;clear hzw10 hlf10 hph10 hpg10 hpa10 S10 G10 ha10 s11 s12 s13 w3 hzb htb;have hbsh:uu (qb,r):=⟨Qa0 hbl (by decide),hbn,G3 r hrm⟩;refine ⟨_,rfl,_,rfl,by show 1<=sizeLine;decide,fun t1 ht1=>?_⟩;have w4:=Zd (o:=.tup [.ref tb]) ht1;refine ⟨zw,t1,_,tm,[.ref tb],[(qb,r)],rfl,w4 _ _ hzw13,Zc,.cons (atb.same w4) .nil,hk,ok,(fun x hx=>by rw [Qai.mp hx];exact hbsh),.here (hbad r) hsl,fun H14 s14=>⟨_,rfl,Yt ?_⟩⟩;have s134:=w4.trans s14;have hdl2:=kB ta;refine ⟨_,rfl,pa,_,ta,rfl,s134 _ _ hpa13,hk,oka,hal,fun l2 x2 H15 _ hl2 D15 s15=>?_⟩;refine ⟨l2,rfl,⟨_,SqL.of hl2⟩,xU hl2 D15 (by rw [D15.length];lia) fun lt xt H16 _ hlt S16 s16=>Zf ?_⟩;rw [<-XT hk oka] at S16;have S:=s134.trans (s15.trans s16);have hzw16:=S _ _ hzw13;have hlf16:=S _ _ hlf13;have hpg16:=S _ _ hpg13;have S16':=S13.same S;have G16:=G13.same S;have atb16:=atb.same S;clear hzw13 hlf13 hpg13 hpa13 S13 G13 atb htb' hzb' w4 s14 s134 s15 s16 S D15 hl2 ht1;have sz:∀n,n<=1000->n<=sizeLine:=fun n hn=>Qbg (Zv hn);refine ji (fun σ H'=>σ=[some (.ref a),some (.ref zw),some (.ref ld),some (.ref lf),some (.ref ph),some (.ref pg),some (.ref pa),v7,u8,u9,u10,some (.ref tb),some (.ref lt)]/\Z0 H16 H') (fun M _ _ _ hM=>?_) ?_
  ·refine ⟨_,rfl,_,rfl,lt,xt,_,rfl,SqL.of hlt,kC S16 atb16,_,rfl,?_⟩
   rw [Qa4 rfl,jD S16]
   by_cases hin:(qb,r)∈ZS ta
   ·rw [Qad hin]
    exact Yt (hM _ _ ⟨rfl,Z0.refl _⟩)
   ·rw [Qal hin]
    refine Yq ⟨_,rfl,_,rfl,_,rfl,by show 1<=sizeLine;decide,fun t5 ht5=>?_⟩;have w5:=Zd (o:=.tup [.ref tb]) ht5;refine ⟨pg,t5,_,_,rfl,rfl,w5 _ _ hpg16,Zc,sz _ (by show gs.length + 1<=1000;lia),fun pc Hc hpc sc=>?_⟩;have s5c:=w5.trans sc;refine ⟨zw,pc,_,tm,gs++[.ref tb],gc++[(qb,r)],rfl,s5c _ _ hzw16,hpc,(G16.same s5c).snoc (b:=(qb,r)) (atb16.same s5c),hk,ok,(fun x hx=>?_),hgd.ref hk ok hsl (.here hin (by lia)),fun H17 s17=>⟨_,rfl,Yt (hM _ _ ⟨rfl,s5c.trans s17⟩)⟩⟩;rcases Qam.mp hx with h | h
    ·exact hgsh x h
    ·rw [Qai.mp h];exact hbsh
  rintro σ H17 O;refine Zy fun Y g=>?_;obtain ⟨rfl,s17⟩:=O;refine g ?_;clear g Y;have hpg17:=s17 _ _ hpg16;refine ⟨_,rfl,_,rfl,by show 1<=sizeLine;decide,fun t6 ht6=>⟨by show 2<=sizeLine;decide,fun t7 ht7=>⟨by show 1<=sizeLine;decide,fun t8 ht8=>?_⟩⟩⟩;have w6:=Zd (o:=.tup [.int 9]) ht6;have w7:=Zd (o:=.tup [.ref t6,.str "addboth"]) ht7;have w8:=Zd (o:=.tup [.ref t7]) ht8;have at9:=w8 _ _ (w7 _ _ (Zc (H:=H17) (a:=t6) (o:=.tup [.int 9])));have at7:=w8 _ _ (Zc (H:=upd H17 t6 (.tup [.int 9])) (a:=t7) (o:=.tup [.ref t6,.str "addboth"]));have at8:=Zc (H:=upd (upd H17 t6 (.tup [.int 9])) t7 (.tup [.ref t6,.str "addboth"])) (a:=t8) (o:=.tup [.ref t7]);have s178:=w6.trans (w7.trans w8);generalize upd (upd (upd H17 t6 (.tup [.int 9])) t7 (.tup [.ref t6,.str "addboth"])) t8 (.tup [.ref t7])=H18 at *;refine ⟨pg,t8,_,_,rfl,rfl,s178 _ _ hpg17,at8,sz _ (by show gs.length + 1<=1000;lia),fun pc Hc hpc sc=>?_⟩;refine ⟨_,rfl,pc,pg,_,_,rfl,rfl,hpc,sc _ _ (s178 _ _ hpg17),sz _ (by rw [Qab];show gs.length + 1 + gs.length<=1000;lia),fun pd Hd hpd sd=>?_⟩;have scd:=sc.trans sd;have s16d:=s17.trans (s178.trans scd);have Gd:=G16.same s16d;have nine:WE Hd (.ref t7) ([9],"addboth"):=⟨t7,t6,rfl,scd _ _ at7,scd _ _ at9⟩;refine ⟨zw,pd,_,tm,_,(gc++[(([9]:List Int),("addboth" : Str))])++gc,rfl,s16d _ _ hzw16,hpd,Jr (Gd.snoc (b:=(([9]:List Int),("addboth" : Str))) nine) Gd,hk,ok,(fun x hx=>?_),by rw [Qbb];exact hgd.ref hk ok hsl (.here gm (by lia)),fun H19 s19=>⟨_,rfl,Yt ?_⟩⟩
  ·rcases Qam.mp hx with h | h
   ·rcases Qam.mp h with h | h
    ·exact hgsh x h
    ·rw [Qai.mp h];exact Zbs
   ·exact hgsh x h
  have s1619:=s16d.trans s19;refine ⟨_,rfl,zw,_,tm,rfl,s1619 _ _ hzw16,hk,ok,by lia,fun l9 x9 H20 _ hl9 S20 s20=>?_⟩;have s1620:=s1619.trans s20;have Sf:=S16'.same s1620;refine ⟨_,rfl,l9,lf,x9,xf,fun _=>true,rfl,rfl,hl9,s1620 _ _ hlf16,fun _=>gi S20 Sf,?_⟩;rw [show ((List.range xf.length).all (fun _=>true) && (x9.length == xf.length))=true by rw [S20.length,Sf.length];simp];exact k _
end
def FnIn(K:PySem.W.Frag)(x q:Str)(st:Stmt)(f:Addr)(y:Value->Prop):Prop:=∃oc od E kV I g G d ct,PySem.W.nsIn K mainGlobals x=some (some (.ref f))/\K.lookup f=some ⟨oc,od,.func (PySem.W.fnOf x q (W4 st) (Xw st) (Zm st) .none kV I g G d ct),E⟩/\PySem.W.codeIn K d q=true/\PySem.W.keepIn K (.ref f)=true/\y d
abbrev Fi(K:PySem.W.Frag)(x:Str)(st:Stmt)(f:Addr):Prop:=FnIn K x x st f fun _=>True
theorem Yh{hp:Heap}{mg:Str->Option Value}{st:Stmt}{E:Value->Prop}(X:K.In hp)(G:hp.Ns mainGlobals mg)(d:FnIn K x x st C E)(ps:List Str)(h:∀(kV y I:Value) (J:Option Addr) (g ct:Value) (f:List Value),f.length=ps.length->bindArgs (PySem.W.fnOf x x (W4 st) (Xw st) (Zm st) .none kV y I J g ct) ⟨f,[]⟩=pure (ps.zip f)):∃fd,Df K mg x st ps C fd/\E fd.code:=by
 obtain ⟨_,_,_,_,_,_,_,_,_,a,l,c,k,q⟩:=d;have F:=gP (st:=st) l c k;exact ⟨_,⟨F,PySem.W.mg_of X G a,F.binds h⟩,q⟩
theorem all_mk {l:W.OpenLaw} {w:World} {K:W.Frag} {h:Heap} {mg:Str->Option Value} {fa:Addr} {f0 f1 f2 f3 f4 f5 f6 f7 f8 f9 f10 f11 f12 f13 f14 f15 f16 f17 f18 f19 f20 f21 f22 f23 f24 f25 f26 f27 f28 f29 f30 f31 f32 f33:Addr} (X:K.In h) (G:h.Ns mainGlobals mg) (hfa:mg "law" = some (.ref fa))
  {XWidthError:Addr} (xa_WidthError:W.nsIn K mainGlobals "WidthError" = some (some (.ref XWidthError)))
  {XNoSum:Addr} (xa_NoSum:W.nsIn K mainGlobals "NoSum" = some (some (.ref XNoSum)))
  {XNoClaim:Addr} (xa_NoClaim:W.nsIn K mainGlobals "NoClaim" = some (some (.ref XNoClaim)))
  {XNoWords:Addr} (xa_NoWords:W.nsIn K mainGlobals "NoWords" = some (some (.ref XNoWords)))
  {XNoTurning:Addr} (xa_NoTurning:W.nsIn K mainGlobals "NoTurning" = some (some (.ref XNoTurning)))
  {XNoShorter:Addr} (xa_NoShorter:W.nsIn K mainGlobals "NoShorter" = some (some (.ref XNoShorter)))
  {XNoAsk:Addr} (xa_NoAsk:W.nsIn K mainGlobals "NoAsk" = some (some (.ref XNoAsk)))
  {XNoName:Addr} (xa_NoName:W.nsIn K mainGlobals "NoName" = some (some (.ref XNoName)))
  (xe_WidthError:qD K XWidthError=true) (xk_WidthError:W.keepIn K (.ref XWidthError)=true)
  (xe_NoSum:qD K XNoSum=true) (xk_NoSum:W.keepIn K (.ref XNoSum)=true)
  (xe_NoClaim:qD K XNoClaim=true) (xk_NoClaim:W.keepIn K (.ref XNoClaim)=true)
  (xe_NoWords:qD K XNoWords=true) (xk_NoWords:W.keepIn K (.ref XNoWords)=true)
  (xe_NoTurning:qD K XNoTurning=true) (xk_NoTurning:W.keepIn K (.ref XNoTurning)=true)
  (xe_NoShorter:qD K XNoShorter=true) (xk_NoShorter:W.keepIn K (.ref XNoShorter)=true)
  (xe_NoAsk:qD K XNoAsk=true) (xk_NoAsk:W.keepIn K (.ref XNoAsk)=true)
  (xb_NoSum:X0 K XNoSum XWidthError=true)
  (xb_NoClaim:X0 K XNoClaim XWidthError=true)
  (xb_NoWords:X0 K XNoWords XWidthError=true)
  (xb_NoTurning:X0 K XNoTurning XWidthError=true)
  (xb_NoShorter:X0 K XNoShorter XWidthError=true)
  (xb_NoAsk:X0 K XNoAsk XWidthError=true)
  (xb_NoName:X0 K XNoName XWidthError=true)
  (xc_WidthError:GG K XWidthError=true)
  (xc_NoSum:GG K XNoSum=true)
  (xc_NoClaim:GG K XNoClaim=true)
  (xc_NoWords:GG K XNoWords=true)
  (xc_NoTurning:GG K XNoTurning=true)
  (xc_NoShorter:GG K XNoShorter=true)
  (xc_NoAsk:GG K XNoAsk=true)
  (xc_NoName:GG K XNoName=true)
  (d0:Fi K "is_sum_word" X2 f0)
  (d1:Fi K "is_claim_word" YQ f1)
  (d2:Fi K "sums_behind" X3 f2)
  (d3:Fi K "claims_behind" YR f3)
  (d4:Fi K "is_made_of" Xb f4)
  (d5:Fi K "_law_draw" Jj f5)
  (d6:Fi K "_law_arity" W8 f6)
  (d7:Fi K "_law_carries" YI f7)
  (d8:Fi K "_law_joined" XQ f8)
  (d9:Fi K "parts_of" Jk f9)
  (d10:Fi K "is_name" Gf f10)
  (d11:Fi K "_law_word" Jl f11)
  (d12:Fi K "_law_parts" W9 f12)
  (d13:Fi K "part_end" Jm f13)
  (d14:Fi K "paths_of" Jn f14)
  (d15:Fi K "is_part_name" Xg f15)
  (d16:Fi K "_law_leaf" Jo f16)
  (d17:Fi K "_law_turned_two" YA f17)
  (d18:Fi K "_law_turned_one" YB f18)
  (d19:Fi K "parts_bound" X4 f19)
  (d20:Fi K "filled" qG f20)
  (d21:Fi K "_law_turned" XR f21)
  (d22:Fi K "stepped_once" Y3 f22)
  (d23:Fi K "steps" qH f23)
  (d24:Fi K "led" Za2 f24)
  (d25:Fi K "_law_refused" X5 f25)
  (d26:Fi K "_law_two" Gg f26)
  (d27:Fi K "_law_sum" Gh f27)
  (d28:Fi K "_law_fit" Gi f28)
  (d29:Fi K "_law_paths" WA f29)
  (d30:Fi K "_law_put" Gj f30)
  (d31:Fi K "_law_steps" WC f31)
  (d32:Fi K "_law_bad_path" Y4 f32)
  (d33:Fi K "law" qI f33)
  {GSUM_PARTS:Addr} {ESUM_PARTS:Array DictEntry} {PSUM_PARTS:Nat} (ga_SUM_PARTS:W.nsIn K mainGlobals "SUM_PARTS" = some (some (.ref GSUM_PARTS))) (gl_SUM_PARTS:K.lookup GSUM_PARTS=some { cls:=.type "dict",dict:=none,data:=.dict ESUM_PARTS PSUM_PARTS,slots:=#[] }) (ge_SUM_PARTS:KTab w.params ESUM_PARTS.toList [("not",1),("neg",1),("twice",1),("low",1),("and",2),("or",2),("odd",2),("add",2),("sub",2),("pick",3)]) (gn_SUM_PARTS:(GSUM_PARTS == sysModules)=false)
  {GSUMS_IN_CLAIM:Addr} {ESUMS_IN_CLAIM:Array DictEntry} {PSUMS_IN_CLAIM:Nat} (ga_SUMS_IN_CLAIM:W.nsIn K mainGlobals "SUMS_IN_CLAIM" = some (some (.ref GSUMS_IN_CLAIM))) (gl_SUMS_IN_CLAIM:K.lookup GSUMS_IN_CLAIM=some { cls:=.type "dict",dict:=none,data:=.dict ESUMS_IN_CLAIM PSUMS_IN_CLAIM,slots:=#[] }) (ge_SUMS_IN_CLAIM:KTab w.params ESUMS_IN_CLAIM.toList [("same",2),("under",2),("beneath",2),("sign",1),("nought",1)]) (gn_SUMS_IN_CLAIM:(GSUMS_IN_CLAIM == sysModules)=false)
  {GCLAIMS_IN_CLAIM:Addr} {ECLAIMS_IN_CLAIM:Array DictEntry} {PCLAIMS_IN_CLAIM:Nat} (ga_CLAIMS_IN_CLAIM:W.nsIn K mainGlobals "CLAIMS_IN_CLAIM" = some (some (.ref GCLAIMS_IN_CLAIM))) (gl_CLAIMS_IN_CLAIM:K.lookup GCLAIMS_IN_CLAIM=some { cls:=.type "dict",dict:=none,data:=.dict ECLAIMS_IN_CLAIM PCLAIMS_IN_CLAIM,slots:=#[] }) (ge_CLAIMS_IN_CLAIM:KTab w.params ECLAIMS_IN_CLAIM.toList [("both",2),("either",2),("so",2),("never",1),("yes",0)]) (gn_CLAIMS_IN_CLAIM:(GCLAIMS_IN_CLAIM == sysModules)=false)
  {KLETTERS:Tok} (ga_LETTERS:W.nsIn K mainGlobals "LETTERS" = some (some (.str "abcdefghijklmnopqrstuvwxyz" KLETTERS)))
  {KLONGEST_NAME:Tok} (ga_LONGEST_NAME:W.nsIn K mainGlobals "LONGEST_NAME" = some (some (.int 8 KLONGEST_NAME)))
  {GTURNINGS:Addr} (ga_TURNINGS:W.nsIn K mainGlobals "TURNINGS" = some (some (.ref GTURNINGS))) (gr_TURNINGS:Zbc K (.ref GTURNINGS) turns=true)
  (q_not:W.kitAny K (.ref XNoTurning) [.ref XNoAsk,.ref XNoClaim,.ref XNoName,.ref XNoShorter,.ref XNoSum,.ref XNoWords]=some false)
  (q_val:W.kitOne K (.ref XNoTurning) (.type "ValueError")=some true)
  (z_ValueError:W.nsIn K mainGlobals "ValueError" = some none)
  (z_all:W.nsIn K mainGlobals "all" = some none)
  (z_enumerate:W.nsIn K mainGlobals "enumerate" = some none)
  (z_int:W.nsIn K mainGlobals "int" = some none)
  (z_isinstance:W.nsIn K mainGlobals "isinstance" = some none)
  (z_len:W.nsIn K mainGlobals "len" = some none)
  (z_list:W.nsIn K mainGlobals "list" = some none)
  (z_max:W.nsIn K mainGlobals "max" = some none)
  (z_min:W.nsIn K mainGlobals "min" = some none)
  (z_range:W.nsIn K mainGlobals "range" = some none)
  (z_str:W.nsIn K mainGlobals "str" = some none)
  (z_tuple:W.nsIn K mainGlobals "tuple" = some none)
  : ∃fd:FuncData,(∀(s:Shared) (v:Value),BindsTo s fd ⟨[v],[]⟩ [("script",v)])/\∀base:Heap,K.In base->base.Ns mainGlobals mg->Z5 l.prog w K mg base CX0 57 fa fd ["script"] (jH K):=by
 obtain ⟨_,_,_,kV33,dc33,pm33,an33,cd33,ct33,a33,l33,c33,k33,_⟩:=d33;have e:=hfa.symm.trans (Qcy X G a33);cases e;obtain ⟨_,D0,q0⟩:=Yh X G d0 ["text"] fun _ _ _ _ _ _=>zu fun _=>rfl;obtain ⟨_,D1,q1⟩:=Yh X G d1 ["text"] fun _ _ _ _ _ _=>zu fun _=>rfl;obtain ⟨_,D2,q2⟩:=Yh X G d2 ["word"] fun _ _ _ _ _ _=>zu fun _=>rfl;obtain ⟨_,D3,q3⟩:=Yh X G d3 ["word"] fun _ _ _ _ _ _=>zu fun _=>rfl;obtain ⟨_,D4,q4⟩:=Yh X G d4 ["text","signs"] fun _ _ _ _ _ _=>vH fun _ _=>rfl;obtain ⟨_,D5,q5⟩:=Yh X G d5 ["script","k"] fun _ _ _ _ _ _=>vH fun _ _=>rfl;obtain ⟨_,D6,q6⟩:=Yh X G d6 ["word"] fun _ _ _ _ _ _=>zu fun _=>rfl;obtain ⟨_,D7,q7⟩:=Yh X G d7 ["words"] fun _ _ _ _ _ _=>zu fun _=>rfl;obtain ⟨_,D8,q8⟩:=Yh X G d8 ["word","shares"] fun _ _ _ _ _ _=>vH fun _ _=>rfl;obtain ⟨_,D9,q9⟩:=Yh X G d9 ["word"] fun _ _ _ _ _ _=>zu fun _=>rfl;obtain ⟨_,D10,q10⟩:=Yh X G d10 ["text"] fun _ _ _ _ _ _=>zu fun _=>rfl;obtain ⟨_,D11,q11⟩:=Yh X G d11 ["script","i"] fun _ _ _ _ _ _=>vH fun _ _=>rfl;obtain ⟨_,D12,q12⟩:=Yh X G d12 ["words"] fun _ _ _ _ _ _=>zu fun _=>rfl;obtain ⟨_,D13,q13⟩:=Yh X G d13 ["words","begin"] fun _ _ _ _ _ _=>vH fun _ _=>rfl;obtain ⟨_,D14,q14⟩:=Yh X G d14 ["words"] fun _ _ _ _ _ _=>zu fun _=>rfl;obtain ⟨_,D15,q15⟩:=Yh X G d15 ["word"] fun _ _ _ _ _ _=>zu fun _=>rfl;obtain ⟨_,D16,q16⟩:=Yh X G d16 ["script","draw","many"] fun _ _ _ _ _ _=>Zcm fun _ _ _=>rfl;obtain ⟨_,D17,q17⟩:=Yh X G d17 ["how","word","shares"] fun _ _ _ _ _ _=>Zcm fun _ _ _=>rfl;obtain ⟨_,D18,q18⟩:=Yh X G d18 ["how","word","one"] fun _ _ _ _ _ _=>Zcm fun _ _ _=>rfl;obtain ⟨_,D19,q19⟩:=Yh X G d19 ["form","words"] fun _ _ _ _ _ _=>vH fun _ _=>rfl;obtain ⟨_,D20,q20⟩:=Yh X G d20 ["form","bound"] fun _ _ _ _ _ _=>vH fun _ _=>rfl;obtain ⟨_,D21,q21⟩:=Yh X G d21 ["how","words"] fun _ _ _ _ _ _=>vH fun _ _=>rfl;obtain ⟨_,D22,q22⟩:=Yh X G d22 ["words","path","rule"] fun _ _ _ _ _ _=>Zcm fun _ _ _=>rfl;obtain ⟨_,D23,q23⟩:=Yh X G d23 ["words"] fun _ _ _ _ _ _=>zu fun _=>rfl;obtain ⟨_,D24,q24⟩:=Yh X G d24 ["words","chain"] fun _ _ _ _ _ _=>vH fun _ _=>rfl;obtain ⟨_,D25,q25⟩:=Yh X G d25 ["words","chain"] fun _ _ _ _ _ _=>vH fun _ _=>rfl;obtain ⟨_,D26,q26⟩:=Yh X G d26 ["script","at","many","fuel"] fun _ _ _ _ _ _=>len4 fun _ _ _ _=>rfl;obtain ⟨_,D27,q27⟩:=Yh X G d27 ["script","at","many","fuel"] fun _ _ _ _ _ _=>len4 fun _ _ _ _=>rfl;obtain ⟨_,D28,q28⟩:=Yh X G d28 ["script","at","many","most"] fun _ _ _ _ _ _=>len4 fun _ _ _ _=>rfl;obtain ⟨_,D29,q29⟩:=Yh X G d29 ["words"] fun _ _ _ _ _ _=>zu fun _=>rfl;obtain ⟨_,D30,q30⟩:=Yh X G d30 ["words","path","part"] fun _ _ _ _ _ _=>Zcm fun _ _ _=>rfl;obtain ⟨_,D31,q31⟩:=Yh X G d31 ["words"] fun _ _ _ _ _ _=>zu fun _=>rfl;obtain ⟨_,D32,q32⟩:=Yh X G d32 ["script","words"] fun _ _ _ _ _ _=>vH fun _ _=>rfl;have F33:=gP (st:=qI) l33 c33 k33;have b33:=F33.binds (ps:=["script"]) fun _ _ _ _ _ _=>zu fun _=>rfl;have T:Txt K w mg ⟨f0,_,f1,_,f2,_,f3,_,f4,_,f5,_,f6,_,f7,_,f8,_,f9,_,f10,_,f11,_,f12,_,f13,_,f14,_,f15,_,f16,_,f17,_,f18,_,f19,_,f20,_,f21,_,f22,_,f23,_,f24,_,f25,_,f26,_,f27,_,f28,_,f29,_,f30,_,f31,_,f32,_,fa,_,XWidthError,XNoSum,XNoClaim,XNoWords,XNoTurning,XNoShorter,XNoAsk,XNoName,GSUM_PARTS,GSUMS_IN_CLAIM,GCLAIMS_IN_CLAIM,KLETTERS,KLONGEST_NAME,GTURNINGS⟩:=⟨⟨Qcy X G ga_SUM_PARTS,⟨⟨_,_,gl_SUM_PARTS,ge_SUM_PARTS⟩,by decide +kernel,gn_SUM_PARTS⟩⟩,⟨Qcy X G ga_SUMS_IN_CLAIM,⟨⟨_,_,gl_SUMS_IN_CLAIM,ge_SUMS_IN_CLAIM⟩,by decide +kernel,gn_SUMS_IN_CLAIM⟩⟩,⟨Qcy X G ga_CLAIMS_IN_CLAIM,⟨⟨_,_,gl_CLAIMS_IN_CLAIM,ge_CLAIMS_IN_CLAIM⟩,by decide +kernel,gn_CLAIMS_IN_CLAIM⟩⟩,Qcy X G ga_LETTERS,Qcy X G ga_LONGEST_NAME,⟨Qcy X G ga_TURNINGS,Zbd gr_TURNINGS⟩,D0,D1,D2,D3,D4,D5,D6,D7,D8,D9,D10,D11,D12,D13,D14,D15,D16,D17,D18,D19,D20,D21,D22,D23,D24,D25,D26,D27,D28,D29,D30,D31,D32,⟨F33,Qcy X G a33,b33⟩,Qcq X G z_ValueError,Qcq X G z_all,Qcq X G z_enumerate,Qcq X G z_int,Qcq X G z_isinstance,Qcq X G z_len,Qcq X G z_list,Qcq X G z_max,Qcq X G z_min,Qcq X G z_range,Qcq X G z_str,Qcq X G z_tuple⟩
 exact ⟨_,fun s v=>(show BindsTo s (W.fnOf "law" "law" (W4 qI) (Xw qI) (Zm qI) .none kV33 dc33 pm33 an33 cd33 ct33) ⟨[v],[]⟩ [("script",v)] from .of_eq rfl),fun base hKb _=>ok_law T ⟨Qcy X G xa_WidthError,Qcy X G xa_NoSum,Qcy X G xa_NoClaim,Qcy X G xa_NoWords,Qcy X G xa_NoTurning,Qcy X G xa_NoShorter,Qcy X G xa_NoAsk,Qcy X G xa_NoName,W7 hKb (Qcy X G xa_WidthError) xe_WidthError,xk_WidthError,W7 hKb (Qcy X G xa_NoSum) xe_NoSum,xk_NoSum,W7 hKb (Qcy X G xa_NoClaim) xe_NoClaim,xk_NoClaim,W7 hKb (Qcy X G xa_NoWords) xe_NoWords,xk_NoWords,W7 hKb (Qcy X G xa_NoTurning) xe_NoTurning,xk_NoTurning,W7 hKb (Qcy X G xa_NoShorter) xe_NoShorter,xk_NoShorter,W7 hKb (Qcy X G xa_NoAsk) xe_NoAsk,xk_NoAsk,X1 hKb xb_NoSum,X1 hKb xb_NoClaim,X1 hKb xb_NoWords,X1 hKb xb_NoTurning,X1 hKb xb_NoShorter,X1 hKb xb_NoAsk,X1 hKb xb_NoName,J3 xc_WidthError,J3 xc_NoSum,J3 xc_NoClaim,J3 xc_NoWords,J3 xc_NoTurning,J3 xc_NoShorter,J3 xc_NoAsk,J3 xc_NoName,q_not,q_val⟩⟩
theorem walk{l:W.OpenLaw}{q:Program}{loose:List Str}{XP:(Str->Option Value)->Heap->Prop}{YP:World->Heap->Prop}{d:DefRec}{K:Params->W.Frag}(hn:l.most=some 63)(hdf:d.params.defaults=[])
  (hY:∀(w:World) (h:Heap),YP w h->(K w.params).In h)
  (F:∀(w:World) (mg:Str->Option Value) (fa:Addr) (h:Heap),(K w.params).In h->h.Ns mainGlobals mg->mg d.name=some (.ref fa) ->
   ∃fd:FuncData,(∀(s:Shared) (u:Value),BindsTo s fd ⟨[u],[]⟩ [("script",u)])/\∀base:Heap,(K w.params).In base->base.Ns mainGlobals mg->Z5 l.prog w (K w.params) mg base CX0 57 fa fd ["script"] (jH (K w.params))) :
  W.WalkO q loose XP YP l.row.toRowW d [] (fun f vs=>PySem.call f vs) :=
 L2.walk_of (n:=63) (k:=57) (x := "script") (CX:=fun _=>CX0) (sp:=fun w=>jH (K w.params)) hn (by decide) hdf ⟨rfl,by decide,by decide⟩ hY F (fun _ _ a ns hl _ hS=>⟨a,ns,rfl,hS,hl,fun _=>rfl⟩) fun _ _ _ _ _ z=>z
end Lw
end
open PySem PySem.W PyProof.Rows
set_option maxRecDepth 100000 in
set_option maxHeartbeats 0 in
theorem PySem.Challenge.cw_everywidth_k37_no_turning_holds : PySem.Challenge.rw_everywidth_k37_no_turning.Holds := by
 w_on;refine holds_law Hw.ws fun said=>?_
 refine holds_openX Hw.left (fun s e=>xl_of s (Qbd.mp e).1) XL.keeps
  (by rfl) (by rfl) (by rfl)
  (fun s e=>recFacts_of (Qbd.mp e).2) (by rfl)
  (by first | assumption | decide +kernel) (by decide +kernel) ⟨rfl,rfl,rfl,rfl,rfl,by decide +kernel⟩ ?hw ?_
 (case hw=>w_witness2)
 refine L2.walk_X (fun _=>by kernel_rfl) ?_
 k_fill
 refine Lw.walk (l:=PySem.Challenge.rw_everywidth_k37_no_turning) rfl rfl (fun w h Y=>Y) ?F
 case F =>
  intro w mg fa h KX G hmg
  refine' Lw.all_mk KX G hmg ?xa_WidthError ?xa_NoSum ?xa_NoClaim ?xa_NoWords ?xa_NoTurning ?xa_NoShorter ?xa_NoAsk ?xa_NoName ?xe_WidthError ?xk_WidthError ?xe_NoSum ?xk_NoSum ?xe_NoClaim ?xk_NoClaim ?xe_NoWords ?xk_NoWords ?xe_NoTurning ?xk_NoTurning ?xe_NoShorter ?xk_NoShorter ?xe_NoAsk ?xk_NoAsk ?xb_NoSum ?xb_NoClaim ?xb_NoWords ?xb_NoTurning ?xb_NoShorter ?xb_NoAsk ?xb_NoName ?xc_WidthError ?xc_NoSum ?xc_NoClaim ?xc_NoWords ?xc_NoTurning ?xc_NoShorter ?xc_NoAsk ?xc_NoName ?d0 ?d1 ?d2 ?d3 ?d4 ?d5 ?d6 ?d7 ?d8 ?d9 ?d10 ?d11 ?d12 ?d13 ?d14 ?d15 ?d16 ?d17 ?d18 ?d19 ?d20 ?d21 ?d22 ?d23 ?d24 ?d25 ?d26 ?d27 ?d28 ?d29 ?d30 ?d31 ?d32 ?d33 ?ga_SUM_PARTS ?gl_SUM_PARTS ?ge_SUM_PARTS ?gn_SUM_PARTS ?ga_SUMS_IN_CLAIM ?gl_SUMS_IN_CLAIM ?ge_SUMS_IN_CLAIM ?gn_SUMS_IN_CLAIM ?ga_CLAIMS_IN_CLAIM ?gl_CLAIMS_IN_CLAIM ?ge_CLAIMS_IN_CLAIM ?gn_CLAIMS_IN_CLAIM ?ga_LETTERS ?ga_LONGEST_NAME ?ga_TURNINGS ?gr_TURNINGS ?q_not ?q_val ?z_ValueError ?z_all ?z_enumerate ?z_int ?z_isinstance ?z_len ?z_list ?z_max ?z_min ?z_range ?z_str ?z_tuple
  (case xa_WidthError | xa_NoSum | xa_NoClaim | xa_NoWords | xa_NoTurning | xa_NoShorter | xa_NoAsk | xa_NoName | xk_WidthError | xk_NoSum | xk_NoClaim | xk_NoWords | xk_NoTurning | xk_NoShorter | xk_NoAsk | ga_SUM_PARTS | gl_SUM_PARTS | ga_SUMS_IN_CLAIM | gl_SUMS_IN_CLAIM | ga_CLAIMS_IN_CLAIM | gl_CLAIMS_IN_CLAIM | ga_LETTERS | ga_LONGEST_NAME | ga_TURNINGS | z_ValueError | z_all | z_enumerate | z_int | z_isinstance | z_len | z_list | z_max | z_min | z_range | z_str | z_tuple=>k_is)
  (case xe_WidthError | xe_NoSum | xe_NoClaim | xe_NoWords | xe_NoTurning | xe_NoShorter | xe_NoAsk | xb_NoSum | xb_NoClaim | xb_NoWords | xb_NoTurning | xb_NoShorter | xb_NoAsk | xb_NoName | xc_WidthError | xc_NoSum | xc_NoClaim | xc_NoWords | xc_NoTurning | xc_NoShorter | xc_NoAsk | xc_NoName | gr_TURNINGS | q_not | q_val=>kernel_rfl)
  (case d0 | d1 | d2 | d3 | d4 | d5 | d6 | d7 | d8 | d9 | d10 | d11 | d12 | d13 | d14 | d15 | d16 | d17 | d18 | d19 | d20 | d21 | d22 | d23 | d24 | d25 | d26 | d27 | d28 | d29 | d30 | d31 | d32 | d33=>exact ⟨_,_,_,_,_,_,_,_,_,by k_is,by k_is,by k_is,by k_is,trivial⟩)
  (case ge_SUM_PARTS | ge_SUMS_IN_CLAIM | ge_CLAIMS_IN_CLAIM=>repeat (first | exact L2.KTab.nil | refine L2.KTab.cons ?_))
  (case gn_SUM_PARTS | gn_SUMS_IN_CLAIM | gn_CLAIMS_IN_CLAIM=>first | rfl | decide +kernel)
#print axioms PySem.Challenge.cw_everywidth_k37_no_turning_holds
