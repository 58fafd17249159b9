import PyProof.Rows.All
import Wide.All
import OpenK.AllK
import Wide.FinOn
import Lean
import PyProof.EqAt
import PyProof.EqKinds
import PyProof.TupleCall
import PyProof.NeKinds
import KE.KRevSl
import KE.KRevIter
import PyProof.FactsAll.tuple
import PyProof.Rows.SortWalk
import PyProof.Rows.StrJoin2
import PyProof.StrBlockH
import PyProof.StrWalks
import PyProof.StrCalls2
import PyProof.ConsumeWalk
import KE.KIntText
import PyProof.Rows.SortStr
import PyProof.EnumStmt
import PyProof.WalksMore
import KE.KEqDict
import PyProof.DictWalks
import KE.KLam
import PyProof.Rows.SortShellK
import PyProof.AttrMissHeap
import KE.KDictOf
import PyProof.ZipIter
import PyProof.CollectWalk
import PyProof.ListNew
import KE.KSortTup
import PyProof.Rows.TupDisplay
import OpenK.KOwn
import PyProof.Rows.TopTwo
import PyProof.Rows.CatchOwn
import PyProof.RulesDel
import PyProof.RulesAs
import KE.KIsNot
import PyProof.ExcAttrAll.ValueError
import KE.KIsAll
import PyProof.StrReplace2
import PyProof.ReprStr
import PyProof.FString
import PyProof.StrLawsChain
import PyProof.SetRoads
import PyProof.StrLawsRepr
import PyProof.ReprHeads
import PyProof.ReprLen
import PySem.Challenge.RW_everywidth_k11_holds
noncomputable section
set_option Elab.async false
set_option linter.all false
set_option maxRecDepth 100000
set_option maxHeartbeats 0
namespace Hw
open PySem PySem.W
theorem ws : PySem.Challenge.rw_everywidth_k11_holds.wellSaid = true := by kernel_rfl
def p : Program := PySem.Challenge.rw_everywidth_k11_holds.row.toRowW.prog
def B : List Stmt := behindTheImports p
def nth : List Stmt → Nat → Option Stmt
  | [], _ => none
  | x :: _, 0 => some x
  | _ :: r, n + 1 => nth r n
def fx : Option Stmt → Arguments × List Stmt × Scope × Str × Nat
  | some (.FunctionDef n a b _ _ _ s _ _ x) => (a, b, s, n, x.line)
  | _ => default
def fd (i : Nat) := fx (nth B i)
def fc (i j : Nat) := match nth B i with
  | some (.ClassDef _ _ _ b _ _ _ _ _ _ _) => fx (nth b j)
  | _ => fx none
def vs (s : String) (t : Nat) : Value := .str (Str.ofString s) t
def en (P : Params) (s : String) (t : Nat) (v : Value) : DictEntry := ⟨PyData.keyHash P (Str.ofString s), .str (Str.ofString s) t, v⟩
def tu (l : List Value) : Obj := ⟨.type "tuple", none, .seq (Array.mk l) 0, #[]⟩
def t0 : Obj := tu []
def fi (l : List Value) : Obj := ⟨.none, none, .fields (Array.mk l), #[]⟩
def f0 : Obj := fi []
def vk : Nat → List String → List Value
  | _, [] => []
  | t, s :: r => vs s t :: vk (t + 1) r
def vt (t : Nat) (l : List String) : Obj := tu (vk t l)
abbrev Fd := Arguments × List Stmt × Scope × Str × Nat
def rO (x : Fd) : Obj := ⟨.none, none, .func ⟨x.2.2.2.1, x.2.2.2.1, x.1, .stmts x.2.1, x.2.2.1, 0, [], .none, .none, .none, .none, none, .none, .none, 0⟩, #[]⟩
def fO (x : Fd) (m : Value) (c : Nat) : Obj := ⟨.type "function", none, .func ⟨x.2.2.2.1, x.2.2.2.1, x.1, .stmts x.2.1, x.2.2.1, 3, [], .none, .none, .none, m, none, .ref c, .none, 0⟩, #[]⟩
def fl : String := "/claim/cut.py"
def cO (n : String) (t l a d x m : Nat) (b : Bool) (z k : Nat) : Obj := ⟨.type "code", none, .fields #[vs n t, vs n (t + 1), vs fl (t + 2), .int l 0, .int a 0, .int 0 0, .int 0 0, .int d 0, .ref x, .bool true, .int m 0, .ref (x + 1), .none, if b then .ref (x + 2) else .none, if b then .ref (x + 3) else .none, .ref z, .int k 0, .int l 0, vs fl (k + 1)], #[]⟩
def r (i : Nat) : Obj := rO (fd i)
def f (i : Nat) (m : Value) (c : Nat) : Obj := fO (fd i) m c
def ci (n : Nat) : Value := .int n 0
def c (i t x v : Nat) : Obj := let y := (fd i).2.2.2; ⟨.type "code", none, .fields #[.str y.1 t, .str y.1 (t + 1), vs fl (t + 2), ci y.2, ci (fd i).1.args.length, ci 0, ci 0, ci 3, .ref x, .bool true, ci 181, .ref (x + 1), .none, if v == 0 then .none else .ref (x + 2), if v == 0 then .none else .ref (x + 3), .ref (if v == 0 then x + 2 else x + 4), ci (t + 3 + v), ci y.2, vs fl (t + 4 + v)], #[]⟩
def e (P : Params) (i t a : Nat) : DictEntry := let y := (fd i).2.2.2.1; ⟨PyData.keyHash P y, .str y t, .ref a⟩
def bt (P : Params) : List DictEntry := match (boot_o_3 P).data with
  | .dict e _ => e.toList.tail
  | _ => []
def m0 : Value := vs "everywidth.bits" 187
def m1 : Value := vs "everywidth.vocabulary" 339
def m2 : Value := vs "everywidth.rows" 456
def m3 : Value := vs "everywidth.sums.worths" 484
def m4 : Value := vs "everywidth.claims.claims" 512
def m5 : Value := vs "law_everywidth_k11_holds" 560
def es (P : Params) : List DictEntry := [e P 1 197 21,en P "WidthError" 217 (.ref 31),en P "NoSum" 233 (.ref 44),en P "NoClaim" 249 (.ref 56),en P "NoWords" 265 (.ref 68),en P "NoTurning" 281 (.ref 80),en P "NoShorter" 297 (.ref 92),en P "NoAsk" 313 (.ref 104),en P "NoName" 338 (.ref 123),en P "SUM_PARTS" 371 (.ref 126),en P "SUMS_IN_CLAIM" 387 (.ref 127),en P "CLAIMS_IN_CLAIM" 403 (.ref 128),en P "LETTERS" 405 (vs "abcdefghijklmnopqrstuvwxyz" 404),en P "LONGEST_NAME" 407 (.int 8 406),e P 17 414 135,e P 18 421 142,e P 19 428 149,e P 20 435 156,e P 21 442 163,e P 22 448 168,e P 23 455 175,e P 25 468 182,e P 26 474 187,e P 27 483 194,e P 29 494 201,e P 30 502 208,e P 31 511 215,e P 33 524 222,e P 34 534 229,e P 35 543 236,e P 36 551 243,e P 37 559 250,e P 39 571 257,e P 40 581 264,e P 41 590 271,e P 42 597 278,e P 43 604 285,e P 44 610 290,e P 45 619 297,e P 46 635 304,e P 47 648 311,e P 48 655 318,e P 49 671 325,e P 50 681 332,e P 51 693 339,e P 52 701 346,e P 53 707 351,e P 54 713 356,e P 55 719 361,e P 56 732 368,e P 57 745 375,e P 58 755 382,e P 59 766 389,e P 60 778 396,e P 61 784 401,e P 62 796 408]
def vl : List (Nat × Nat) := [(2,20),(8,27),(10,40),(12,52),(14,64),(16,76),(18,88),(20,100),(22,112),(32,134),(34,141),(36,148),(38,155),(40,162),(42,167),(44,174),(49,181),(55,186),(57,193),(62,200),(72,207),(80,214),(91,221),(95,228),(101,235),(111,242),(113,249),(124,256),(132,263),(138,270),(143,277),(145,284),(148,289),(164,296),(169,303),(187,310),(193,317),(195,324),(213,331),(219,338),(226,345),(231,350),(233,355),(253,360),(260,367),(268,374),(275,381),(297,388),(305,395),(314,400),(329,407)]
def md (P : Params) (m : String) (t e k : Nat) : Obj := ⟨.type "dict", none, .dict (Array.mk (en P "__name__" 165 (vs m t) :: bt P ++ (es P).take e)) k, #[]⟩
def tl : List (Nat × Nat) → List Value
  | [] => []
  | x :: r => .int x.1 0 :: .int 0 0 :: .ref x.2 :: tl r
def tb (c : Nat) : Obj := fi (tl (vl.take c))
def K (P : Params) : PySem.W.Frag := (nat_lit 0,boot_o_0 P)::(nat_lit 1,boot_o_1 P)::(nat_lit 2,boot_o_2 P)::(nat_lit 3,md P "law_everywidth_k11_holds" 560 56 65)::(nat_lit 4,boot_o_4 P)::(nat_lit 5,boot_o_5 P)::(nat_lit 6,boot_o_6 P)::(nat_lit 7,boot_o_7 P)::(nat_lit 8,boot_o_8 P)::(nat_lit 9,boot_o_9 P)::(nat_lit 10,boot_o_10 P)::(nat_lit 11,t0)::(nat_lit 12,tb 51)::(nat_lit 13,⟨(.type "code"),none,.fields #[(vs "<module>" 182),(vs "<module>" 183),(vs "/claim/cut.py" 184),(.int 1 0),(.int 0 0),(.int 0 0),(.int 0 0),(.int 0 0),(.ref 11),(.bool false),(.int 181 0),(.ref 12),.none,.none,.none,.none,(.int 185 0),(.int 1 0),(vs "/claim/cut.py" 186)],#[]⟩)::(nat_lit 14,⟨(.type "frame"),none,.plain,#[some (.ref 13),some (.ref 3),some (.ref 3),none,some (vs "__main__" 164),none,some (.ref 0)]⟩)::(nat_lit 15,t0)::(nat_lit 16,f0)::(nat_lit 17,vt 192 ["width","many","bit_number"])::(nat_lit 18,t0)::(nat_lit 19,r 1)::(nat_lit 20,c 1 189 15 3)::(nat_lit 21,f 1 m0 20)::(nat_lit 22,tu [(.type "ValueError")])::(nat_lit 29,t0)::(nat_lit 30,⟨(.type "dict"),none,.dict #[en P "__module__" 207 (vs "everywidth.errors" 198),en P "__firstlineno__" 211 (.int 8 210),en P "__static_attributes__" 212 (.ref 29),en P "__weakref__" 214 (.ref 32),en P "__doc__" 215 .none] 3,#[]⟩)::(nat_lit 31,⟨(.type "type"),none,.cls ⟨Str.ofString "WidthError",[(.type "ValueError")],[(.ref 31),(.type "ValueError"),(.type "Exception"),(.type "BaseException"),(.type "object")],30,Str.ofString "WidthError",true,[],[(.ref 44),(.ref 56),(.ref 68),(.ref 80),(.ref 92),(.ref 104),(.ref 123)],false,none,false⟩,#[some (.ref 22),none,some (vs "WidthError" 200),some (vs "WidthError" 208),some (.builtin "ValueError.__new__"),some (.bool true)]⟩)::(nat_lit 32,⟨(.type "getset_descriptor"),none,.fields #[(vs "__weakref__" 213),(.ref 31),(.builtin "ExceptionGroup.__weakref__"),.none],#[]⟩)::(nat_lit 35,tu [(.ref 31)])::(nat_lit 42,t0)::(nat_lit 43,⟨(.type "dict"),none,.dict #[en P "__module__" 225 (vs "everywidth.errors" 198),en P "__firstlineno__" 229 (.int 10 228),en P "__static_attributes__" 230 (.ref 42),en P "__doc__" 231 .none] 2,#[]⟩)::(nat_lit 44,⟨(.type "type"),none,.cls ⟨Str.ofString "NoSum",[(.ref 31)],[(.ref 44),(.ref 31),(.type "ValueError"),(.type "Exception"),(.type "BaseException"),(.type "object")],43,Str.ofString "NoSum",true,[],[],false,none,false⟩,#[some (.ref 35),none,some (vs "NoSum" 218),some (vs "NoSum" 226),some (.builtin "ValueError.__new__"),some (.bool true)]⟩)::(nat_lit 47,tu [(.ref 31)])::(nat_lit 54,t0)::(nat_lit 55,⟨(.type "dict"),none,.dict #[en P "__module__" 241 (vs "everywidth.errors" 198),en P "__firstlineno__" 245 (.int 12 244),en P "__static_attributes__" 246 (.ref 54),en P "__doc__" 247 .none] 2,#[]⟩)::(nat_lit 56,⟨(.type "type"),none,.cls ⟨Str.ofString "NoClaim",[(.ref 31)],[(.ref 56),(.ref 31),(.type "ValueError"),(.type "Exception"),(.type "BaseException"),(.type "object")],55,Str.ofString "NoClaim",true,[],[],false,none,false⟩,#[some (.ref 47),none,some (vs "NoClaim" 234),some (vs "NoClaim" 242),some (.builtin "ValueError.__new__"),some (.bool true)]⟩)::(nat_lit 59,tu [(.ref 31)])::(nat_lit 66,t0)::(nat_lit 67,⟨(.type "dict"),none,.dict #[en P "__module__" 257 (vs "everywidth.errors" 198),en P "__firstlineno__" 261 (.int 14 260),en P "__static_attributes__" 262 (.ref 66),en P "__doc__" 263 .none] 2,#[]⟩)::(nat_lit 68,⟨(.type "type"),none,.cls ⟨Str.ofString "NoWords",[(.ref 31)],[(.ref 68),(.ref 31),(.type "ValueError"),(.type "Exception"),(.type "BaseException"),(.type "object")],67,Str.ofString "NoWords",true,[],[],false,none,false⟩,#[some (.ref 59),none,some (vs "NoWords" 250),some (vs "NoWords" 258),some (.builtin "ValueError.__new__"),some (.bool true)]⟩)::(nat_lit 71,tu [(.ref 31)])::(nat_lit 78,t0)::(nat_lit 79,⟨(.type "dict"),none,.dict #[en P "__module__" 273 (vs "everywidth.errors" 198),en P "__firstlineno__" 277 (.int 16 276),en P "__static_attributes__" 278 (.ref 78),en P "__doc__" 279 .none] 2,#[]⟩)::(nat_lit 80,⟨(.type "type"),none,.cls ⟨Str.ofString "NoTurning",[(.ref 31)],[(.ref 80),(.ref 31),(.type "ValueError"),(.type "Exception"),(.type "BaseException"),(.type "object")],79,Str.ofString "NoTurning",true,[],[],false,none,false⟩,#[some (.ref 71),none,some (vs "NoTurning" 266),some (vs "NoTurning" 274),some (.builtin "ValueError.__new__"),some (.bool true)]⟩)::(nat_lit 83,tu [(.ref 31)])::(nat_lit 90,t0)::(nat_lit 91,⟨(.type "dict"),none,.dict #[en P "__module__" 289 (vs "everywidth.errors" 198),en P "__firstlineno__" 293 (.int 18 292),en P "__static_attributes__" 294 (.ref 90),en P "__doc__" 295 .none] 2,#[]⟩)::(nat_lit 92,⟨(.type "type"),none,.cls ⟨Str.ofString "NoShorter",[(.ref 31)],[(.ref 92),(.ref 31),(.type "ValueError"),(.type "Exception"),(.type "BaseException"),(.type "object")],91,Str.ofString "NoShorter",true,[],[],false,none,false⟩,#[some (.ref 83),none,some (vs "NoShorter" 282),some (vs "NoShorter" 290),some (.builtin "ValueError.__new__"),some (.bool true)]⟩)::(nat_lit 95,tu [(.ref 31)])::(nat_lit 102,t0)::(nat_lit 103,⟨(.type "dict"),none,.dict #[en P "__module__" 305 (vs "everywidth.errors" 198),en P "__firstlineno__" 309 (.int 20 308),en P "__static_attributes__" 310 (.ref 102),en P "__doc__" 311 .none] 2,#[]⟩)::(nat_lit 104,⟨(.type "type"),none,.cls ⟨Str.ofString "NoAsk",[(.ref 31)],[(.ref 104),(.ref 31),(.type "ValueError"),(.type "Exception"),(.type "BaseException"),(.type "object")],103,Str.ofString "NoAsk",true,[],[],false,none,false⟩,#[some (.ref 95),none,some (vs "NoAsk" 298),some (vs "NoAsk" 306),some (.builtin "ValueError.__new__"),some (.bool true)]⟩)::(nat_lit 107,tu [(.ref 31)])::(nat_lit 114,t0)::(nat_lit 115,f0)::(nat_lit 116,vt 329 ["self","word"])::(nat_lit 117,t0)::(nat_lit 118,⟨.none,none,.func ⟨Str.ofString "__init__",Str.ofString "NoName.__init__",(fc 10 0).1,.stmts (fc 10 0).2.1,(fc 10 0).2.2.1,0,[],.none,.none,.none,.none,none,.none,.none,0⟩,#[]⟩)::(nat_lit 119,⟨(.type "code"),none,.fields #[(vs "__init__" 326),(vs "NoName.__init__" 327),(vs "/claim/cut.py" 328),(.int 24 0),(.int 2 0),(.int 0 0),(.int 0 0),(.int 3 0),(.ref 114),(.bool true),(.int 181 0),(.ref 115),.none,(.ref 116),(.ref 117),(.ref 118),(.int 331 0),(.int 24 0),(vs "/claim/cut.py" 332)],#[]⟩)::(nat_lit 120,⟨(.type "function"),none,.func ⟨Str.ofString "__init__",Str.ofString "NoName.__init__",(fc 10 0).1,.stmts (fc 10 0).2.1,(fc 10 0).2.2.1,3,[],.none,.none,.none,(vs "everywidth.errors" 198),none,(.ref 119),.none,0⟩,#[]⟩)::(nat_lit 121,vt 334 ["word"])::(nat_lit 122,⟨(.type "dict"),none,.dict #[en P "__module__" 321 (vs "everywidth.errors" 198),en P "__firstlineno__" 325 (.int 22 324),en P "__init__" 333 (.ref 120),en P "__static_attributes__" 335 (.ref 121),en P "__doc__" 336 .none] 2,#[]⟩)::(nat_lit 123,⟨(.type "type"),none,.cls ⟨Str.ofString "NoName",[(.ref 31)],[(.ref 123),(.ref 31),(.type "ValueError"),(.type "Exception"),(.type "BaseException"),(.type "object")],122,Str.ofString "NoName",true,[],[],false,none,false⟩,#[some (.ref 107),none,some (vs "NoName" 314),some (vs "NoName" 322),some (.builtin "ValueError.__new__"),some (.bool true)]⟩)::(nat_lit 126,⟨(.type "dict"),none,.dict #[en P "not" 341 (.int 1 342),en P "neg" 343 (.int 1 344),en P "twice" 345 (.int 1 346),en P "low" 347 (.int 1 348),en P "and" 349 (.int 2 350),en P "or" 351 (.int 2 352),en P "odd" 353 (.int 2 354),en P "add" 355 (.int 2 356),en P "sub" 357 (.int 2 358),en P "pick" 359 (.int 3 360)] 10,#[]⟩)::(nat_lit 127,⟨(.type "dict"),none,.dict #[en P "same" 372 (.int 2 373),en P "under" 374 (.int 2 375),en P "beneath" 376 (.int 2 377),en P "sign" 378 (.int 1 379),en P "nought" 380 (.int 1 381)] 5,#[]⟩)::(nat_lit 128,⟨(.type "dict"),none,.dict #[en P "both" 388 (.int 2 389),en P "either" 390 (.int 2 391),en P "so" 392 (.int 2 393),en P "never" 394 (.int 1 395),en P "yes" 396 (.int 0 397)] 5,#[]⟩)::(nat_lit 129,t0)::(nat_lit 130,f0)::(nat_lit 131,vt 411 ["text"])::(nat_lit 132,t0)::(nat_lit 133,r 17)::(nat_lit 134,c 17 408 129 1)::(nat_lit 135,f 17 m1 134)::(nat_lit 136,t0)::(nat_lit 137,f0)::(nat_lit 138,vt 418 ["text"])::(nat_lit 139,t0)::(nat_lit 140,r 18)::(nat_lit 141,c 18 415 136 1)::(nat_lit 142,f 18 m1 141)::(nat_lit 143,t0)::(nat_lit 144,f0)::(nat_lit 145,vt 425 ["word"])::(nat_lit 146,t0)::(nat_lit 147,r 19)::(nat_lit 148,c 19 422 143 1)::(nat_lit 149,f 19 m1 148)::(nat_lit 150,t0)::(nat_lit 151,f0)::(nat_lit 152,vt 432 ["word"])::(nat_lit 153,t0)::(nat_lit 154,r 20)::(nat_lit 155,c 20 429 150 1)::(nat_lit 156,f 20 m1 155)::(nat_lit 157,t0)::(nat_lit 158,f0)::(nat_lit 159,vt 439 ["word"])::(nat_lit 160,t0)::(nat_lit 161,r 21)::(nat_lit 162,c 21 436 157 1)::(nat_lit 163,f 21 m1 162)::(nat_lit 164,t0)::(nat_lit 165,f0)::(nat_lit 166,r 22)::(nat_lit 167,c 22 443 164 0)::(nat_lit 168,f 22 m1 167)::(nat_lit 169,t0)::(nat_lit 170,f0)::(nat_lit 171,vt 452 ["text"])::(nat_lit 172,t0)::(nat_lit 173,r 23)::(nat_lit 174,c 23 449 169 1)::(nat_lit 175,f 23 m1 174)::(nat_lit 176,t0)::(nat_lit 177,f0)::(nat_lit 178,vt 461 ["words","told_of","stack","word","parts"])::(nat_lit 179,t0)::(nat_lit 180,r 25)::(nat_lit 181,c 25 458 176 5)::(nat_lit 182,f 25 m2 181)::(nat_lit 183,t0)::(nat_lit 184,f0)::(nat_lit 185,r 26)::(nat_lit 186,c 26 469 183 0)::(nat_lit 187,f 26 m2 186)::(nat_lit 188,t0)::(nat_lit 189,f0)::(nat_lit 190,vt 478 ["words","values","word"])::(nat_lit 191,t0)::(nat_lit 192,r 27)::(nat_lit 193,c 27 475 188 3)::(nat_lit 194,f 27 m2 193)::(nat_lit 195,t0)::(nat_lit 196,f0)::(nat_lit 197,vt 489 ["word","parts","values"])::(nat_lit 198,t0)::(nat_lit 199,r 29)::(nat_lit 200,c 29 486 195 3)::(nat_lit 201,f 29 m3 200)::(nat_lit 202,t0)::(nat_lit 203,f0)::(nat_lit 204,vt 498 ["word","part"])::(nat_lit 205,t0)::(nat_lit 206,r 30)::(nat_lit 207,c 30 495 202 2)::(nat_lit 208,f 30 m3 207)::(nat_lit 209,t0)::(nat_lit 210,f0)::(nat_lit 211,vt 506 ["word","one","other"])::(nat_lit 212,t0)::(nat_lit 213,r 31)::(nat_lit 214,c 31 503 209 3)::(nat_lit 215,f 31 m3 214)::(nat_lit 216,t0)::(nat_lit 217,f0)::(nat_lit 218,vt 517 ["claim","width","values"])::(nat_lit 219,vt 520 ["values","many"])::(nat_lit 220,r 33)::(nat_lit 221,cO "holds" 514 91 3 3 216 181 true 220 522)::(nat_lit 222,f 33 m4 221)::(nat_lit 223,t0)::(nat_lit 224,f0)::(nat_lit 225,vt 528 ["word","parts","many","values"])::(nat_lit 226,t0)::(nat_lit 227,r 34)::(nat_lit 228,c 34 525 223 4)::(nat_lit 229,f 34 m4 228)::(nat_lit 230,t0)::(nat_lit 231,f0)::(nat_lit 232,vt 538 ["word","worths","many"])::(nat_lit 233,t0)::(nat_lit 234,r 35)::(nat_lit 235,c 35 535 230 3)::(nat_lit 236,f 35 m4 235)::(nat_lit 237,t0)::(nat_lit 238,f0)::(nat_lit 239,vt 547 ["word","many"])::(nat_lit 240,t0)::(nat_lit 241,r 36)::(nat_lit 242,c 36 544 237 2)::(nat_lit 243,f 36 m4 242)::(nat_lit 244,t0)::(nat_lit 245,f0)::(nat_lit 246,vt 555 ["word","truths"])::(nat_lit 247,t0)::(nat_lit 248,r 37)::(nat_lit 249,c 37 552 244 2)::(nat_lit 250,f 37 m4 249)::(nat_lit 251,t0)::(nat_lit 252,f0)::(nat_lit 253,vt 565 ["script","cells","k","mixed"])::(nat_lit 254,t0)::(nat_lit 255,r 39)::(nat_lit 256,c 39 562 251 4)::(nat_lit 257,f 39 m5 256)::(nat_lit 258,t0)::(nat_lit 259,f0)::(nat_lit 260,vt 575 ["deck","many","at","cell"])::(nat_lit 261,t0)::(nat_lit 262,r 40)::(nat_lit 263,c 40 572 258 4)::(nat_lit 264,f 40 m5 263)::(nat_lit 265,t0)::(nat_lit 266,f0)::(nat_lit 267,vt 585 ["width","number","k"])::(nat_lit 268,t0)::(nat_lit 269,r 41)::(nat_lit 270,c 41 582 265 3)::(nat_lit 271,f 41 m5 270)::(nat_lit 272,t0)::(nat_lit 273,f0)::(nat_lit 274,vt 594 ["deck"])::(nat_lit 275,t0)::(nat_lit 276,r 42)::(nat_lit 277,c 42 591 272 1)::(nat_lit 278,f 42 m5 277)::(nat_lit 279,t0)::(nat_lit 280,f0)::(nat_lit 281,vt 601 ["some"])::(nat_lit 282,t0)::(nat_lit 283,r 43)::(nat_lit 284,c 43 598 279 1)::(nat_lit 285,f 43 m5 284)::(nat_lit 286,t0)::(nat_lit 287,f0)::(nat_lit 288,r 44)::(nat_lit 289,c 44 605 286 0)::(nat_lit 290,f 44 m5 289)::(nat_lit 291,t0)::(nat_lit 292,f0)::(nat_lit 293,vt 614 ["deck","names","kind"])::(nat_lit 294,t0)::(nat_lit 295,r 45)::(nat_lit 296,c 45 611 291 3)::(nat_lit 297,f 45 m5 296)::(nat_lit 298,t0)::(nat_lit 299,f0)::(nat_lit 300,vt 623 ["deck","names","most","heavy","words","due","room","kind","word","many"])::(nat_lit 301,t0)::(nat_lit 302,r 46)::(nat_lit 303,c 46 620 298 10)::(nat_lit 304,f 46 m5 303)::(nat_lit 305,t0)::(nat_lit 306,f0)::(nat_lit 307,vt 639 ["deck","names","heavy","most","kind","found","k"])::(nat_lit 308,t0)::(nat_lit 309,r 47)::(nat_lit 310,c 47 636 305 7)::(nat_lit 311,f 47 m5 310)::(nat_lit 312,t0)::(nat_lit 313,f0)::(nat_lit 314,vt 652 ["deck"])::(nat_lit 315,t0)::(nat_lit 316,r 48)::(nat_lit 317,c 48 649 312 1)::(nat_lit 318,f 48 m5 317)::(nat_lit 319,t0)::(nat_lit 320,f0)::(nat_lit 321,vt 659 ["deck","names","heavy","joins","most","claim","k","other","way","word"])::(nat_lit 322,t0)::(nat_lit 323,r 49)::(nat_lit 324,c 49 656 319 10)::(nat_lit 325,f 49 m5 324)::(nat_lit 326,t0)::(nat_lit 327,f0)::(nat_lit 328,vt 675 ["number","width","found","k"])::(nat_lit 329,t0)::(nat_lit 330,r 50)::(nat_lit 331,c 50 672 326 4)::(nat_lit 332,f 50 m5 331)::(nat_lit 333,t0)::(nat_lit 334,f0)::(nat_lit 335,vt 685 ["one","other","carry","found","k","whole"])::(nat_lit 336,t0)::(nat_lit 337,r 51)::(nat_lit 338,c 51 682 333 6)::(nat_lit 339,f 51 m5 338)::(nat_lit 340,t0)::(nat_lit 341,f0)::(nat_lit 342,vt 697 ["one","found"])::(nat_lit 343,t0)::(nat_lit 344,r 52)::(nat_lit 345,c 52 694 340 2)::(nat_lit 346,f 52 m5 345)::(nat_lit 347,t0)::(nat_lit 348,f0)::(nat_lit 349,r 53)::(nat_lit 350,c 53 702 347 0)::(nat_lit 351,f 53 m5 350)::(nat_lit 352,t0)::(nat_lit 353,f0)::(nat_lit 354,r 54)::(nat_lit 355,c 54 708 352 0)::(nat_lit 356,f 54 m5 355)::(nat_lit 357,t0)::(nat_lit 358,f0)::(nat_lit 359,r 55)::(nat_lit 360,c 55 714 357 0)::(nat_lit 361,f 55 m5 360)::(nat_lit 369,t0)::(nat_lit 370,f0)::(nat_lit 371,vt 736 ["deck","names","width","values","full","name","some"])::(nat_lit 372,t0)::(nat_lit 373,r 57)::(nat_lit 374,c 57 733 369 7)::(nat_lit 375,f 57 m5 374)::(nat_lit 376,t0)::(nat_lit 377,f0)::(nat_lit 378,vt 749 ["word","pile","one","other"])::(nat_lit 379,t0)::(nat_lit 380,r 58)::(nat_lit 381,c 58 746 376 4)::(nat_lit 382,f 58 m5 381)::(nat_lit 383,t0)::(nat_lit 384,f0)::(nat_lit 385,vt 759 ["claim","width","values","pile","word"])::(nat_lit 386,t0)::(nat_lit 387,r 59)::(nat_lit 388,c 59 756 383 5)::(nat_lit 389,f 59 m5 388)::(nat_lit 390,t0)::(nat_lit 391,f0)::(nat_lit 392,vt 770 ["claim","width","values","name","caught","e"])::(nat_lit 393,t0)::(nat_lit 394,r 60)::(nat_lit 395,c 60 767 390 6)::(nat_lit 396,f 60 m5 395)::(nat_lit 397,t0)::(nat_lit 398,f0)::(nat_lit 399,r 61)::(nat_lit 400,c 61 779 397 0)::(nat_lit 401,f 61 m5 400)::(nat_lit 402,t0)::(nat_lit 403,f0)::(nat_lit 404,vt 788 ["script","deck","names","j","claim","k"])::(nat_lit 405,t0)::(nat_lit 406,r 62)::(nat_lit 407,c 62 785 402 6)::(nat_lit 408,f 62 m5 407)::[]
def xo (P : Params) : List (Nat × Obj) := (nat_lit 23,⟨(.type "builtin_function_or_method"),none,.fields #[(.builtin "type.__prepare__"),(.type "type")],#[]⟩)::(nat_lit 24,⟨(.type "dict"),none,.dict #[en P "__module__" 207 (vs "everywidth.errors" 198),en P "__qualname__" 209 (vs "WidthError" 208),en P "__firstlineno__" 211 (.int 8 210),en P "__static_attributes__" 212 (.ref 29)] 4,#[]⟩)::(nat_lit 25,t0)::(nat_lit 26,f0)::(nat_lit 27,⟨(.type "code"),none,.fields #[(vs "WidthError" 202),(vs "WidthError" 203),(vs "/claim/cut.py" 204),(.int 8 0),(.int 0 0),(.int 0 0),(.int 0 0),(.int 0 0),(.ref 25),(.bool false),(.int 181 0),(.ref 26),.none,.none,.none,.none,(.int 205 0),(.int 8 0),(vs "/claim/cut.py" 206)],#[]⟩)::(nat_lit 28,⟨(.type "frame"),none,.plain,#[some (.ref 27),some (.ref 3),some (.ref 24),none,some (vs "everywidth.errors" 198),none,some (.ref 0)]⟩)::(nat_lit 33,⟨(.type "super"),none,.fields #[(.ref 31),(.ref 31),(.ref 31)],#[]⟩)::(nat_lit 34,⟨(.type "builtin_function_or_method"),none,.fields #[(.builtin "object.__init_subclass__"),(.ref 31)],#[]⟩)::(nat_lit 36,⟨(.type "builtin_function_or_method"),none,.fields #[(.builtin "type.__prepare__"),(.type "type")],#[]⟩)::(nat_lit 37,⟨(.type "dict"),none,.dict #[en P "__module__" 225 (vs "everywidth.errors" 198),en P "__qualname__" 227 (vs "NoSum" 226),en P "__firstlineno__" 229 (.int 10 228),en P "__static_attributes__" 230 (.ref 42)] 4,#[]⟩)::(nat_lit 38,t0)::(nat_lit 39,f0)::(nat_lit 40,⟨(.type "code"),none,.fields #[(vs "NoSum" 220),(vs "NoSum" 221),(vs "/claim/cut.py" 222),(.int 10 0),(.int 0 0),(.int 0 0),(.int 0 0),(.int 0 0),(.ref 38),(.bool false),(.int 181 0),(.ref 39),.none,.none,.none,.none,(.int 223 0),(.int 10 0),(vs "/claim/cut.py" 224)],#[]⟩)::(nat_lit 41,⟨(.type "frame"),none,.plain,#[some (.ref 40),some (.ref 3),some (.ref 37),none,some (vs "everywidth.errors" 198),none,some (.ref 0)]⟩)::(nat_lit 45,⟨(.type "super"),none,.fields #[(.ref 44),(.ref 44),(.ref 44)],#[]⟩)::(nat_lit 46,⟨(.type "builtin_function_or_method"),none,.fields #[(.builtin "object.__init_subclass__"),(.ref 44)],#[]⟩)::(nat_lit 48,⟨(.type "builtin_function_or_method"),none,.fields #[(.builtin "type.__prepare__"),(.type "type")],#[]⟩)::(nat_lit 49,⟨(.type "dict"),none,.dict #[en P "__module__" 241 (vs "everywidth.errors" 198),en P "__qualname__" 243 (vs "NoClaim" 242),en P "__firstlineno__" 245 (.int 12 244),en P "__static_attributes__" 246 (.ref 54)] 4,#[]⟩)::(nat_lit 50,t0)::(nat_lit 51,f0)::(nat_lit 52,⟨(.type "code"),none,.fields #[(vs "NoClaim" 236),(vs "NoClaim" 237),(vs "/claim/cut.py" 238),(.int 12 0),(.int 0 0),(.int 0 0),(.int 0 0),(.int 0 0),(.ref 50),(.bool false),(.int 181 0),(.ref 51),.none,.none,.none,.none,(.int 239 0),(.int 12 0),(vs "/claim/cut.py" 240)],#[]⟩)::(nat_lit 53,⟨(.type "frame"),none,.plain,#[some (.ref 52),some (.ref 3),some (.ref 49),none,some (vs "everywidth.errors" 198),none,some (.ref 0)]⟩)::(nat_lit 57,⟨(.type "super"),none,.fields #[(.ref 56),(.ref 56),(.ref 56)],#[]⟩)::(nat_lit 58,⟨(.type "builtin_function_or_method"),none,.fields #[(.builtin "object.__init_subclass__"),(.ref 56)],#[]⟩)::(nat_lit 60,⟨(.type "builtin_function_or_method"),none,.fields #[(.builtin "type.__prepare__"),(.type "type")],#[]⟩)::(nat_lit 61,⟨(.type "dict"),none,.dict #[en P "__module__" 257 (vs "everywidth.errors" 198),en P "__qualname__" 259 (vs "NoWords" 258),en P "__firstlineno__" 261 (.int 14 260),en P "__static_attributes__" 262 (.ref 66)] 4,#[]⟩)::(nat_lit 62,t0)::(nat_lit 63,f0)::(nat_lit 64,⟨(.type "code"),none,.fields #[(vs "NoWords" 252),(vs "NoWords" 253),(vs "/claim/cut.py" 254),(.int 14 0),(.int 0 0),(.int 0 0),(.int 0 0),(.int 0 0),(.ref 62),(.bool false),(.int 181 0),(.ref 63),.none,.none,.none,.none,(.int 255 0),(.int 14 0),(vs "/claim/cut.py" 256)],#[]⟩)::(nat_lit 65,⟨(.type "frame"),none,.plain,#[some (.ref 64),some (.ref 3),some (.ref 61),none,some (vs "everywidth.errors" 198),none,some (.ref 0)]⟩)::(nat_lit 69,⟨(.type "super"),none,.fields #[(.ref 68),(.ref 68),(.ref 68)],#[]⟩)::(nat_lit 70,⟨(.type "builtin_function_or_method"),none,.fields #[(.builtin "object.__init_subclass__"),(.ref 68)],#[]⟩)::(nat_lit 72,⟨(.type "builtin_function_or_method"),none,.fields #[(.builtin "type.__prepare__"),(.type "type")],#[]⟩)::(nat_lit 73,⟨(.type "dict"),none,.dict #[en P "__module__" 273 (vs "everywidth.errors" 198),en P "__qualname__" 275 (vs "NoTurning" 274),en P "__firstlineno__" 277 (.int 16 276),en P "__static_attributes__" 278 (.ref 78)] 4,#[]⟩)::(nat_lit 74,t0)::(nat_lit 75,f0)::(nat_lit 76,⟨(.type "code"),none,.fields #[(vs "NoTurning" 268),(vs "NoTurning" 269),(vs "/claim/cut.py" 270),(.int 16 0),(.int 0 0),(.int 0 0),(.int 0 0),(.int 0 0),(.ref 74),(.bool false),(.int 181 0),(.ref 75),.none,.none,.none,.none,(.int 271 0),(.int 16 0),(vs "/claim/cut.py" 272)],#[]⟩)::(nat_lit 77,⟨(.type "frame"),none,.plain,#[some (.ref 76),some (.ref 3),some (.ref 73),none,some (vs "everywidth.errors" 198),none,some (.ref 0)]⟩)::(nat_lit 81,⟨(.type "super"),none,.fields #[(.ref 80),(.ref 80),(.ref 80)],#[]⟩)::(nat_lit 82,⟨(.type "builtin_function_or_method"),none,.fields #[(.builtin "object.__init_subclass__"),(.ref 80)],#[]⟩)::(nat_lit 84,⟨(.type "builtin_function_or_method"),none,.fields #[(.builtin "type.__prepare__"),(.type "type")],#[]⟩)::(nat_lit 85,⟨(.type "dict"),none,.dict #[en P "__module__" 289 (vs "everywidth.errors" 198),en P "__qualname__" 291 (vs "NoShorter" 290),en P "__firstlineno__" 293 (.int 18 292),en P "__static_attributes__" 294 (.ref 90)] 4,#[]⟩)::(nat_lit 86,t0)::(nat_lit 87,f0)::(nat_lit 88,⟨(.type "code"),none,.fields #[(vs "NoShorter" 284),(vs "NoShorter" 285),(vs "/claim/cut.py" 286),(.int 18 0),(.int 0 0),(.int 0 0),(.int 0 0),(.int 0 0),(.ref 86),(.bool false),(.int 181 0),(.ref 87),.none,.none,.none,.none,(.int 287 0),(.int 18 0),(vs "/claim/cut.py" 288)],#[]⟩)::(nat_lit 89,⟨(.type "frame"),none,.plain,#[some (.ref 88),some (.ref 3),some (.ref 85),none,some (vs "everywidth.errors" 198),none,some (.ref 0)]⟩)::(nat_lit 93,⟨(.type "super"),none,.fields #[(.ref 92),(.ref 92),(.ref 92)],#[]⟩)::(nat_lit 94,⟨(.type "builtin_function_or_method"),none,.fields #[(.builtin "object.__init_subclass__"),(.ref 92)],#[]⟩)::(nat_lit 96,⟨(.type "builtin_function_or_method"),none,.fields #[(.builtin "type.__prepare__"),(.type "type")],#[]⟩)::(nat_lit 97,⟨(.type "dict"),none,.dict #[en P "__module__" 305 (vs "everywidth.errors" 198),en P "__qualname__" 307 (vs "NoAsk" 306),en P "__firstlineno__" 309 (.int 20 308),en P "__static_attributes__" 310 (.ref 102)] 4,#[]⟩)::(nat_lit 98,t0)::(nat_lit 99,f0)::(nat_lit 100,⟨(.type "code"),none,.fields #[(vs "NoAsk" 300),(vs "NoAsk" 301),(vs "/claim/cut.py" 302),(.int 20 0),(.int 0 0),(.int 0 0),(.int 0 0),(.int 0 0),(.ref 98),(.bool false),(.int 181 0),(.ref 99),.none,.none,.none,.none,(.int 303 0),(.int 20 0),(vs "/claim/cut.py" 304)],#[]⟩)::(nat_lit 101,⟨(.type "frame"),none,.plain,#[some (.ref 100),some (.ref 3),some (.ref 97),none,some (vs "everywidth.errors" 198),none,some (.ref 0)]⟩)::(nat_lit 105,⟨(.type "super"),none,.fields #[(.ref 104),(.ref 104),(.ref 104)],#[]⟩)::(nat_lit 106,⟨(.type "builtin_function_or_method"),none,.fields #[(.builtin "object.__init_subclass__"),(.ref 104)],#[]⟩)::(nat_lit 108,⟨(.type "builtin_function_or_method"),none,.fields #[(.builtin "type.__prepare__"),(.type "type")],#[]⟩)::(nat_lit 109,⟨(.type "dict"),none,.dict #[en P "__module__" 321 (vs "everywidth.errors" 198),en P "__qualname__" 323 (vs "NoName" 322),en P "__firstlineno__" 325 (.int 22 324),en P "__init__" 333 (.ref 120),en P "__static_attributes__" 335 (.ref 121)] 5,#[]⟩)::(nat_lit 110,t0)::(nat_lit 111,fi [(.int 24 0),(.int 4 0),(.ref 119)])::(nat_lit 112,⟨(.type "code"),none,.fields #[(vs "NoName" 316),(vs "NoName" 317),(vs "/claim/cut.py" 318),(.int 22 0),(.int 0 0),(.int 0 0),(.int 0 0),(.int 0 0),(.ref 110),(.bool false),(.int 181 0),(.ref 111),.none,.none,.none,.none,(.int 319 0),(.int 22 0),(vs "/claim/cut.py" 320)],#[]⟩)::(nat_lit 113,⟨(.type "frame"),none,.plain,#[some (.ref 112),some (.ref 3),some (.ref 109),none,some (vs "everywidth.errors" 198),none,some (.ref 0)]⟩)::(nat_lit 124,⟨(.type "super"),none,.fields #[(.ref 123),(.ref 123),(.ref 123)],#[]⟩)::(nat_lit 125,⟨(.type "builtin_function_or_method"),none,.fields #[(.builtin "object.__init_subclass__"),(.ref 123)],#[]⟩)::(nat_lit 362,t0)::(nat_lit 363,f0)::(nat_lit 364,vt 723 ["words","width","values","pile","word","total","bit"])::(nat_lit 365,t0)::(nat_lit 366,r 56)::(nat_lit 367,c 56 720 362 7)::(nat_lit 368,f 56 m5 367)::[]
def mg : Nat → List (Nat × Obj) → List (Nat × Obj) → List Obj
  | 0, _, _ => []
  | _, [], m => m.map (·.2)
  | _, l, [] => l.map (·.2)
  | k + 1, x :: l, y :: m => match Nat.blt x.1 y.1 with
    | true => x.2 :: mg k l (y :: m)
    | false => y.2 :: mg k (x :: l) m
def ob (P : Params) : List Obj := mg 1000 (K P) (xo P)
def od : Bool → List Obj → List Obj
  | _, [] => []
  | true, x :: r => x :: od false r
  | false, _ :: r => od true r
def tL : Nat → List Obj → BT
  | 0, _ => .nil
  | _, [] => .nil
  | k + 1, x :: r => .node x (tL k (od true r)) (tL k (od false r))
def tn (P : Params) (n : Nat) : BT := tL 12 ((ob P).take n)
abbrev SS (T : BT) (n k : Nat) (o : OsState) : SharedT := ⟨T, n, {}, Array.mk [], {}, k, o⟩
def ev : Env := { scope := p.main.scope, locals := mainNs, globals := mainNs, cells := [], code := (.ref 13), frame := some 14 }
def c0 : Code := .body B ev
abbrev an : Option Value := some (.ref 6)
abbrev q0 : List Frame := [topFrame ⟨0, 0, 0, 0⟩]
def sg (a b : Nat) : List Stmt := (B.drop a).take b
def pc (a b : Nat) (x : Pos) : Thread := piecesOf (sg a b) ev c0 x q0
def S0 (P : Params) : BT := ((tn P 15).set 3 fun _ => boot_o_3 P).set 12 fun _ => tb 0
def S1 (P : Params) : BT := (((tn P 35).set 3 fun _ => md P "everywidth.errors" 198 2 11).set 12 fun _ => tb 2).set 31 fun _ => ⟨(.type "type"), none, .cls ⟨Str.ofString "WidthError", [(.type "ValueError")], [(.ref 31), (.type "ValueError"), (.type "Exception"), (.type "BaseException"), (.type "object")], 30, Str.ofString "WidthError", true, [], [], false, none, false⟩, #[some (.ref 22), none, some (vs "WidthError" 200), some (vs "WidthError" 208), some (.builtin "ValueError.__new__"), some (.bool true)]⟩
def S2 (P : Params) : BT := (((tn P 47).set 3 fun _ => md P "everywidth.errors" 198 3 12).set 12 fun _ => tb 3).set 31 fun _ => ⟨(.type "type"), none, .cls ⟨Str.ofString "WidthError", [(.type "ValueError")], [(.ref 31), (.type "ValueError"), (.type "Exception"), (.type "BaseException"), (.type "object")], 30, Str.ofString "WidthError", true, [], [(.ref 44)], false, none, false⟩, #[some (.ref 22), none, some (vs "WidthError" 200), some (vs "WidthError" 208), some (.builtin "ValueError.__new__"), some (.bool true)]⟩
def S3 (P : Params) : BT := (((tn P 59).set 3 fun _ => md P "everywidth.errors" 198 4 13).set 12 fun _ => tb 4).set 31 fun _ => ⟨(.type "type"), none, .cls ⟨Str.ofString "WidthError", [(.type "ValueError")], [(.ref 31), (.type "ValueError"), (.type "Exception"), (.type "BaseException"), (.type "object")], 30, Str.ofString "WidthError", true, [], [(.ref 44), (.ref 56)], false, none, false⟩, #[some (.ref 22), none, some (vs "WidthError" 200), some (vs "WidthError" 208), some (.builtin "ValueError.__new__"), some (.bool true)]⟩
def S4 (P : Params) : BT := (((tn P 71).set 3 fun _ => md P "everywidth.errors" 198 5 14).set 12 fun _ => tb 5).set 31 fun _ => ⟨(.type "type"), none, .cls ⟨Str.ofString "WidthError", [(.type "ValueError")], [(.ref 31), (.type "ValueError"), (.type "Exception"), (.type "BaseException"), (.type "object")], 30, Str.ofString "WidthError", true, [], [(.ref 44), (.ref 56), (.ref 68)], false, none, false⟩, #[some (.ref 22), none, some (vs "WidthError" 200), some (vs "WidthError" 208), some (.builtin "ValueError.__new__"), some (.bool true)]⟩
def S5 (P : Params) : BT := (((tn P 83).set 3 fun _ => md P "everywidth.errors" 198 6 15).set 12 fun _ => tb 6).set 31 fun _ => ⟨(.type "type"), none, .cls ⟨Str.ofString "WidthError", [(.type "ValueError")], [(.ref 31), (.type "ValueError"), (.type "Exception"), (.type "BaseException"), (.type "object")], 30, Str.ofString "WidthError", true, [], [(.ref 44), (.ref 56), (.ref 68), (.ref 80)], false, none, false⟩, #[some (.ref 22), none, some (vs "WidthError" 200), some (vs "WidthError" 208), some (.builtin "ValueError.__new__"), some (.bool true)]⟩
def S6 (P : Params) : BT := (((tn P 95).set 3 fun _ => md P "everywidth.errors" 198 7 16).set 12 fun _ => tb 7).set 31 fun _ => ⟨(.type "type"), none, .cls ⟨Str.ofString "WidthError", [(.type "ValueError")], [(.ref 31), (.type "ValueError"), (.type "Exception"), (.type "BaseException"), (.type "object")], 30, Str.ofString "WidthError", true, [], [(.ref 44), (.ref 56), (.ref 68), (.ref 80), (.ref 92)], false, none, false⟩, #[some (.ref 22), none, some (vs "WidthError" 200), some (vs "WidthError" 208), some (.builtin "ValueError.__new__"), some (.bool true)]⟩
def S7 (P : Params) : BT := (((tn P 107).set 3 fun _ => md P "everywidth.errors" 198 8 17).set 12 fun _ => tb 8).set 31 fun _ => ⟨(.type "type"), none, .cls ⟨Str.ofString "WidthError", [(.type "ValueError")], [(.ref 31), (.type "ValueError"), (.type "Exception"), (.type "BaseException"), (.type "object")], 30, Str.ofString "WidthError", true, [], [(.ref 44), (.ref 56), (.ref 68), (.ref 80), (.ref 92), (.ref 104)], false, none, false⟩, #[some (.ref 22), none, some (vs "WidthError" 200), some (vs "WidthError" 208), some (.builtin "ValueError.__new__"), some (.bool true)]⟩
def S8 (P : Params) : BT := ((tn P 126).set 3 fun _ => md P "everywidth.vocabulary" 339 9 18).set 12 fun _ => tb 9
def S9 (P : Params) : BT := ((tn P 136).set 3 fun _ => md P "everywidth.vocabulary" 339 15 24).set 12 fun _ => tb 10
def S10 (P : Params) : BT := ((tn P 216).set 3 fun _ => md P "everywidth.claims.claims" 512 27 36).set 12 fun _ => tb 22
def S11 (P : Params) : BT := ((tn P 298).set 3 fun _ => md P "law_everywidth_k11_holds" 560 39 48).set 12 fun _ => tb 34
def S12 (P : Params) : BT := ((tn P 376).set 3 fun _ => md P "law_everywidth_k11_holds" 560 51 60).set 12 fun _ => tb 46
def S13 (P : Params) : BT := tn P 409
def H1 (P : Params) : Heap := ⟨Array.mk (ob P), {}⟩
theorem pre (w : World) (o : OsState) : topGo treeTable p w 11 an 12 ⟨boot_heap w.params, Array.mk [], boot_drawn, boot_toks, o⟩ (topStub p) = some ((SS (S0 w.params) 15 187 o).abs, ⟨denote treeTable c0, c0, ⟨0, 0, 0, 0⟩, q0⟩) := by
  rw [Fast.te15667345088766844465, Fast.te14364793385576792824, Fast.te11892475500146522536]; kernel_rfl
theorem blk (w : World) (o : OsState) : segRunT treeTable p w 11 an 1 1 (SS (S0 w.params) 15 187 o) (blockOf B ev c0 ⟨0, 0, 0, 0⟩ q0) = some (.next, SS (S0 w.params) 15 187 o, c0, ⟨0, 0, 0, 0⟩) := by
  rw [Fast.te10110043849684766642, Fast.te14364793385576792824]; kernel_rfl
theorem g1 (w : World) (o : OsState) : segRunT treeTable p w 11 an 1 236 (SS (S0 w.params) 15 187 o) (pc 0 4 ⟨0, 0, 0, 0⟩) = some (.next, SS (S1 w.params) 35 218 o, c0, ⟨8, 0, 9, 8⟩) := by
  rw [Fast.te10110043849684766642, Fast.te14364793385576792824]; kernel_rfl
theorem g2 (w : World) (o : OsState) : segRunT treeTable p w 11 an 1 214 (SS (S1 w.params) 35 218 o) (pc 4 1 ⟨8, 0, 9, 8⟩) = some (.next, SS (S2 w.params) 47 234 o, c0, ⟨10, 0, 11, 8⟩) := by
  rw [Fast.te10110043849684766642, Fast.te14364793385576792824]; kernel_rfl
theorem g3 (w : World) (o : OsState) : segRunT treeTable p w 11 an 1 214 (SS (S2 w.params) 47 234 o) (pc 5 1 ⟨10, 0, 11, 8⟩) = some (.next, SS (S3 w.params) 59 250 o, c0, ⟨12, 0, 13, 8⟩) := by
  rw [Fast.te10110043849684766642, Fast.te14364793385576792824]; kernel_rfl
theorem g4 (w : World) (o : OsState) : segRunT treeTable p w 11 an 1 214 (SS (S3 w.params) 59 250 o) (pc 6 1 ⟨12, 0, 13, 8⟩) = some (.next, SS (S4 w.params) 71 266 o, c0, ⟨14, 0, 15, 8⟩) := by
  rw [Fast.te10110043849684766642, Fast.te14364793385576792824]; kernel_rfl
theorem g5 (w : World) (o : OsState) : segRunT treeTable p w 11 an 1 214 (SS (S4 w.params) 71 266 o) (pc 7 1 ⟨14, 0, 15, 8⟩) = some (.next, SS (S5 w.params) 83 282 o, c0, ⟨16, 0, 17, 8⟩) := by
  rw [Fast.te10110043849684766642, Fast.te14364793385576792824]; kernel_rfl
theorem g6 (w : World) (o : OsState) : segRunT treeTable p w 11 an 1 214 (SS (S5 w.params) 83 282 o) (pc 8 1 ⟨16, 0, 17, 8⟩) = some (.next, SS (S6 w.params) 95 298 o, c0, ⟨18, 0, 19, 8⟩) := by
  rw [Fast.te10110043849684766642, Fast.te14364793385576792824]; kernel_rfl
theorem g7 (w : World) (o : OsState) : segRunT treeTable p w 11 an 1 214 (SS (S6 w.params) 95 298 o) (pc 9 1 ⟨18, 0, 19, 8⟩) = some (.next, SS (S7 w.params) 107 314 o, c0, ⟨20, 0, 21, 8⟩) := by
  rw [Fast.te10110043849684766642, Fast.te14364793385576792824]; kernel_rfl
theorem g8 (w : World) (o : OsState) : segRunT treeTable p w 11 an 1 255 (SS (S7 w.params) 107 314 o) (pc 10 2 ⟨20, 0, 21, 8⟩) = some (.next, SS (S8 w.params) 126 341 o, c0, ⟨26, 0, 26, 8⟩) := by
  rw [Fast.te10110043849684766642, Fast.te14364793385576792824]; kernel_rfl
theorem g9f (w : World) (o : OsState) : segRunT treeTable p (w.withFollow "special-get-raises" false) 11 an 1 378 (SS (S8 (w.withFollow "special-get-raises" false).params) 126 341 o) (pc 12 6 ⟨26, 0, 26, 8⟩) = some (.next, SS (S9 (w.withFollow "special-get-raises" false).params) 136 415 o, c0, ⟨32, 0, 33, 28⟩) := by
  rw [Fast.te10110043849684766642, Fast.te14364793385576792824]; kernel_rfl
theorem g9t (w : World) (o : OsState) : segRunT treeTable p (w.withFollow "special-get-raises" true) 11 an 1 378 (SS (S8 (w.withFollow "special-get-raises" true).params) 126 341 o) (pc 12 6 ⟨26, 0, 26, 8⟩) = some (.next, SS (S9 (w.withFollow "special-get-raises" true).params) 136 415 o, c0, ⟨32, 0, 33, 28⟩) := by
  rw [Fast.te10110043849684766642, Fast.te14364793385576792824]; kernel_rfl
theorem g9 (w : World) : ∀ o : OsState, segRunT treeTable p w 11 an 1 378 (SS (S8 w.params) 126 341 o) (pc 12 6 ⟨26, 0, 26, 8⟩) = some (.next, SS (S9 w.params) 136 415 o, c0, ⟨32, 0, 33, 28⟩) := byRow2 "special-get-raises" (P := fun w => ∀ o : OsState, segRunT treeTable p w 11 an 1 378 (SS (S8 w.params) 126 341 o) (pc 12 6 ⟨26, 0, 26, 8⟩) = some (.next, SS (S9 w.params) 136 415 o, c0, ⟨32, 0, 33, 28⟩)) g9f g9t w
theorem g10 (w : World) (o : OsState) : segRunT treeTable p w 11 an 1 381 (SS (S9 w.params) 136 415 o) (pc 18 15 ⟨32, 0, 33, 28⟩) = some (.next, SS (S10 w.params) 216 514 o, c0, ⟨90, 0, 90, 8⟩) := by
  rw [Fast.te10110043849684766642, Fast.te14364793385576792824]; kernel_rfl
theorem g11 (w : World) (o : OsState) : segRunT treeTable p w 11 an 1 376 (SS (S10 w.params) 216 514 o) (pc 33 13 ⟨90, 0, 90, 8⟩) = some (.next, SS (S11 w.params) 298 620 o, c0, ⟨164, 0, 168, 106⟩) := by
  rw [Fast.te10110043849684766642, Fast.te14364793385576792824]; kernel_rfl
theorem g12 (w : World) (o : OsState) : segRunT treeTable p w 11 an 1 385 (SS (S11 w.params) 298 620 o) (pc 46 12 ⟨164, 0, 168, 106⟩) = some (.next, SS (S12 w.params) 376 746 o, c0, ⟨268, 0, 274, 17⟩) := by
  rw [Fast.te10110043849684766642, Fast.te14364793385576792824]; kernel_rfl
theorem g13 (w : World) (o : OsState) : segRunT treeTable p w 11 an 1 160 (SS (S12 w.params) 376 746 o) (pc 58 5 ⟨268, 0, 274, 17⟩) = some (.next, SS (S13 w.params) 409 797 o, c0, ⟨329, 0, 337, 15⟩) := by
  rw [Fast.te10110043849684766642, Fast.te14364793385576792824]; kernel_rfl
theorem fn (w : World) (o : OsState) : topRun treeTable p w 11 an 2 (SS (S13 w.params) 409 797 o).abs ⟨doneF .next, c0, ⟨329, 0, 337, 15⟩, q0⟩ = some ⟨H1 w.params, Array.mk [], {}, 797, o⟩ := by
  rw [Fast.te14082659384304107361, Fast.te14364793385576792824]; kernel_rfl
theorem sp : B = sg 0 4 ++ (sg 4 1 ++ (sg 5 1 ++ (sg 6 1 ++ (sg 7 1 ++ (sg 8 1 ++ (sg 9 1 ++ (sg 10 2 ++ (sg 12 6 ++ (sg 18 15 ++ (sg 33 13 ++ (sg 46 12 ++ (sg 58 5 ++ [])))))))))))) := by kernel_rfl
theorem bl {w : World} {N : Nat} {s s' r : Shared} {b : List Stmt} {x y : Pos} {n : Nat} (e : B = b) (h : segRun treeTable p w 11 an 1 n s (blockOf B ev c0 x q0) = some (.next, s', c0, y)) (k : topRun treeTable p w 11 an N s' (restOf b ev c0 y q0) = some r) : topRun treeTable p w 11 an (n + N) s ⟨denote treeTable c0, c0, x, q0⟩ = some r :=
  piece_block h (by rw [e]; exact k)
theorem rn (w : World) (o : OsState) : topRun treeTable p w 11 an (12 + (1 + (236 + (214 + (214 + (214 + (214 + (214 + (214 + (255 + (378 + (381 + (376 + (385 + (160 + (2)))))))))))))))) ⟨boot_heap w.params, Array.mk [], boot_drawn, boot_toks, o⟩ (topStub p) = some ⟨H1 w.params, Array.mk [], {}, 797, o⟩ :=
  go_top (pre w o) (bl sp (segRun_of (blk w o)) (piece_app (segRun_of (g1 w o)) (piece_app (segRun_of (g2 w o)) (piece_app (segRun_of (g3 w o)) (piece_app (segRun_of (g4 w o)) (piece_app (segRun_of (g5 w o)) (piece_app (segRun_of (g6 w o)) (piece_app (segRun_of (g7 w o)) (piece_app (segRun_of (g8 w o)) (piece_app (segRun_of (g9 w o)) (piece_app (segRun_of (g10 w o)) (piece_app (segRun_of (g11 w o)) (piece_app (segRun_of (g12 w o)) (piece_app (segRun_of (g13 w o)) (fn w o)))))))))))))))
def rg (l : List Stmt) : List (Nat × Nat) → List Stmt
  | [] => []
  | x :: r => (l.drop x.1).take x.2 ++ rg l r
def vw : Program := { p with main := { p.main with body := rg p.main.body [(1, 1), (3, 8), (12, 12), (25, 3), (29, 3), (33, 5), (39, 24)] } }
def lo : List Str := [Str.ofString "SUM_PARTS", Str.ofString "SUMS_IN_CLAIM", Str.ofString "CLAIMS_IN_CLAIM"]
def xt (s : Shared) : Bool := xlAt vw [] s && recOk PySem.Challenge.rw_everywidth_k11_holds.row.toRowW.records s
def as : List Addr := List.range' 0 23 ++ List.range' 29 4 ++ List.range' 35 1 ++ List.range' 42 3 ++ List.range' 47 1 ++ List.range' 54 3 ++ List.range' 59 1 ++ List.range' 66 3 ++ List.range' 71 1 ++ List.range' 78 3 ++ List.range' 83 1 ++ List.range' 90 3 ++ List.range' 95 1 ++ List.range' 102 3 ++ List.range' 107 1 ++ List.range' 114 10 ++ List.range' 126 236 ++ List.range' 369 40
theorem sz (w : World) : ((boot_heap w.params).isNs mainGlobals && (Array.mk [] : Array GenState).size == 0, (boot_heap w.params).objs.size, (boot_heap w.params).nsMap mainGlobals "__annotations__") = (true, 11, an) := by
  rw [Fast.te8920871248978507458]; kernel_rfl
abbrev sh (w : World) (o : OsState) : Shared := ⟨H1 w.params, Array.mk [], {}, 797, o⟩
theorem l1 (w : World) (o : OsState) : (staticsOk (importedModules p.main.body) (boot_heap w.params) (H1 w.params) && namesBound p (H1 w.params) && gensDone (sh w o) && laidKept (boot_heap w.params) (H1 w.params)) = true := by
  rw [Fast.te5923862056798008813]; kernel_rfl
theorem l2 (w : World) (o : OsState) : openSeen vw lo (importedModules p.main.body) xt true (sh w o) = openGood vw lo := by
  rw [Fast.te4187177175401517315, Fast.te5923862056798008813]; kernel_rfl
theorem l3 (w : World) (o : OsState) : X.obsZ as (sh w o) = X.valZ K 409 797 w := by kernel_rfl
theorem left : LeftO p vw lo xt (X.obsZ as) (X.valZ K 409 797) 7010 :=
  LeftO.of_pieces (boot_open (by kernel_rfl) (by kernel_rfl) (fun _ => by kernel_rfl)) sz rn (by kernel_rfl) fun w => funext fun o => looks_pair (l1 w o) (looks_pair (l2 w o) (l3 w o))
end Hw
end
set_option Elab.async false
set_option linter.all false
set_option maxRecDepth 100000
namespace L2
open PySem PySem.Spec PyProof.Rows
noncomputable abbrev Key:=Sum Int Str
noncomputable def yD:Key→Value→Bool
 | .inl k,v=>Value.isInt k v
 | .inr x,v=>Value.isStrOf x v
noncomputable def keyH(w:World):Key→Int
 | .inl k=>hashInt k
 | .inr x=>hashStr w x
theorem Ya:∀{k:Key} {v:Value},yD k v=true→(∃i t,k=Sum.inl i∧v=Value.int i t)∨(∃x t,k=Sum.inr x∧v=Value.str x t)
 | .inl i,v,h=>by
  obtain ⟨t,e⟩:=Value.isInt_shape (k:=i) (v:=v) h
  exact .inl ⟨i,t,rfl,e⟩
 | .inr x,v,h=>by
  obtain ⟨t,e⟩:=Value.isStrOf_shape (x:=x) (v:=v) h
  exact .inr ⟨x,t,rfl,e⟩
theorem vA(i:Int)(t:Tok):yD (.inl i) (.int i t)=true:=by simp [yD,Value.isInt]
theorem vB(x:Str)(t:Tok):yD (.inr x) (.str x t)=true:=by simp [yD,Value.isStrOf]
theorem key_ll(a b:Int):decide ((Sum.inl a:Key)=Sum.inl b)=(a == b):=by
 by_cases e:a=b
 ·subst e;simp
 ·have h:¬(Sum.inl a:Key)=Sum.inl b:=fun q=>e (Sum.inl.inj q)
  rw [decide_eq_false h]
  exact (beq_eq_false_iff_ne.mpr e).symm
theorem key_rr(a b:Str):decide ((Sum.inr a:Key)=Sum.inr b)=decide (a=b):=by
 by_cases e:a=b
 ·subst e;simp
 ·have h:¬(Sum.inr a:Key)=Sum.inr b:=fun q=>e (Sum.inr.inj q)
  rw [decide_eq_false h,decide_eq_false e]
theorem key_lr(a:Int)(b:Str):decide ((Sum.inl a:Key)=Sum.inr b)=false:=decide_eq_false (fun q=>nomatch q)
theorem key_rl(a:Str)(b:Int):decide ((Sum.inr a:Key)=Sum.inl b)=false:=decide_eq_false (fun q=>nomatch q)
noncomputable def ZP(prog:Program)(w:World):PySem.KeyKind prog w Key where
 is:=yD
 hash:=keyH w
 inj:=fun v a b ha hb=>by
  rcases Ya ha with ⟨i,t,rfl,rfl⟩ | ⟨x,t,rfl,rfl⟩
  ·rcases Ya hb with ⟨j,u,rfl,e⟩ | ⟨y,u,rfl,e⟩
   ·injection e with e1 _;rw [e1]
   ·exact nomatch e
  ·rcases Ya hb with ⟨j,u,rfl,e⟩ | ⟨y,u,rfl,e⟩
   ·exact nomatch e
   ·injection e with e1 _;rw [e1]
 byValue:=fun k v h=>by
  rcases Ya h with ⟨i,t,rfl,rfl⟩ | ⟨x,t,rfl,rfl⟩ <;> rfl
 pyHash:=fun hv h=>by
  rcases Ya hv with ⟨i,t,rfl,rfl⟩ | ⟨x,t,rfl,rfl⟩
  ·exact wpAny_pyHash_int h
  ·exact wpAny_pyHash_str h
 eqBool:=fun hu hv h=>by
  rcases Ya hu with ⟨i,t,rfl,rfl⟩ | ⟨x,t,rfl,rfl⟩
  ·rcases Ya hv with ⟨j,u,rfl,rfl⟩ | ⟨y,u,rfl,rfl⟩
   ·rw [key_ll] at h;exact wpAny_eqBool_int h
   ·rw [key_lr] at h;exact SeqAt.EqAt.int_str i t y u _ _ _ _ h
  ·rcases Ya hv with ⟨j,u,rfl,rfl⟩ | ⟨y,u,rfl,rfl⟩
   ·rw [key_rl] at h;exact SeqAt.EqAt.str_int x t j u _ _ _ _ h
   ·rw [key_rr] at h;exact wpAny_eqBool_str h
 «strs»:=fun k x t v h=>by
  rcases Ya h with ⟨i,u,rfl,e⟩ | ⟨y,u,rfl,e⟩
  ·exact nomatch e
  ·injection e with e1 _
   subst e1
   cases v <;> rfl
theorem jr(prog:Program)(w:World)(i:Int)(t:Tok):(ZP prog w).is (.inl i) (.int i t)=true:=vA i t
theorem Ju(prog:Program)(w:World)(x:Str)(t:Tok):(ZP prog w).is (.inr x) (.str x t)=true:=vB x t
inductive V where
 | non | bl (b:Bool) | int (i:Int) | str (x:Str) | byt (b:Array UInt8) | flt (b:UInt64) | ref (a:Addr) | ty (n:String)
 deriving DecidableEq
noncomputable def RelV:V→Value→Prop
 | .non,u=>u=Value.none
 | .bl b,u=>u=Value.bool b
 | .int i,u=>∃t,u=Value.int i t
 | .str x,u=>∃t,u=Value.str x t
 | .byt b,u=>∃t,u=Value.bytes b t
 | .flt b,u=>∃t,u=Value.float b t
 | .ref a,u=>u=Value.ref a
 | .ty n,u=>u=Value.type n
noncomputable abbrev Vals:List V→List Value→Prop:=Paired RelV
theorem Vals.length{xs:List V}{us:List Value}(r:Vals xs us):xs.length=us.length:=Paired.length r
theorem Vals.get:∀{xs:List V} {us:List Value} {i:Nat} {x:V},Vals xs us→xs[i]?=some x→∃u,us[i]?=some u∧RelV x u
 | _,_,_,_,.nil,e=>by simp at e
 | _,_,0,_,.cons r _,e=>by simp at e;subst e;exact ⟨_,rfl,r⟩
 | _,_,i + 1,x,.cons _ t,e=>by
  obtain ⟨u,h1,h2⟩:=Vals.get (i:=i) (x:=x) t (by simpa using e)
  exact ⟨u,by simpa using h1,h2⟩
theorem Vals.set{x:V}{u:Value}(r:RelV x u):∀{xs:List V} {us:List Value} (i:Nat),Vals xs us→Vals (xs.set i x) (us.set i u)
 | _,_,_,.nil=>.nil
 | _,_,0,.cons _ t=>.cons r t
 | _,_,i + 1,.cons q t=>.cons q (Vals.set r i t)
theorem Vals.append:∀{xs ys:List V} {us ws:List Value},Vals xs us→Vals ys ws→Vals (xs++ys) (us++ws)
 | _,_,_,_,.nil,s=>s
 | _,_,_,_,.cons r t,s=>.cons r (Vals.append t s)
theorem Vals.take:∀{xs:List V} {us:List Value} (n:Nat),Vals xs us→Vals (xs.take n) (us.take n)
 | _,_,0,_=>.nil
 | _,_,_ + 1,.nil=>.nil
 | _,_,n + 1,.cons r t=>.cons r (Vals.take n t)
theorem Vals.drop:∀{xs:List V} {us:List Value} (n:Nat),Vals xs us→Vals (xs.drop n) (us.drop n)
 | _,_,0,r=>r
 | _,_,_ + 1,.nil=>.nil
 | _,_,n + 1,.cons _ t=>Vals.drop n t
noncomputable def jo:Option V→Option Value→Prop
 | some v,some u=>RelV v u
 | none,none=>True
 | _,_=>False
noncomputable def KV{κ:Type}:List (κ × V)→List (κ × Value)→Prop:=Paired fun (p:κ × V) (q:κ × Value)=>p.1=q.1∧RelV p.2 q.2
noncomputable def kV:Key→V
 | .inl i=>.int i
 | .inr x=>.str x
inductive HO where
 /-- a list -/
 | lst (xs:List V)
 /-- a tuple (never changes) -/
 | tup (xs:List V)
 /-- a dict whose keys are ints and texts; one whose keys are tuples of ints and texts (the empty one is both) -/
 | dK (kvs:List (Key × V)) | dT (kvs:List (List Key × V))
 /-- a set of ints: its members, its size -/
 | set (S:Int→Bool) (n:Nat)
 /-- an instance of the class at C, its dict at dx, its attributes -/
 | ins (C dx:Addr) (fs:List (Str × V))
 /-- the dict of the instance at x -/
 | own (x:Addr)
 /-- the dict of an exception -/
 | xd (fs:List (Str × V))
 /-- a bound method, f of x -/
 | met (f x:Addr)
 /-- a range object lo, lo + 1, .. below hi -/
 | rng (lo hi:Int)
 /-- a thing that is known to the object (the script; a dict while a loop walks it): read, never written while it is so -/
 | frz (o:Obj) (u:HO)
 /-- a code object's table -/
 | tbl (ps:Array Value)
 /-- any other thing, by what is true of its one object (a def of one's own: SetO a S n := HO.ext fun h => ..) -/
 | ext (φ:Heap→Prop)
noncomputable abbrev Hp:=Addr→Option HO
noncomputable def upd(H:Hp)(a:Addr)(o:HO):Hp:=fun b=>if b=a then some o else H b
theorem Zb{H:Hp}{a:Addr}{o:HO}:upd H a o a=some o:=by unfold upd;rw [if_pos rfl]
theorem Zj{H:Hp}{a b:Addr}{o:HO}(h:b≠a):upd H a o b=H b:=by unfold upd;rw [if_neg h]
theorem ZK{H:Hp}{a b:Addr}{o u:HO}(h:H a=some o)(h':H b=some u)(d:o≠u):a≠b:=by
 intro e;subst e;rw [h] at h';exact d (Option.some.inj h')
theorem Zl{H:Hp}{a b:Addr}{o:HO}(h:H a=some o)(h':H b=none):a≠b:=by
 intro e;subst e;rw [h] at h';cases h'
section
variable (P:Program)(w:World)
noncomputable def Yg(H:Hp)(h:Heap)(a:Addr):HO→Prop
 | .lst xs=>xs.length≤sizeLine∧∃(its:List Value) (n:Nat),Vals xs its∧h.get? a=some { cls:=.type "list",data:=.seq its.toArray n }
 | .tup xs=>xs.length≤sizeLine∧∃its:List Value,Vals xs its∧IsTup h a its.toArray
 | .dK kvs=>kvs.length≤sizeLine∧(a == sysModules)=false∧∃vs,KV kvs vs∧h.DictOf (ZP P w) a vs
 | .dT kvs=>kvs.length≤sizeLine∧(a == sysModules)=false∧∃xs:List (List Key × Addr × Value),
   Paired (fun (p:List Key × V) (q:List Key × Addr × Value)=>p.1=q.1∧H q.2.1=some (.tup (p.1.map kV))∧RelV p.2 q.2.2) kvs xs ∧
   ∃o es ep,h.get? a=some o∧o.ExactDict∧o.data=.dict es ep∧es.toList=xs.map (entryOfKey (tupleKind (ZP P w)))∧(xs.map (·.1)).Nodup
 | .set S n=>h.SetOf (intKind P w) a S n
 | .ins C dx fs=>H dx=some (.own a)∧fs.length≤1000∧dx≠a∧h.get? a=some (PySem.W.instObj C dx) ∧
   ∃mA,h.Ns1 dx mA∧(∀f,jo (fs.lookup f) (mA f))∧PySem.Within mA (fs.map (·.1))
 | .own _=>∃o,h.get? a=some o
 | .xd fs=>∃mA,h.Ns1 a mA∧∀f,jo (fs.lookup f) (mA f)
 | .rng lo hi=>∃t u v,h.get? a=some { cls:=.type "range",data:=.fields #[.int lo t,.int hi u,.int 1 v] }
 | .frz o u=>h.get? a=some o∧Yg H h a u
 | .tbl ps=>h.get? a=some { cls:=.none,data:=.fields ps }
 | .met f x=>h.get? a=some (PySem.W.methodObj (.ref f) (.ref x))
 | .ext φ=>φ h∧(∃o,h.get? a=some o)∧∀h1 h2:Heap,φ h1→(∀o,h1.get? a=some o→h2.get? a=some o)→φ h2
noncomputable def HOk(H:Hp)(h:Heap):Prop:=∀a o,H a=some o→Yg P w H h a o
end
section
variable {P:Program}{w:World}{H H':Hp}{h h':Heap}{a:Addr}{o:HO}
theorem Yg.lt(x:Yg P w H h a o):a < h.objs.size:=by
 cases o with
 | lst xs=>obtain ⟨_,_,_,_,e⟩:=x;exact Heap.lt_size e
 | tup xs=>obtain ⟨_,_,_,p⟩:=x;exact p.lt
 | dK kvs=>obtain ⟨_,_,_,_,o,_,_,e,_⟩:=x;exact Heap.lt_size e
 | dT kvs=>obtain ⟨_,_,_,_,o,_,_,e,_⟩:=x;exact Heap.lt_size e
 | set S n=>obtain ⟨o,_,_,_,e,_⟩:=x;exact Heap.lt_size e
 | ins C dx fs=>obtain ⟨_,_,_,e,_⟩:=x;exact Heap.lt_size e
 | own y=>obtain ⟨_,e⟩:=x;exact Heap.lt_size e
 | xd fs=>obtain ⟨_,⟨_,_,_,e,_⟩,_⟩:=x;exact Heap.lt_size e
 | rng lo hi=>obtain ⟨_,_,_,e⟩:=x;exact Heap.lt_size e
 | frz ob u=>obtain ⟨e,_⟩:=x;exact Heap.lt_size e
 | tbl ps=>exact Heap.lt_size (show h.get? a=some _ from x)
 | met f y=>exact Heap.lt_size (show h.get? a=some _ from x)
 | ext φ=>obtain ⟨_,⟨_,e⟩,_⟩:=x;exact Heap.lt_size e
theorem Paired.mapP{α β:Type}{F G:α→β→Prop}:∀{l₁:List α} {l₂:List β},Paired F l₁ l₂→(∀a b,F a b→G a b)→Paired G l₁ l₂
 | _,_,.nil,_=>.nil
 | _,_,.cons r t,f=>.cons (f _ _ r) (Paired.mapP t f)
theorem Yg.stay(x:Yg P w H h a o)(k:∀b u,(b=a∨H b=some (.own a))→h.get? b=some u→h'.get? b=some u)
  (ho:∀b,H b=some (.own a)→H' b=some (.own a)) (ht:∀b xs,H b=some (.tup xs)→H' b=some (.tup xs)):Yg P w H' h' a o:=by
 induction o with
 | lst xs=>obtain ⟨z,its,n,r,e⟩:=x;exact ⟨z,its,n,r,k _ _ (.inl rfl) e⟩
 | tup xs=>obtain ⟨z,its,r,ob,e,c⟩:=x;exact ⟨z,its,r,ob,k _ _ (.inl rfl) e,c⟩
 | dK kvs=>obtain ⟨z,y,vs,r,ob,es,ep,e,c⟩:=x;exact ⟨z,y,vs,r,ob,es,ep,k _ _ (.inl rfl) e,c⟩
 | dT kvs =>
  obtain ⟨z,y,xs,r,ob,es,ep,e,c⟩:=x
  exact ⟨z,y,xs,Paired.mapP r fun p q z=>⟨z.1,ht _ _ z.2.1,z.2.2⟩,ob,es,ep,k _ _ (.inl rfl) e,c⟩
 | set S n=>obtain ⟨ob,es,ep,t,e,c⟩:=x;exact ⟨ob,es,ep,t,k _ _ (.inl rfl) e,c⟩
 | ins C dx fs =>
  obtain ⟨d,z,ne,e,mA,⟨od,es,ep,e2,c⟩,r⟩:=x
  exact ⟨ho _ d,z,ne,k _ _ (.inl rfl) e,mA,⟨od,es,ep,k _ _ (.inr d) e2,c⟩,r⟩
 | own y=>obtain ⟨ob,e⟩:=x;exact ⟨ob,k _ _ (.inl rfl) e⟩
 | xd fs=>obtain ⟨mA,⟨od,es,ep,e,c⟩,r⟩:=x;exact ⟨mA,⟨od,es,ep,k _ _ (.inl rfl) e,c⟩,r⟩
 | rng lo hi=>obtain ⟨t,u,v,e⟩:=x;exact ⟨t,u,v,k _ _ (.inl rfl) e⟩
 | frz ob u ih=>obtain ⟨e,q⟩:=x;exact ⟨k _ _ (.inl rfl) e,ih q⟩
 | tbl ps =>
  have e:h.get? a=some { cls:=.none,data:=.fields ps }:=x
  show h'.get? a=some { cls:=.none,data:=.fields ps }
  exact k a _ (.inl rfl) e
 | met f y =>
  have e:h.get? a=some (PySem.W.methodObj (.ref f) (.ref y)):=x
  show h'.get? a=some (PySem.W.methodObj (.ref f) (.ref y))
  exact k a _ (.inl rfl) e
 | ext φ=>obtain ⟨p,⟨o,e⟩,st⟩:=x;exact ⟨st _ _ p fun o q=>k _ _ (.inl rfl) q,⟨o,k _ _ (.inl rfl) e⟩,st⟩
theorem HOk.lt(x:HOk P w H h)(e:H a=some o):a < h.objs.size:=(x a o e).lt
theorem HOk.fresh(x:HOk P w H h)(e:h.objs.size≤a):H a=none:=by
 cases q:H a with
 | none=>rfl
 | some u=>exact absurd (Nat.lt_of_lt_of_le (x.lt q) e) (Nat.lt_irrefl _)
theorem HOk.kept(x:HOk P w H h)(k:∀b u,h.get? b=some u→h'.get? b=some u):HOk P w H h':=fun a o e =>
 (x a o e).stay (fun b u _ q=>k b u q) (fun _ q=>q) fun _ _ q=>q
theorem HOk.laid(x:HOk P w H h)(k:∀b u,h.get? b=some u→h'.get? b=some u)(hp:h.objs.size≤a)(new:Yg P w (upd H a o) h' a o):HOk P w (upd H a o) h':=fun b u e=>by
 have hn:=x.fresh hp
 by_cases hb:b=a
 ·subst hb;rw [Zb] at e;cases e;exact new
 ·rw [Zj hb] at e
  exact (x b u e).stay (fun c v _ q=>k c v q) (fun c q=>by rw [Zj (Zl q hn)];exact q) fun c xs q=>by rw [Zj (Zl q hn)];exact q
end
noncomputable def Rd(H:Hp)(a:Addr)(u:HO):Prop:=H a=some u∨∃o,H a=some (.frz o u)
theorem Rd.ok{P:Program}{w:World}{H:Hp}{h:Heap}{a:Addr}{u:HO}(r:Rd H a u)(x:HOk P w H h):Yg P w H h a u:=by
 rcases r with r | ⟨o,r⟩
 ·exact x a u r
 ·obtain ⟨_,q⟩:=x a _ r
  exact q
noncomputable def Mut:Option HO→Prop
 | some (.lst _)=>True
 | some (.dK _)=>True
 | some (.dT _)=>True
 | some (.set _ _)=>True
 | some (.ins _ _ _)=>True
 | some (.ext _)=>True
 | _=>False
section
variable {P:Program}{w:World}{H:Hp}{h h':Heap}{x e:Addr}{o':HO}
theorem HOk.write(ok:HOk P w H h)(mu:Mut (H x))(he:e=x∨H e=some (.own x))(k:∀b u,b≠e→h.get? b=some u→h'.get? b=some u)(heo:∃u,h'.get? e=some u)
  (new:Yg P w (upd H x o') h' x o'):HOk P w (upd H x o') h':=fun b u q=>by
 have nown:∀c y,H c=some (.own y)→c≠x:=fun c y r z=>by subst z;rw [r] at mu;exact mu
 have ntup:∀c xs,H c=some (.tup xs)→c≠x:=fun c xs r z=>by subst z;rw [r] at mu;exact mu
 by_cases hb:b=x
 ·subst hb;rw [Zb] at q;cases q;exact new
 ·rw [Zj hb] at q
  by_cases hbe:b=e
  ·have q':H b=some (.own x):=by
    rcases he with z | z
    ·exact absurd (hbe.trans z) hb
    ·rw [hbe];exact z
   rw [q] at q';cases q'
   obtain ⟨v,hv⟩:=heo
   exact ⟨v,by rw [hbe];exact hv⟩
  ·refine (ok b u q).stay (fun c v hc r=>k c v ?_ r) (fun c r=>by rw [Zj (nown c b r)];exact r) fun c xs r=>by rw [Zj (ntup c xs r)];exact r
   rcases hc with rfl | hc
   ·exact hbe
   ·rintro rfl
    rcases he with z | z
    ·exact nown c b hc z
    ·rw [hc] at z;cases z;exact hb rfl
end
structure Un(fs ex:List Addr)(H H':Hp)(h h':Heap):Prop where
 keep:∀b o,h.get? b=some o→H b=none→b∉fs→b∉ex→h'.get? b=some o
 slot:∀b o,h.get? b=some o→H b=none→b∈fs→b∉ex→∃sl,h'.get? b=some { o with slots:=sl }
 free:∀b o,h.get? b=some o→H b=none→b∉ex→H' b=none
 there:∀b o,h.get? b=some o→b∉ex→∃o',h'.get? b=some o'
 tups:∀b xs,H b=some (.tup xs)→H' b=some (.tup xs)
 frzs:∀b o u,H b=some (.frz o u)→H' b=some (.frz o u)
 tbls:∀b ps,H b=some (.tbl ps)→∃more,H' b=some (.tbl (ps++more))
section
variable {fs fs' ex ex':List Addr}{H H1 H2:Hp}{h h1 h2 h':Heap}{a x e:Addr}{o:HO}
theorem Un.any(u:Un fs ex H H1 h h1){b:Addr}{ob:Obj}(q:h.get? b=some ob)(n:H b=none)(hx:b∉ex):∃sl,h1.get? b=some { ob with slots:=sl }:=by
 by_cases hb:b∈fs
 ·exact u.slot b ob q n hb hx
 ·exact ⟨ob.slots,u.keep b ob q n hb hx⟩
theorem Un.kept(k:∀b u,h.get? b=some u→h'.get? b=some u):Un fs ex H H h h' :=
 ⟨fun b ob q _ _ _=>k b ob q,fun b ob q _ _ _=>⟨ob.slots,k b ob q⟩,fun _ _ _ n _=>n,fun b ob q _=>⟨ob,k b ob q⟩,fun _ _ q=>q,fun _ _ _ q=>q,fun _ ps q=>⟨#[],by rw [q];simp⟩⟩
theorem Un.refl:Un fs ex H H h h:=Un.kept fun _ _ q=>q
theorem Un.laid(k:∀b u,h.get? b=some u→h'.get? b=some u)(hp:h.objs.size≤a)(hn:H a=none):Un fs ex H (upd H a o) h h' where
 keep:=fun b u q _ _ _=>k b u q
 slot:=fun b u q _ _ _=>⟨u.slots,k b u q⟩
 free:=fun b u q n _=>by rw [Zj (Nat.ne_of_lt (Nat.lt_of_lt_of_le (Heap.lt_size q) hp))];exact n
 there:=fun b u q _=>⟨u,k b u q⟩
 tups:=fun b xs q=>by rw [Zj (Zl q hn)];exact q
 frzs:=fun b u xs q=>by rw [Zj (Zl q hn)];exact q
 tbls:=fun b ps q=>⟨#[],by rw [Zj (Zl q hn),q];simp⟩
theorem Un.write(mu:Mut (H x))(he:e=x∨H e=some (.own x))(k:∀b u,b≠e→h.get? b=some u→h'.get? b=some u)(heo:∃u,h'.get? e=some u):Un fs ex H (upd H x o) h h':=by
 have hx:∀b,H b=none→b≠x:=fun b n z=>by subst z;rw [n] at mu;exact mu
 have hb:∀b,H b=none→b≠e:=fun b n z=>by
  subst z
  rcases he with r | r
  ·exact hx b n r
  ·rw [n] at r;cases r
 have hm:∀b u,H b=some u→¬Mut (some u)→b≠x:=fun b u q nm z=>by subst z;rw [q] at mu;exact nm mu
 refine ⟨fun b u q n _ _=>k b u (hb b n) q,fun b u q n _ _=>⟨u.slots,k b u (hb b n) q⟩,fun b u q n _=>by rw [Zj (hx b n)];exact n,fun b u q _=>?_,
  fun b xs q=>by rw [Zj (hm b _ q fun z=>z)];exact q,fun b u xs q=>by rw [Zj (hm b _ q fun z=>z)];exact q,fun b ps q=>⟨#[],by rw [Zj (hm b _ q fun z=>z),q];simp⟩⟩
 by_cases hbe:b=e
 ·subst hbe;exact heo
 ·exact ⟨u,k b u hbe q⟩
end
noncomputable def trk(h:Heap)(H:Hp):List Addr:=(List.range h.objs.size).filter fun a=>(H a).isSome
noncomputable def vC(h:Heap)(H:Hp):Heap:=PySem.W.hideAll h (trk h H)
theorem vD(h:Heap)(H:Hp):(vC h H).objs.size=h.objs.size:=PySem.W.hideAll_size _ _
theorem gz{h:Heap}{H:Hp}{b:Addr}{o:Obj}(e:h.get? b=some o)(n:H b=none):(vC h H).get? b=some o :=
 PySem.W.hideAll_get _ e fun hm=>by
  have q:(H b).isSome=true:=(List.mem_filter.mp hm).2
  rw [n] at q;simp at q
theorem Zbj{h:Heap}{H:Hp}{b:Addr}{o:Obj}(e:(vC h H).get? b=some o):h.get? b=some o∧H b=none:=by
 have e':h.get? b=some o:=PySem.W.of_hideAll (trk h H) e
 refine ⟨e',?_⟩
 cases q:H b with
 | none=>rfl
 | some x =>
  have hm:b∈trk h H:=List.mem_filter.mpr ⟨List.mem_range.mpr (Heap.lt_size e'),by simp [q]⟩
  have z:(vC h H).get? b=none:=PySem.W.hideAll_none (trk h H) hm
  rw [z] at e;cases e
structure Mod(K:PySem.W.Frag)(mg:Str→Option Value)(base:Heap):Prop where
 kin:K.In base
 glob:base.Ns mainGlobals mg
 blt:∃mb,base.Ns builtinsNs mb∧∀x:Str,x ≠ "__name__" → mb x=bootBuiltins x
 nolimit:base.NoLimit
set_option genInjectivity false in
set_option genSizeOfSpec false in
structure Cx where
 prog:Program
 w:World
 K:PySem.W.Frag
 mg:Str→Option Value
 base:Heap
 A:Around
 N:List Str
 s₀:Shared
 H₀:Hp
 env:Env
 outer:List Env
 stack:List Env
 ex:List Addr
 fn:Str→Bool
 calm:Bool
 pn:List (Addr × Obj)
 xe:Value→Shared→Prop
noncomputable def frs(l:List Env):List Addr:=l.filterMap (·.frame)
noncomputable abbrev Cx.fs(X:Cx):List Addr:=frs X.outer
noncomputable def Vis(sc:Scope)(x:Str):Prop:=sc.names.lookup x=some .local∨sc.names.lookup x=some .cell∨sc.names.lookup x=some .free
noncomputable def Loc(sc:Scope)(x:Str):Prop:=sc.names.lookup x=some .local∨sc.names.lookup x=some .cell
noncomputable def Look(env:Env)(h:Heap)(m:Str→Option Value)(x:Str)(u:Value):Prop :=
 (env.kindOf x=some .local∧m x=some u)∨((env.kindOf x=some .cell∨env.kindOf x=some .free)∧∃c,env.cells.lookup x=some c∧h.IsCell c (some u))
set_option genInjectivity false in
set_option genSizeOfSpec false in
structure Cx.Ok(X:Cx):Prop where
 mod:Mod X.K X.mg X.base
 kind:X.env.scope.kind=.function
 glob:X.env.globals=mainGlobals
 blt:X.env.builtins=builtinsNs
 above:X.s₀.heap.objs.size≤X.env.locals
 inj:∀x y c,X.env.cells.lookup x=some c→X.env.cells.lookup y=some c→x=y
 has:∀x,(X.env.kindOf x=some .cell∨X.env.kindOf x=some .free)→∃c,X.env.cells.lookup x=some c
 cab:∀x c,X.fn x=true→X.env.cells.lookup x=some c→X.s₀.heap.objs.size≤c
 hd:X.calm=true→X.A.handled=none
 frames:X.A.frames=some X.stack
 stk:X.stack=X.outer∨(X.stack=X.env::X.outer∧X.env.frame=some X.env.locals)
 exf:∀b∈X.ex,b≠X.env.locals∧∀x c,X.env.cells.lookup x=some c→c≠b
 bs:∀b o,X.base.get? b=some o→X.s₀.heap.get? b=some o∧X.H₀ b=none
 bsz:X.base.objs.size≤X.s₀.heap.objs.size
 noex:∀b o,X.base.get? b=some o→b∉X.ex
 exfs:∀b∈X.ex,b∉X.fs
 funs:X.s₀.heap.FunFrames X.base X.outer
 frf:∀b∈X.fs,X.H₀ b=none
structure Inv(X:Cx)(pins:List (Addr × Obj))(σ:List (Option V))(H:Hp)(s:Shared):Prop where
 ok:X.Ok
 os:s.os=X.s₀.os
 bare:AllBare s.gens
 base:Un X.fs X.ex X.H₀ H X.s₀.heap s.heap
 loc:∃m,s.heap.Ns X.env.locals m∧∀(i:Nat) (x:Str) (v:V),X.N[i]?=some x→σ[i]?=some (some v)→Vis X.env.scope x→∃u,RelV v u∧Look X.env s.heap m x u
 cell:∀x c,X.env.cells.lookup x=some c→∃v,s.heap.IsCell c v
 free:H X.env.locals=none
 freeC:∀x c,X.env.cells.lookup x=some c→H c=none
 pin:∀p∈X.pn++pins,s.heap.get? p.1=some p.2∧H p.1=none∧p.1≠X.env.locals∧p.1∉X.fs∧∀v,p.2.data≠.cell v
 hok:HOk X.prog X.w H s.heap
 len:σ.length=X.N.length
section
variable {X:Cx}{pins:List (Addr × Obj)}{σ:List (Option V)}{H H':Hp}{s:Shared}{h':Heap}
theorem Cx.Ok.nofr(ok:X.Ok){b:Addr}{o:Obj}(e:X.base.get? b=some o):b∉X.fs:=fun hb=>by
 have:=(ok.funs.mem hb).1
 rw [e] at this;cases this
theorem Inv.bs(I:Inv X pins σ H s):∀b o,X.base.get? b=some o→s.heap.get? b=some o∧H b=none:=fun b o e =>
 ⟨I.base.keep b o (I.ok.bs b o e).1 (I.ok.bs b o e).2 (I.ok.nofr e) (I.ok.noex b o e),I.base.free b o (I.ok.bs b o e).1 (I.ok.bs b o e).2 (I.ok.noex b o e)⟩
theorem Inv.bk(I:Inv X pins σ H s):∀b o,X.base.get? b=some o→s.heap.get? b=some o:=fun b o e=>(I.bs b o e).1
theorem Inv.mod(I:Inv X pins σ H s):Mod X.K X.mg X.base:=I.ok.mod
theorem Inv.kIn(I:Inv X pins σ H s):X.K.In s.heap:=I.ok.mod.kin.keeps I.bk
theorem Inv.lt(I:Inv X pins σ H s):X.env.locals < s.heap.objs.size:=let ⟨_,hn,_⟩:=I.loc;hn.lt
theorem Inv.sz(I:Inv X pins σ H s):X.s₀.heap.objs.size≤s.heap.objs.size:=Nat.le_trans I.ok.above (Nat.le_of_lt I.lt)
theorem Inv.nofs(I:Inv X pins σ H s){a:Addr}(h:s.heap.objs.size≤a):a∉X.fs:=fun hb=>by
 obtain ⟨_,o,ho,_⟩:=I.ok.funs.mem hb
 exact absurd (Nat.lt_of_lt_of_le (Heap.lt_size ho) (Nat.le_trans I.sz h)) (Nat.lt_irrefl _)
theorem Inv.cne(I:Inv X pins σ H s):∀x c,X.env.cells.lookup x=some c→c≠X.env.locals:=fun x c e z=>by
 obtain ⟨v,o,ho,hd⟩:=I.cell x c e
 obtain ⟨m,⟨o',es,ep,ho',hd',_⟩,_⟩:=I.loc
 rw [z,ho'] at ho;cases ho;rw [hd'] at hd;cases hd
theorem Inv.funs(I:Inv X pins σ H s):s.heap.FunFrames X.base X.outer:=by
 have all:∀(l:List Env),(∀b∈frs l,b∈X.fs)→X.s₀.heap.FunFrames X.base l→s.heap.FunFrames X.base l:=by
  intro l
  induction l with
  | nil=>intro _ _;trivial
  | cons env r ih =>
   intro hs hl
   obtain ⟨hk,⟨L,o,hf,hn,ho,hd⟩,hr⟩:=hl
   have hL:L∈X.fs:=hs L (by unfold frs;rw [List.filterMap_cons,hf];exact List.mem_cons_self)
   obtain ⟨sl,e⟩:=I.base.slot L o ho (I.ok.frf L hL) hL fun z=>I.ok.exfs L z hL
   exact ⟨hk,⟨L,_,hf,hn,e,hd⟩,ih (fun b hb=>hs b (by unfold frs;rw [List.filterMap_cons,hf];exact List.mem_cons_of_mem _ hb)) hr⟩
 exact all X.outer (fun _ hb=>hb) I.ok.funs
theorem Inv.stack(I:Inv X pins σ H s):s.heap.FunFrames X.base X.stack:=by
 rcases I.ok.stk with e | ⟨e,hf⟩
 ·rw [e];exact I.funs
 ·rw [e]
  obtain ⟨m,hn,_⟩:=I.loc
  refine .cons (by rw [I.ok.kind];decide) hf hn ?_ I.funs
  exact Heap.get?_none_of_le (Nat.le_trans I.ok.bsz I.ok.above)
theorem Inv.stkSub(I:Inv X pins σ H s):∀b∈frs X.stack,b∈X.env.locals::X.fs:=fun b hb=>by
 rcases I.ok.stk with e | ⟨e,hf⟩
 ·rw [e] at hb;exact List.mem_cons_of_mem _ hb
 ·rw [e] at hb
  unfold frs at hb
  rw [List.filterMap_cons,hf] at hb
  exact hb
theorem Inv.stkFree(I:Inv X pins σ H s):∀b∈frs X.stack,H b=none:=fun b hb=>by
 rcases List.mem_cons.mp (I.stkSub b hb) with e | hb
 ·rw [e];exact I.free
 ·obtain ⟨_,o,ho,_⟩:=I.ok.funs.mem hb
  exact I.base.free b o ho (I.ok.frf b hb) fun z=>I.ok.exfs b z hb
theorem Inv.step{g':Array GenState}{t':Nat}{d':Drawn}{ch:List Addr}(I:Inv X pins σ H s)
  (hch:∀b∈ch,(b∈X.ex∨X.s₀.heap.objs.size≤b)∧b≠X.env.locals∧(∀x c,X.env.cells.lookup x=some c→c≠b)∧∀p∈X.pn++pins,p.1≠b)
  (keep:∀b o,b≠X.env.locals→b∉X.fs→b∉ch→s.heap.get? b=some o→H b=none→h'.get? b=some o)
  (slot:∀b o,b≠X.env.locals→b∈X.fs→b∉ch→s.heap.get? b=some o→H b=none→∃sl,h'.get? b=some { o with slots:=sl }) (free:∀b o,b∉ch→s.heap.get? b=some o→H b=none→H' b=none)
  (there:∀b o,b∉ch→s.heap.get? b=some o→∃o',h'.get? b=some o')
  (tups:∀b xs,H b=some (.tup xs)→H' b=some (.tup xs)) (frzs:∀b o u,H b=some (.frz o u)→H' b=some (.frz o u)) (tbls:∀b ps,H b=some (.tbl ps)→∃more,H' b=some (.tbl (ps++more)))
  (ns:∀m,s.heap.Ns X.env.locals m→h'.Ns X.env.locals m) (hok:HOk X.prog X.w H' h') (hg:AllBare g') :
  Inv X pins σ H' { s with heap:=h',gens:=g',drawn:=d',toks:=t' }:=by
 have neL:∀b o,X.s₀.heap.get? b=some o→b≠X.env.locals:=fun b o e=>Nat.ne_of_lt (Nat.lt_of_lt_of_le (Heap.lt_size e) I.ok.above)
 have neC:∀b o,X.s₀.heap.get? b=some o→b∉X.ex→b∉ch:=fun b o e hx hb=>by
  rcases (hch b hb).1 with z | z
  ·exact hx z
  ·exact absurd (Nat.lt_of_lt_of_le (Heap.lt_size e) z) (Nat.lt_irrefl _)
 have cellK:∀x c,X.env.cells.lookup x=some c→∀v,s.heap.IsCell c v→h'.IsCell c v:=fun x c e v ⟨o,ho,hd⟩=>by
  have nch:c∉ch:=fun z=>(hch c z).2.2.1 x c e rfl
  by_cases hc:c∈X.fs
  ·obtain ⟨sl,q⟩:=slot c o (I.cne x c e) hc nch ho (I.freeC x c e)
   exact ⟨_,q,hd⟩
  ·exact ⟨o,keep c o (I.cne x c e) hc nch ho (I.freeC x c e),hd⟩
 refine ⟨I.ok,I.os,hg,⟨fun b o e n hb hx=>?_,fun b o e n hb hx=>?_,fun b o e n hx=>?_,fun b o e hx=>?_,fun b xs e=>tups b xs (I.base.tups b xs e),fun b o xs e=>frzs b o xs (I.base.frzs b o xs e),fun b ps e=>?_⟩,?_,fun x c e=>?_,?_,fun x c e=>?_,fun p hp=>?_,hok,I.len⟩
 ·exact keep b o (neL b o e) hb (neC b o e hx) (I.base.keep b o e n hb hx) (I.base.free b o e n hx)
 ·obtain ⟨sl,e1⟩:=I.base.slot b o e n hb hx
  obtain ⟨sl',e2⟩:=slot b _ (neL b o e) hb (neC b o e hx) e1 (I.base.free b o e n hx)
  exact ⟨sl',e2⟩
 ·obtain ⟨o',e1⟩:=I.base.there b o e hx
  exact free b o' (neC b o e hx) e1 (I.base.free b o e n hx)
 ·obtain ⟨o',e1⟩:=I.base.there b o e hx
  exact there b o' (neC b o e hx) e1
 ·obtain ⟨m1,e1⟩:=I.base.tbls b ps e
  obtain ⟨m2,e2⟩:=tbls b _ e1
  exact ⟨m1++m2,by rw [e2,Array.append_assoc]⟩
 ·obtain ⟨m,hn,hl⟩:=I.loc
  refine ⟨m,ns m hn,fun i x v e1 e2 e3=>?_⟩
  obtain ⟨u,r,l⟩:=hl i x v e1 e2 e3
  refine ⟨u,r,?_⟩
  rcases l with l | ⟨k,c,e,z⟩
  ·exact .inl l
  ·exact .inr ⟨k,c,e,cellK x c e _ z⟩
 ·obtain ⟨v,z⟩:=I.cell x c e
  exact ⟨v,cellK x c e v z⟩
 ·obtain ⟨m,⟨o,_,_,ho,_⟩,_⟩:=I.loc
  exact free _ o (fun z=>(hch _ z).2.1 rfl) ho I.free
 ·obtain ⟨v,o,ho,hd⟩:=I.cell x c e
  exact free c o (fun z=>(hch c z).2.2.1 x c e rfl) ho (I.freeC x c e)
 ·obtain ⟨e,n,ne,nf,d⟩:=I.pin p hp
  have nch:p.1∉ch:=fun z=>(hch p.1 z).2.2.2 p hp rfl
  exact ⟨keep p.1 p.2 ne nf nch e n,free p.1 p.2 nch e n,ne,nf,d⟩
theorem Inv.un{t':Nat}(I:Inv X pins σ H s)(u:Un X.fs [] H H' s.heap h')(hok:HOk X.prog X.w H' h'):Inv X pins σ H' { s with heap:=h',toks:=t' }:=by
 obtain ⟨m,⟨o,es,ep,ho,r⟩,_⟩:=id I.loc
 obtain ⟨sl,hL⟩:=u.any ho I.free (by simp)
 exact I.step (g':=s.gens) (d':=s.drawn) (ch:=[]) (fun _ z=>nomatch z) (fun b o _ hb _ e n=>u.keep b o e n hb (by simp)) (fun b o _ hb _ e n=>u.slot b o e n hb (by simp)) (fun b o _ e n=>u.free b o e n (by simp)) (fun b o _ e=>u.there b o e (by simp)) u.tups u.frzs u.tbls (fun m' hm=>by
  obtain ⟨o',es',ep',ho',r'⟩:=hm
  rw [ho] at ho';cases ho'
  exact ⟨_,es',ep',hL,r'⟩) hok I.bare
theorem Inv.call{g':Array GenState}{t':Nat}{d':Drawn}{ch:List Addr}(I:Inv X pins σ H s)(u:Un (frs X.stack) ch H H' s.heap h')(hok:HOk X.prog X.w H' h')(hg:AllBare g')
  (hch:∀b∈ch,(b∈X.ex∨X.s₀.heap.objs.size≤b)∧b≠X.env.locals∧(∀x c,X.env.cells.lookup x=some c→c≠b)∧∀p∈X.pn++pins,p.1≠b) :
  Inv X pins σ H' { s with heap:=h',gens:=g',drawn:=d',toks:=t' }:=by
 obtain ⟨m,⟨o,es,ep,ho,r⟩,_⟩:=id I.loc
 obtain ⟨sl,hL⟩:=u.any ho I.free fun z=>(hch _ z).2.1 rfl
 exact I.step (ch:=ch) hch (fun b o hL hb hc e n=>u.keep b o e n (fun z=>(List.mem_cons.mp (I.stkSub b z)).elim hL hb) hc) (fun b o _ _ hc e n=>u.any e n hc) (fun b o hc e n=>u.free b o e n hc) (fun b o hc e=>u.there b o e hc) u.tups u.frzs u.tbls (fun m' hm=>by
  obtain ⟨o',es',ep',ho',r'⟩:=hm
  rw [ho] at ho';cases ho'
  exact ⟨_,es',ep',hL,r'⟩) hok hg
theorem Inv.turned{t':Nat}{it:Addr}(I:Inv X pins σ H s)(k:∀b o,b≠it→s.heap.get? b=some o→h'.get? b=some o)(hn:H it=none)(hL:it≠X.env.locals)
  (h1:it∈X.ex∨X.s₀.heap.objs.size≤it) (h2:∀x c,X.env.cells.lookup x=some c→c≠it) (h3:∀p∈X.pn++pins,p.1≠it):Inv X pins σ H { s with heap:=h',toks:=t' }:=by
 have nit:∀b u,H b=some u→b≠it:=fun b u e z=>by rw [z,hn] at e;cases e
 refine I.step (g':=s.gens) (d':=s.drawn) (ch:=[it]) (fun b hb=>?_) (fun b o _ _ hc e _=>k b o (fun z=>hc (by simp [z])) e) (fun b o _ _ hc e _=>⟨o.slots,k b o (fun z=>hc (by simp [z])) e⟩) (fun _ _ _ _ n=>n)
  (fun b o hc e=>⟨o,k b o (fun z=>hc (by simp [z])) e⟩) (fun _ _ e=>e) (fun _ _ _ e=>e) (fun b ps e=>⟨#[],by rw [e];simp⟩) (fun m hm=>?_) (fun b u e=>?_) I.bare
 ·have e:b=it:=by simpa using hb
  subst e
  exact ⟨h1,hL,h2,h3⟩
 ·obtain ⟨o,es,ep,ho,r⟩:=hm
  exact ⟨o,es,ep,k _ o (Ne.symm hL) ho,r⟩
 ·refine (I.hok b u e).stay (fun c v hc q=>k c v ?_ q) (fun _ q=>q) fun _ _ q=>q
  rcases hc with z | z
  ·rw [z];exact nit b u e
  ·exact nit c _ z
theorem Inv.tok(I:Inv X pins σ H s)(t:Nat):Inv X pins σ H { s with toks:=t }:=I.un (h':=s.heap) (t':=t) Un.refl I.hok
theorem Inv.kept{t':Nat}(I:Inv X pins σ H s)(k:∀b u,s.heap.get? b=some u→h'.get? b=some u):Inv X pins σ H { s with heap:=h',toks:=t' }:=I.un (Un.kept k) (I.hok.kept k)
theorem Inv.laid{a:Addr}{o:HO}{t':Nat}(I:Inv X pins σ H s)(k:∀b u,s.heap.get? b=some u→h'.get? b=some u)(hp:s.heap.objs.size≤a)(new:Yg X.prog X.w (upd H a o) h' a o) :
  Inv X pins σ (upd H a o) { s with heap:=h',toks:=t' }:=I.un (Un.laid k hp (I.hok.fresh hp)) (I.hok.laid k hp new)
theorem Inv.write{x e:Addr}{o:HO}{t':Nat}(I:Inv X pins σ H s)(mu:Mut (H x))(he:e=x∨H e=some (.own x))(k:∀b u,b≠e→s.heap.get? b=some u→h'.get? b=some u)(heo:∃u,h'.get? e=some u)
  (new:Yg X.prog X.w (upd H x o) h' x o):Inv X pins σ (upd H x o) { s with heap:=h',toks:=t' }:=I.un (Un.write mu he k heo) (I.hok.write mu he k heo new)
theorem Inv.pins_of{pins':List (Addr × Obj)}(I:Inv X pins σ H s)(h:∀p∈pins',s.heap.get? p.1=some p.2∧H p.1=none∧p.1≠X.env.locals∧p.1∉X.fs∧∀v,p.2.data≠.cell v):Inv X pins' σ H s :=
 ⟨I.ok,I.os,I.bare,I.base,I.loc,I.cell,I.free,I.freeC,fun p hp=>(List.mem_append.mp hp).elim (fun z=>I.pin p (List.mem_append_left _ z)) (h p),I.hok,I.len⟩
theorem x9{N:List Str}(hN:N.Nodup){i j:Nat}{x:Str}(a:N[i]?=some x)(b:N[j]?=some x):i=j:=by
 obtain ⟨h1,e1⟩:=List.getElem?_eq_some_iff.mp a
 obtain ⟨h2,e2⟩:=List.getElem?_eq_some_iff.mp b
 exact (List.getElem_inj hN).mp (e1.trans e2.symm)
theorem vE{M:Model}{A:Around}{E:Value→Shared→Prop}{i:Nat}{x:Str}{v:V}{u:Value}{Q:Unit→Shared→Prop}(I:Inv X pins σ H s)(hN:X.N.Nodup)(hi:X.N[i]?=some x)(hx:Loc X.env.scope x)(r:RelV v u)
  (h:∀s',Inv X pins (σ.set i (some v)) H s'→(∃a,Heap.SameBut a s.heap s'.heap∧(a=X.env.locals∨X.env.cells.lookup x=some a))→Q () s') (hf:X.fn x=true∨X.env.scope.names.lookup x=some .local:=by first | exact .inl rfl | exact .inr rfl | assumption):wpAny M A (storeName X.env x u) Q E s:=by
 obtain ⟨m,hn,hl⟩:=id I.loc
 have hcls:(X.env.scope.kind == .class || (X.env.scope.kind == .module && X.env.locals != X.env.globals))=false:=by rw [I.ok.kind];rfl
 have hiσ:i < σ.length:=by rw [I.len];exact (List.getElem?_eq_some_iff.mp hi).1
 have cne:=I.cne
 have tracked:∀{a:Addr} {h':Heap},(∃o,s.heap.get? a=some o∧H a=none)→Heap.SameBut a s.heap h'→HOk X.prog X.w H h':=fun {a h'} ha hs b ob e=>by
  obtain ⟨_,_,hfree⟩:=ha
  refine (I.hok b ob e).stay (fun c w' hc q=>(hs.2 c ?_).trans q) (fun _ q=>q) fun _ _ q=>q
  rintro rfl
  rcases hc with rfl | hc
  ·rw [hfree] at e;cases e
  ·rw [hfree] at hc;cases hc
 rcases hx with hk | hk
 ·refine wpAny_storeName_local hk hn (fun h' hn' hs=>?_) hcls
  obtain ⟨oL,_,_,hoL,_⟩:=id hn
  refine h _ ⟨I.ok,I.os,I.bare,⟨fun b o e n hb hx=>?_,fun b o e n hb hx=>?_,I.base.free,fun b o e hx=>?_,I.base.tups,I.base.frzs,I.base.tbls⟩,⟨_,hn',fun j y v' e1 e2 e3=>?_⟩,fun y c e=>?_,I.free,I.freeC,fun p hp=>?_,tracked ⟨oL,hoL,I.free⟩ hs,by simpa using I.len⟩ ⟨_,hs,.inl rfl⟩
  ·exact (hs.2 b (Nat.ne_of_lt (Nat.lt_of_lt_of_le (Heap.lt_size e) I.ok.above))).trans (I.base.keep b o e n hb hx)
  ·obtain ⟨sl,e1⟩:=I.base.slot b o e n hb hx
   exact ⟨sl,(hs.2 b (Nat.ne_of_lt (Nat.lt_of_lt_of_le (Heap.lt_size e) I.ok.above))).trans e1⟩
  ·obtain ⟨o',e1⟩:=I.base.there b o e hx
   exact ⟨o',(hs.2 b (Nat.ne_of_lt (Nat.lt_of_lt_of_le (Heap.lt_size e) I.ok.above))).trans e1⟩
  ·by_cases hj:j=i
   ·subst hj
    rw [hi] at e1;cases e1
    rw [List.getElem?_set_self hiσ] at e2
    cases e2
    exact ⟨u,r,.inl ⟨hk,by simp⟩⟩
   ·rw [List.getElem?_set_ne (Ne.symm hj)] at e2
    obtain ⟨u',r',q⟩:=hl j y v' e1 e2 e3
    refine ⟨u',r',?_⟩
    rcases q with ⟨k,e⟩ | ⟨k,c,e,z⟩
    ·refine .inl ⟨k,?_⟩
     have:y≠x:=fun e=>hj (x9 hN e1 (e ▸ hi))
     simp [this,e]
    ·exact .inr ⟨k,c,e,z.sameBut hs (cne y c e)⟩
  ·obtain ⟨w',z⟩:=I.cell y c e
   exact ⟨w',z.sameBut hs (cne y c e)⟩
  ·obtain ⟨e,n,ne,nf,d⟩:=I.pin p hp
   exact ⟨(hs.2 p.1 ne).trans e,n,ne,nf,d⟩
 ·have hfn:X.fn x=true:=by
   rcases hf with z | z
   ·exact z
   ·rw [z] at hk;cases hk
  obtain ⟨c,hc⟩:=I.ok.has x (.inl hk)
  obtain ⟨w',z⟩:=I.cell x c hc
  refine wpAny_storeName_cell I.ok.kind hk hc z (fun h' hc' hs=>?_)
  obtain ⟨oc,hoc,hocd⟩:=id z
  refine h { s with heap:=h' } ⟨I.ok,I.os,I.bare,⟨fun b o e n hb hx=>?_,fun b o e n hb hx=>?_,I.base.free,fun b o e hx=>?_,I.base.tups,I.base.frzs,I.base.tbls⟩,⟨m,hn.sameBut hs (Ne.symm (cne x c hc)),fun j y v' e1 e2 e3=>?_⟩,fun y c' e=>?_,I.free,I.freeC,fun p hp=>?_,tracked ⟨oc,hoc,I.freeC x c hc⟩ hs,by simpa using I.len⟩ ⟨c,hs,.inr hc⟩
  ·exact (hs.2 b (Nat.ne_of_lt (Nat.lt_of_lt_of_le (Heap.lt_size e) (I.ok.cab x c hfn hc)))).trans (I.base.keep b o e n hb hx)
  ·obtain ⟨sl,e1⟩:=I.base.slot b o e n hb hx
   exact ⟨sl,(hs.2 b (Nat.ne_of_lt (Nat.lt_of_lt_of_le (Heap.lt_size e) (I.ok.cab x c hfn hc)))).trans e1⟩
  ·obtain ⟨o',e1⟩:=I.base.there b o e hx
   exact ⟨o',(hs.2 b (Nat.ne_of_lt (Nat.lt_of_lt_of_le (Heap.lt_size e) (I.ok.cab x c hfn hc)))).trans e1⟩
  ·by_cases hj:j=i
   ·subst hj
    rw [hi] at e1;cases e1
    rw [List.getElem?_set_self hiσ] at e2
    cases e2
    exact ⟨u,r,.inr ⟨.inl hk,c,hc,hc'⟩⟩
   ·rw [List.getElem?_set_ne (Ne.symm hj)] at e2
    obtain ⟨u',r',q⟩:=hl j y v' e1 e2 e3
    refine ⟨u',r',?_⟩
    rcases q with q | ⟨k,c',e,z'⟩
    ·exact .inl q
    ·refine .inr ⟨k,c',e,z'.sameBut hs ?_⟩
     rintro rfl
     exact hj (x9 hN e1 (I.ok.inj _ _ _ e hc ▸ hi))
  ·by_cases hcc:c'=c
   ·subst hcc;exact ⟨_,hc'⟩
   ·obtain ⟨w2,z2⟩:=I.cell y c' e
    exact ⟨w2,z2.sameBut hs hcc⟩
  ·obtain ⟨e,n,ne,nf,d⟩:=I.pin p hp
   refine ⟨(hs.2 p.1 ?_).trans e,n,ne,nf,d⟩
   intro q
   rw [q,hoc] at e
   have q':oc=p.2:=Option.some.inj e
   exact d w' (by rw [←q'];exact hocd)
theorem J6{M:Model}{A:Around}{E:Value→Shared→Prop}{i:Nat}{x:Str}{v:V}{u:Value}{Q:Unit→Shared→Prop}(I:Inv X pins σ H s)(hN:X.N.Nodup)(hi:X.N[i]?=some x)(hx:Loc X.env.scope x)(r:RelV v u)
  (h:∀s',Inv X pins (σ.set i (some v)) H s'→Q () s') (hf:X.fn x=true∨X.env.scope.names.lookup x=some .local:=by first | exact .inl rfl | exact .inr rfl | assumption):wpAny M A (storeName X.env x u) Q E s :=
 vE I hN hi hx r (fun s' I' _=>h s' I') hf
theorem Inv.call'{s':Shared}{ch:List Addr}(I:Inv X pins σ H s)(ho:s'.os=s.os)(u:Un (frs X.stack) ch H H' s.heap s'.heap)(hok:HOk X.prog X.w H' s'.heap)(hg:AllBare s'.gens)
  (hch:∀b∈ch,(b∈X.ex∨X.s₀.heap.objs.size≤b)∧b≠X.env.locals∧(∀x c,X.env.cells.lookup x=some c→c≠b)∧∀p∈X.pn++pins,p.1≠b):Inv X pins σ H' s':=by
 obtain ⟨h',g',d',t',o'⟩:=s'
 have e:o'=s.os:=ho
 subst e
 exact I.call (g':=g') (t':=t') (d':=d') u hok hg hch
end
noncomputable abbrev XK:=Value→Option Addr→Hp→Prop
noncomputable abbrev St:=List (Option V)
noncomputable abbrev VK:=V→Hp→Prop
noncomputable abbrev TE:=St→Hp→VK→Prop
noncomputable abbrev TT:=St→Hp→(Bool→Hp→Prop)→Prop
noncomputable abbrev TA:=St→Hp→(List V→Hp→Prop)→Prop
structure Ends where
 nx:St→Hp→Prop
 rt:VK
 bk:St→Hp→Prop:=fun _ _=>False
 ct:St→Hp→Prop:=fun _ _=>False
noncomputable abbrev TS:=Ends→St→Hp→Prop
inductive EP_i(X:Cx)(pins:List (Addr × Obj))(σ:St)(Q:VK)(u:Value)(s':Shared):Prop
 | mk (v H'):(Inv X pins σ H' s')→(RelV v u)→(Q v H')→EP_i X pins σ Q u s'
noncomputable def EP(X:Cx)(pins:List (Addr × Obj))(σ:St)(Q:VK)(u:Value)(s':Shared):Prop:=EP_i X pins σ Q u s'
inductive TP_i(X:Cx)(pins:List (Addr × Obj))(σ:St)(Q:Bool→Hp→Prop)(b:Bool)(s':Shared):Prop
 | mk (H'):(Inv X pins σ H' s')→(Q b H')→TP_i X pins σ Q b s'
noncomputable def TP(X:Cx)(pins:List (Addr × Obj))(σ:St)(Q:Bool→Hp→Prop)(b:Bool)(s':Shared):Prop:=TP_i X pins σ Q b s'
inductive AP_i(X:Cx)(pins:List (Addr × Obj))(σ:St)(Q:List V→Hp→Prop)(us:List Value)(s':Shared):Prop
 | mk (vs H'):(Inv X pins σ H' s')→(Vals vs us)→(Q vs H')→AP_i X pins σ Q us s'
noncomputable def AP(X:Cx)(pins:List (Addr × Obj))(σ:St)(Q:List V→Hp→Prop)(us:List Value)(s':Shared):Prop:=AP_i X pins σ Q us s'
noncomputable def SP(X:Cx)(pins:List (Addr × Obj))(D:Ends)(f:Flow)(s':Shared):Prop :=
 match f with
 | .next=>∃σ' H',Inv X pins σ' H' s'∧D.nx σ' H'
 | .brk=>∃σ' H',Inv X pins σ' H' s'∧D.bk σ' H'
 | .cont=>∃σ' H',Inv X pins σ' H' s'∧D.ct σ' H'
 | .ret u=>∃v σ' H',Inv X pins σ' H' s'∧RelV v u∧D.rt v H'
noncomputable def PE(X:Cx)(e:Expr)(t:TE):Prop :=
 ∀(pins:List (Addr × Obj)) (s:Shared) (σ:St) (H:Hp) (Q:VK),Inv X pins σ H s→t σ H Q→wpAny (model X.prog X.w) X.A (eval e X.env) (EP X pins σ Q) X.xe s
noncomputable def PT(X:Cx)(e:Expr)(t:TT):Prop :=
 ∀(pins:List (Addr × Obj)) (s:Shared) (σ:St) (H:Hp) (Q:Bool→Hp→Prop),Inv X pins σ H s→t σ H Q→wpAny (model X.prog X.w) X.A (isTrue e X.env (eval e X.env)) (TP X pins σ Q) X.xe s
noncomputable def PW(X:Cx)(e:Expr)(t:TT):Prop :=
 ∀(whole:Sem Value) (pins:List (Addr × Obj)) (s:Shared) (σ:St) (H:Hp) (Q:Bool→Hp→Prop),Inv X pins σ H s→t σ H Q→wpAny (model X.prog X.w) X.A (isTrue e X.env whole) (TP X pins σ Q) X.xe s
theorem PW.pt{X:Cx}{e:Expr}{t:TT}(h:PW X e t):PT X e t:=h _
noncomputable def PA(X:Cx)(es:List Expr)(t:TA):Prop :=
 ∀(pos:Pos) (pins:List (Addr × Obj)) (s:Shared) (σ:St) (H:Hp) (Q:List V→Hp→Prop),Inv X pins σ H s→t σ H Q→wpAny (model X.prog X.w) X.A (spliced (backTo pos (starEach es X.env))) (AP X pins σ Q) X.xe s
noncomputable def PS(X:Cx)(st:Stmt)(t:TS):Prop :=
 ∀(pins:List (Addr × Obj)) (s:Shared) (σ:St) (H:Hp) (D:Ends),Inv X pins σ H s→t D σ H→wpAny (model X.prog X.w) X.A (exec st X.env) (SP X pins D) X.xe s
noncomputable def PSs(X:Cx)(st:List Stmt)(t:TS):Prop :=
 ∀(pins:List (Addr × Obj)) (s:Shared) (σ:St) (H:Hp) (D:Ends),Inv X pins σ H s→t D σ H→wpAny (model X.prog X.w) X.A (execs st X.env) (SP X pins D) X.xe s
theorem thn{α:Type}{t:Sem α}{Q Q':α→Shared→Prop}{M:Model}{A:Around}{E:Value→Shared→Prop}{s:Shared}(h:wpAny M A t Q E s)(hQ:∀a s,Q a s→Q' a s):wpAny M A t Q' E s:=wpAny_mono h hQ fun _ _ x=>x
section
variable {X:Cx}
inductive Zad(i:Nat)(σ:St)(H:Hp)(Q:VK):Prop
 | mk (v):(σ[i]?=some (some v))→(Q v H)→Zad i σ H Q
noncomputable def Zdk(i:Nat):TE:=fun σ H Q=>Zad i σ H Q
noncomputable def tC(v:V):TE:=fun _ H Q=>Q v H
theorem Zae {i:Nat} {x:Str} {pos:Pos} (hN:X.N[i]?=some x) (hv:Vis X.env.scope x) (hd:(x == ("__debug__" : Str))=false:=by decide) (hcd:(x == ("__classdict__" : Str))=false:=by decide):PE X (.Name x pos) (Zdk i):=by
 intro pins s σ H Q I h
 obtain ⟨v,e,h⟩:=h
 obtain ⟨m,hn,hl⟩:=I.loc
 obtain ⟨u,r,l⟩:=hl i x v hN e hv
 have fin:EP X pins σ Q u s:=⟨v,H,I,r,h⟩
 rcases l with ⟨hk,hm⟩ | ⟨hk,c,hc,hcell⟩
 ·exact wpAny_Name (wpAny_loadName_local I.ok.kind hk hn hm fin) hd
 ·rcases hk with hk | hk
  ·exact wpAny_Name (wpAny_loadName_cell I.ok.kind hk hc hcell fin) hd
  ·exact wpAny_Name (wpAny_loadName_free I.ok.kind hk hc hcell fin hcd) hd
theorem pe_int{i j pos}:PE X (.Constant (.int i) j pos) (tC (.int i)):=fun _ _ _ H _ I h=>wpAny_Constant_int ⟨.int i,H,I.tok _,⟨_,rfl⟩,h⟩
theorem pe_bl{b j pos}:PE X (.Constant (.bool b) j pos) (tC (.bl b)):=fun _ _ _ H _ I h=>Constant_bool ⟨.bl b,H,I,rfl,h⟩
theorem pe_non{j pos}:PE X (.Constant .none j pos) (tC .non):=fun _ _ _ H _ I h=>Constant_none ⟨.non,H,I,rfl,h⟩
theorem pe_str{x j pos}:PE X (.Constant (.str x) j pos) (tC (.str x)):=fun _ _ _ H _ I h=>Calls.Constant_str ⟨.str x,H,I.tok _,⟨_,rfl⟩,h⟩
noncomputable def Gl(X:Cx)(x:Str):Prop:=X.env.kindOf x=some .globalImplicit
theorem Jv{E:Value→Shared→Prop}{pins:List (Addr × Obj)}{s:Shared}{σ:St}{H:Hp}{x:Str}{u:Value}{pos:Pos}{Q:Value→Shared→Prop}(I:Inv X pins σ H s)(hg:Gl X x)(hm:X.mg x=some u)(h:Q u s)
  (hd:(x == ("__debug__" : Str))=false:=by decide):wpAny (model X.prog X.w) X.A (eval (.Name x pos) X.env) Q E s :=
 Calls.Name_function_global I.ok.kind hg (Calls.loadGlobal_global (by rw [I.ok.glob];exact I.mod.glob.keeps I.bk) hm h) hd
theorem GV{E:Value→Shared→Prop}{pins:List (Addr × Obj)}{s:Shared}{σ:St}{H:Hp}{x:Str}{u:Value}{pos:Pos}{Q:Value→Shared→Prop}(I:Inv X pins σ H s)(hg:Gl X x)(hm:X.mg x=none)(hv:bootBuiltins x=some u)(h:Q u s)
  (hn:x ≠ "__name__" := by decide) (hd:(x == ("__debug__" : Str))=false:=by decide):wpAny (model X.prog X.w) X.A (eval (.Name x pos) X.env) Q E s:=by
 obtain ⟨mb,h1,h2⟩:=I.mod.blt
 exact Calls.Name_function_global I.ok.kind hg (Calls.loadGlobal_builtin (by rw [I.ok.glob];exact I.mod.glob.keeps I.bk) hm (by rw [I.ok.blt];exact h1.keeps I.bk) ((h2 x hn).trans hv) h) hd
theorem Zbl {x:Str} {v:V} {u:Value} {pos:Pos} (hg:Gl X x) (hm:X.mg x=some u) (r:RelV v u) (hd:(x == ("__debug__" : Str))=false:=by decide):PE X (.Name x pos) (tC v) :=
 fun _ _ _ H _ I h=>Jv I hg hm ⟨v,H,I,r,h⟩ hd
theorem Zbm {x:Str} {v:V} {u:Value} {pos:Pos} (hg:Gl X x) (hm:X.mg x=none) (hv:bootBuiltins x=some u) (r:RelV v u) (hn:x ≠ "__name__" := by decide) (hd:(x == ("__debug__" : Str))=false:=by decide):PE X (.Name x pos) (tC v) :=
 fun _ _ _ H _ I h=>GV I hg hm hv ⟨v,H,I,r,h⟩ hn hd
variable {a b:Expr}{ta tb:TE}{pos:Pos}
inductive tB_i(Q:Bool→Hp→Prop)(x:V)(H1:Hp):Prop
 | mk (c):(x=.bl c)→(Q c H1)→tB_i Q x H1
noncomputable def tB(t:TE):TT:=fun σ H Q=>t σ H fun x H1=>tB_i Q x H1
theorem pt_val{e:Expr}{t:TE}(h:PE X e t)(he:∀whole,isTrue e X.env whole=(do let v ←whole;standAt e.pos;holding [v] (truthy v)):=by intro _;rfl):PT X e (tB t):=by
 intro pins s σ H Q I hw
 refine isTrue_plain (thn (h pins s σ H _ I hw) fun v s1 ⟨x,H1,I1,r1,q1⟩=>?_) (he _)
 obtain ⟨d,rfl,q⟩:=q1
 cases r1
 exact wpAny_truthy_bool ⟨H1,I1,q⟩
variable {tA tB':TT}{rest:List Expr}
noncomputable def tAnd(t u:TT):TT:=fun σ H Q=>t σ H fun c H1=>if c=true then u σ H1 Q else Q false H1
noncomputable def tOr(t u:TT):TT:=fun σ H Q=>t σ H fun c H1=>if c=true then Q true H1 else u σ H1 Q
noncomputable def tNot(t:TT):TT:=fun σ H Q=>t σ H fun c H1=>Q (!c) H1
theorem Zbn(ha:PT X a tA):PW X (.BoolOp .And [a] pos) tA:=by
 intro wh pins s σ H Q I h
 refine isTrue_and (thn (ha pins s σ H Q I h) fun c s1 e=>?_)
 cases c with
 | true=>exact isTrue_and_nil e
 | false=>exact e
theorem pw_or1(ha:PT X a tA):PW X (.BoolOp .Or [a] pos) tA:=by
 intro wh pins s σ H Q I h
 refine isTrue_or (thn (ha pins s σ H Q I h) fun c s1 e=>?_)
 cases c with
 | false=>exact isTrue_or_nil e
 | true=>exact e
theorem pw_and(ha:PT X a tA)(hb:PW X (.BoolOp .And (b::rest) pos) tB'):PW X (.BoolOp .And (a::b::rest) pos) (tAnd tA tB'):=by
 intro wh pins s σ H Q I h
 refine isTrue_and (thn (ha pins s σ H _ I h) fun c s1 ⟨H1,I1,q1⟩=>?_)
 cases c with
 | true=>exact hb wh pins s1 σ H1 Q I1 q1
 | false=>exact ⟨H1,I1,q1⟩
theorem pw_or(ha:PT X a tA)(hb:PW X (.BoolOp .Or (b::rest) pos) tB'):PW X (.BoolOp .Or (a::b::rest) pos) (tOr tA tB'):=by
 intro wh pins s σ H Q I h
 refine isTrue_or (thn (ha pins s σ H _ I h) fun c s1 ⟨H1,I1,q1⟩=>?_)
 cases c with
 | true=>exact ⟨H1,I1,q1⟩
 | false=>exact hb wh pins s1 σ H1 Q I1 q1
theorem pt_not(ha:PT X a tA):PT X (.UnaryOp .Not a pos) (tNot tA):=by
 intro pins s σ H Q I h
 exact isTrue_not (thn (ha pins s σ H (fun c H1=>Q (!c) H1) I h) fun c s1 ⟨H1,I1,q⟩=>⟨H1,I1,q⟩)
inductive vF(tb:TE)(σ:St)(Q:VK)(x:V)(H1:Hp):Prop
 | mk (c):(x=.bl c)→(if c=true then tb σ H1 Q else Q (.bl false) H1)→vF tb σ Q x H1
noncomputable def Zdq(ta tb:TE):TE:=fun σ H Q=>ta σ H fun x H1=>vF tb σ Q x H1
inductive Zaf(tb:TE)(σ:St)(Q:VK)(x:V)(H1:Hp):Prop
 | mk (c):(x=.bl c)→(if c=true then Q (.bl true) H1 else tb σ H1 Q)→Zaf tb σ Q x H1
noncomputable def tOrV(ta tb:TE):TE:=fun σ H Q=>ta σ H fun x H1=>Zaf tb σ Q x H1
inductive vG(Q:VK)(x:V)(H1:Hp):Prop
 | mk (c):(x=.bl c)→(Q (.bl (!c)) H1)→vG Q x H1
noncomputable def Zdr(ta:TE):TE:=fun σ H Q=>ta σ H fun x H1=>vG Q x H1
theorem pe_one{op}{t:TE}(h:PE X a t):PE X (.BoolOp op [a] pos) t:=fun pins s σ H Q I hw=>BoolOp_one (h pins s σ H Q I hw)
theorem pe_and(ha:PE X a ta)(hb:PE X (.BoolOp .And (b::rest) pos) tb):PE X (.BoolOp .And (a::b::rest) pos) (Zdq ta tb):=by
 intro pins s σ H Q I h
 refine BoolOp_and (thn (ha pins s σ H _ I h) fun v s1 ⟨x,H1,I1,r1,q1⟩=>?_)
 obtain ⟨c,rfl,q1⟩:=q1
 cases r1
 refine wpAny_truthy_bool ?_
 cases c with
 | true=>exact hb pins s1 σ H1 Q I1 q1
 | false=>exact ⟨.bl false,H1,I1,rfl,q1⟩
theorem pe_or(ha:PE X a ta)(hb:PE X (.BoolOp .Or (b::rest) pos) tb):PE X (.BoolOp .Or (a::b::rest) pos) (tOrV ta tb):=by
 intro pins s σ H Q I h
 refine BoolOp_or (thn (ha pins s σ H _ I h) fun v s1 ⟨x,H1,I1,r1,q1⟩=>?_)
 obtain ⟨c,rfl,q1⟩:=q1
 cases r1
 refine wpAny_truthy_bool ?_
 cases c with
 | false=>exact hb pins s1 σ H1 Q I1 q1
 | true=>exact ⟨.bl true,H1,I1,rfl,q1⟩
theorem pe_not(ha:PE X a ta):PE X (.UnaryOp .Not a pos) (Zdr ta):=by
 intro pins s σ H Q I h
 refine UnaryOp_ (thn (ha pins s σ H _ I h) fun v s1 ⟨x,H1,I1,r1,q1⟩=>?_)
 obtain ⟨c,rfl,q1⟩:=q1
 cases r1
 exact not_of (wpAny_truthy_bool ⟨.bl (!c),H1,I1,rfl,q1⟩)
noncomputable def tIf(t:TT)(ta tb:TE):TE:=fun σ H Q=>t σ H fun c H1=>if c=true then ta σ H1 Q else tb σ H1 Q
theorem g7{c:Expr}(hc:PT X c tA)(ha:PE X a ta)(hb:PE X b tb):PE X (.IfExp c a b pos) (tIf tA ta tb):=by
 intro pins s σ H Q I h
 refine wpAny_IfExp (thn (hc pins s σ H _ I h) fun d s1 ⟨H1,I1,q1⟩=>?_)
 cases d with
 | true=>exact ha pins s1 σ H1 Q I1 q1
 | false=>exact hb pins s1 σ H1 Q I1 q1
end
noncomputable def SqL(K:PySem.W.Frag)(H:Hp)(a:Addr)(xs:List V):Prop :=
 Rd H a (.lst xs) ∨
  ∃(o:Obj) (its:Array Value) (n:Nat),K.lookup a=some o∧o.cls=.type "list" ∧ o.dict=none∧o.data=.seq its n∧its.size≤sizeLine∧Vals xs its.toList
noncomputable def SqT(K:PySem.W.Frag)(H:Hp)(a:Addr)(xs:List V):Prop :=
 Rd H a (.tup xs) ∨
  ∃(o:Obj) (its:Array Value) (n:Nat),K.lookup a=some o∧o.cls=.type "tuple" ∧ o.data=.seq its n∧its.size≤sizeLine∧Vals xs its.toList
noncomputable def absV:Value→Option V
 | .none=>some .non
 | .bool b=>some (.bl b)
 | .int i _=>some (.int i)
 | .str x _=>some (.str x)
 | .bytes b _=>some (.byt b)
 | .float b _=>some (.flt b)
 | .ref a=>some (.ref a)
 | .type n=>some (.ty n)
 | _=>none
theorem RelV.abs{x:V}{u:Value}(r:RelV x u):absV u=some x:=by
 cases x with
 | non=>cases r;rfl
 | bl _=>cases r;rfl
 | int _=>obtain ⟨t,rfl⟩:=r;rfl
 | str _=>obtain ⟨t,rfl⟩:=r;rfl
 | byt _=>obtain ⟨t,rfl⟩:=r;rfl
 | flt _=>obtain ⟨t,rfl⟩:=r;rfl
 | ref _=>cases r;rfl
 | ty _=>cases r;rfl
theorem RelV.inj{x y:V}{u:Value}(r:RelV x u)(q:RelV y u):x=y:=Option.some.inj (r.abs.symm.trans q.abs)
theorem Vals.inj:∀{xs ys:List V} {us:List Value},Vals xs us→Vals ys us→xs=ys
 | _,_,_,.nil,.nil=>rfl
 | _,_,_,.cons r t,.cons r' t'=>by rw [r.inj r',Vals.inj t t']
section
variable {X:Cx}{pins:List (Addr × Obj)}{σ:St}{H:Hp}{s:Shared}{a:Addr}{xs ys:List V}
theorem SqL.of{K:PySem.W.Frag}(h:H a=some (.lst xs)):SqL K H a xs:=.inl (.inl h)
theorem SqT.of{K:PySem.W.Frag}(h:H a=some (.tup xs)):SqT K H a xs:=.inl (.inl h)
theorem Inv.list(I:Inv X pins σ H s)(h:SqL X.K H a xs):∃its:List Value,Vals xs its∧PlainL s.heap a its.toArray∧xs.length≤sizeLine:=by
 rcases h with h | ⟨o,its,n,hk,hc,hd,hs,hz,r⟩
 ·obtain ⟨z,its,n,r,e⟩:=h.ok I.hok
  exact ⟨its,r,⟨_,n,e,rfl,rfl,rfl⟩,z⟩
 ·refine ⟨its.toList,r,⟨o,n,I.kIn a o hk,hc,hd,by simpa using hs⟩,?_⟩
  have e:=r.length
  simp only [Array.length_toList] at e
  lia
theorem Inv.tuple(I:Inv X pins σ H s)(h:SqT X.K H a xs):∃its:List Value,Vals xs its∧IsTup s.heap a its.toArray∧xs.length≤sizeLine:=by
 rcases h with h | ⟨o,its,n,hk,hc,hs,hz,r⟩
 ·obtain ⟨z,its,r,p⟩:=h.ok I.hok
  exact ⟨its,r,p,z⟩
 ·refine ⟨its.toList,r,⟨o,I.kIn a o hk,hc,n,by simpa using hs⟩,?_⟩
  have e:=r.length
  simp only [Array.length_toList] at e
  lia
theorem Inv.list_inj(I:Inv X pins σ H s)(h:SqL X.K H a xs)(h':SqL X.K H a ys):xs=ys:=by
 obtain ⟨its,r,⟨o,n,e,_,_,d⟩,_⟩:=I.list h
 obtain ⟨its',r',⟨o',n',e',_,_,d'⟩,_⟩:=I.list h'
 rw [e] at e';cases e'
 rw [d] at d'
 injection d' with d1 _
 have:its=its':=by simpa using congrArg Array.toList d1
 subst this
 exact r.inj r'
theorem Inv.tuple_inj(I:Inv X pins σ H s)(h:SqT X.K H a xs)(h':SqT X.K H a ys):xs=ys:=by
 obtain ⟨its,r,⟨o,e,_,n,d⟩,_⟩:=I.tuple h
 obtain ⟨its',r',⟨o',e',_,n',d'⟩,_⟩:=I.tuple h'
 rw [e] at e';cases e'
 rw [d] at d'
 injection d' with d1 _
 have:its=its':=by simpa using congrArg Array.toList d1
 subst this
 exact r.inj r'
end
noncomputable abbrev Cx.wish(X:Cx)(E:Value→Shared→Prop):Cx:={ X with xe:=E }
noncomputable abbrev Cx.nox(X:Cx):Cx:=X.wish fun _ _=>False
theorem Cx.Ok.wish{X:Cx}(ok:X.Ok)(E:Value→Shared→Prop):(X.wish E).Ok :=
 ⟨ok.mod,ok.kind,ok.glob,ok.blt,ok.above,ok.inj,ok.has,ok.cab,ok.hd,ok.frames,ok.stk,ok.exf,ok.bs,ok.bsz,ok.noex,ok.exfs,ok.funs,ok.frf⟩
theorem Cx.Ok.unwish{X:Cx}{E:Value→Shared→Prop}(ok:(X.wish E).Ok):X.Ok :=
 ⟨ok.mod,ok.kind,ok.glob,ok.blt,ok.above,ok.inj,ok.has,ok.cab,ok.hd,ok.frames,ok.stk,ok.exf,ok.bs,ok.bsz,ok.noex,ok.exfs,ok.funs,ok.frf⟩
section
variable {X:Cx}{pins:List (Addr × Obj)}{σ:St}{H:Hp}{s:Shared}{E:Value→Shared→Prop}
theorem Inv.wish(I:Inv X pins σ H s)(E:Value→Shared→Prop):Inv (X.wish E) pins σ H s:=⟨I.ok.wish E,I.os,I.bare,I.base,I.loc,I.cell,I.free,I.freeC,I.pin,I.hok,I.len⟩
theorem Inv.unwish(I:Inv (X.wish E) pins σ H s):Inv X pins σ H s:=⟨I.ok.unwish,I.os,I.bare,I.base,I.loc,I.cell,I.free,I.freeC,I.pin,I.hok,I.len⟩
theorem SP.unwish{D:Ends}{f:Flow}{s':Shared}(h:SP (X.wish E) pins D f s'):SP X pins D f s':=by
 cases f with
 | next=>obtain ⟨σ',H',I,q⟩:=h;exact ⟨σ',H',I.unwish,q⟩
 | brk=>obtain ⟨σ',H',I,q⟩:=h;exact ⟨σ',H',I.unwish,q⟩
 | cont=>obtain ⟨σ',H',I,q⟩:=h;exact ⟨σ',H',I.unwish,q⟩
 | ret u=>obtain ⟨v,σ',H',I,r,q⟩:=h;exact ⟨v,σ',H',I.unwish,r,q⟩
theorem PSs.nox{st:List Stmt}{t:TS}(h:PSs X.nox st t):PSs X st t:=fun pins s σ H D I hw =>
 wpAny_mono (h pins s σ H D (I.wish _) hw) (fun _ _ q=>q.unwish) fun _ _ z=>False.elim z
end
section
variable {X:Cx}{st:Stmt}{rest:List Stmt}{t u:TS}{e:Expr}{te:TE}{pos:Pos}
noncomputable def Zds:TS:=fun D σ H=>D.nx σ H
noncomputable def ZT(t u:TS):TS:=fun D σ H=>t { D with nx:=u D } σ H
theorem Zbo:PSs X [] Zds:=fun _ _ σ H _ I h=>wpAny_execs_nil ⟨σ,H,I,h⟩
theorem g8(h1:PS X st t)(h2:PSs X rest u):PSs X (st::rest) (ZT t u):=by
 intro pins s σ H D I h
 refine wpAny_execs_cons (thn (h1 pins s σ H { D with nx:=u D } I h) fun f s1 q=>?_)
 cases f with
 | next =>
  obtain ⟨σ',H',I',q⟩:=q
  exact h2 pins s1 σ' H' D I' q
 | ret v=>exact q
 | brk=>exact q
 | cont=>exact q
theorem Zbp(h1:PS X st t):PSs X [st] t:=by
 intro pins s σ H D I h
 refine wpAny_execs_cons (thn (h1 pins s σ H D I h) fun f s1 q=>?_)
 cases f with
 | next=>exact wpAny_execs_nil q
 | ret v=>exact q
 | brk=>exact q
 | cont=>exact q
theorem Inv.quiet{pins:List (Addr × Obj)}{σ:St}{H:Hp}{s:Shared}(I:Inv X pins σ H s):interactive X.env=false:=by simp [interactive,I.ok.kind]
noncomputable def Zdt(te:TE):TS:=fun D σ H=>te σ H fun _ H1=>D.nx σ H1
theorem Zbq(he:PE X e te)(hs:swapsWith e none pos.line X.env=pure false:=by rfl):PS X (.Expr e pos) (Zdt te):=by
 intro pins s σ H D I h
 exact wpAny_Expr_any (thn (he pins s σ H _ I h) fun v s1 ⟨x,H1,I1,r1,q1⟩=>⟨σ,H1,I1,q1⟩) I.quiet hs
noncomputable def tRet(te:TE):TS:=fun D σ H=>te σ H D.rt
theorem ps_ret(he:PE X e te):PS X (.Return (some e) pos) (tRet te):=by
 intro pins s σ H D I h
 exact wpAny_Return_some (thn (he pins s σ H _ I h) fun v s1 ⟨x,H1,I1,r1,q1⟩=>⟨x,σ,H1,I1,r1,q1⟩)
noncomputable def Zbr(c:TT)(t u:TS):TS:=fun D σ H=>c σ H fun b H1=>if b=true then t D σ H1 else u D σ H1
theorem ps_if{c:Expr}{a b:List Stmt}{tc:TT}(hc:PT X c tc)(ha:PSs X a t)(hb:PSs X b u):PS X (.If c a b pos) (Zbr tc t u):=by
 intro pins s σ H D I h
 refine wpAny_If (thn (hc pins s σ H _ I h) fun d s1 ⟨H1,I1,q1⟩=>?_)
 cases d with
 | true=>exact ha pins s1 σ H1 D I1 q1
 | false=>exact hb pins s1 σ H1 D I1 q1
end
noncomputable abbrev TG:=V→St→Hp→(St→Hp→Prop)→Prop
noncomputable abbrev TGs:=List V→St→Hp→(St→Hp→Prop)→Prop
noncomputable def PG(X:Cx)(target:Expr)(t:TG):Prop :=
 ∀(pins:List (Addr × Obj)) (s:Shared) (σ:St) (H:Hp) (v:V) (u:Value) (Q:St→Hp→Prop),Inv X pins σ H s→RelV v u→t v σ H Q →
  wpAny (model X.prog X.w) X.A (assign target X.env u) (fun _ s'=>∃σ' H',Inv X pins σ' H' s'∧Q σ' H') X.xe s
noncomputable def PGs(X:Cx)(ts:List Expr)(t:TGs):Prop :=
 ∀(pins:List (Addr × Obj)) (s:Shared) (σ:St) (H:Hp) (vs:List V) (us:List Value) (Q:St→Hp→Prop),Inv X pins σ H s→Vals vs us→t vs σ H Q →
  wpAny (model X.prog X.w) X.A (assignInOrder ((assignEach ts X.env).map (·.2)) us) (fun _ s'=>∃σ' H',Inv X pins σ' H' s'∧Q σ' H') X.xe s
noncomputable abbrev Zev:=V→V→V→Hp→(Hp→Prop)→Prop
noncomputable def PSet(X:Cx)(t:Zev):Prop :=
 ∀(pins:List (Addr × Obj)) (s:Shared) (σ:St) (H:Hp) (o i v:V) (ov iv u:Value) (Q:Hp→Prop),Inv X pins σ H s→RelV o ov→RelV i iv→RelV v u→t o i v H Q →
  wpAny (model X.prog X.w) X.A (setItem ov iv u) (fun _ s'=>∃H',Inv X pins σ H' s'∧Q H') X.xe s
section
variable {X:Cx}{pos:Pos}
noncomputable def Jw(i:Nat):TG:=fun v σ H Q=>Q (σ.set i (some v)) H
theorem Jx{i:Nat}{x:Str}(hN:X.N.Nodup)(hi:X.N[i]?=some x)(hx:Loc X.env.scope x)(hf:X.fn x=true∨X.env.scope.names.lookup x=some .local:=by first | exact .inl rfl | exact .inr rfl | assumption):PG X (.Name x pos) (Jw i):=by
 intro pins s σ H v u Q I r h
 exact wpAny_assign_Name (J6 I hN hi hx r (fun s' I'=>⟨_,H,I',h⟩) hf)
inductive Zag(vs:List V)(σ:St)(H:Hp)(Q:St→Hp→Prop):Prop
 | mk  : (vs=[])→(Q σ H)→Zag vs σ H Q
noncomputable def gNil  : TGs:=fun vs σ H Q=>Zag vs σ H Q
inductive vH(t:TG)(u:TGs)(vs:List V)(σ:St)(H:Hp)(Q:St→Hp→Prop):Prop
 | mk (v r):(vs=v::r)→(t v σ H fun σ' H'=>u r σ' H' Q)→vH t u vs σ H Q
noncomputable def yE(t:TG)(u:TGs):TGs:=fun vs σ H Q=>vH t u vs σ H Q
theorem vI:PGs X [] gNil:=by
 intro pins s σ H vs us Q I r h
 obtain ⟨e,h⟩:=h
 subst e
 cases r
 exact assignInOrder_nil ⟨σ,H,I,h⟩
theorem J7{e:Expr}{es:List Expr}{t:TG}{u:TGs}(h1:PG X e t)(h2:PGs X es u)
  (hs:(assignEach (e::es) X.env).map (·.2)=assign e X.env::(assignEach es X.env).map (·.2):=by rfl):PGs X (e::es) (yE t u):=by
 intro pins s σ H vs us Q I r h
 obtain ⟨v,vr,e1,h⟩:=h
 subst e1
 cases r with
 | cons r rr =>
  rw [hs]
  refine assignInOrder_cons (thn (h1 pins s σ H _ _ _ I r h) fun _ s1 ⟨σ1,H1,I1,q1⟩=>?_)
  exact h2 pins s1 σ1 H1 _ _ Q I1 rr q1
inductive Zah(K:PySem.W.Frag)(n:Nat)(t:TGs)(v:V)(σ:St)(H:Hp)(Q:St→Hp→Prop):Prop
 | mk (a xs):(v=.ref a)→(SqT K H a xs)→(xs.length=n)→(t xs σ H Q)→Zah K n t v σ H Q
noncomputable def gTup(K:PySem.W.Frag)(n:Nat)(t:TGs):TG:=fun v σ H Q=>Zah K n t v σ H Q
theorem Zai{es:List Expr}{k:Nat}{t:TGs}{n:Nat}(hc:X.calm=true)(h:PGs X es t)
  (hn:(assignEach es X.env).length=n:=by rfl) (hst:(assignEach es X.env).findIdx? (·.1)=none:=by rfl):PG X (.Tuple es k pos) (gTup X.K n t):=by
 intro pins s σ H v u Q I r hw
 obtain ⟨a,xs,e1,hq,hl,hw⟩:=hw
 subst e1
 cases r
 obtain ⟨its,rv,ht,hz⟩:=I.tuple hq
 refine assign_Tuple_tuple (I.ok.hd hc) ht (by simp [hn,←hl,rv.length]) hst fun h' hx=>?_
 have I1:Inv X pins σ H { s with heap:=h' }:=I.kept (t':=s.toks) fun b o e=>hx b o (Nat.ne_of_lt (Heap.lt_size e)) e
 exact h pins _ σ H xs _ Q I1 (by simpa using rv) hw
noncomputable def gSub(to ti:TE)(t:Zev):TG:=fun v σ H Q=>to σ H fun o H1=>ti σ H1 fun i H2=>t o i v H2 fun H3=>Q σ H3
theorem pg_sub{o i:Expr}{to ti:TE}{t:Zev}(ho:PE X o to)(hi:PE X i ti)(hs:PSet X t)
  (ha:∀v,assign (.Subscript o i pos) X.env v=(do
   let ov ←holding [v] (eval o X.env)
   let iv ←holding [v,ov] (eval i X.env)
   standAt pos
   holding [v,ov,iv] (setItem ov iv v)
   release [v,ov,iv] []):=by intro _;rfl):PG X (.Subscript o i pos) (gSub to ti t):=by
 intro pins s σ H v u Q I r h
 rw [ha]
 refine wpAny_bind (wpAny_holding (thn (ho pins s σ H _ I h) fun ov s1 ⟨x,H1,I1,r1,q1⟩=>?_))
 refine wpAny_bind (wpAny_holding (thn (hi pins s1 σ H1 _ I1 q1) fun iv s2 ⟨y,H2,I2,r2,q2⟩=>?_))
 refine wpAny_bind (wpAny_standAt (wpAny_bind (wpAny_holding (thn (hs pins s2 σ H2 x y v ov iv u _ I2 r1 r2 r q2) fun _ s3 ⟨H3,I3,q3⟩=>?_))))
 exact wpAny_release ⟨σ,H3,I3,q3⟩
noncomputable def Zbs(te:TE)(g:TG):TS:=fun D σ H=>te σ H fun x H1=>g x σ H1 D.nx
theorem ps_asg{tg e:Expr}{te:TE}{g:TG}(he:PE X e te)(hg:PG X tg g)(hs:swapsWithSole [tg] e pos.line X.env=pure false:=by rfl)(hw:swappedStores [tg] e X.env=pure none:=by rfl)
  (h1:(assignEach [tg] X.env).map (·.2)=[assign tg X.env]:=by rfl):PS X (.Assign [tg] e pos) (Zbs te g):=by
 intro pins s σ H D I h
 refine wpAny_Assign_stores (thn (he pins s σ H _ I h) fun v s1 ⟨x,H1,I1,r1,q1⟩=>?_) hs hw
 rw [h1]
 exact thn (hg pins s1 σ H1 x v _ I1 r1 q1) fun _ s2 q=>q
theorem ps_set{i:Nat}{x:Str}{e:Expr}{te:TE}{pos':Pos}(hN:X.N.Nodup)(hi:X.N[i]?=some x)(hx:Loc X.env.scope x)(he:PE X e te)(hs:swapsWith e (some (.Name x pos')) pos.line X.env=pure false:=by rfl)(hf:X.fn x=true∨X.env.scope.names.lookup x=some .local:=by first | exact .inl rfl | exact .inr rfl | assumption) :
  PS X (.Assign [.Name x pos'] e pos) (Zbs te (Jw i)):=by
 intro pins s σ H D I h
 refine wpAny_Assign_Name (thn (he pins s σ H _ I h) fun v s1 ⟨y,H1,I1,r1,q1⟩=>?_) hs
 exact J6 I1 hN hi hx r1 (fun s2 I2=>⟨_,H1,I2,q1⟩) hf
end
section
variable {X:Cx}{pos:Pos}
noncomputable def vJ(c:TT)(tb:TS):TS:=fun D σ H=>∃W:Nat→St→Hp→Prop,(∃m,W m σ H)∧∀m σ H,W m σ H →
 c σ H fun b H1=>if b=true then ∃N:St→Hp→Prop,(∀σ' H',N σ' H'→∃m',m' < m∧W m' σ' H')∧tb { D with nx:=N,ct:=N,bk:=D.nx } σ H1 else D.nx σ H1
theorem g9{c:Expr}{body:List Stmt}{tc:TT}{tb:TS}(hp:PassesOwn (model X.prog X.w) X.A X.env X.xe)(hc:PT X c tc)(hb:PSs X body tb):PS X (.While c body [] pos) (vJ tc tb):=by
 intro pins s σ H D I h
 obtain ⟨W,⟨m0,w0⟩,turn⟩:=h
 refine wpAny_While (codeAny_whileLoop (fun n s'=>∃σ' H',Inv X pins σ' H' s'∧W n σ' H') ?_ m0 ⟨σ,H,I,w0⟩)
 rintro n s1 ⟨σ1,H1,I1,w1⟩
 refine wpAny_passesOwn hp (thn (hc pins s1 σ1 H1 _ I1 (turn n σ1 H1 w1)) fun b s2 ⟨H2,I2,q2⟩=>?_)
 cases b with
 | true =>
  obtain ⟨N,hN,q2⟩:=q2
  rw [if_pos rfl]
  refine wpAny_passesOwn hp (thn (hb pins s2 σ1 H2 _ I2 q2) fun f s3 q3=>?_)
  cases f with
  | next =>
   obtain ⟨σ3,H3,I3,n3⟩:=q3
   obtain ⟨m',hm,w3⟩:=hN σ3 H3 n3
   exact ⟨m',hm,σ3,H3,I3,w3⟩
  | cont =>
   obtain ⟨σ3,H3,I3,n3⟩:=q3
   obtain ⟨m',hm,w3⟩:=hN σ3 H3 n3
   exact ⟨m',hm,σ3,H3,I3,w3⟩
  | brk=>exact q3
  | ret v=>exact q3
 | false =>
  rw [if_neg Bool.false_ne_true]
  exact wpAny_execs_nil ⟨σ1,H2,I2,q2⟩
end
structure It where
 go:Nat→Hp→Prop
 yld:Nat→Hp→V→Hp→Prop
 stop:Nat→Hp→Prop
noncomputable def Gm(X:Cx)(pins:List (Addr × Obj))(H:Hp)(b:Addr):Prop :=
 H b=none∧b≠X.env.locals∧b∉X.fs∧(b∈X.ex∨X.s₀.heap.objs.size≤b)∧(∀x c,X.env.cells.lookup x=some c→c≠b)∧∀p∈X.pn++pins,p.1≠b
theorem Inv.fpOk{X:Cx}{pins:List (Addr × Obj)}{σ:St}{H H':Hp}{s:Shared}{b:Addr}(I:Inv X pins σ H s)(hb:s.heap.objs.size≤b)(hn:H' b=none):Gm X pins H' b:=by
 refine ⟨hn,Nat.ne_of_gt (Nat.lt_of_lt_of_le I.lt hb),I.nofs hb,.inr (Nat.le_trans I.sz hb),fun x c e z=>?_,fun p hp z=>?_⟩
 ·obtain ⟨v,q⟩:=I.cell x c e
  exact absurd (Nat.lt_of_lt_of_le q.lt (by rw [z];exact hb)) (Nat.lt_irrefl _)
 ·exact absurd (Nat.lt_of_lt_of_le (Heap.lt_size (I.pin p hp).1) (by rw [z];exact hb)) (Nat.lt_irrefl _)
structure Turn(P:Program)(w:World)(K:PySem.W.Frag)(tg:Expr)(J:It)(fp:List Addr)(it:Addr)(tn:Nat→Heap→Prop):Prop where
 mem:it∈fp
 obj:∀i h,tn i h→∀b∈fp,∃o,h.get? b=some o∧∀v,o.data≠.cell v
 keep:∀i h h',tn i h→(∀b∈fp,∀o,h.get? b=some o→h'.get? b=some o)→tn i h'
 item:∀(X:Cx),X.prog=P→X.w=w→X.K=K→X.calm=true→∀(i:Nat) (pins:List (Addr × Obj)) (s:Shared) (σ:St) (H:Hp) (E:Value→Shared→Prop),Inv X pins σ H s→(∀b∈fp,Gm X pins H b)→tn i s.heap→J.go i H →
  wpAny (model P w) X.A (pyNext (.ref it)) (fun r s1=>∃u,r=some u ∧
   wpAny (model P w) X.A (letOwnedTupleGo tg (.ref it) u) (fun _ s2=>∃x H',Inv X pins σ H' s2∧RelV x u∧J.yld i H x H'∧tn (i + 1) s2.heap∧∀b∈fp,H' b=none) E s1) E s
 done:∀(X:Cx),X.prog=P→X.w=w→X.K=K→X.calm=true→∀(i:Nat) (pins:List (Addr × Obj)) (s:Shared) (σ:St) (H:Hp) (E:Value→Shared→Prop),Inv X pins σ H s→(∀b∈fp,Gm X pins H b)→tn i s.heap→J.stop i H →
  wpAny (model P w) X.A (pyNext (.ref it)) (fun r s1=>r=none∧Inv X pins σ H s1) E s
 self:∀(A:Around) (i:Nat) (s:Shared) (Q:Value→Shared→Prop) (E:Value→Shared→Prop),tn i s.heap→Q (.ref it) s→wpAny (model P w) A (pyIter (.ref it)) Q E s
noncomputable abbrev TI:=St→Hp→(It→Hp→Prop)→Prop
noncomputable def PIE(X:Cx)(pins:List (Addr × Obj))(σ:St)(tg:Expr)(R:It→Hp→Prop)(itv:Value)(s2:Shared):Prop :=
 ∃(it:Addr) (fp:List Addr) (tn:Nat→Heap→Prop) (J:It) (H':Hp),itv=.ref it∧Inv X pins σ H' s2∧Turn X.prog X.w X.K tg J fp it tn∧tn 0 s2.heap∧(∀b∈fp,Gm X pins H' b)∧R J H'
noncomputable def PI(X:Cx)(tg iter:Expr)(wi:TI):Prop :=
 ∀(pins:List (Addr × Obj)) (s:Shared) (σ:St) (H:Hp) (R:It→Hp→Prop),Inv X pins σ H s→wi σ H R →
  wpAny (model X.prog X.w) X.A (eval iter X.env) (fun v s1=>wpAny (model X.prog X.w) X.A (pyIter v) (PIE X pins σ tg R) X.xe s1) X.xe s
theorem yF{M:Model}{A:Around}{E:Value→Shared→Prop}{s:Shared}{tg:Expr}{it:Addr}{u:Value}{o:Obj}{n:String}{vs:Array Value}{Q:Unit→Shared→Prop}(ho:s.heap.get? it=some o)(hc:o.cls=.type n)(hd:o.data=.fields vs)
    (hn:["enumerate","zip","dict_itemiterator","dict_reverseitemiterator","odict_iterator","itertools.zip_longest","itertools.pairwise"].contains n=false) (hQ:Q () s):wpAny M A (letOwnedTupleGo tg (.ref it) u) Q E s:=by
  unfold letOwnedTupleGo
  cases tg <;> first
    | exact wpAny_pure hQ
    | (cases u <;> first
        | exact wpAny_pure hQ
        | (refine wpAny_bind (wpAny_load ho ?_)
           rw [hc,hd]
           show wpAny M A (if (["enumerate","zip","dict_itemiterator","dict_reverseitemiterator","odict_iterator","itertools.zip_longest","itertools.pairwise"].contains n && vs[0]? == some (rawInt _))=true then _ else _) Q E s
           rw [if_neg (by intro h;rw [hn,Bool.false_and] at h;cases h)]
           exact wpAny_pure hQ))
noncomputable def Itl(K:PySem.W.Frag)(a:Addr):It :=
 ⟨fun i H=>∃xs x,SqL K H a xs∧xs[i]?=some x,fun i H x H'=>H'=H∧∀xs,SqL K H a xs→xs[i]?=some x,fun i H=>∃xs,SqL K H a xs∧xs.length≤i⟩
noncomputable def Itt(K:PySem.W.Frag)(a:Addr):It :=
 ⟨fun i H=>∃xs x,SqT K H a xs∧xs[i]?=some x,fun i H x H'=>H'=H∧∀xs,SqT K H a xs→xs[i]?=some x,fun i H=>∃xs,SqT K H a xs∧xs.length≤i⟩
noncomputable def Itr(lo:Int)(n:Nat):It:=⟨fun i _=>i < n,fun i H x H'=>H'=H∧x=.int (lo + i),fun i _=>n≤i⟩
theorem vK{P:Program}{w:World}{K:PySem.W.Frag}{tg:Expr}(a it:Addr):Turn P w K tg (Itl K a) [it] it (fun i h=>h.IsListIter it a i) where
 mem:=by simp
 obj:=fun i h st b hb=>by
  have e:b=it:=by simpa using hb
  subst e
  obtain ⟨o,e,c,d⟩:=st
  exact ⟨o,e,fun v z=>by rw [d] at z;cases z⟩
 keep:=fun i h h' st k=>st.at fun o e=>k it (by simp) o e
 item:=by
  intro X hP hw hK hc i pins s σ H E I hf st hg
  subst hP hw hK
  obtain ⟨xs,x,hq,hx⟩:=hg
  obtain ⟨its,rv,p,hz⟩:=I.list hq
  obtain ⟨u,hu,ru⟩:=rv.get hx
  obtain ⟨f0,f1,f2,f3,f4,f5⟩:=hf it (by simp)
  refine wpAny_pyNext_list_item st p.isList (x:=u) (by simpa using hu) fun h' st' sb=>?_
  have I1:Inv X pins σ H { s with heap:=h' }:=I.turned (t':=s.toks) (fun b o hb e=>(sb.2 b hb).trans e) f0 f1 f3 f4 f5
  obtain ⟨o,e,c,d⟩:=id st'
  exact ⟨u,rfl,yF (s:={ s with heap:=h' }) e c d (by decide) ⟨x,H,I1,ru,⟨rfl,fun ys hy=>by rw [I.list_inj hy hq];exact hx⟩,st',fun b hb=>(hf b hb).1⟩⟩
 done:=by
  intro X hP hw hK hc i pins s σ H E I hf st hg
  subst hP hw hK
  obtain ⟨xs,hq,hx⟩:=hg
  obtain ⟨its,rv,p,hz⟩:=I.list hq
  obtain ⟨f0,f1,f2,f3,f4,f5⟩:=hf it (by simp)
  have hl:=rv.length
  exact wpAny_pyNext_list_end (I.ok.hd hc) st p.isList (by simp;lia) fun h' eb=>⟨rfl,I.turned (t':=s.toks) (fun b o hb e=>eb b o hb e) f0 f1 f3 f4 f5⟩
 self:=fun _ _ _ _ _ st h=>wpAny_pyIter_listiter st h
theorem yG{P:Program}{w:World}{K:PySem.W.Frag}{tg:Expr}(a it:Addr):Turn P w K tg (Itt K a) [it] it (fun i h=>h.IsTupleIter it a i) where
 mem:=by simp
 obj:=fun i h st b hb=>by
  have e:b=it:=by simpa using hb
  subst e
  obtain ⟨o,e,c,d⟩:=st
  exact ⟨o,e,fun v z=>by rw [d] at z;cases z⟩
 keep:=fun i h h' st k=>st.at fun o e=>k it (by simp) o e
 item:=by
  intro X hP hw hK hc i pins s σ H E I hf st hg
  subst hP hw hK
  obtain ⟨xs,x,hq,hx⟩:=hg
  obtain ⟨its,rv,p,hz⟩:=I.tuple hq
  obtain ⟨u,hu,ru⟩:=rv.get hx
  obtain ⟨f0,f1,f2,f3,f4,f5⟩:=hf it (by simp)
  refine wpAny_pyNext_tuple_item st (show s.heap.IsTuple a its.toArray from p) (x:=u) (by simpa using hu) fun h' st' sb=>?_
  have I1:Inv X pins σ H { s with heap:=h' }:=I.turned (t':=s.toks) (fun b o hb e=>(sb.2 b hb).trans e) f0 f1 f3 f4 f5
  obtain ⟨o,e,c,d⟩:=id st'
  exact ⟨u,rfl,yF (s:={ s with heap:=h' }) e c d (by decide) ⟨x,H,I1,ru,⟨rfl,fun ys hy=>by rw [I.tuple_inj hy hq];exact hx⟩,st',fun b hb=>(hf b hb).1⟩⟩
 done:=by
  intro X hP hw hK hc i pins s σ H E I hf st hg
  subst hP hw hK
  obtain ⟨xs,hq,hx⟩:=hg
  obtain ⟨its,rv,p,hz⟩:=I.tuple hq
  obtain ⟨f0,f1,f2,f3,f4,f5⟩:=hf it (by simp)
  have hl:=rv.length
  exact wpAny_pyNext_tuple_end (I.ok.hd hc) st (show s.heap.IsTuple a its.toArray from p) (by simp;lia) fun h' eb=>⟨rfl,I.turned (t':=s.toks) (fun b o hb e=>eb b o hb e) f0 f1 f3 f4 f5⟩
 self:=fun _ _ _ _ _ st h=>wpAny_pyIter_tupleiter st h
theorem yH{P:Program}{w:World}{K:PySem.W.Frag}{tg:Expr}(it:Addr)(lo:Int)(n:Nat):Turn P w K tg (Itr lo n) [it] it (fun i h=>IsRangeIter h it (lo + (i:Nat) * 1) ((n:Int) - (i:Nat)) 1) where
 mem:=by simp
 obj:=fun i h st b hb=>by
  have e:b=it:=by simpa using hb
  subst e
  exact ⟨_,st,fun v z=>by
   have z':Data.fields _=Data.cell v:=z
   cases z'⟩
 keep:=fun i h h' st k=>k it (by simp) _ st
 item:=by
  intro X hP hw hK hc i pins s σ H E I hf st hg
  subst hP hw hK
  obtain ⟨f0,f1,f2,f3,f4,f5⟩:=hf it (by simp)
  have W:=Walks.range (prog:=X.prog) (w:=X.w) (I.ok.hd hc) it lo 1 n
  refine W.item i s _ _ hg st fun v h' tk hv st' kk=>?_
  obtain ⟨t,rfl⟩:=hv
  have I1:Inv X pins σ H { s with heap:=h',toks:=tk }:=I.turned (fun b o hb e=>kk b o (by simpa using hb) e) f0 f1 f3 f4 f5
  refine ⟨_,rfl,yF (s:={ s with heap:=h',toks:=tk }) (n := "range_iterator") st' rfl rfl (by decide) ⟨.int (lo + i),H,I1,⟨t,?_⟩,⟨rfl,rfl⟩,st',fun b hb=>(hf b hb).1⟩⟩
  rw [Int.mul_one]
 done:=by
  intro X hP hw hK hc i pins s σ H E I hf st hg
  subst hP hw hK
  obtain ⟨f0,f1,f2,f3,f4,f5⟩:=hf it (by simp)
  exact wpAny_pyNext_range_end (I.ok.hd hc) st (by have:n≤i:=hg;lia) fun h' eb=>⟨rfl,I.turned (t':=s.toks) (fun b o hb e=>eb b o hb e) f0 f1 f3 f4 f5⟩
 self:=fun _ _ _ _ _ st h=>wpAny_pyIter_rangeiter st h
section
variable {X:Cx}{tg:Expr}
inductive vL(K:PySem.W.Frag)(R:It→Hp→Prop)(x:V)(H1:Hp):Prop
 | mk (a):(x=.ref a)→((∃xs,SqL K H1 a xs))→(R (Itl K a) H1)→vL K R x H1
noncomputable def Zdu(K:PySem.W.Frag)(tl:TE):TI:=fun σ H R=>tl σ H fun x H1=>vL K R x H1
inductive Zaj(K:PySem.W.Frag)(R:It→Hp→Prop)(x:V)(H1:Hp):Prop
 | mk (a):(x=.ref a)→((∃xs,SqT K H1 a xs))→(R (Itt K a) H1)→Zaj K R x H1
noncomputable def iTup(K:PySem.W.Frag)(tl:TE):TI:=fun σ H R=>tl σ H fun x H1=>Zaj K R x H1
theorem Zbt{l:Expr}{tl:TE}(hl:PE X l tl):PI X tg l (Zdu X.K tl):=by
 intro pins s σ H R I h
 refine thn (hl pins s σ H _ I h) fun v s1 ⟨x,H1,I1,r1,q1⟩=>?_
 obtain ⟨a,e,⟨xs,hq⟩,q⟩:=q1
 subst e
 cases r1
 obtain ⟨its,rv,p,hz⟩:=I1.list hq
 refine wpAny_pyIter_list p.isList ?_
 refine ⟨s1.heap.objs.size,[s1.heap.objs.size],_,_,H1,rfl,I1.kept (t':=s1.toks) fun b o e=>Heap.get?_push_of_some _ e,vK a _,⟨_,Heap.get?_push_size _ rfl,rfl,rfl⟩,fun b hb=>?_,q⟩
 have e:b=s1.heap.objs.size:=by simpa using hb
 subst e
 exact I1.fpOk (Nat.le_refl _) (I1.hok.fresh (Nat.le_refl _))
theorem pi_tup{l:Expr}{tl:TE}(hl:PE X l tl):PI X tg l (iTup X.K tl):=by
 intro pins s σ H R I h
 refine thn (hl pins s σ H _ I h) fun v s1 ⟨x,H1,I1,r1,q1⟩=>?_
 obtain ⟨a,e,⟨xs,hq⟩,q⟩:=q1
 subst e
 cases r1
 obtain ⟨its,rv,p,hz⟩:=I1.tuple hq
 refine wpAny_pyIter_tuple (show s1.heap.IsTuple a its.toArray from p) ?_
 refine ⟨s1.heap.objs.size,[s1.heap.objs.size],_,_,H1,rfl,I1.kept (t':=s1.toks) fun b o e=>Heap.get?_push_of_some _ e,yG a _,⟨_,Heap.get?_push_size _ rfl,rfl,rfl⟩,fun b hb=>?_,q⟩
 have e:b=s1.heap.objs.size:=by simpa using hb
 subst e
 exact I1.fpOk (Nat.le_refl _) (I1.hok.fresh (Nat.le_refl _))
theorem gA{pins:List (Addr × Obj)}{σ:St}{H:Hp}{s:Shared}{R:It→Hp→Prop}{E:Value→Shared→Prop}{lo hi:Int}{t u v:Tok}{tk:Nat}(I:Inv X pins σ H s)(h1:-(2 ^ 62)≤lo)(h2:lo < 2 ^ 62)(h3:-(2 ^ 62)≤hi)(h4:hi < 2 ^ 62)
  (q:R (Itr lo (hi - lo).toNat) H):wpAny (model X.prog X.w) X.A (pyIter (.ref s.heap.objs.size)) (PIE X pins σ tg R) E { s with heap:=s.heap.push { cls:=.type "range",data:=.fields #[.int lo t,.int hi u,.int 1 v] },toks:=tk }:=by
 refine wpAny_pyIter_range (IsRange.new ..) (small_one h1 h2 h3 h4) ?_
 have I1:Inv X pins σ H { s with heap:=s.heap.push { cls:=.type "range",data:=.fields #[.int lo t,.int hi u,.int 1 v] },toks:=tk }:=I.kept fun b o e=>Heap.get?_push_of_some _ e
 refine ⟨(s.heap.push { cls:=.type "range",data:=.fields #[.int lo t,.int hi u,.int 1 v] }).objs.size,[(s.heap.push { cls:=.type "range",data:=.fields #[.int lo t,.int hi u,.int 1 v] }).objs.size],_,_,H,rfl,
  I1.kept (t':=tk) fun b o e=>Heap.get?_push_of_some _ e,yH _ lo (hi - lo).toNat,?_,fun b hb=>?_,q⟩
 ·have e1:lo + ((0:Nat):Int) * 1=lo:=by simp
  have e2:(((hi - lo).toNat:Nat):Int) - ((0:Nat):Int)=Builtin.Range.rangeSize lo hi 1:=by rw [rangeSize_one];split <;> lia
  show IsRangeIter _ _ (lo + ((0:Nat):Int) * 1) ((((hi - lo).toNat:Nat):Int) - ((0:Nat):Int)) 1
  rw [e1,e2]
  exact Heap.get?_push_size _ rfl
 ·have e:b=(s.heap.push { cls:=.type "range",data:=.fields #[.int lo t,.int hi u,.int 1 v] }).objs.size:=by simpa using hb
  subst e
  exact I1.fpOk (Nat.le_refl _) (I1.hok.fresh (Nat.le_refl _))
inductive vM(R:It→Hp→Prop)(vs:List V)(H1:Hp):Prop
 | mk (j:Int):(vs=[.int j])→(-(2 ^ 62)≤j)→(j < 2 ^ 62)→(R (Itr 0 j.toNat) H1)→vM R vs H1
noncomputable def Zbu(ta:TA):TI:=fun σ H R=>ta σ H fun vs H1=>vM R vs H1
theorem vN {a:Expr} {ta:TA} {p pos:Pos} (hg:Gl X "range") (hm:X.mg "range" = none) (ha:PA X [a] ta) (hs:starEach [a] X.env=[(false,eval a X.env)]:=by rfl):PI X tg (.Call (.Name "range" p) [a] [] pos) (Zbu ta):=by
 intro pins s σ H R I h
 refine Call_ (GV I hg hm boot_range (PyProof.Rows.callWith_type1 (thn (ha pos pins s σ H _ I h) fun us s1 ⟨vs,H1,I1,r1,q1⟩=>?_) hs rfl))
 obtain ⟨j,e,q1,q2,q⟩:=q1
 subst e
 cases r1 with
 | cons r rr =>
  cases rr
  obtain ⟨t,rfl⟩:=r
  exact call_range_1 (gA I1 (by lia) (by lia) q1 q2 (by simpa using q))
noncomputable def tFor(wi:TI)(g:TG)(tb:TS):TS:=fun D σ H=>wi σ H fun J H1=>∃W:Nat→Nat→St→Hp→Prop,(∃m,W 0 m σ H1)∧∀i m σ H,W i m σ H →
 (J.stop i H∧D.nx σ H)∨(J.go i H∧∃N:St→Hp→Prop,(∀σ' H',N σ' H'→∃m',m' < m∧W (i + 1) m' σ' H')∧∀x H',J.yld i H x H'→g x σ H' fun σ2 H2=>tb { D with nx:=N,ct:=N,bk:=D.nx } σ2 H2)
noncomputable def GW(fp:List Addr)(h:Heap):List (Addr × Obj):=fp.filterMap fun b=>(h.get? b).map fun o=>(b,o)
theorem Y5{fp:List Addr}{h:Heap}{b:Addr}{o:Obj}(hb:b∈fp)(e:h.get? b=some o):(b,o)∈GW fp h:=List.mem_filterMap.mpr ⟨b,hb,by rw [e];rfl⟩
theorem vO{fp:List Addr}{h:Heap}{p:Addr × Obj}(hp:p∈GW fp h):p.1∈fp∧h.get? p.1=some p.2:=by
 obtain ⟨b,hb,e⟩:=List.mem_filterMap.mp hp
 cases q:h.get? b with
 | none=>rw [q] at e;cases e
 | some o =>
  rw [q] at e
  have e':(b,o)=p:=Option.some.inj e
  subst e'
  exact ⟨hb,q⟩
theorem Inv.pinned{pins:List (Addr × Obj)}{σ:St}{H:Hp}{s:Shared}{fp:List Addr}(I:Inv X pins σ H s)(hf:∀b∈fp,Gm X pins H b)(ho:∀b∈fp,∃o,s.heap.get? b=some o∧∀v,o.data≠.cell v):Inv X (pins++GW fp s.heap) σ H s :=
 I.pins_of fun p hp=>(List.mem_append.mp hp).elim (fun z=>I.pin p (List.mem_append_right _ z)) fun z=>by
  obtain ⟨hb,e⟩:=vO z
  obtain ⟨f0,f1,f2,_⟩:=hf p.1 hb
  obtain ⟨o,e',d⟩:=ho p.1 hb
  rw [e] at e';cases e'
  exact ⟨e,f0,f1,f2,d⟩
theorem Inv.unpinned{pins pl:List (Addr × Obj)}{σ:St}{H:Hp}{s:Shared}(I:Inv X (pins++pl) σ H s):Inv X pins σ H s:=I.pins_of fun p hp=>I.pin p (List.mem_append_right _ (List.mem_append_left _ hp))
theorem ps_for{iter:Expr}{body:List Stmt}{wi:TI}{g:TG}{tb:TS}{pos:Pos}(hp:PassesOwn (model X.prog X.w) X.A X.env X.xe)(hc:X.calm=true)(hi:PI X tg iter wi)(hg:PG X tg g)(hb:PSs X body tb)
  (hs:∀x,foldedSetIterable iter X.env x=pure x:=by intro _;rfl):PS X (.For tg iter body [] pos) (tFor wi g tb):=by
 intro pins s σ H D I h
 refine wpAny_For (thn (hi pins s σ H _ I h) fun v s1 h1=>thn h1 fun itv s2 h2=>?_) hs
 obtain ⟨it,fp,tn,J,H2,e,I2,T,st2,f2,W,⟨m0,w0⟩,turn⟩:=h2
 subst e
 have stat:∀{H':Hp},(∀b∈fp,H' b=none)→∀b∈fp,Gm X pins H' b:=fun hn b hb=>⟨hn b hb,(f2 b hb).2⟩
 refine codeAny_forLoop_any (fun n s'=>∃i σ' H',Inv X pins σ' H' s'∧tn i s'.heap∧(∀b∈fp,H' b=none)∧W i n σ' H') ?_ m0 ⟨0,σ,H2,I2,st2,fun b hb=>(f2 b hb).1,w0⟩
 rintro n s3 ⟨i,σ3,H3,I3,st3,fr3,w3⟩
 rcases turn i n σ3 H3 w3 with ⟨stop,qn⟩ | ⟨go,N,hN,step⟩
 ·refine wpAny_passesOwn hp (thn (T.done X rfl rfl rfl hc i pins s3 σ3 H3 X.xe I3 (stat fr3) st3 stop) fun r s4 ⟨hr,I4⟩=>?_)
  subst hr
  exact wpAny_execs_nil ⟨σ3,H3,I4,qn⟩
 ·refine wpAny_passesOwn hp (thn (T.item X rfl rfl rfl hc i pins s3 σ3 H3 X.xe I3 (stat fr3) st3 go) fun r s4 ⟨u,hr,h4⟩=>?_)
  subst hr
  refine wpAny_passesOwn hp (thn h4 fun _ s5 ⟨x,H5,I5,r5,y5,st5,fr5⟩=>?_)
  have I5':=I5.pinned (stat fr5) (T.obj _ _ st5)
  refine wpAny_passesOwn hp (thn (hg _ s5 σ3 H5 x u _ I5' r5 (step x H5 y5)) fun _ s6 ⟨σ6,H6,I6,q6⟩=>?_)
  refine wpAny_passesOwn hp (thn (hb _ s6 σ6 H6 _ I6 q6) fun f s7 q7=>?_)
  have again:∀{σ7:St} {H7:Hp},Inv X (pins++GW fp s5.heap) σ7 H7 s7→N σ7 H7→∃m,m < n∧∃i σ' H',Inv X pins σ' H' s7∧tn i s7.heap∧(∀b∈fp,H' b=none)∧W i m σ' H':=fun {σ7 H7} I7 n7=>by
   obtain ⟨m',hm,w7⟩:=hN σ7 H7 n7
   refine ⟨m',hm,i + 1,σ7,H7,I7.unpinned,T.keep _ _ _ st5 fun b hb o e=>(I7.pin (b,o) (List.mem_append_right _ (List.mem_append_right _ (Y5 hb e)))).1,fun b hb=>?_,w7⟩
   obtain ⟨o,e,d⟩:=T.obj _ _ st5 b hb
   exact (I7.pin (b,o) (List.mem_append_right _ (List.mem_append_right _ (Y5 hb e)))).2.1
  cases f with
  | next=>obtain ⟨σ7,H7,I7,n7⟩:=q7;exact again I7 n7
  | cont=>obtain ⟨σ7,H7,I7,n7⟩:=q7;exact again I7 n7
  | brk=>obtain ⟨σ7,H7,I7,q7⟩:=q7;exact ⟨σ7,H7,I7.unpinned,q7⟩
  | ret v=>obtain ⟨x7,σ7,H7,I7,r7,q7⟩:=q7;exact ⟨x7,σ7,H7,I7.unpinned,r7,q7⟩
end
theorem gB{K:PySem.W.Frag}{a:Addr}{xs:List V}{g:TG}{tb:TS}{D:Ends}{σ:St}{H:Hp}(Pv:Nat→St→Hp→Prop)(h0:Pv 0 σ H)(hl:∀i σ H,i≤xs.length→Pv i σ H→SqL K H a xs)
  (hs:∀i x σ H,xs[i]?=some x→Pv i σ H→g x σ H fun σ2 H2=>tb { D with nx:=Pv (i + 1),ct:=Pv (i + 1),bk:=D.nx } σ2 H2) (hd:∀σ H,Pv xs.length σ H→D.nx σ H) :
  ∃W:Nat→Nat→St→Hp→Prop,(∃m,W 0 m σ H)∧∀i m σ H,W i m σ H →
   ((Itl K a).stop i H∧D.nx σ H)∨((Itl K a).go i H∧∃N:St→Hp→Prop,(∀σ' H',N σ' H'→∃m',m' < m∧W (i + 1) m' σ' H')∧∀x H',(Itl K a).yld i H x H'→g x σ H' fun σ2 H2=>tb { D with nx:=N,ct:=N,bk:=D.nx } σ2 H2):=by
 refine ⟨fun i m σ H=>m=xs.length - i∧i≤xs.length∧Pv i σ H,⟨xs.length,by simp,Nat.zero_le _,h0⟩,?_⟩
 rintro i m σ H ⟨rfl,hi,p⟩
 have q:=hl i σ H hi p
 by_cases hlt:i < xs.length
 ·refine .inr ⟨⟨xs,xs[i],q,by simp [hlt]⟩,Pv (i + 1),fun σ' H' p'=>⟨xs.length - (i + 1),by lia,rfl,hlt,p'⟩,fun x H' y=>?_⟩
  obtain ⟨e,y⟩:=y
  subst e
  exact hs i x σ _ (y xs q) p
 ·have e:i=xs.length:=by lia
  subst e
  exact .inl ⟨⟨xs,q,Nat.le_refl _⟩,hd σ H p⟩
theorem Zbv{K:PySem.W.Frag}{a:Addr}{xs:List V}{g:TG}{tb:TS}{D:Ends}{σ:St}{H:Hp}(Pv:Nat→St→Hp→Prop)(h0:Pv 0 σ H)(hl:∀i σ H,i≤xs.length→Pv i σ H→SqT K H a xs)
  (hs:∀i x σ H,xs[i]?=some x→Pv i σ H→g x σ H fun σ2 H2=>tb { D with nx:=Pv (i + 1),ct:=Pv (i + 1),bk:=D.nx } σ2 H2) (hd:∀σ H,Pv xs.length σ H→D.nx σ H) :
  ∃W:Nat→Nat→St→Hp→Prop,(∃m,W 0 m σ H)∧∀i m σ H,W i m σ H →
   ((Itt K a).stop i H∧D.nx σ H)∨((Itt K a).go i H∧∃N:St→Hp→Prop,(∀σ' H',N σ' H'→∃m',m' < m∧W (i + 1) m' σ' H')∧∀x H',(Itt K a).yld i H x H'→g x σ H' fun σ2 H2=>tb { D with nx:=N,ct:=N,bk:=D.nx } σ2 H2):=by
 refine ⟨fun i m σ H=>m=xs.length - i∧i≤xs.length∧Pv i σ H,⟨xs.length,by simp,Nat.zero_le _,h0⟩,?_⟩
 rintro i m σ H ⟨rfl,hi,p⟩
 have q:=hl i σ H hi p
 by_cases hlt:i < xs.length
 ·refine .inr ⟨⟨xs,xs[i],q,by simp [hlt]⟩,Pv (i + 1),fun σ' H' p'=>⟨xs.length - (i + 1),by lia,rfl,hlt,p'⟩,fun x H' y=>?_⟩
  obtain ⟨e,y⟩:=y
  subst e
  exact hs i x σ _ (y xs q) p
 ·have e:i=xs.length:=by lia
  subst e
  exact .inl ⟨⟨xs,q,Nat.le_refl _⟩,hd σ H p⟩
theorem YV{lo:Int}{n:Nat}{g:TG}{tb:TS}{D:Ends}{σ:St}{H:Hp}(Pv:Nat→St→Hp→Prop)(h0:Pv 0 σ H)
  (hs:∀i σ H,i < n→Pv i σ H→g (.int (lo + i)) σ H fun σ2 H2=>tb { D with nx:=Pv (i + 1),ct:=Pv (i + 1),bk:=D.nx } σ2 H2) (hd:∀σ H,Pv n σ H→D.nx σ H) :
  ∃W:Nat→Nat→St→Hp→Prop,(∃m,W 0 m σ H)∧∀i m σ H,W i m σ H →
   ((Itr lo n).stop i H∧D.nx σ H)∨((Itr lo n).go i H∧∃N:St→Hp→Prop,(∀σ' H',N σ' H'→∃m',m' < m∧W (i + 1) m' σ' H')∧∀x H',(Itr lo n).yld i H x H'→g x σ H' fun σ2 H2=>tb { D with nx:=N,ct:=N,bk:=D.nx } σ2 H2):=by
 refine ⟨fun i m σ H=>m=n - i∧i≤n∧Pv i σ H,⟨n,by simp,Nat.zero_le _,h0⟩,?_⟩
 rintro i m σ H ⟨rfl,hi,p⟩
 by_cases hlt:i < n
 ·refine .inr ⟨hlt,Pv (i + 1),fun σ' H' p'=>⟨n - (i + 1),by lia,rfl,hlt,p'⟩,fun x H' y=>?_⟩
  obtain ⟨e,y⟩:=y
  subst e y
  exact hs i σ _ hlt p
 ·have e:i=n:=by lia
  subst e
  exact .inl ⟨Nat.le_refl _,hd σ H p⟩
noncomputable abbrev R2:=V→V→Hp→VK→Prop
noncomputable def OpR(X:Cx)(f:Value→Value→Sem Value)(r:R2):Prop :=
 ∀(pins:List (Addr × Obj)) (s:Shared) (σ:St) (H:Hp) (x y:V) (v u:Value) (Q:VK),Inv X pins σ H s→RelV x v→RelV y u→r x y H Q →
  wpAny (model X.prog X.w) X.A (f v u) (EP X pins σ Q) X.xe s
noncomputable def UnR(X:Cx)(f:Value→Sem Value)(r:V→Hp→VK→Prop):Prop :=
 ∀(pins:List (Addr × Obj)) (s:Shared) (σ:St) (H:Hp) (x:V) (v:Value) (Q:VK),Inv X pins σ H s→RelV x v→r x H Q →
  wpAny (model X.prog X.w) X.A (f v) (EP X pins σ Q) X.xe s
noncomputable def XR(X:Cx)(f:Value)(r:List V→Hp→VK→Prop):Prop :=
 ∀(pins:List (Addr × Obj)) (s:Shared) (σ:St) (H:Hp) (xs:List V) (us:List Value) (Q:VK),Inv X pins σ H s→Vals xs us→r xs H Q →
  wpAny (model X.prog X.w) X.A (call f us) (EP X pins σ Q) X.xe s
noncomputable def tOp(r:R2)(ta tb:TE):TE:=fun σ H Q=>ta σ H fun x H1=>tb σ H1 fun y H2=>r x y H2 Q
noncomputable def tUn(r:V→Hp→VK→Prop)(ta:TE):TE:=fun σ H Q=>ta σ H fun x H1=>r x H1 Q
inductive rI_i(C:Int→Int→Prop)(g:Int→Int→V)(x:V)(y:V)(H:Hp)(Q:VK):Prop
 | mk (i j):(x=.int i)→(y=.int j)→(C i j)→(Q (g i j) H)→rI_i C g x y H Q
noncomputable def rI(C:Int→Int→Prop)(g:Int→Int→V):R2:=fun x y H Q=>rI_i C g x y H Q
inductive Zdv(g:Int→Int→V)(x:V)(y:V)(H:Hp)(Q:VK):Prop
 | mk (i j):(x=.int i)→(y=.int j)→(Q (g i j) H)→Zdv g x y H Q
noncomputable def rI0(g:Int→Int→V):R2:=fun x y H Q=>Zdv g x y H Q
inductive rU_i(g:Int→V)(x:V)(H:Hp)(Q:VK):Prop
 | mk (i):(x=.int i)→(Q (g i) H)→rU_i g x H Q
noncomputable def rU(g:Int→V):V→Hp→VK→Prop:=fun x H Q=>rU_i g x H Q
section
variable {X:Cx}{a b c:Expr}{ta tb tc:TE}{pos:Pos}
theorem binT(ha:PE X a ta)(hb:PE X b tb){pins:List (Addr × Obj)}{s:Shared}{σ:St}{H:Hp}{R:V→V→Hp→Prop}(I:Inv X pins σ H s)
  (h:ta σ H fun x H1=>tb σ H1 fun y H2=>R x y H2) {Q:Value→Shared→Prop} {f:Value→Value→Sem Value}
  (hf:∀v u s2 x y H2,Inv X pins σ H2 s2→RelV x v→RelV y u→R x y H2→wpAny (model X.prog X.w) X.A (f v u) Q X.xe s2) :
  wpAny (model X.prog X.w) X.A (eval a X.env) (fun v s₁=>wpAny (model X.prog X.w) X.A (eval b X.env) (fun u s₂=>wpAny (model X.prog X.w) X.A (f v u) Q X.xe s₂) X.xe s₁) X.xe s:=by
 refine thn (ha pins s σ H _ I h) fun v s1 ⟨x,H1,I1,r1,q1⟩=>?_
 refine thn (hb pins s1 σ H1 _ I1 q1) fun u s2 ⟨y,H2,I2,r2,q2⟩=>?_
 exact hf v u s2 x y H2 I2 r1 r2 q2
theorem pe_op{op:Operator}{r:R2}(ho:OpR X (binaryOp op) r)(ha:PE X a ta)(hb:PE X b tb):PE X (.BinOp a op b pos) (tOp r ta tb):=by
 intro pins s σ H Q I h
 exact wpAny_BinOp (binT ha hb I h fun v u s2 x y H2 I2 rx ry q=>ho pins s2 σ H2 x y v u Q I2 rx ry q)
theorem pe_un{op:UnaryOp}{r:V→Hp→VK→Prop}(ho:UnR X (unaryOp op) r)(ha:PE X a ta):PE X (.UnaryOp op a pos) (tUn r ta):=by
 intro pins s σ H Q I h
 exact UnaryOp_ (thn (ha pins s σ H _ I h) fun v s1 ⟨x,H1,I1,r1,q1⟩=>ho pins s1 σ H1 x v Q I1 r1 q1)
theorem opI{f:Value→Value→Sem Value}{C:Int→Int→Prop}{g:Int→Int→Int}
  (rule:∀(i j:Int) (t u:Tok) (s:Shared) (Q:Value→Shared→Prop) (E:Value→Shared→Prop),C i j→Q (.int (g i j) s.toks) { s with toks:=s.toks + 1 }→wpAny (model X.prog X.w) X.A (f (.int i t) (.int j u)) Q E s) :
  OpR X f (rI C fun i j=>.int (g i j)):=by
 intro pins s σ H x y v u Q I rx ry h
 obtain ⟨i,j,rfl,rfl,hc,q⟩:=h
 obtain ⟨t,rfl⟩:=rx
 obtain ⟨t',rfl⟩:=ry
 exact rule i j t t' s _ _ hc ⟨.int (g i j),H,I.tok _,⟨_,rfl⟩,q⟩
theorem Zdw{f:Value→Value→Sem Value}{g:Int→Int→Int}
  (rule:∀(i j:Int) (t u:Tok) (s:Shared) (Q:Value→Shared→Prop) (E:Value→Shared→Prop),Q (.int (g i j) s.toks) { s with toks:=s.toks + 1 }→wpAny (model X.prog X.w) X.A (f (.int i t) (.int j u)) Q E s) :
  OpR X f (rI0 fun i j=>.int (g i j)):=by
 intro pins s σ H x y v u Q I rx ry h
 obtain ⟨i,j,rfl,rfl,q⟩:=h
 obtain ⟨t,rfl⟩:=rx
 obtain ⟨t',rfl⟩:=ry
 exact rule i j t t' s _ _ ⟨.int (g i j),H,I.tok _,⟨_,rfl⟩,q⟩
theorem Zew{f:Value→Value→Sem Value}{g:Int→Int→Bool}
  (rule:∀(i j:Int) (t u:Tok) (s:Shared) (Q:Value→Shared→Prop) (E:Value→Shared→Prop),Q (.bool (g i j)) s→wpAny (model X.prog X.w) X.A (f (.int i t) (.int j u)) Q E s) :
  OpR X f (rI0 fun i j=>.bl (g i j)):=by
 intro pins s σ H x y v u Q I rx ry h
 obtain ⟨i,j,rfl,rfl,q⟩:=h
 obtain ⟨t,rfl⟩:=rx
 obtain ⟨t',rfl⟩:=ry
 exact rule i j t t' s _ _ ⟨.bl (g i j),H,I,rfl,q⟩
noncomputable def CMul(i j:Int):Prop:=(-(2 ^ 64) < i∧i < 2 ^ 64)∨(-(2 ^ 64) < j∧j < 2 ^ 64)
theorem CMul.ok{i j:Int}(h:CMul i j):IntMulOk i j:=by
 rcases h with ⟨h1,h2⟩ | ⟨h1,h2⟩
 ·exact .of_left (intBits_le_64 h1 h2)
 ·exact .of_right (intBits_le_64 h1 h2)
theorem Ym:OpR X (binaryOp .Add) (rI0 fun i j=>.int (i + j)):=Zdw fun _ _ _ _ _ _ _ q=>add_int q
theorem W9:OpR X (binaryOp .Sub) (rI0 fun i j=>.int (i - j)):=Zdw fun _ _ _ _ _ _ _ q=>sub_int q
theorem Xv:OpR X (binaryOp .Mod) (rI (fun _ j=>0 < j) fun i j=>.int (i % j)):=opI fun i j _ _ _ _ _ hc q=>by
 have h1:(0:Int) < j:=hc
 exact mod_int' (by lia) (by rw [Int.fmod_eq_emod_of_nonneg i (by lia)];exact q)
theorem ya:OpR X (binaryOp .BitAnd) (rI0 fun i j=>.int (Builtin.bitAnd i j)):=Zdw fun _ _ _ _ _ _ _ q=>and_int q
theorem Zdx:OpR X (binaryOp .BitOr) (rI0 fun i j=>.int (Builtin.bitOr i j)):=Zdw fun _ _ _ _ _ _ _ q=>or_int q
theorem op_xor:OpR X (binaryOp .BitXor) (rI0 fun i j=>.int (Builtin.bitXor i j)):=Zdw fun _ _ _ _ _ _ _ q=>xor_int q
theorem unI{f:Value→Sem Value}{g:Int→Int}
  (rule:∀(i:Int) (t:Tok) (s:Shared) (Q:Value→Shared→Prop) (E:Value→Shared→Prop),Q (.int (g i) s.toks) { s with toks:=s.toks + 1 }→wpAny (model X.prog X.w) X.A (f (.int i t)) Q E s) :
  UnR X f (rU fun i=>.int (g i)):=by
 intro pins s σ H x v Q I rx h
 obtain ⟨i,rfl,q⟩:=h
 obtain ⟨t,rfl⟩:=rx
 exact rule i t s _ _ ⟨.int (g i),H,I.tok _,⟨_,rfl⟩,q⟩
theorem XS:UnR X (unaryOp .USub) (rU fun i=>.int (-i)):=unI fun _ _ _ _ _ q=>neg_int q
theorem Zak:UnR X (unaryOp .Invert) (rU fun i=>.int (Builtin.bitNot i)):=unI fun _ _ _ _ _ q=>invert_int q
end
noncomputable def scal:V→V→Bool
 | .non,.non=>true | .non,.int _=>true | .int _,.non=>true | .non,.bl _=>true | .bl _,.non=>true | .non,.str _=>true | .str _,.non=>true
 | .int _,.int _=>true | .bl _,.bl _=>true | .str _,.str _=>true | .byt _,.byt _=>true
 | .int _,.str _=>true | .str _,.int _=>true | .bl _,.str _=>true | .str _,.bl _=>true
 | _,_=>false
inductive Zdy(x:V)(y:V)(H:Hp)(Q:VK):Prop
 | mk  : (scal x y=true)→(Q (.bl (decide (x=y))) H)→Zdy x y H Q
noncomputable def rEq  : R2:=fun x y H Q=>Zdy x y H Q
inductive Zdz(x:V)(y:V)(H:Hp)(Q:VK):Prop
 | mk  : (scal x y=true)→(Q (.bl (!decide (x=y))) H)→Zdz x y H Q
noncomputable def rNe  : R2:=fun x y H Q=>Zdz x y H Q
theorem vP{i j:Int}:decide (V.int i=V.int j)=(i == j):=by
 rw [Bool.eq_iff_iff]
 simp
theorem Zal{i j:Bool}:decide (V.bl i=V.bl j)=(i == j):=by
 rw [Bool.eq_iff_iff]
 simp
theorem vQ{i j:Str}:decide (V.str i=V.str j)=(i == j):=by
 rw [Bool.eq_iff_iff]
 simp
theorem vR{i j:Array UInt8}:decide (V.byt i=V.byt j)=(i.toList == j.toList):=by
 rw [Bool.eq_iff_iff]
 cases i
 cases j
 simp
section
variable {X:Cx}{a b c:Expr}{ta tb tc:TE}{pos:Pos}
theorem ZE{pins:List (Addr × Obj)}{σ:St}{H:Hp}{s:Shared}{Q:VK}{k k':Bool}(I:Inv X pins σ H s)(q:Q (.bl k) H)(e:k=k'):EP X pins σ Q (.bool k') s:=by
 subst e
 exact ⟨.bl k,H,I,rfl,q⟩
theorem ZI:OpR X (compareOp .Eq) rEq:=by
 intro pins s σ H x y v u Q I rx ry h
 obtain ⟨hs,q⟩:=h
 cases x with
 | non =>
  cases rx
  cases y with
  | non=>cases ry;exact PySem.EqNone.eq_none_none (ZE I q (by simp))
  | bl j=>cases ry;exact PySem.EqNone.eq_none_bool (ZE I q (by simp))
  | int j=>obtain ⟨t',rfl⟩:=ry;exact PySem.EqNone.eq_none_int (ZE I q (by simp))
  | str j=>obtain ⟨t',rfl⟩:=ry;exact PySem.EqNone.eq_none_str (ZE I q (by simp))
  | _=>exact absurd (show false=true from hs) Bool.false_ne_true
 | bl i =>
  cases rx
  cases y with
  | non=>cases ry;exact PySem.EqNone.eq_bool_none (ZE I q (by simp))
  | bl j=>cases ry;exact eq_bool (ZE I q Zal)
  | str j=>obtain ⟨t',rfl⟩:=ry;exact PySem.EqMixed.eq_bool_str (ZE I q (by simp))
  | _=>exact absurd (show false=true from hs) Bool.false_ne_true
 | int i =>
  obtain ⟨t,rfl⟩:=rx
  cases y with
  | non=>cases ry;exact PySem.EqNone.eq_int_none (ZE I q (by simp))
  | int j=>obtain ⟨t',rfl⟩:=ry;exact eq_int (ZE I q vP)
  | str j=>obtain ⟨t',rfl⟩:=ry;exact PySem.EqMixed.eq_int_str (ZE I q (by simp))
  | _=>exact absurd (show false=true from hs) Bool.false_ne_true
 | str i =>
  obtain ⟨t,rfl⟩:=rx
  cases y with
  | non=>cases ry;exact PySem.EqNone.eq_str_none (ZE I q (by simp))
  | bl j=>cases ry;exact PySem.EqMixed.eq_str_bool (ZE I q (by simp))
  | int j=>obtain ⟨t',rfl⟩:=ry;exact PySem.EqMixed.eq_str_int (ZE I q (by simp))
  | str j=>obtain ⟨t',rfl⟩:=ry;exact eq_str (ZE I q vQ)
  | _=>exact absurd (show false=true from hs) Bool.false_ne_true
 | byt i =>
  obtain ⟨t,rfl⟩:=rx
  cases y with
  | byt j=>obtain ⟨t',rfl⟩:=ry;exact PySem.W.eq_bytes (ZE I q vR)
  | _=>exact absurd (show false=true from hs) Bool.false_ne_true
 | _=>cases y <;> exact absurd (show false=true from hs) Bool.false_ne_true
theorem Zbw:OpR X (compareOp .NotEq) rNe:=by
 intro pins s σ H x y v u Q I rx ry h
 obtain ⟨hs,q⟩:=h
 cases x with
 | non =>
  cases rx
  cases y with
  | non=>cases ry;exact PySem.EqNone.ne_none_none (ZE I q (by simp))
  | bl j=>cases ry;exact PySem.EqNone.ne_none_bool (ZE I q (by simp))
  | int j=>obtain ⟨t',rfl⟩:=ry;exact PySem.EqNone.ne_none_int (ZE I q (by simp))
  | str j=>obtain ⟨t',rfl⟩:=ry;exact PySem.EqNone.ne_none_str (ZE I q (by simp))
  | _=>exact absurd (show false=true from hs) Bool.false_ne_true
 | bl i =>
  cases rx
  cases y with
  | non=>cases ry;exact PySem.EqNone.ne_bool_none (ZE I q (by simp))
  | bl j=>cases ry;exact ne_bool (ZE I q (congrArg not Zal))
  | str j=>obtain ⟨t',rfl⟩:=ry;exact PySem.EqMixed.ne_bool_str (ZE I q (by simp))
  | _=>exact absurd (show false=true from hs) Bool.false_ne_true
 | int i =>
  obtain ⟨t,rfl⟩:=rx
  cases y with
  | non=>cases ry;exact PySem.EqNone.ne_int_none (ZE I q (by simp))
  | int j=>obtain ⟨t',rfl⟩:=ry;exact ne_int (ZE I q (congrArg not vP))
  | str j=>obtain ⟨t',rfl⟩:=ry;exact PySem.EqMixed.ne_int_str (ZE I q (by simp))
  | _=>exact absurd (show false=true from hs) Bool.false_ne_true
 | str i =>
  obtain ⟨t,rfl⟩:=rx
  cases y with
  | non=>cases ry;exact PySem.EqNone.ne_str_none (ZE I q (by simp))
  | bl j=>cases ry;exact PySem.EqMixed.ne_str_bool (ZE I q (by simp))
  | int j=>obtain ⟨t',rfl⟩:=ry;exact PySem.EqMixed.ne_str_int (ZE I q (by simp))
  | str j=>obtain ⟨t',rfl⟩:=ry;exact ne_str (ZE I q (congrArg not vQ))
  | _=>exact absurd (show false=true from hs) Bool.false_ne_true
 | byt i =>
  obtain ⟨t,rfl⟩:=rx
  cases y with
  | byt j=>obtain ⟨t',rfl⟩:=ry;exact PySem.W.ne_bytes (ZE I q (congrArg not vR))
  | _=>exact absurd (show false=true from hs) Bool.false_ne_true
 | _=>cases y <;> exact absurd (show false=true from hs) Bool.false_ne_true
theorem gC:OpR X (compareOp .Lt) (rI0 fun i j=>.bl (decide (i < j))):=Zew fun _ _ _ _ _ _ _ q=>lt_int q
theorem op_le:OpR X (compareOp .LtE) (rI0 fun i j=>.bl (decide (i≤j))):=Zew fun _ _ _ _ _ _ _ q=>le_int q
theorem gD:OpR X (compareOp .Gt) (rI0 fun i j=>.bl (decide (j < i))):=Zew fun _ _ _ _ _ _ _ q=>gt_int q
theorem op_ge:OpR X (compareOp .GtE) (rI0 fun i j=>.bl (decide (j≤i))):=Zew fun _ _ _ _ _ _ _ q=>ge_int q
theorem vS:OpR X (compareOp .In) (fun x y H Q=>∃i j,x=.str i∧y=.str j∧Q (.bl (!(Builtin.Str.occurrences j i 0 j.length 1).isEmpty)) H):=by
 intro pins s σ H x y v u Q I rx ry h
 obtain ⟨i,j,rfl,rfl,q⟩:=h
 obtain ⟨t,rfl⟩:=rx
 obtain ⟨t',rfl⟩:=ry
 exact in_str (ZE I q rfl)
theorem Zs(b:Expr){op:CmpOp}(h:op≠.In:=by decide)(h2:op≠.NotIn:=by decide):behindInMarks op b=false:=by
 have e1:(op == CmpOp.In)=false:=by cases op <;> first | rfl | exact absurd rfl h
 have e2:(op == CmpOp.NotIn)=false:=by cases op <;> first | rfl | exact absurd rfl h2
 cases b <;> simp [behindInMarks,e1,e2]
theorem Zbx{op:CmpOp}{r:R2}(ho:OpR X (compareOp op) r)(ha:PE X a ta)(hb:PE X b tb)(hm:behindInMarks op b=false):PE X (.Compare a [op] [b] pos) (tOp r ta tb):=by
 intro pins s σ H Q I h
 exact wpAny_Compare1 (binT ha hb I h fun v u s2 x y H2 I2 rx ry q=>ho pins s2 σ H2 x y v u Q I2 rx ry q) hm
inductive vT(Q:Bool→Hp→Prop)(x:V)(H':Hp):Prop
 | mk (k):(x=.bl k)→(Q k H')→vT Q x H'
noncomputable def Zd0(t:TE):TT:=fun σ H Q=>t σ H fun x H'=>vT Q x H'
theorem Zby{op:CmpOp}{r:R2}(ho:OpR X (compareOp op) r)(ha:PE X a ta)(hb:PE X b tb)(hm:behindInMarks op b=false):PT X (.Compare a [op] [b] pos) (Zd0 (tOp r ta tb)):=by
 intro pins s σ H Q I h
 refine wpAny_isTrue_Compare1 (thn (ha pins s σ H _ I h) fun v s1 ⟨x,H1,I1,r1,q1⟩=>thn (hb pins s1 σ H1 _ I1 q1) fun u s2 ⟨y,H2,I2,r2,q2⟩ =>
  thn (ho pins s2 σ H2 x y v u _ I2 r1 r2 q2) fun c s3 ⟨z,H3,I3,r3,k,e,q3⟩=>?_) hm
 subst e
 cases r3
 exact wpAny_truthy_bool ⟨H3,I3,q3⟩
theorem GX:(sizeLine:Nat) < 2 ^ 63:=by rw [sizeLine_eq];decide
theorem WT:OpR X (binaryOp .Add) (fun x y H Q=>∃i j,x=.str i∧y=.str j∧i.length + j.length≤sizeLine∧Q (.str (i++j)) H):=by
 intro pins s σ H x y v u Q I rx ry h
 obtain ⟨i,j,rfl,rfl,hz,q⟩:=h
 obtain ⟨t,rfl⟩:=rx
 obtain ⟨t',rfl⟩:=ry
 exact add_str (fun t' tk=>⟨.str (i++j),H,I.tok _,⟨_,rfl⟩,q⟩) hz
theorem vals1{x:V}{us:List Value}(r:Vals [x] us):∃u,us=[u]∧RelV x u:=by
 cases r with
 | cons r1 r2=>cases r2;exact ⟨_,rfl,r1⟩
theorem vals2{x y:V}{us:List Value}(r:Vals [x,y] us):∃u w',us=[u,w']∧RelV x u∧RelV y w':=by
 cases r with
 | cons r1 r2 =>
  cases r2 with
  | cons r3 r4=>cases r4;exact ⟨_,_,rfl,r1,r3⟩
theorem YW:XR X (.type "int") (fun xs H Q=>(∃i,xs=[.int i]∧Q (.int i) H)∨∃k,xs=[.bl k]∧Q (.int (if k then 1 else 0)) H):=by
 intro pins s σ H xs us Q I r h
 rcases h with ⟨i,rfl,q⟩ | ⟨k,rfl,q⟩
 ·obtain ⟨u,rfl,t,rfl⟩:=vals1 r
  exact call_int_int ⟨.int i,H,I,⟨_,rfl⟩,q⟩
 ·obtain ⟨u,rfl,r1⟩:=vals1 r
  cases r1
  exact call_int_bool ⟨.int (if k then 1 else 0),H,I.tok _,⟨_,rfl⟩,q⟩
end
structure ObjM(h:Heap)(x dx C:Addr)(mA:Str→Option Value):Prop where
 obj:h.get? x=some (PySem.W.instObj C dx)
 ns:h.Ns1 dx mA
 ne:dx≠x
theorem zp{h:Heap}{dx:Addr}{mA:Str→Option Value}(n:h.Ns1 dx mA):∃od,h.get? dx=some od∧∀name,PySem.W.lookIn name od=some (mA name):=by
 obtain ⟨o,es,ep,ho,hd,hk,_,hm⟩:=n
 refine ⟨o,ho,fun name=>?_⟩
 have e:=hm name
 unfold nsFind findBy at e
 rw [←Array.find?_toList] at e
 unfold PySem.W.lookIn
 rw [hd]
 dsimp only
 split
 ·rename_i y q
  rw [q] at e
  exact congrArg some e
 ·rename_i q
  rw [q] at e
  have a:es.toList.any (·.refKey)=false:=by
   rw [List.any_eq_false]
   intro y hy
   obtain ⟨z,t,hkey⟩:=hk y (Array.mem_toList_iff.mp hy)
   simp [DictEntry.refKey,hkey]
  have a':¬es.toList.any (·.refKey)=true:=by rw [a];exact Bool.false_ne_true
  rw [if_neg a']
  exact congrArg some e
theorem ObjM.look{h:Heap}{x dx C:Addr}{mA:Str→Option Value}(I:ObjM h x dx C mA):∃od,PySem.W.InstAt h x (PySem.W.instObj C dx) C (some od)∧∀name,PySem.W.lookIn name od=some (mA name) :=
 let ⟨od,ho,hl⟩:=zp I.ns
 ⟨od,⟨I.obj,rfl,rfl,ho⟩,hl⟩
section
variable {prog:Program}{w:World}{A:Around}{E:Value→Shared→Prop}{s:Shared}{K:PySem.W.Frag}{x dx C f:Addr}{mA:Str→Option Value}{name:Str}{v:Value}
end
theorem jo.some_of{v:V}{o:Option Value}(r:jo (some v) o):∃u,o=some u∧RelV v u:=by
 cases o with
 | none=>exact (show False from r).elim
 | some u=>exact ⟨u,rfl,r⟩
theorem vU{v:V}{u:Value}(r:RelV v u):PySem.W.handedIn u=true:=by
 cases v with
 | non=>cases (show u=Value.none from r);rfl
 | bl b=>cases (show u=Value.bool b from r);rfl
 | int i=>obtain ⟨t,e⟩:=(show ∃t,u=Value.int i t from r);cases e;rfl
 | str x=>obtain ⟨t,e⟩:=(show ∃t,u=Value.str x t from r);cases e;rfl
 | byt b=>obtain ⟨t,e⟩:=(show ∃t,u=Value.bytes b t from r);cases e;rfl
 | flt b=>obtain ⟨t,e⟩:=(show ∃t,u=Value.float b t from r);cases e;rfl
 | ref a=>cases (show u=Value.ref a from r);rfl
 | ty n=>cases (show u=Value.type n from r);rfl
section
variable {P:Program}{w:World}{H H':Hp}{h h':Heap}{a C dx:Addr}{fs fs':List (Str × V)}
theorem Zbz(hok:HOk P w H h)(e:H a=some (.ins C dx fs)):∃mA,ObjM h a dx C mA∧(∀f,jo (fs.lookup f) (mA f))∧PySem.Within mA (fs.map (·.1))∧fs.length≤1000∧H dx=some (.own a):=by
 obtain ⟨d,z,ne,ob,mA,n,r,q⟩:=(show Yg P w H h a (.ins C dx fs) from hok a _ e)
 exact ⟨mA,⟨ob,n,ne⟩,r,q,z,d⟩
end
structure Cls(K:PySem.W.Frag)(C:Addr):Prop where
 pg:PySem.W.plainGet K C Str.empty=true
 hd:PySem.W.hasDictIn K C=true
 po:PySem.W.plainOver K C=true
 sa:PySem.W.findIn K (.ref C) "__setattr__" = some (some (.builtin "object.__setattr__"))
theorem Cls.get{K:PySem.W.Frag}{C:Addr}(c:Cls K C)(f:Str):PySem.W.plainGet K C f=true:=c.pg
section
variable {X:Cx}{pins:List (Addr × Obj)}{σ:St}{H:Hp}{s:Shared}{a C dx:Addr}{fs:List (Str × V)}{f:Str}{v:V}{A:Around}{E:Value→Shared→Prop}
theorem Zb0{prog:Program}{w:World}{env:Env}{e:Expr}{f:Str}{pos:Pos}{s:Shared}{Q:Value→Shared→Prop}(hb:attributeBase e f env (eval e env)=eval e env)
  (h:wpAny (model prog w) A (eval e env) (fun o s₁=>wpAny (model prog w) A (getAttr o f true) Q E s₁) E s):wpAny (model prog w) A (eval (.Attribute e f pos) env) Q E s :=
 Attribute_any_ h (by rw [arm_eval_Attribute,hb])
end
section
variable {X:Cx}{o e value:Expr}{f:Str}{pos pos' tpos:Pos}{ta tv:TE}
end
section
variable {X:Cx}{pins:List (Addr × Obj)}{σ:St}{H:Hp}{s:Shared}{A:Around}{E:Value→Shared→Prop}{Q:Value→Shared→Prop}{c:Value}{b:Bool}
inductive yI(K:PySem.W.Frag)(H:Hp):V→Value→Prop where
 | non:yI K H .non (.type "NoneType")
 | bl (x:Bool):yI K H (.bl x) (.type "bool")
 | int (i:Int):yI K H (.int i) (.type "int")
 | str (x:Str):yI K H (.str x) (.type "str")
 | flt (x:UInt64):yI K H (.flt x) (.type "float")
 | lst {a:Addr} {xs:List V} (e:H a=some (.lst xs)):yI K H (.ref a) (.type "list")
 | frz {a:Addr} {o:Obj} {xs:List V} (e:H a=some (.frz o (.lst xs))):yI K H (.ref a) (.type "list")
 | tup {a:Addr} {xs:List V} (e:H a=some (.tup xs)):yI K H (.ref a) (.type "tuple")
 | dK {a:Addr} {kvs:List (Key × V)} (e:H a=some (.dK kvs)):yI K H (.ref a) (.type "dict")
 | dT {a:Addr} {kvs:List (List Key × V)} (e:H a=some (.dT kvs)):yI K H (.ref a) (.type "dict")
 | ins {a C dx:Addr} {fs:List (Str × V)} (e:H a=some (.ins C dx fs)) (cl:Cls K C) (ha:PySem.W.findIn K (.ref C) "__class__" = some (some (.builtin "object.__class__")))
   (hn:PySem.W.specialIn K (.builtin "object.__class__") "__get__" = some (some (.builtin "getset_descriptor.__get__"))) (htk:PySem.W.takesIn K (.builtin "object.__class__")=some true)
   (hm:PySem.W.mroIn K C (.type "object")=some true):yI K H (.ref a) (.ref C)
theorem vV{x:V}{u t:Value}(I:Inv X pins σ H s)(rx:RelV x u)(ty:yI X.K H x t)(e:PySem.W.kitOne X.K t c=some b)(h:∀tk,Q (.bool b) { s with toks:=tk }) :
  wpAny (model X.prog X.w) A (call (.builtin "isinstance") [u,c]) Q E s:=by
 cases ty with
 | non=>cases (show u=Value.none from rx);exact PySem.W.kia_one PySem.W.kitx_none I.kIn True.intro e (fun z=>nomatch z) h
 | bl y=>cases (show u=Value.bool y from rx);exact PySem.W.kia_one PySem.W.kitx_bool I.kIn True.intro e (fun z=>nomatch z) h
 | int i=>obtain ⟨t,q⟩:=(show ∃t,u=Value.int i t from rx);cases q;exact PySem.W.kia_one PySem.W.kitx_int I.kIn True.intro e (fun z=>nomatch z) h
 | str y=>obtain ⟨t,q⟩:=(show ∃t,u=Value.str y t from rx);cases q;exact PySem.W.kia_one PySem.W.kitx_str I.kIn True.intro e (fun z=>nomatch z) h
 | flt y=>obtain ⟨t,q⟩:=(show ∃t,u=Value.float y t from rx);cases q;exact PySem.W.kia_one PySem.W.kitx_float I.kIn True.intro e (fun z=>nomatch z) h
 | @lst a xs ea =>
  cases (show u=Value.ref a from rx)
  obtain ⟨_,_,n,_,h1⟩:=(show Yg X.prog X.w H s.heap a (.lst xs) from I.hok a _ ea)
  exact PySem.W.kia_one PySem.W.kitx_list I.kIn ⟨_,h1,rfl⟩ e (fun z=>nomatch z) h
 | @frz a ob xs ea =>
  cases (show u=Value.ref a from rx)
  obtain ⟨_,_,_,n,_,h1⟩:=(show Yg X.prog X.w H s.heap a (.frz ob (.lst xs)) from I.hok a _ ea)
  exact PySem.W.kia_one PySem.W.kitx_list I.kIn ⟨_,h1,rfl⟩ e (fun z=>nomatch z) h
 | @tup a xs ea =>
  cases (show u=Value.ref a from rx)
  obtain ⟨_,_,_,p⟩:=(show Yg X.prog X.w H s.heap a (.tup xs) from I.hok a _ ea)
  obtain ⟨o,h1,h2,_⟩:=p
  exact PySem.W.kia_one PySem.W.kitx_tuple I.kIn ⟨o,h1,h2⟩ e (fun z=>nomatch z) h
 | @dK a kvs ea =>
  cases (show u=Value.ref a from rx)
  obtain ⟨_,_,vs,_,p⟩:=(show Yg X.prog X.w H s.heap a (.dK kvs) from I.hok a _ ea)
  obtain ⟨o,es,ep,h1,h2,_⟩:=p
  exact PySem.W.kia_one PySem.W.kitx_dict I.kIn ⟨o,h1,h2.1⟩ e (fun z=>nomatch z) h
 | @dT a kvs ea =>
  cases (show u=Value.ref a from rx)
  obtain ⟨_,_,xs,_,o,es,ep,h1,h2,_⟩:=(show Yg X.prog X.w H s.heap a (.dT kvs) from I.hok a _ ea)
  exact PySem.W.kia_one PySem.W.kitx_dict I.kIn ⟨o,h1,h2.1⟩ e (fun z=>nomatch z) h
 | @ins a C dx fs ea cl ha hn htk hm =>
  cases (show u=Value.ref a from rx)
  obtain ⟨mA,O,_⟩:=Zbz I.hok ea
  obtain ⟨od,J,_⟩:=O.look
  exact PySem.W.kia_one (PySem.W.kitx_own (cl.get _) cl.hd ha hn htk hm) I.kIn J e (fun z=>nomatch z) h
end
structure Wi(k:Nat)(A:Around):Prop where
 hd:A.handled=none
 dp:A.depth + 3 * k + 5 < recursionLimit
 un:A.units + 16 * k + 200 < cLine
theorem Wi.mono{j k:Nat}{A:Around}(r:Wi k A)(h:j≤k):Wi j A:=⟨r.hd,by have:=r.dp;lia,by have:=r.un;lia⟩
theorem Wi.deeper{k:Nat}{A:Around}(r:Wi (k + 1) A)(env:Env):Wi k (A.deeper env) :=
 ⟨r.hd,by have:=r.dp;show A.depth + 1 + 3 * k + 5 < _;lia,by have:=r.un;show A.units + 3 + 16 * k + 200 < _;lia⟩
theorem yJ {A:Around} {C:Addr} {us:List Value} {kw:List (Str × Value)}:(A.under (.builtin "type.__call__" ⟨.ref C::us,kw⟩)).depth=A.depth + 1:=by
 first | rfl | simp [Around.under,Code.weight,Code.isCreation,Code.isGuard,Code.isCaller,Code.frames,Code.isFrame,guardIds]
theorem yK {A:Around} {C:Addr} {us:List Value} {kw:List (Str × Value)}:(A.under (.builtin "type.__call__" ⟨.ref C::us,kw⟩)).units=A.units + 1:=by
 first | rfl | simp [Around.under,Code.cUnits,Code.frames,Code.isFrame]
theorem Wi.make {k:Nat} {A:Around} (r:Wi (k + 1) A) (C:Addr) (us:List Value) (kw:List (Str × Value)):Wi k (A.under (.builtin "type.__call__" ⟨.ref C::us,kw⟩)) :=
 ⟨r.hd,by have:=r.dp;rw [yJ];lia,by have:=r.un;rw [yK];lia⟩
theorem Wi.depth{k:Nat}{A:Around}(r:Wi k A):A.depth < recursionLimit:=by have:=r.dp;lia
theorem Wi.units{k:Nat}{A:Around}(r:Wi k A):A.units + 64 < cLine:=by have:=r.un;lia
theorem Wi.units0{k:Nat}{A:Around}(r:Wi k A):A.units < cLine:=by have:=r.un;lia
noncomputable def Zd1:TA:=fun _ H Q=>Q [] H
noncomputable def vW(ta:TE)(tr:TA):TA:=fun σ H Q=>ta σ H fun x H1=>tr σ H1 fun xs H2=>Q (x::xs) H2
section
variable {X:Cx}{e:Expr}{es:List Expr}{te:TE}{t:TA}{pos:Pos}
theorem pa_nil:PA X [] Zd1:=fun _ _ _ _ H Q I h=>Calls.spliced_nil ⟨[],H,I,.nil,h⟩
theorem Zb1(ha:PE X e te)(hr:PA X es t)(hs:starEach (e::es) X.env=(false,eval e X.env)::starEach es X.env:=by rfl):PA X (e::es) (vW te t):=by
 intro pos pins s σ H Q I h
 rw [hs]
 show wpAny _ _ (spliced ((false,eval e X.env)::backTo pos (starEach es X.env))) _ _ s
 refine Calls.spliced_cons (thn (ha pins s σ H _ I h) fun u s1 ⟨x,H1,I1,r1,q1⟩=>?_)
 exact thn (hr pos pins s1 σ H1 _ I1 q1) fun us s2 ⟨xs,H2,I2,r2,q2⟩=>⟨x::xs,H2,I2,.cons r1 r2,q2⟩
inductive Zam(Q:VK)(xs:List V)(H1:Hp):Prop
 | mk  : (xs.length≤sizeLine)→(∀p,H1 p=none→Q (.ref p) (upd H1 p (.tup xs)))→Zam Q xs H1
noncomputable def tTup(t:TA):TE:=fun σ H Q=>t σ H fun xs H1=>Zam Q xs H1
inductive Zan(Q:VK)(xs:List V)(H1:Hp):Prop
 | mk  : (xs.length≤sizeLine)→(∀p,H1 p=none→Q (.ref p) (upd H1 p (.lst xs)))→Zan Q xs H1
noncomputable def tLst(t:TA):TE:=fun σ H Q=>t σ H fun xs H1=>Zan Q xs H1
theorem pe_tup{x1}(h:PA X es t):PE X (.Tuple es x1 pos) (tTup t):=by
 intro pins s σ H Q I hq
 refine wpAny_Tuple_spliced (thn (h pos pins s σ H _ I hq) fun us s1 ⟨xs,H1,I1,r,z,q⟩=>⟨by rw [←r.length];exact z,?_⟩)
 have hf:H1 s1.heap.objs.size=none:=I1.hok.fresh (Nat.le_refl _)
 refine ⟨.ref s1.heap.objs.size,upd H1 s1.heap.objs.size (.tup xs),I1.laid (t':=s1.toks) (fun b u e=>Heap.get?_push_of_some _ e) (Nat.le_refl _) ?_,rfl,q _ hf⟩
 exact ⟨z,us,r,⟨_,Heap.get?_push_size _ rfl,rfl,_,rfl⟩⟩
theorem pe_lst(h:PA X es t):PE X (.List es pos) (tLst t):=by
 intro pins s σ H Q I hq
 refine wpAny_List_spliced (thn (h pos pins s σ H _ I hq) fun us s1 ⟨xs,H1,I1,r,z,q⟩=>⟨by rw [←r.length];exact z,?_⟩)
 have hf:H1 s1.heap.objs.size=none:=I1.hok.fresh (Nat.le_refl _)
 refine ⟨.ref s1.heap.objs.size,upd H1 s1.heap.objs.size (.lst xs),I1.laid (t':=s1.toks) (fun b u e=>Heap.get?_push_of_some _ e) (Nat.le_refl _) ?_,rfl,q _ hf⟩
 exact ⟨z,us,0,r,Heap.get?_push_size _ rfl⟩
end
noncomputable abbrev Sp:=List V→Hp→VK→XK→Prop
noncomputable abbrev CXT:=List Env→Hp→Shared→XK→Value→Shared→Prop
structure vw(P:Program)(w:World)(K:PySem.W.Frag)(mg:Str→Option Value)(base:Heap)(A:Around)(outer:List Env)(s:Shared)(H:Hp):Prop where
 frames:A.frames=some outer
 mod:Mod K mg base
 bs:∀b o,base.get? b=some o→s.heap.get? b=some o∧H b=none
 bsz:base.objs.size≤s.heap.objs.size
 funs:s.heap.FunFrames base outer
 frf:∀b∈frs outer,H b=none
 hok:HOk P w H s.heap
 bare:AllBare s.gens
noncomputable def CE(outer:List Env)(P:Program)(w:World)(H:Hp)(s:Shared)(Q:VK)(u:Value)(s':Shared):Prop :=
 ∃v H',s'.os=s.os∧AllBare s'.gens∧Un (frs outer) [] H H' s.heap s'.heap∧HOk P w H' s'.heap∧RelV v u∧Q v H'
noncomputable def CR(CX:CXT)(outer:List Env)(P:Program)(w:World)(H:Hp)(s:Shared)(Q:VK)(E:XK)(r:Result)(s':Shared):Prop :=
 match r with
 | .ok (.ret u)=>CE outer P w H s Q u s'
 | .ok _=>False
 | .error e=>CX outer H s E e s'
structure Z7(P:Program)(w:World)(K:PySem.W.Frag)(mg:Str→Option Value)(base:Heap)(CX:CXT)(k:Nat)(f:Addr)(fd:FuncData)(ps:List Str)(sp:Sp):Prop where
 len:∀vs H Q E,sp vs H Q E→vs.length=ps.length
 run:∀(A:Around) (outer:List Env) (s:Shared) (H:Hp) (args:Args) (us:List Value) (vs:List V) (Q:VK) (E:XK),Wi k A→vw P w K mg base A outer s H→BindsTo s fd args (ps.zip us)→Vals vs us→sp vs H Q E →
  codeAny (model P w) A (.call (.ref f) args) (CR CX outer P w H s Q E) s
theorem vw.make{P:Program}{w:World}{K:PySem.W.Frag}{mg:Str→Option Value}{base:Heap}{A:Around}{outer:List Env}{s:Shared}{H:Hp}(e:vw P w K mg base A outer s H)(C:Addr)(us:List Value)(kw:List (Str × Value)) :
  vw P w K mg base (A.under (.builtin "type.__call__" ⟨.ref C::us,kw⟩)) outer s H:=⟨by first | exact e.frames | (simpa [Around.under,Code.envs,Code.isFrame,pushEnvs] using e.frames),e.mod,e.bs,e.bsz,e.funs,e.frf,e.hok,e.bare⟩
section
variable {X:Cx}{pins:List (Addr × Obj)}{σ:St}{H:Hp}{s s':Shared}
theorem Inv.env0(I:Inv X pins σ H s):vw X.prog X.w X.K X.mg X.base X.A X.stack s H :=
 ⟨I.ok.frames,I.ok.mod,I.bs,Nat.le_trans I.ok.bsz I.sz,I.stack,I.stkFree,I.hok,I.bare⟩
theorem Inv.after{Q:VK}{u:Value}(I:Inv X pins σ H s)(h:CE X.stack X.prog X.w H s Q u s'):EP X pins σ Q u s':=by
 obtain ⟨v,H',os,bare,un,hok,r,q⟩:=h
 obtain ⟨hh,g,d,t,os'⟩:=s'
 obtain rfl:os'=s.os:=os
 exact ⟨v,H',I.call (h':=hh) (g':=g) (d':=d) (t':=t) (ch:=[]) un hok bare (fun b z=>absurd z (by simp)),r,q⟩
end
noncomputable def vX(sp:Sp)(dvs:List V)(E:XK)(t:TA):TE:=fun σ H Q=>t σ H fun vs H1=>sp (vs++dvs) H1 Q E
noncomputable def Binds(K:PySem.W.Frag)(fd:FuncData)(ps:List Str)(ds:List Value):Prop :=
 ∀(s:Shared) (us:List Value),K.In s.heap→(us++ds).length=ps.length→BindsTo s fd ⟨us,[]⟩ (ps.zip (us++ds))
theorem Binds.all{K:PySem.W.Frag}{fd:FuncData}{ps:List Str}(h:∀us:List Value,us.length=ps.length→bindArgs fd ⟨us,[]⟩=pure (ps.zip us)):Binds K fd ps []:=fun s us _ hl=>by
 rw [List.append_nil] at hl ⊢
 exact .of_eq (h us hl)
noncomputable def Passes(CX:CXT)(X:Cx)(E:XK):Prop:=∀(pins:List (Addr × Obj)) (σ:St) (H:Hp) (s:Shared) (e:Value) (s':Shared),Inv X pins σ H s→CX X.stack H s E e s'→X.xe e s'
section
variable {X:Cx}{CX:CXT}{k:Nat}{f C:Addr}{fd:FuncData}{ps:List Str}{sp:Sp}{dvs:List V}{ds:List Value}{E:XK}{x m:Str}{p pos apos:Pos}{e o:Expr}{es:List Expr}{ta:TE}{t:TA}
theorem Zao{pins:List (Addr × Obj)}{σ:St}{H:Hp}{s:Shared}{Q:VK}{us:List Value}{vs:List V}(F:Z7 X.prog X.w X.K X.mg X.base CX k f fd ps sp)(hr:Wi k X.A)(hb:Binds X.K fd ps ds)(hd:Vals dvs ds)(hx:Passes CX X E)
  (I:Inv X pins σ H s) (r:Vals vs us) (h:sp (vs++dvs) H Q E):wpAny (model X.prog X.w) X.A (call (.ref f) us) (EP X pins σ Q) X.xe s:=by
 have r2:Vals (vs++dvs) (us++ds):=r.append hd
 have hl:(us++ds).length=ps.length:=by rw [←r2.length];exact F.len _ _ _ _ h
 refine wpAny_call (codeAny_mono (F.run X.A X.stack s H ⟨us,[]⟩ (us++ds) (vs++dvs) Q E hr I.env0 (hb s us I.kIn hl) r2 h) fun r s' hq=>?_)
 cases r with
 | error e=>exact hx pins σ H s e s' I hq
 | ok fl =>
  cases fl with
  | ret u=>exact I.after hq
  | next=>exact False.elim hq
  | brk=>exact False.elim hq
  | cont=>exact False.elim hq
theorem Zb2(F:Z7 X.prog X.w X.K X.mg X.base CX k f fd ps sp)(hr:Wi k X.A)(hg:Gl X x)(hm:X.mg x=some (.ref f))(hk:PySem.W.keepIn X.K (.ref f)=true)(hb:Binds X.K fd ps ds)(hd:Vals dvs ds)(hx:Passes CX X E)
  (ha:PA X (e::es) t) (hdb:(x == ("__debug__" : Str))=false:=by decide) (he:starEach (e::es) X.env=(false,eval e X.env)::starEach es X.env:=by rfl) (hpl:(backTo pos (starEach es X.env)).any (·.1)=false:=by rfl) :
  PE X (.Call (.Name x p) (e::es) [] pos) (vX sp dvs E t):=by
 intro pins s σ H Q I h
 refine wpAny_Call_Name_kw (Jv I hg hm ?_ hdb)
 refine PySem.W.callWith_K (h₀:=X.base) I.ok.mod.kin hk (thn (ha pos pins s σ H _ I h) fun us s1 ⟨vs,H1,I1,r,q⟩=>⟨I1.kIn,?_⟩) he hpl
 exact Zao F hr hb hd hx I1 r q
theorem gE(F:Z7 X.prog X.w X.K X.mg X.base CX k f fd ps sp)(hr:Wi k X.A)(hg:Gl X x)(hm:X.mg x=some (.ref f))(hk:PySem.W.keepIn X.K (.ref f)=true)(hb:Binds X.K fd ps ds)(hd:Vals dvs ds)(hx:Passes CX X E)
  (hdb:(x == ("__debug__" : Str))=false:=by decide):PE X (.Call (.Name x p) [] [] pos) (vX sp dvs E Zd1):=by
 intro pins s σ H Q I h
 refine wpAny_Call_Name_kw (Jv I hg hm ?_ hdb)
 exact PySem.W.callWith_K0 I.kIn hk (Zao (us:=[]) F hr hb hd hx I .nil h)
end
section
variable {X:Cx}{CX:CXT}{k:Nat}{f C:Addr}{fd:FuncData}{ps ks:List Str}{sp:Sp}{E:XK}{x m:Str}{p pos apos kpos:Pos}{e o:Expr}{es:List Expr}{kws:List Keyword}{te ta:TE}{t tk:TA}{nm:Option Str}
variable {g:List Value→List Value→List Value}{gV:List V→List V→List V}
end
structure Zw(N P:List Str)(sc:Scope):Prop where
 kind:sc.kind=.function
 co:sc.isCoroutine=false
 gen:sc.isGenerator=false
 nd:N.Nodup
 pre:N.take P.length=P
 par:∀x∈P,sc.names.lookup x=some .local∨sc.names.lookup x=some .cell
 nofree:∀y∈sc.names,y.2≠.free
theorem zq{kindOf:Str→Option NameKind}{x:Str}:∀{binds:List (Str × Value)} {m:Str→Option Value},(∀v,(x,v)∉binds)→bindL kindOf binds m x=m x
 | [],_,_=>rfl
 | (n,v)::r,m,h=>by
  unfold bindL
  rw [zq fun w hw=>h w (List.mem_cons_of_mem _ hw)]
  split
  ·have:x≠n:=by rintro rfl;exact h v List.mem_cons_self
   simp [this]
  ·rfl
theorem zr{kindOf:Str→Option NameKind}{x:Str}:∀{binds:List (Str × Value)} {m:Str→Option Value},(∀v,(x,v)∉binds)→bindC kindOf binds m x=m x
 | [],_,_=>rfl
 | (n,v)::r,m,h=>by
  unfold bindC
  rw [zr fun w hw=>h w (List.mem_cons_of_mem _ hw)]
  split
  ·rfl
  ·have:x≠n:=by rintro rfl;exact h v List.mem_cons_self
   simp [this]
theorem zt{kindOf:Str→Option NameKind}{x:Str}{v:Value}:∀{P:List Str} {vs:List Value} {i:Nat} {m:Str→Option Value},P.Nodup→P[i]?=some x→vs[i]?=some v→kindOf x=some .local →
  bindL kindOf (P.zip vs) m x=some v
 | [],_,_,_,_,h,_,_=>by simp at h
 | _::_,[],_,_,_,_,h,_=>by simp at h
 | p::P,w::vs,0,m,nd,h1,h2,hk=>by
  simp at h1 h2;subst h1;subst h2
  show bindL kindOf ((p,w)::P.zip vs) m p=_
  unfold bindL
  rw [zq fun v hv=>(List.nodup_cons.mp nd).1 (List.of_mem_zip hv).1,if_pos hk]
  simp
 | p::P,w::vs,i + 1,m,nd,h1,h2,hk=>by
  show bindL kindOf ((p,w)::P.zip vs) m x=_
  unfold bindL
  exact zt (i:=i) (List.nodup_cons.mp nd).2 (by simpa using h1) (by simpa using h2) hk
theorem zu{kindOf:Str→Option NameKind}{x:Str}{v:Value}:∀{P:List Str} {vs:List Value} {i:Nat} {m:Str→Option Value},P.Nodup→P[i]?=some x→vs[i]?=some v→kindOf x≠some .local →
  bindC kindOf (P.zip vs) m x=some v
 | [],_,_,_,_,h,_,_=>by simp at h
 | _::_,[],_,_,_,_,h,_=>by simp at h
 | p::P,w::vs,0,m,nd,h1,h2,hk=>by
  simp at h1 h2;subst h1;subst h2
  show bindC kindOf ((p,w)::P.zip vs) m p=_
  unfold bindC
  rw [zr fun v hv=>(List.nodup_cons.mp nd).1 (List.of_mem_zip hv).1,if_neg hk]
  simp
 | p::P,w::vs,i + 1,m,nd,h1,h2,hk=>by
  show bindC kindOf ((p,w)::P.zip vs) m x=_
  unfold bindC
  exact zu (i:=i) (List.nodup_cons.mp nd).2 (by simpa using h1) (by simpa using h2) hk
noncomputable def start(N:List Str)(vs:List V):St:=vs.map some++List.replicate (N.length - vs.length) none
noncomputable def vY(CX:CXT)(P:Program)(w:World)(K:PySem.W.Frag)(mg:Str→Option Value)(base:Heap)(N:List Str)(qual:Str)(scope:Scope)(f:Addr)(cd:Value)(A:Around)(outer:List Env)(s:Shared)(H:Hp)(E:XK):Cx where
 prog:=P
 w:=w
 K:=K
 mg:=mg
 base:=base
 A:=A.deeper (envOfC qual scope s.heap.objs.size f cd)
 N:=N
 s₀:=s
 H₀:=H
 env:=envOfC qual scope s.heap.objs.size f cd
 outer:=outer
 stack:=envOfC qual scope s.heap.objs.size f cd::outer
 ex:=[]
 calm:=true
 fn:=fun _=>true
 pn:=[]
 xe:=fun e s'=>wpAny (model P w) (A.deeper (envOfC qual scope s.heap.objs.size f cd)) (leaving (envOfC qual scope s.heap.objs.size f cd) e) (fun _ s''=>CX outer H s E e s'') (fun e' s''=>CX outer H s E e' s'') s'
theorem yb{sc:Scope}{n:Nat}{x:Str}(h:sc.names.lookup x=some .cell):∃c,(cellsFrom n sc.names []).lookup x=some c:=by
 have q:=PySem.W.cellsFrom_some sc.names n [] (.inl h)
 exact Option.isSome_iff_exists.mp q
theorem vZ{CX:CXT}{P:Program}{w:World}{K:PySem.W.Frag}{mg:Str→Option Value}{base:Heap}{N ps:List Str}{qual:Str}{scope:Scope}{f:Addr}{cd:Value}{A:Around}{outer:List Env}{s s1:Shared}{H:Hp}{E:XK}{us:List Value}{vs:List V}
  (S:Zw N ps scope) (hd:A.handled=none) (e0:vw P w K mg base A outer s H) (hl:vs.length=ps.length) (r:Vals vs us)
  (x:InCallC s s.heap.objs.size (bindL (envOfC qual scope s.heap.objs.size f cd).kindOf (ps.zip us) fun _=>none) (cellsFrom (s.heap.objs.size + 1) scope.names []) (bindC (envOfC qual scope s.heap.objs.size f cd).kindOf (ps.zip us) fun _=>none) s1) :
  Inv (vY CX P w K mg base N qual scope f cd A outer s H E) [] (start N vs) H s1:=by
 have hpl:ps.length≤N.length:=by have:=congrArg List.length S.pre;rw [List.length_take] at this;lia
 obtain ⟨h1,tk,rfl,hk⟩:=x.done
 have noA:∀b:Addr,b∉(vY CX P w K mg base N qual scope f cd A outer s H E).ex:=fun b z=>absurd (show b∈([]:List Addr) from z) (by simp)
 refine ⟨⟨e0.mod,S.kind,rfl,rfl,Nat.le_refl _,fun y z c h1 h2=>?_,fun y hy=>?_,fun y c _ h=>?_,fun _=>hd,Around.frames_deeper e0.frames,.inr ⟨rfl,rfl⟩,fun b z=>absurd z (noA b),e0.bs,e0.bsz,fun b _ _=>noA b,fun b z=>absurd z (noA b),e0.funs,e0.frf⟩,
  rfl,e0.bare,Un.kept hk,⟨_,x.toInCall.ns,fun i y v h1 h2 h3=>?_⟩,fun y c h=>⟨_,x.cell y c h⟩,e0.hok.fresh (Nat.le_refl _),fun y c h=>?_,fun p hp=>absurd (show p∈([]:List (Addr × Obj)) from hp) (by simp),e0.hok.kept hk,?_⟩
 ·exact name_of_addr x.apart (PySem.mem_of_lookup h1) (PySem.mem_of_lookup h2)
 ·have hy:scope.names.lookup y=some .cell∨scope.names.lookup y=some .free:=hy
  rcases hy with hy | hy
  ·exact yb hy
  ·exact absurd rfl (S.nofree _ (PySem.mem_of_lookup hy))
 ·exact Nat.le_of_lt (x.above y c (PySem.mem_of_lookup h))
 ·have hi:i < vs.length:=by
   unfold start at h2
   by_cases hi:i < vs.length
   ·exact hi
   ·rw [List.getElem?_append_right (by simpa using hi)] at h2
    rw [List.getElem?_replicate] at h2
    split at h2 <;> cases h2
  have ha:vs[i]?=some v:=by
   unfold start at h2
   rw [List.getElem?_append_left (by simpa using hi),List.getElem?_map] at h2
   cases e:vs[i]? with
   | none=>rw [e] at h2;cases h2
   | some a=>rw [e] at h2;cases h2;rfl
  obtain ⟨u,hu,rv⟩:=r.get ha
  have hp:ps[i]?=some y:=by
   rw [←S.pre,List.getElem?_take_of_lt (by lia)];exact h1
  have ndP:ps.Nodup:=by rw [←S.pre];exact S.nd.sublist (List.take_sublist _ _)
  refine ⟨u,rv,?_⟩
  rcases S.par y (List.mem_of_getElem? hp) with k | k
  ·exact .inl ⟨k,zt ndP hp hu k⟩
  ·obtain ⟨c,e⟩:=yb (n:=s.heap.objs.size + 1) k
   refine .inr ⟨.inl k,c,e,?_⟩
   have q:=x.cell y c e
   rw [zu ndP hp hu (by show scope.names.lookup y≠_;rw [k];decide)] at q
   exact q
 ·exact e0.hok.fresh (Nat.le_of_lt (x.above y c (PySem.mem_of_lookup h)))
 ·unfold start
  show _=N.length
  rw [List.length_append,List.length_map,List.length_replicate]
  lia
theorem Zb3{CX:CXT}{P:Program}{w:World}{K:PySem.W.Frag}{mg:Str→Option Value}{base:Heap}{k:Nat}{f:Addr}{name qual:Str}{params:Arguments}{body:List Stmt}{scope:Scope}{dV kV doc pm cdv ct oc:Value}{an od:Option Addr}
  {osl:Array (Option Value)} {N ps:List Str} {sp:Sp} (lk:K.lookup f=some ⟨oc,od,.func (PySem.W.fnOf name qual params body scope dV kV doc pm an cdv ct),osl⟩) (hcd:PySem.W.codeIn K cdv qual=true) (S:Zw N ps scope)
  (len:∀vs H Q E,sp vs H Q E→vs.length=ps.length)
  (hbody:∀(A:Around) (outer:List Env) (s:Shared) (H:Hp) (vs:List V) (Q:VK) (E:XK),Wi k (A.deeper (envOfC qual scope s.heap.objs.size f cdv))→sp vs H Q E →
   ∃t,PSs (vY CX P w K mg base N qual scope f cdv A outer s H E) body t∧t { nx:=fun _ H'=>Q .non H',rt:=Q } (start N vs) H) :
  Z7 P w K mg base CX (k + 1) f (PySem.W.fnOf name qual params body scope dV kV doc pm an cdv ct) ps sp:=by
 refine ⟨len,fun A outer s H args us vs Q E hr e0 hb r hsp=>?_⟩
 have hl:=len _ _ _ _ hsp
 have KX:K.In s.heap:=e0.mod.kin.keeps fun b o e=>(e0.bs b o e).1
 have lim:s.heap.NoLimit:=e0.mod.nolimit.keeps fun b o e=>(e0.bs b o e).1
 have hkind:∀y∈ps.zip us,scope.names.lookup y.1=some .local∨(scope.names.lookup y.1=some .cell∧((cellsFrom (s.heap.objs.size + 1) scope.names []).lookup y.1).isSome=true):=fun ⟨n,v⟩ hy=>by
  rcases S.par n (List.of_mem_zip hy).1 with q | q
  ·exact .inl q
  ·exact .inr ⟨q,PySem.W.cellsFrom_some _ _ _ (.inl q)⟩
 refine codeAny_call_function hr.depth (KX _ _ lk) rfl S.co S.gen rfl (PySem.W.codeRec_of KX hcd) (hb _ _ _ _ ?_)
 refine wpAny_newFunctionEnv_cells S.kind hkind fun env he s1 x=>?_
 subst he
 refine ⟨lim.keeps x.toInCall.keep,codeAny_func ?_⟩
 obtain ⟨t,ht,hq⟩:=hbody A outer s H vs Q E (hr.deeper _) hsp
 have I:Inv (vY CX P w K mg base N qual scope f cdv A outer s H E) [] (start N vs) H s1:=vZ S hr.hd e0 hl r x
 refine wpAny_mono (ht [] s1 (start N vs) H _ I hq) (fun fl s' hs=>?_) fun e s' hs=>hs
 have fin:∀{σ':St} {H':Hp} {v:V} {u:Value},Inv (vY CX P w K mg base N qual scope f cdv A outer s H E) [] σ' H' s'→RelV v u→Q v H'→CE outer P w H s Q u s' :=
  fun {σ' H' v u} J rv q=>⟨v,H',J.os,J.bare,J.base,J.hok,rv,q⟩
 cases fl with
 | ret u =>
  obtain ⟨v,σ',H',J,rv,q⟩:=hs
  exact fin J rv q
 | next =>
  obtain ⟨σ',H',J,q⟩:=hs
  exact fin (v:=V.non) (u:=Value.none) J rfl q
 | brk =>
  obtain ⟨_,_,_,q⟩:=hs
  exact False.elim q
 | cont =>
  obtain ⟨_,_,_,q⟩:=hs
  exact False.elim q
section
variable {X:Cx}{x:Str}{p pos:Pos}{e:Expr}{es:List Expr}{t:TA}{id T:String}{r:List V→Hp→VK→Prop}
noncomputable def tCB(r:List V→Hp→VK→Prop)(t:TA):TE:=fun σ H Q=>t σ H fun vs H1=>r vs H1 Q
theorem gF (hc:XR X (.builtin id) r) (hg:Gl X x) (hm:X.mg x=none) (hv:bootBuiltins x=some (.builtin id)) (ha:PA X (e::es) t) (hn:x ≠ "__name__" := by decide) (hdb:(x == ("__debug__" : Str))=false:=by decide)
  (he:starEach (e::es) X.env=(false,eval e X.env)::starEach es X.env:=by rfl) (hpl:(backTo pos (starEach es X.env)).any (·.1)=false:=by rfl):PE X (.Call (.Name x p) (e::es) [] pos) (tCB r t):=by
 intro pins s σ H Q I h
 refine wpAny_Call_Name_kw (GV I hg hm hv ?_ hn hdb)
 exact PyProof.Rows.callWith_builtin1 (thn (ha pos pins s σ H _ I h) fun us s1 ⟨vs,H1,I1,r1,q1⟩=>hc pins s1 σ H1 vs us Q I1 r1 q1) he hpl
theorem ka (hc:XR X (.type T) r) (hg:Gl X x) (hm:X.mg x=none) (hv:bootBuiltins x=some (.type T)) (ha:PA X (e::es) t) (hn:x ≠ "__name__" := by decide) (hdb:(x == ("__debug__" : Str))=false:=by decide)
  (he:starEach (e::es) X.env=(false,eval e X.env)::starEach es X.env:=by rfl) (hpl:(backTo pos (starEach es X.env)).any (·.1)=false:=by rfl):PE X (.Call (.Name x p) (e::es) [] pos) (tCB r t):=by
 intro pins s σ H Q I h
 refine wpAny_Call_Name_kw (GV I hg hm hv ?_ hn hdb)
 exact PyProof.Rows.callWith_type1 (thn (ha pos pins s σ H _ I h) fun us s1 ⟨vs,H1,I1,r1,q1⟩=>hc pins s1 σ H1 vs us Q I1 r1 q1) he hpl
end
end L2
namespace HT
open PySem PyProof.Rows
section
open PySem.SeqAt
open PySem.AutoSeq1 (wpAny_loadPart')
open PySem.MeetsSeq PySem.MeetsSeq2 PySem.MeetsSeq3
end
section
variable {prog:Program}{w:World}{A:Around}{E:Value→Shared→Prop}{s:Shared}
theorem cat_tup{t b:Addr}{vs ws:List Value}{Q:Value→Shared→Prop}(ht:IsTup s.heap t vs.toArray)(hb:IsTup s.heap b ws.toArray)(hv:vs≠[])
  (h1:ws=[]→Q (.ref t) s) (h2:ws≠[]→Q (.ref s.heap.objs.size) { s with heap:=s.heap.push { cls:=.type "tuple",data:=.seq (vs++ws).toArray } })
  (hsz:vs.length + ws.length≤sizeLine):wpAny (model prog w) A (binaryOp .Add (.ref t) (.ref b)) Q E s:=by
 obtain ⟨⟨cls,dd,data,sl⟩,ho,hc,n,hd⟩:=id ht
 obtain ⟨⟨cls2,dd2,data2,sl2⟩,ho2,hc2,n2,hd2⟩:=id hb
 simp only at hc hd hc2 hd2
 subst hc hd hc2 hd2
 have e:vs.toArray++ws.toArray=(vs++ws).toArray:=by simp
 by_cases hw:ws=[]
 ·exact concat_meets ⟨_,ho,rfl⟩ ⟨_,ho2,rfl⟩ noFill_tuple_add seq_tuple_add PySem.F.slot_tuple_add PySem.F.entry_tuple_add (PySem.F.args_tuple_add_2 _ _)
   (tuple_addW1 t b vs.toArray ws.toArray n n2 dd dd2 sl sl2 (by simpa using hv) (by simp [hw])) ⟨ho,ho2,h1 hw⟩
 ·refine concat_meets ⟨_,ho,rfl⟩ ⟨_,ho2,rfl⟩ noFill_tuple_add seq_tuple_add PySem.F.slot_tuple_add PySem.F.entry_tuple_add (PySem.F.args_tuple_add_2 _ _)
   (tuple_addW2 t b vs.toArray ws.toArray n n2 dd dd2 sl sl2 (by simpa using hv) (by simpa using hw) (by rw [List.size_toArray,List.size_toArray];exact hsz)) ⟨ho,ho2,?_⟩
  rw [e]
  exact h2 hw
noncomputable def sIx(n d:Nat):Option Int→Nat
 | none=>d
 | some v=>if v < 0 then (v + (n:Int)).toNat else min v.toNat n
end
end HT
namespace L2
open PySem PySem.Spec PyProof.Rows
noncomputable abbrev TO:=St→Hp→(Option Int→Hp→Prop)→Prop
noncomputable def PO(X:Cx)(e:Option Expr)(t:TO):Prop :=
 ∀(pins:List (Addr × Obj)) (s:Shared) (σ:St) (H:Hp) (Q:Option Int→Hp→Prop),Inv X pins σ H s→t σ H Q →
  wpAny (model X.prog X.w) X.A (evalPart e X.env) (fun u s'=>∃o H',Inv X pins σ H' s'∧IsPart u o∧Q o H') X.xe s
noncomputable def kf:TO:=fun _ H Q=>Q none H
inductive kg(Q:Option Int→Hp→Prop)(x:V)(H1:Hp):Prop
 | mk (i):(x=.int i)→(Q (some i) H1)→kg Q x H1
noncomputable def Zd2(t:TE):TO:=fun σ H Q=>t σ H fun x H1=>kg Q x H1
theorem intsAre_of{ns:List Int}:∀{us:List Value},Vals (ns.map V.int) us→IntsAre us ns:=by
 induction ns with
 | nil=>intro us r;rw [List.map_nil] at r;cases r;exact .nil
 | cons n ns ih =>
  intro us r
  rw [List.map_cons] at r
  cases r with
  | cons r1 r2 =>
   obtain ⟨t,e⟩:=r1
   subst e
   exact .cons n t (ih r2)
section
variable {X:Cx}{e:Expr}{te:TE}{lo hi:Option Expr}{tl th:TO}{pos p2:Pos}
theorem Zb4:PO X none kf:=by
 intro pins s σ H Q I h
 rw [evalPart_none]
 exact wpAny_pure ⟨none,H,I,.none,h⟩
theorem Zb5(h:PE X e te):PO X (some e) (Zd2 te):=by
 intro pins s σ H Q I hw
 rw [evalPart_some]
 refine thn (h pins s σ H _ I hw) fun u s1 ⟨x,H1,I1,r1,q1⟩=>?_
 obtain ⟨i,rfl,q⟩:=q1
 obtain ⟨t,rfl⟩:=r1
 exact ⟨some i,H1,I1,.int i t,q⟩
noncomputable def SlR(X:Cx)(r:V→Option Int→Option Int→Hp→VK→Prop):Prop :=
 ∀(pins:List (Addr × Obj)) (s:Shared) (σ:St) (H:Hp) (x:V) (v vl vu:Value) (lo hi:Option Int) (sl:Addr) (Q:VK),Inv X pins σ H s→RelV x v→s.heap.IsSliceOf sl vl vu .none→IsPart vl lo→IsPart vu hi→r x lo hi H Q →
  ∃T id,typeLookup (.type T) "__getitem__" = pure (some (.builtin id))∧s.TypeIs v T∧wpAny (model X.prog X.w) X.A (getItem v (.ref sl)) (EP X pins σ Q) X.xe s
noncomputable def tSl(r:V→Option Int→Option Int→Hp→VK→Prop)(te:TE)(tl th:TO):TE:=fun σ H Q=>te σ H fun x H1=>tl σ H1 fun l H2=>th σ H2 fun u H3=>r x l u H3 Q
theorem gG{r:V→Option Int→Option Int→Hp→VK→Prop}(hr:SlR X r)(he:PE X e te)(hl:PO X lo tl)(hu:PO X hi th):PE X (.Subscript e (.Slice lo hi none p2) pos) (tSl r te tl th):=by
 intro pins s σ H Q I h
 refine Subscript_ (thn (he pins s σ H _ I h) fun v s1 ⟨x,H1,I1,r1,q1⟩=>?_)
 refine wpAny_Slice (thn (hl pins s1 σ H1 _ I1 q1) fun vl s2 ⟨l,H2,I2,pl,q2⟩=>thn (hu pins s2 σ H2 _ I2 q2) fun vu s3 ⟨u,H3,I3,pu,q3⟩=>?_)
 rw [evalPart_none]
 refine wpAny_pure ?_
 have I4:Inv X pins σ H3 { s3 with heap:=s3.heap.push { cls:=.type "slice",data:=.fields #[vl,vu,.none] } }:=I3.kept (t':=s3.toks) fun b ob q=>Heap.get?_push_of_some _ q
 obtain ⟨T,id,hT,ht,hg⟩:=hr pins { s3 with heap:=s3.heap.push { cls:=.type "slice",data:=.fields #[vl,vu,.none] } } σ H3 x v vl vu l u s3.heap.objs.size Q I4 r1 (Heap.IsSliceOf.new ..) pl pu q3
 show wpAny (model X.prog X.w) X.A (subscriptTail e (.Slice lo hi none p2) v (.ref s3.heap.objs.size)) (EP X pins σ Q) X.xe { s3 with heap:=s3.heap.push { cls:=.type "slice",data:=.fields #[vl,vu,.none] } }
 exact tail_any (ops:=[.ref s3.heap.objs.size,v]) ht hT hg (by with_unfolding_all rfl)
noncomputable def gH(xs:List V)(lo hi:Option Int):List V:=(xs.drop (HT.sIx xs.length 0 lo)).take (HT.sIx xs.length xs.length hi - HT.sIx xs.length 0 lo)
theorem jt(xs:List V)(lo hi:Option Int):(gH xs lo hi).length≤xs.length:=by
 unfold gH
 rw [List.length_take,List.length_drop]
 lia
inductive kh(K:PySem.W.Frag)(x:V)(y:V)(H:Hp)(Q:VK):Prop
 | mk (a b xs ys):(x=.ref a)→(y=.ref b)→(SqT K H a xs)→(SqT K H b ys)→(xs≠[])→(xs.length + ys.length≤sizeLine)→((ys=[]→Q (.ref a) H))→((ys≠[]→∀p,H p=none→Q (.ref p) (upd H p (.tup (xs++ys)))))→kh K x y H Q
noncomputable def Zd3(K:PySem.W.Frag):R2:=fun x y H Q=>kh K x y H Q
theorem Vals.nil_iff{xs:List V}{us:List Value}(r:Vals xs us):us=[]↔xs=[]:=by
 cases r with
 | nil=>simp
 | cons _ _=>simp
theorem YF:OpR X (binaryOp .Add) (Zd3 X.K):=by
 intro pins s σ H x y v u Q I rx ry h
 obtain ⟨a,b,xs,ys,rfl,rfl,ha,hb,hx,hz,q1,q2⟩:=h
 cases rx
 cases ry
 obtain ⟨its,r1,p1,_⟩:=I.tuple ha
 obtain ⟨its2,r2,p2,_⟩:=I.tuple hb
 refine HT.cat_tup p1 p2 (fun z=>hx (r1.nil_iff.mp z)) (fun z=>⟨.ref a,H,I,rfl,q1 (r2.nil_iff.mp z)⟩) (fun z=>?_) (by rw [←r1.length,←r2.length];exact hz)
 refine ⟨.ref s.heap.objs.size,_,I.laid (t':=s.toks) (o:=.tup (xs++ys)) (fun b ob q=>Heap.get?_push_of_some _ q) (Nat.le_refl _) ?_,rfl,q2 (fun w=>z (r2.nil_iff.mpr w)) _ (I.hok.fresh (Nat.le_refl _))⟩
 exact ⟨by rw [List.length_append];exact hz,_,r1.append r2,IsTup.new _ _⟩
end
end L2
namespace L2
open PySem PySem.Spec PyProof.Rows
noncomputable def ixN(n:Nat)(i:Int):Option Nat:=if 0≤i then (if i < n then some i.toNat else none) else if -(n:Int)≤i then some (i + n).toNat else none
noncomputable def atI{α:Type}(xs:List α)(i:Int):Option α:=(ixN xs.length i).bind fun j=>xs[j]?
theorem ki{n:Nat}{i:Int}{j:Nat}(h:ixN n i=some j):seqIndex? i n=some j∧j < n∧-(n:Int)≤i∧i < n:=by
 unfold ixN at h
 by_cases h0:0≤i
 ·rw [if_pos h0] at h
  by_cases h1:i < n
  ·rw [if_pos h1] at h
   have e:i.toNat=j:=Option.some.inj h
   exact ⟨by rw [seqIndex_of h0 h1,e],by lia,by lia,h1⟩
  ·rw [if_neg h1] at h;cases h
 ·rw [if_neg h0] at h
  by_cases h1:-(n:Int)≤i
  ·rw [if_pos h1] at h
   have e:(i + n).toNat=j:=Option.some.inj h
   exact ⟨by rw [seqIndex_neg (by lia) h1,e],by lia,h1,by lia⟩
  ·rw [if_neg h1] at h;cases h
theorem kj{α:Type}{xs:List α}{i:Int}{v:α}(h:atI xs i=some v):∃j,seqIndex? i xs.length=some j∧xs[j]?=some v∧j < xs.length∧-(xs.length:Int)≤i∧i < xs.length:=by
 unfold atI at h
 cases e:ixN xs.length i with
 | none=>rw [e] at h;cases h
 | some j =>
  rw [e] at h
  obtain ⟨h1,h2,h3,h4⟩:=ki e
  exact ⟨j,h1,h,h2,h3,h4⟩
theorem Yo{α:Type}{xs:List α}{j:Nat}{v:α}(h:xs[j]?=some v):atI xs (j:Int)=some v:=by
 have hj:j < xs.length:=(List.getElem?_eq_some_iff.mp h).1
 have e:ixN xs.length (j:Int)=some j:=by
  unfold ixN
  rw [if_pos (by lia),if_pos (by lia)];simp
 unfold atI;rw [e];exact h
theorem gI{α:Type}(xs:List α)(v:α):atI (xs++[v]) (-1)=some v:=by
 have hl:(xs++[v]).length=xs.length + 1:=by simp
 have e:ixN (xs++[v]).length (-1)=some xs.length:=by
  unfold ixN
  rw [hl,if_neg (by decide),if_pos (by lia)]
  congr 1
  lia
 unfold atI
 rw [e]
 show (xs++[v])[xs.length]?=some v
 simp
noncomputable def km(b:Expr):Prop:=∀o i,subscripted b false o i=operate [o,i] (getItem o i)
noncomputable def IxR(X:Cx)(r:R2):Prop :=
 ∀(value slice:Expr) (pins:List (Addr × Obj)) (s:Shared) (σ:St) (H:Hp) (x y:V) (v u:Value) (Q:VK),Inv X pins σ H s→RelV x v→RelV y u→r x y H Q →
  subscripted slice false v u=operate [v,u] (getItem v u)→wpAny (model X.prog X.w) X.A (subscriptTail value slice v u) (EP X pins σ Q) X.xe s
noncomputable def MtR(X:Cx)(id:String)(r:V→List V→Hp→VK→Prop):Prop :=
 ∀(pins:List (Addr × Obj)) (s:Shared) (σ:St) (H:Hp) (x:V) (xs:List V) (v:Value) (us:List Value) (Q:VK),Inv X pins σ H s→RelV x v→Vals xs us→r x xs H Q →
  wpAny (model X.prog X.w) X.A (call (.builtin id) (v::us)) (EP X pins σ Q) X.xe s
section
variable {X:Cx}{a b:Expr}{ta tb:TE}{pos:Pos}
theorem pe_ix{r:R2}(hr:IxR X r)(ha:PE X a ta)(hb:PE X b tb)(hs:km b):PE X (.Subscript a b pos) (tOp r ta tb):=by
 intro pins s σ H Q I h
 exact Subscript_ (binT ha hb I h fun v u s2 x y H2 I2 rx ry q=>hr a b pins s2 σ H2 x y v u Q I2 rx ry q (hs _ _))
inductive Zap(K:PySem.W.Frag)(x:V)(y:V)(H:Hp)(Q:VK):Prop
 | mk (p xs i v):(x=.ref p)→(y=.int i)→(SqL K H p xs)→(atI xs i=some v)→(Q v H)→Zap K x y H Q
noncomputable def rIxL(K:PySem.W.Frag):R2:=fun x y H Q=>Zap K x y H Q
inductive Zaq(x:V)(y:V)(H:Hp)(Q:VK):Prop
 | mk (z i c):(x=.str z)→(y=.int i)→(z.length≤sizeLine)→(atI z.cps.toList i=some c)→(Q (.str ⟨#[c]⟩) H)→Zaq x y H Q
noncomputable def rIxS  : R2:=fun x y H Q=>Zaq x y H Q
theorem Zp:IxR X (rIxL X.K):=by
 intro value slice pins s σ H x y v u Q I rx ry h hs
 obtain ⟨p,xs,i,z,rfl,rfl,hq,he,q⟩:=h
 cases rx
 obtain ⟨t,rfl⟩:=ry
 obtain ⟨its,r,pl,hz⟩:=I.list hq
 obtain ⟨j,h1,h2,h3,h4,h5⟩:=kj he
 obtain ⟨w,ew,rw'⟩:=r.get h2
 have hl:=r.length
 have hn:=GX
 have fin:EP X pins σ Q w s:=⟨z,H,I,rw',q⟩
 by_cases h0:0≤i
 ·have hj:i.toNat=j:=by
   rw [seqIndex_of h0 h5] at h1
   exact Option.some.inj h1
  exact item_listR pl.isList h0 (by lia) (by rw [hj];simpa using ew) fin hs
 ·have hj:(i + (its.toArray.size:Int)).toNat=j:=by
   rw [seqIndex_neg (by lia) h4] at h1
   rw [List.size_toArray,←hl]
   exact Option.some.inj h1
  exact subscriptTail_builtinR (x:=w) pl.isList.typeIs slot_list_getitem.lookup
   (wpAny_getItem_list_neg (Q:=fun r s'=>r=w∧EP X pins σ Q r s') pl.isList (by lia) (by rw [List.size_toArray] <;> lia) (by lia) (by rw [hj];simpa using ew) ⟨rfl,fin⟩) hs
theorem zv:IxR X rIxS:=by
 intro value slice pins s σ H x y v u Q I rx ry h hs
 obtain ⟨z,i,c,rfl,rfl,hz,he,q⟩:=h
 obtain ⟨t,rfl⟩:=rx
 obtain ⟨t',rfl⟩:=ry
 obtain ⟨j,h1,h2,h3,h4,h5⟩:=kj he
 have hl:z.cps.toList.length=z.length:=by simp [Str.length]
 rw [hl] at h1 h4 h5
 have hn:=GX
 exact tail_any (typeIs_str s z t) slot_str_getitem.lookup (getItem_str (c:=c) (by
  have e1:decide (i < -(2 ^ 63:Int))=false:=decide_eq_false (by lia)
  have e2:decide (i≥2 ^ 63)=false:=decide_eq_false (by lia)
  rw [e1,e2,Bool.or_false]) (by rw [h1];simpa using h2) ⟨.str ⟨#[c]⟩,H,I.tok _,⟨_,rfl⟩,q⟩) hs
theorem yL (its:List Value) (n j:Nat) (u:Value):Obj.mapSeq (·.setIfInBounds j u) { cls:=.type "list",data:=.seq its.toArray n }={ cls:=.type "list",data:=.seq (its.set j u).toArray n }:=by
 simp [Obj.mapSeq]
theorem Inv.lst{pins:List (Addr × Obj)}{σ:St}{H:Hp}{s:Shared}{p:Addr}{xs:List V}(I:Inv X pins σ H s)(h:H p=some (.lst xs)) :
  ∃(its:List Value) (n:Nat),Vals xs its∧s.heap.get? p=some { cls:=.type "list",data:=.seq its.toArray n }∧xs.length≤sizeLine:=by
 obtain ⟨z,its,n,r,e⟩:=I.hok p _ h
 exact ⟨its,n,r,e,z⟩
theorem Inv.lstUpd{pins:List (Addr × Obj)}{σ:St}{H:Hp}{s:Shared}{p:Addr}{xs ys:List V}{its its':List Value}{n n':Nat}{f:Obj→Obj}(I:Inv X pins σ H s)(h:H p=some (.lst xs))
  (ho:s.heap.get? p=some { cls:=.type "list",data:=.seq its.toArray n }) (hf:f { cls:=.type "list",data:=.seq its.toArray n }={ cls:=.type "list",data:=.seq its'.toArray n' }) (r:Vals ys its') (hz:ys.length≤sizeLine) (t:Nat) :
  Inv X pins σ (upd H p (.lst ys)) { s with heap:=s.heap.update p f,toks:=t }:=by
 have e:(s.heap.update p f).get? p=some { cls:=.type "list",data:=.seq its'.toArray n' }:=by
  rw [Heap.get?_update_self f ho (by rw [hf] <;> rfl),hf]
 refine I.write (x:=p) (e:=p) (by rw [h];trivial) (.inl rfl) (fun b u hb q=>(Heap.get?_update_other _ _ (Ne.symm hb)).trans q) ⟨_,e⟩ ?_
 exact ⟨hz,its',n',r,e⟩
inductive ko(o:V)(i:V)(v:V)(H:Hp)(Q:(Hp→Prop)):Prop
 | mk (p xs k j):(o=.ref p)→(i=.int k)→(H p=some (.lst xs))→(ixN xs.length k=some j)→(Q (upd H p (.lst (xs.set j v))))→ko o i v H Q
noncomputable def rSetL  : V→V→V→Hp→(Hp→Prop)→Prop:=fun o i v H Q=>ko o i v H Q
theorem set_list:PSet X rSetL:=by
 intro pins s σ H o i v ov iv u Q I ro ri rv h
 obtain ⟨p,xs,k,j,rfl,rfl,hp,hj,q⟩:=h
 cases ro
 obtain ⟨t,rfl⟩:=ri
 obtain ⟨its,n,r,ho,hz⟩:=I.lst hp
 obtain ⟨h1,h2,h3,h4⟩:=ki hj
 have hl:=r.length
 have hn:=GX
 have I':Inv X pins σ (upd H p (.lst (xs.set j v))) { s with heap:=s.heap.update p (Obj.mapSeq (·.setIfInBounds j u)) } :=
  I.lstUpd hp ho (yL its n j u) (r.set rv j) (by rw [List.length_set];exact hz) s.toks
 by_cases h0:0≤k
 ·have hk:k.toNat=j:=by
   rw [seqIndex_of h0 h4] at h1
   exact Option.some.inj h1
  exact PySem.W.ki_setAt ho h0 (by lia) (by rw [List.size_toArray,←hl];exact h4) (by rw [hk];exact ⟨_,I',q⟩)
 ·have hk:(k + (its.toArray.size:Int)).toNat=j:=by
   rw [seqIndex_neg (by lia) h3] at h1
   rw [List.size_toArray,←hl]
   exact Option.some.inj h1
  exact PySem.W.ki_setBack ho (by lia) (by rw [List.size_toArray,←hl];exact h3) (by lia) (by rw [hk];exact ⟨_,I',q⟩)
theorem zw(lo hi:Option Int)(n:Nat):(sliceBounds lo hi none n).1=((HT.sIx n 0 lo:Nat):Int)∧(sliceBounds lo hi none n).2.1=((HT.sIx n n hi:Nat):Int)∧(sliceBounds lo hi none n).2.2=1:=by
 refine ⟨?_,?_,rfl⟩
 ·cases lo with
  | none=>simp [sliceBounds,HT.sIx]
  | some i =>
   simp only [sliceBounds,HT.sIx,Option.getD_none,show (1:Int) > 0 by decide,if_true]
   by_cases h:i < 0
   ·simp only [h,if_true] <;> lia
   ·simp only [h,if_false] <;> lia
 ·cases hi with
  | none=>simp [sliceBounds,HT.sIx]
  | some i =>
   simp only [sliceBounds,HT.sIx,Option.getD_none,show (1:Int) > 0 by decide,if_true]
   by_cases h:i < 0
   ·simp only [h,if_true] <;> lia
   ·simp only [h,if_false] <;> lia
theorem xA(its:List Value)(lo hi:Option Int):slicePick its.toArray lo hi none=((its.drop (HT.sIx its.length 0 lo)).take (HT.sIx its.length its.length hi - HT.sIx its.length 0 lo)).toArray:=by
 obtain ⟨h1,h2,h3⟩:=zw lo hi its.toArray.size
 unfold slicePick
 rw [h1,h2,h3]
 simp only [sliceRange_one,pick_run,List.size_toArray] <;> rfl
inductive Zar(K:PySem.W.Frag)(x:V)(lo:Option Int)(hi:Option Int)(H:Hp)(Q:VK):Prop
 | mk (a xs):(x=.ref a)→(SqL K H a xs)→(∀p,H p=none→Q (.ref p) (upd H p (.lst (gH xs lo hi))))→Zar K x lo hi H Q
noncomputable def rSlL(K:PySem.W.Frag):V→Option Int→Option Int→Hp→VK→Prop:=fun x lo hi H Q=>Zar K x lo hi H Q
theorem Gn:SlR X (rSlL X.K):=by
 intro pins s σ H x v vl vu lo hi sl Q I rx hs pl pu h
 obtain ⟨a,xs,rfl,hx,q⟩:=h
 cases rx
 obtain ⟨its,r,ht,hz⟩:=I.list hx
 have hlen:=r.length
 refine ⟨"list",_,slot_list_getitem.lookup,ht.isList.typeIs,?_⟩
 refine wpAny_getItem_list_slice ht.isList hs pl pu .none (by simp) ?_ (by rw [List.size_toArray] <;> lia)
 rw [xA,←hlen]
 refine ⟨.ref s.heap.objs.size,_,I.laid (t':=s.toks) (o:=.lst (gH xs lo hi)) (fun b ob q=>Heap.get?_push_of_some _ q) (Nat.le_refl _) ?_,rfl,q _ (I.hok.fresh (Nat.le_refl _))⟩
 exact ⟨Nat.le_trans (jt xs lo hi) hz,_,0,(r.drop (HT.sIx xs.length 0 lo)).take (HT.sIx xs.length xs.length hi - HT.sIx xs.length 0 lo),Heap.get?_push_size _ rfl⟩
noncomputable def YC:V→Bool
 | .non=>true
 | .bl _=>true
 | .int _=>true
 | .str _=>true
 | _=>false
noncomputable def eqV:V→V→Bool
 | .non,.non=>true
 | .bl a,.bl b=>a == b
 | .bl a,.int b=>(if a then 1 else 0) == b
 | .int a,.bl b=>a == (if b then 1 else 0)
 | .int a,.int b=>a == b
 | .str a,.str b=>a == b
 | _,_=>false
theorem kq{A:Around}{s:Shared}{y x:V}{u v:Value}(ry:RelV y u)(rx:RelV x v)(fy:YC y=true)(fx:YC x=true):SeqAt.EqAt A s u v (eqV y x):=by
 cases y with
 | non =>
  cases ry
  cases x with
  | non=>cases rx;exact SeqAt.EqAt.same _
  | bl b=>cases rx;exact SeqAt.EqAt.none_bool b
  | int b=>obtain ⟨t,rfl⟩:=rx;exact SeqAt.EqAt.none_int b t
  | str b=>obtain ⟨t,rfl⟩:=rx;exact SeqAt.EqAt.none_str b t
  | _=>exact absurd (show false=true from fx) Bool.false_ne_true
 | bl a =>
  cases ry
  cases x with
  | non=>cases rx;exact SeqAt.EqAt.bool_none a
  | bl b=>cases rx;exact SeqAt.EqAt.bool_bool a b
  | int b=>obtain ⟨t,rfl⟩:=rx;exact SeqAt.EqAt.bool_int a b t
  | str b=>obtain ⟨t,rfl⟩:=rx;exact SeqAt.EqAt.bool_str a b t
  | _=>exact absurd (show false=true from fx) Bool.false_ne_true
 | int a =>
  obtain ⟨t',rfl⟩:=ry
  cases x with
  | non=>cases rx;exact SeqAt.EqAt.int_none a t'
  | bl b=>cases rx;exact SeqAt.EqAt.int_bool a t' b
  | int b=>obtain ⟨t,rfl⟩:=rx;exact SeqAt.EqAt.int_int a t' b t
  | str b=>obtain ⟨t,rfl⟩:=rx;exact SeqAt.EqAt.int_str a t' b t
  | _=>exact absurd (show false=true from fx) Bool.false_ne_true
 | str a =>
  obtain ⟨t',rfl⟩:=ry
  cases x with
  | non=>cases rx;exact SeqAt.EqAt.str_none a t'
  | bl b=>cases rx;exact SeqAt.EqAt.str_bool a t' b
  | int b=>obtain ⟨t,rfl⟩:=rx;exact SeqAt.EqAt.str_int a t' b t
  | str b=>obtain ⟨t,rfl⟩:=rx;exact SeqAt.EqAt.str_str a t' b t
  | _=>exact absurd (show false=true from fx) Bool.false_ne_true
 | _=>exact absurd (show false=true from fy) Bool.false_ne_true
noncomputable def eqU(x:V)(u:Value):Bool:=match u with
 | .none=>eqV .non x
 | .bool b=>eqV (.bl b) x
 | .int i _=>eqV (.int i) x
 | .str z _=>eqV (.str z) x
 | _=>false
theorem kr{x y:V}{u:Value}(r:RelV y u)(f:YC y=true):eqU x u=eqV y x:=by
 cases y with
 | non=>cases r;rfl
 | bl b=>cases r;rfl
 | int i=>obtain ⟨t,rfl⟩:=r;rfl
 | str z=>obtain ⟨t,rfl⟩:=r;rfl
 | _=>exact absurd (show false=true from f) Bool.false_ne_true
theorem GY{x:V}:∀{xs:List V} {us:List Value},Vals xs us→xs.all YC=true→us.any (eqU x)=xs.any fun y=>eqV y x
 | _,_,.nil,_=>rfl
 | y::xs,u::us,.cons r t,f=>by
  rw [List.all_cons,Bool.and_eq_true] at f
  rw [List.any_cons,List.any_cons,kr r f.1,GY t f.2]
theorem WU{A:Around}{s:Shared}{x:V}{v:Value}(rx:RelV x v)(fx:YC x=true):∀{xs:List V} {us:List Value},Vals xs us→xs.all YC=true→∀u∈us,SeqAt.EqAt A s u v (eqU x u)
 | _,_,.nil,_=>fun u hu=>by cases hu
 | y::xs,u::us,.cons r t,f=>fun u' hu=>by
  rw [List.all_cons,Bool.and_eq_true] at f
  rcases List.mem_cons.mp hu with rfl | hu
  ·rw [kr r f.1];exact kq r rx f.1 fx
  ·exact WU rx fx t f.2 u' hu
noncomputable def inV(x:V)(xs:List V):Bool:=xs.any fun y=>eqV y x
inductive Zd4(K:PySem.W.Frag)(neg:Bool)(x:V)(y:V)(H:Hp)(Q:VK):Prop
 | mk (p xs):(y=.ref p)→((SqL K H p xs∨SqT K H p xs))→(YC x=true)→(xs.all YC=true)→(Q (.bl (if neg then !inV x xs else inV x xs)) H)→Zd4 K neg x y H Q
noncomputable def rIn(K:PySem.W.Frag)(neg:Bool):R2:=fun x y H Q=>Zd4 K neg x y H Q
theorem Xw:OpR X (compareOp .In) (rIn X.K false):=by
 intro pins s σ H x y v u Q I rx ry h
 obtain ⟨p,xs,rfl,hq,fx,fs,q⟩:=h
 cases ry
 rcases hq with hq | hq
 ·obtain ⟨its,r,pl,hz⟩:=I.list hq
  refine SeqAt.in_listAt (eqU x) pl.isList (fun w hw=>WU rx fx r fs w (by simpa using hw)) ⟨.bl _,H,I,rfl,?_⟩
  rw [show its.toArray.any (eqU x)=its.any (eqU x) by simp,GY r fs]
  exact q
 ·obtain ⟨its,r,pl,hz⟩:=I.tuple hq
  refine SeqAt.in_tupleAt (eqU x) pl (fun w hw=>WU rx fx r fs w (by simpa using hw)) ⟨.bl _,H,I,rfl,?_⟩
  rw [show its.toArray.any (eqU x)=its.any (eqU x) by simp,GY r fs]
  exact q
theorem X6:OpR X (compareOp .NotIn) (rIn X.K true):=by
 intro pins s σ H x y v u Q I rx ry h
 obtain ⟨p,xs,rfl,hq,fx,fs,q⟩:=h
 cases ry
 rcases hq with hq | hq
 ·obtain ⟨its,r,pl,hz⟩:=I.list hq
  refine SeqAt.notIn_listAt (eqU x) pl.isList (fun w hw=>WU rx fx r fs w (by simpa using hw)) ⟨.bl _,H,I,rfl,?_⟩
  rw [show its.toArray.any (eqU x)=its.any (eqU x) by simp,GY r fs]
  exact q
 ·obtain ⟨its,r,pl,hz⟩:=I.tuple hq
  refine SeqAt.notIn_tupleAt (eqU x) pl (fun w hw=>WU rx fx r fs w (by simpa using hw)) ⟨.bl _,H,I,rfl,?_⟩
  rw [show its.toArray.any (eqU x)=its.any (eqU x) by simp,GY r fs]
  exact q
theorem ZG:XR X (.builtin "len") (fun xs H Q=>∃p ys,xs=[.ref p]∧(SqL X.K H p ys∨SqT X.K H p ys)∧Q (.int ys.length) H):=by
 intro pins s σ H xs us Q I r h
 obtain ⟨p,ys,rfl,hq,q⟩:=h
 obtain ⟨u,rfl,rx⟩:=vals1 r
 cases rx
 have hn:=GX
 rcases hq with hq | hq
 ·obtain ⟨its,r',pl,hz⟩:=I.list hq
  have hlen:=r'.length
  exact Calls.call_len_list pl.isList (by simp only [List.size_toArray] <;> lia) ⟨.int ys.length,H,I.tok _,⟨s.toks + 1,by rw [List.size_toArray,hlen]⟩,q⟩
 ·obtain ⟨its,r',pl,hz⟩:=I.tuple hq
  have hlen:=r'.length
  exact len_tuple pl (by simp only [List.size_toArray] <;> lia) ⟨.int ys.length,H,I.tok _,⟨s.toks + 1,by rw [List.size_toArray,hlen]⟩,q⟩
theorem WA:XR X (.builtin "len") (fun xs H Q=>∃z,xs=[.str z]∧z.length≤sizeLine∧Q (.int z.length) H):=by
 intro pins s σ H xs us Q I r h
 obtain ⟨z,rfl,hz,q⟩:=h
 obtain ⟨u,rfl,t,rfl⟩:=vals1 r
 have hn:=GX
 exact len_str (by lia) ⟨.int z.length,H,I.tok _,⟨_,rfl⟩,q⟩
theorem xB:XR X (.type "tuple") (fun xs H Q=>∃p ys,xs=[.ref p]∧((SqL X.K H p ys∧∀l,H l=none→Q (.ref l) (upd H l (.tup ys)))∨(SqT X.K H p ys∧Q (.ref p) H))):=by
 intro pins s σ H xs us Q I r h
 obtain ⟨p,ys,rfl,h⟩:=h
 obtain ⟨u,rfl,rx⟩:=vals1 r
 cases rx
 rcases h with ⟨hq,q⟩ | ⟨hq,q⟩
 ·obtain ⟨its,r',pl,hz⟩:=I.list hq
  have hlen:=r'.length
  refine call_tuple_list pl.isList (fun h' kp=>?_) (by simp only [List.size_toArray] <;> lia)
  have I1:Inv X pins σ H { s with heap:=h' }:=I.kept (t':=s.toks) kp
  have I2:Inv X pins σ (upd H h'.objs.size (.tup ys)) { s with heap:=h'.push { cls:=.type "tuple",data:=.seq its.toArray } } :=
   I1.laid (t':=s.toks) (fun b o e=>Heap.get?_push_of_some _ e) (Nat.le_refl _) (show Yg X.prog X.w _ _ _ (.tup ys) from ⟨hz,its,r',IsTup.new _ _⟩)
  exact ⟨.ref h'.objs.size,_,I2,rfl,q _ (I1.hok.fresh (Nat.le_refl _))⟩
 ·obtain ⟨its,r',pl,hz⟩:=I.tuple hq
  exact call_tuple_same pl ⟨.ref p,H,I,rfl,q⟩
noncomputable def tyV(K:PySem.W.Frag)(T:String)(x:V)(H:Hp):Prop:=match x with
 | .str _=>T = "str"
 | .int _=>T = "int"
 | .ref p=>(T = "list" ∧ ∃xs,SqL K H p xs)∨(T = "tuple" ∧ ∃o,K.lookup p=some o∧o.cls=.type "tuple" ∧ o.dict=none) ∨
   (T = "dict" ∧ ((∃kvs,H p=some (.dK kvs))∨∃kvs,H p=some (.dT kvs)))∨(T = "set" ∧ ∃S n,H p=some (.set S n))
 | _=>False
theorem Zas{pins:List (Addr × Obj)}{σ:St}{H:Hp}{s:Shared}{T:String}{x:V}{v:Value}(I:Inv X pins σ H s)(r:RelV x v)(ty:tyV X.K T x H) :
  s.TypeIs v T∧∀a,v=.ref a→∃ob,s.heap.get? a=some ob∧ob.dict=none:=by
 cases x with
 | str z =>
  obtain ⟨t,rfl⟩:=r
  cases (show T = "str" from ty)
  exact ⟨typeIs_str s z t,fun _ e=>nomatch e⟩
 | int i =>
  obtain ⟨t,rfl⟩:=r
  cases (show T = "int" from ty)
  exact ⟨typeIs_int s i t,fun _ e=>nomatch e⟩
 | ref p =>
  cases r
  rcases ty with ⟨rfl,xs,hq⟩ | ⟨rfl,o,hk,hc,hd⟩ | ⟨rfl,hk⟩ | ⟨rfl,S,n,hk⟩
  ·obtain ⟨its,_,pl,_⟩:=I.list hq
   refine ⟨pl.isList.typeIs,fun a e=>?_⟩
   cases e
   obtain ⟨o,n,e,c,hd,_⟩:=pl
   exact ⟨o,e,hd⟩
  ·refine ⟨⟨o,I.kIn p o hk,hc⟩,fun a e=>?_⟩
   cases e
   exact ⟨o,I.kIn _ o hk,hd⟩
  ·have z:∃o,s.heap.get? p=some o∧o.ExactDict:=by
    rcases hk with ⟨kvs,hk⟩ | ⟨kvs,hk⟩
    ·obtain ⟨_,_,_,_,o,_,_,e,ex,_⟩:=I.hok p _ hk
     exact ⟨o,e,ex⟩
    ·obtain ⟨_,_,_,_,o,_,_,e,ex,_⟩:=I.hok p _ hk
     exact ⟨o,e,ex⟩
   obtain ⟨o,e,ex⟩:=z
   refine ⟨⟨o,e,ex.1⟩,fun a e2=>?_⟩
   cases e2
   exact ⟨o,e,ex.2.1⟩
  ·obtain ⟨o,_,_,_,e,ex,_⟩:=I.hok p _ hk
   refine ⟨⟨o,e,ex.1⟩,fun a e2=>?_⟩
   cases e2
   exact ⟨o,e,ex.2.1⟩
 | _=>exact False.elim ty
inductive Zat(K:PySem.W.Frag)(T:String)(r:V→List V→Hp→VK→Prop)(Q:VK)(x:V)(H1:Hp):Prop
 | mk  : (tyV K T x H1)→(r x [] H1 Q)→Zat K T r Q x H1
noncomputable def Zex(K:PySem.W.Frag)(T:String)(r:V→List V→Hp→VK→Prop)(to:TE):TE:=fun σ H Q=>to σ H fun x H1=>Zat K T r Q x H1
inductive Zd5(K:PySem.W.Frag)(T:String)(r:V→List V→Hp→VK→Prop)(t:TA)(σ:St)(Q:VK)(x:V)(H1:Hp):Prop
 | mk  : (tyV K T x H1)→(t σ H1 fun xs H2=>r x xs H2 Q)→Zd5 K T r t σ Q x H1
noncomputable def tBM(K:PySem.W.Frag)(T:String)(r:V→List V→Hp→VK→Prop)(to:TE)(t:TA):TE:=fun σ H Q=>to σ H fun x H1=>Zd5 K T r t σ Q x H1
variable {o e:Expr}{es:List Expr}{to:TE}{t:TA}{name:Str}{apos cpos:Pos}{T id:String}{r:V→List V→Hp→VK→Prop}
theorem pe_bm0 (pa:PlainAttrs T) (slot:Slot T name id) (hty:typeOf (.builtin id)=pure (.type "method_descriptor")) (hm:MtR X id r) (ho:PE X o to)
  (hbase:attributeBase o name X.env (eval o X.env)=eval o X.env:=by rfl) (hline:(apos.endLine == cpos.line)=true:=by rfl):PE X (.Call (.Attribute o name apos) [] [] cpos) (Zex X.K T r to):=by
 intro pins s σ H Q I h
 refine wpAny_Call_method0_late hbase hline (thn (ho pins s σ H _ I h) fun v s1 ⟨x,H1,I1,r1,ty,q1⟩=>?_)
 obtain ⟨h1,h2⟩:=Zas I1 r1 ty
 exact ⟨T,id,pa,slot,hty,h1,h2,Calls.callWith_builtin rfl (PySem.evalArgs_none (hm pins s1 σ H1 x [] v [] Q I1 r1 .nil q1))⟩
theorem pe_bm (pa:PlainAttrs T) (slot:Slot T name id) (hty:typeOf (.builtin id)=pure (.type "method_descriptor")) (hm:MtR X id r) (ho:PE X o to) (ha:PA X (e::es) t)
  (hbase:attributeBase o name X.env (eval o X.env)=eval o X.env:=by rfl)
  (hfew:((backTo cpos (starEach (e::es) X.env)).all (fun x=>!x.1) && (backToKw cpos (keywordEach [] X.env)).all (fun x=>x.1.isSome)
   && decide ((e::es).length + ([]:List Keyword).length + (if ([]:List Keyword).isEmpty then 0 else 1) < 30))=true:=by rfl)
  (hline:(apos.endLine == cpos.line)=true:=by rfl) (hs:starEach (e::es) X.env=(false,eval e X.env)::starEach es X.env:=by rfl) (hplain:(backTo cpos (starEach es X.env)).any (·.1)=false:=by rfl) :
  PE X (.Call (.Attribute o name apos) (e::es) [] cpos) (tBM X.K T r to t):=by
 intro pins s σ H Q I h
 refine wpAny_Call_method_late hbase hfew hline rfl (thn (ho pins s σ H _ I h) fun v s1 ⟨x,H1,I1,r1,ty,q1⟩=>?_)
 obtain ⟨h1,h2⟩:=Zas I1 r1 ty
 refine ⟨T,id,pa,slot,hty,h1,h2,?_⟩
 have hA:=ha cpos pins s1 σ H1 _ I1 q1
 rw [hs] at hA ⊢
 refine Calls.callWith_builtin (by show (false || (backTo cpos (starEach es X.env)).any (·.1))=false;rw [hplain] <;> rfl) (Calls.evalArgs_plain ?_)
 exact thn hA fun us s2 ⟨vs,H2,I2,r2,q2⟩=>hm pins s2 σ H2 x vs v us Q I2 r1 r2 q2
/- xs.append(e), list.index on a module's tuple .. are MtR facts of 06m -/
end
end L2
namespace L2
open PySem PySem.Spec PyProof.Rows
noncomputable def MtM(X:Cx)(id:String)(r:V→List V→Hp→VK→Prop):Prop :=
 ∀(pins:List (Addr × Obj)) (s:Shared) (σ:St) (H:Hp) (x:V) (xs:List V) (v:Value) (us:List Value) (Q:VK),Inv X pins σ H s→RelV x v→Vals xs us→r x xs H Q →
  wpAny (model X.prog X.w) X.A (call (.builtin id) (v::us)) (EP X pins σ Q) X.xe s
theorem Vals.one:∀{x:V} {us:List Value},Vals [x] us→∃u,us=[u]∧RelV x u
 | _,_,.cons r .nil=>⟨_,rfl,r⟩
theorem Vals.zero:∀{us:List Value},Vals [] us→us=[]
 | _,.nil=>rfl
theorem Vals.dropLast{xs:List V}{us:List Value}(h:Vals xs us):Vals xs.dropLast us.dropLast:=by
 induction h with
 | nil=>exact .nil
 | cons r t ih =>
  cases t with
  | nil=>exact .nil
  | cons q t'=>exact .cons r ih
theorem Vals.reverse{xs:List V}{us:List Value}(h:Vals xs us):Vals xs.reverse us.reverse:=by
 induction h with
 | nil=>exact .nil
 | cons r t ih=>rw [List.reverse_cons,List.reverse_cons];exact Vals.append ih (.cons r .nil)
theorem Vals.rep{xs:List V}{us:List Value}(h:Vals xs us):∀k:Nat,Vals (List.replicate k xs).flatten (List.replicate k us).flatten
 | 0=>.nil
 | k + 1=>by
  rw [List.replicate_succ,List.replicate_succ,List.flatten_cons,List.flatten_cons]
  exact Vals.append h (Vals.rep h k)
theorem yM{α:Type}(l:List α):l.eraseIdx (l.length - 1)=l.dropLast:=by
 induction l with
 | nil=>rfl
 | cons a r ih =>
  cases r with
  | nil=>rfl
  | cons b r =>
   have e:(a::b::r).length - 1=((b::r).length - 1) + 1:=by
    have h1:(a::b::r).length=r.length + 2:=rfl
    have h2:(b::r).length=r.length + 1:=rfl
    lia
   rw [e,List.eraseIdx_cons_succ,ih]
   all_goals rfl
theorem foldl_rep(its:List Value):∀(k:Nat) (acc:List Value),
  List.foldl (fun x1 x2=>x1++x2) acc.toArray (List.replicate k its.toArray)=(acc++(List.replicate k its).flatten).toArray
 | 0,acc=>by simp
 | k + 1,acc=>by
  have e:acc.toArray++its.toArray=(acc++its).toArray:=by simp
  have e2:(acc++its)++(List.replicate k its).flatten=acc++(List.replicate (k + 1) its).flatten:=by
   rw [List.replicate_succ,List.flatten_cons,List.append_assoc]
  rw [←e2,←foldl_rep its k (acc++its),←e,List.replicate_succ,List.foldl_cons]
section
variable {X:Cx}{pins:List (Addr × Obj)}{σ:St}{H:Hp}{s:Shared}{l b:Addr}{xs ys zs:List V}
theorem Inv.lset{its its':List Value}{n:Nat}{f:Array Value→Array Value}{t':Nat}(I:Inv X pins σ H s)(hH:H l=some (.lst xs))
  (e:s.heap.get? l=some { cls:=.type "list",data:=.seq its.toArray n }) (hf:f its.toArray=its'.toArray) (hv:Vals ys its') (hz:ys.length≤sizeLine) :
  Inv X pins σ (upd H l (.lst ys)) { s with heap:=s.heap.update l (Obj.mapSeq f),toks:=t' }:=by
 have q:=PySem.IsL.update e f
 rw [hf] at q
 refine I.write (x:=l) (e:=l) (by rw [hH];exact trivial) (.inl rfl) (fun b' u hb hu=>(Heap.get?_update_other s.heap (Obj.mapSeq f) (Ne.symm hb)).trans hu) ⟨_,q⟩ ?_
 exact ⟨hz,its',_,hv,q⟩
theorem Inv.lnew{its:List Value}{t':Nat}(I:Inv X pins σ H s)(hv:Vals ys its)(hz:ys.length≤sizeLine) :
  Inv X pins σ (upd H s.heap.objs.size (.lst ys)) { s with heap:=s.heap.push { cls:=.type "list",data:=.seq its.toArray },toks:=t' } :=
 I.laid (fun _ _ q=>Heap.get?_push_of_some _ q) (Nat.le_refl _) ⟨hz,its,0,hv,Heap.get?_push_size _ rfl⟩
theorem Inv.fresh(I:Inv X pins σ H s):H s.heap.objs.size=none:=I.hok.fresh (Nat.le_refl _)
theorem Inv.lstM (I:Inv X pins σ H s) (hH:H l=some (.lst xs)):xs.length≤sizeLine∧∃(its:List Value) (n:Nat),Vals xs its∧xs.length=its.length∧s.heap.get? l=some { cls:=.type "list",data:=.seq its.toArray n }:=by
 obtain ⟨z,its,n,r,e⟩:=I.hok l _ hH
 exact ⟨z,its,n,r,r.length,e⟩
theorem gJ{n:Nat}(h:n≤sizeLine):Builtin.List.listTooLong n=false:=by
 unfold Builtin.List.listTooLong
 exact decide_eq_false (by lia)
end
section
variable {X:Cx}
inductive zx(x:V)(vs:List V)(H:Hp)(Q:VK):Prop
 | mk (l xs y):(x=.ref l)→(vs=[y])→(H l=some (.lst xs))→(xs.length < sizeLine)→(Q .non (upd H l (.lst (xs++[y]))))→zx x vs H Q
noncomputable def Zb6  : V→List V→Hp→VK→Prop:=fun x vs H Q=>zx x vs H Q
theorem YX:MtM X "list.append" Zb6:=by
 intro pins s σ H x vs v us Q I rx rv h
 obtain ⟨l,xs,y,rfl,rfl,hH,hz,q⟩:=h
 cases rx
 obtain ⟨u,rfl,ru⟩:=rv.one
 obtain ⟨z,its,n,r,hl,e⟩:=I.lstM hH
 refine call_meets F.slot_list_append ⟨_,e,rfl⟩ F.entry_list_append (F.args_list_append_2 _ _) (PySem.list_append l its.toArray n u (by rw [List.size_toArray];lia)) ⟨e,?_⟩
 refine ⟨.non,_,I.lset (its':=its++[u]) hH e (by simp) (r.append (.cons ru .nil)) ?_,rfl,q⟩
 rw [List.length_append,List.length_singleton]
 lia
inductive Zau(x:V)(vs:List V)(H:Hp)(Q:VK):Prop
 | mk (l xs y):(x=.ref l)→(vs=[])→(H l=some (.lst xs))→(xs[xs.length - 1]?=some y)→(Q y (upd H l (.lst xs.dropLast)))→Zau x vs H Q
noncomputable def rPop  : V→List V→Hp→VK→Prop:=fun x vs H Q=>Zau x vs H Q
theorem zy:MtM X "list.pop" rPop:=by
 intro pins s σ H x vs v us Q I rx rv h
 obtain ⟨l,xs,y,rfl,rfl,hH,hy,q⟩:=h
 cases rx
 have hus:=rv.zero
 subst hus
 obtain ⟨z,its,n,r,hl,e⟩:=I.lstM hH
 obtain ⟨u,hu,ru⟩:=r.get hy
 have hy':its.toArray[its.toArray.size - 1]?=some u:=by
  show its.toArray[its.length - 1]?=some u
  rw [←Array.getElem?_toList,←hl]
  exact hu
 refine call_meets F.slot_list_pop ⟨_,e,rfl⟩ F.entry_list_pop (F.args_list_pop_1 _) (MeetsSeq.list_pop_last l its.toArray n u hy' (by rw [List.size_toArray];lia)) ⟨e,?_⟩
 refine ⟨y,_,I.lset (its':=its.dropLast) hH e ?_ r.dropLast ?_,ru,q⟩
 ·show its.toArray.eraseIdxIfInBounds (its.toArray.size - 1)=its.dropLast.toArray
  rw [List.size_toArray,List.eraseIdxIfInBounds_toArray,yM]
 ·rw [List.length_dropLast]
  lia
inductive Zav(x:V)(y:V)(H:Hp)(Q:VK):Prop
 | mk (l b xs zs):(x=.ref l)→(y=.ref b)→(H l=some (.lst xs))→(H b=some (.lst zs))→(xs.length + zs.length≤sizeLine)→(∀p,H p=none→Q (.ref p) (upd H p (.lst (xs++zs))))→Zav x y H Q
noncomputable def rCat  : R2:=fun x y H Q=>Zav x y H Q
theorem xg:OpR X (binaryOp .Add) rCat:=by
 intro pins s σ H x y v u Q I rx ry h
 obtain ⟨l,b,xs,zs,rfl,rfl,hH,hB,hz,q⟩:=h
 cases rx
 cases ry
 obtain ⟨z,its,n,r,hl,e⟩:=I.lstM hH
 obtain ⟨z2,its2,n2,r2,hl2,e2⟩:=I.lstM hB
 refine PySem.P.add_list e e2 ?_ (by rw [List.size_toArray,List.size_toArray];lia)
 have ea:its.toArray++its2.toArray=(its++its2).toArray:=by simp
 rw [ea]
 exact ⟨.ref _,_,I.lnew (t':=s.toks) (r.append r2) (by rw [List.length_append];lia),rfl,q _ I.fresh⟩
inductive Zaw(x:V)(y:V)(H:Hp)(Q:VK):Prop
 | mk (l k xs):(x=.ref l)→(y=.int k)→(H l=some (.lst xs))→(-(2 ^ 63)≤k)→(k < 2 ^ 63)→(xs.length * k.toNat≤sizeLine)→(∀p,H p=none→Q (.ref p) (upd H p (.lst (List.replicate k.toNat xs).flatten)))→Zaw x y H Q
noncomputable def rRep  : R2:=fun x y H Q=>Zaw x y H Q
theorem len_rep{α:Type}(xs:List α)(k:Nat):(List.replicate k xs).flatten.length=k * xs.length:=by
 induction k with
 | zero=>simp
 | succ k ih=>rw [List.replicate_succ,List.flatten_cons,List.length_append,ih,Nat.succ_mul,Nat.add_comm]
theorem Zax:OpR X (binaryOp .Mult) rRep:=by
 intro pins s σ H x y v u Q I rx ry h
 obtain ⟨l,k,xs,rfl,rfl,hH,h1,h2,hz,q⟩:=h
 cases rx
 obtain ⟨t,rfl⟩:=ry
 obtain ⟨z,its,n,r,hl,e⟩:=I.lstM hH
 have hlen:its.toArray.size * k.toNat≤sizeLine:=by rw [List.size_toArray,←hl];exact hz
 have hcap:¬its.toArray.size * k.toNat > (2 ^ 63 - 1) / 8:=by
  have:(sizeLine:Nat)≤(2 ^ 63 - 1) / 8:=by decide
  lia
 have hfit:¬(!Builtin.List.listFitsIndex k)=true:=by
  rw [fitsIndex_both h1 h2]
  exact Bool.false_ne_true
 have hlong:¬Builtin.List.listTooLong (its.toArray.size * k.toNat)=true:=by
  rw [gJ hlen]
  exact Bool.false_ne_true
 have hnew:List.foldl (fun x1 x2=>x1++x2) #[] (List.replicate (if its.toArray.isEmpty=true then 0 else k.toNat) its.toArray)=(List.replicate k.toNat its).flatten.toArray:=by
  have f0:∀m:Nat,List.foldl (fun x1 x2=>x1++x2) #[] (List.replicate m its.toArray)=(List.replicate m its).flatten.toArray:=fun m=>by
   have:=foldl_rep its m []
   rw [List.nil_append] at this
   exact this
  rw [f0]
  cases its with
  | nil=>simp
  | cons a r'=>rw [if_neg (by simp)]
 refine wpAny_binaryOp_repeat_ref (T := "list") (U := "int") (by decide) ⟨_,e,rfl⟩ (fun s'=>typeIs_int s' k t) noFill_list_mul F.fills_int_mul F.slot_int_rmul repeat_list F.slot_int_index.lookup
  (call_meets F.slot_int_rmul (typeIs_int s k t) F.entry_int_rmul (F.args_int_rmul_2 _ _) (int___rmul___int_list k t l its.toArray n)
   ⟨e,rfl,⟨_,e,rfl⟩,call_meets F.slot_list_mul ⟨_,e,rfl⟩ F.entry_list_mul (F.args_list_mul_2 _ _) (AutoListH.list___mul___list_int_3 l its.toArray n k t hfit hcap hlong) ⟨e,?_⟩⟩)
 rw [hnew]
 exact ⟨.ref _,_,I.lnew (t':=s.toks) (r.rep k.toNat) (by rw [len_rep,Nat.mul_comm];exact hz),rfl,q _ I.fresh⟩
end
section
variable {prog:Program}{w:World}{A:Around}{E:Value→Shared→Prop}{s:Shared}
end
section
variable {X:Cx}
end
end L2
namespace Att
open PySem PySem.W PySem.Calls PyProof.Rows
theorem GZ{P:Params}{h:Heap}:∀(ns:List Int) (vs:List Value),WellAll P h vs (ns.map WData.int)→IntsAre vs ns:=by
 intro ns
 induction ns with
 | nil =>
  intro vs w
  rw [List.map_nil] at w
  cases w
  exact .nil
 | cons n ns ih =>
  intro vs w
  rw [List.map_cons] at w
  cases w with
  | cons a b =>
   cases a
   exact .cons _ _ (ih _ b)
theorem ku{l:OpenLaw}{n:Nat}(hn:l.most=some n){P:Params}{h:Heap}{args:List WData}{vals:List Value}
  (hpre:l.row.toRowW.claim.pre args=true) (hwl:WellAll P h vals args) :
  ∃a vs ns,vals=[Value.ref a]∧args=[WData.list (ns.map WData.int)]∧h.get? a=some { cls:=.type "list",data:=.seq vs.toArray }∧IntsAre vs ns∧ns.length≤n:=by
 have hsh:WShape.hasAll [] args [.list .int]=true:=(pre_splitW hpre).1
 have hc:l.pre.holds [] { args:=args }=true:=(pre_splitW hpre).2
 obtain ⟨d,r,rfl,h1,h2⟩:=hasAllW_cons hsh
 obtain rfl:=hasAllW_nil h2
 obtain ⟨xs,rfl,h3⟩:=hasW_list h1
 obtain ⟨ns,rfl⟩:=items_int h3
 have hlen:ns.length≤n:=by
  unfold OpenLaw.pre at hc
  have h4:(WTm.not (.lt (.lit (.int (n:Int))) (.len (.arg 0)))).holds [] { args:=[.list (ns.map .int)] }=true:=by
   have h4:=(holds_andW hc).1
   rw [hn] at h4
   exact h4
  have h5:=condW_of h4 (w_not (w_lt w_lit (w_len_list (w_arg rfl))))
  rw [List.length_map] at h5
  refine Nat.le_of_not_lt fun q=>?_
  have q':(n:Int) < ((ns.length:Nat):Int):=by lia
  first
   | (rw [decide_eq_true q'] at h5;exact absurd h5 (by decide))
   | (simp at h5;lia)
 cases hwl with
 | cons w1 w2 =>
  cases w2
  cases w1 with
  | list ho hall=>exact ⟨_,_,ns,rfl,rfl,ho,GZ ns _ hall,hlen⟩
theorem kx(l:OpenLaw)(args:List WData):l.row.toRowW.claim.post args (.bool true) args=true :=
 postW_of (r:=l.row.toRowW) (X:=(true == true))
  (show WShape.has [] (.bool true) .bool=true by first | rfl | decide | simp [WShape.has,WShape.arms,WShape.armsAll])
  (show (WTm.eq .res (.lit (.bool true))).value [] { args:=args,res:=some (.bool true),after:=args }=some (.bool (true == true)) from w_eq_bool (w_res rfl) w_lit) rfl
theorem attach_call{l:OpenLaw}{n:Nat}{q:Program}{loose:List Str}{XP:(Str→Option Value)→Heap→Prop}{YP:World→Heap→Prop}{d:DefRec}
  (hn:l.most=some n) (hdf:d.params.defaults=[])
  (call:∀(w:World) (s₀ s₁:Shared) (mg mb:Str→Option Value) (fa:Addr) (o:Obj) (pm cd doc:Value) (a:Addr) (vs:List Value) (ns:List Int),
   Ground q loose [] XP w s₀ mg mb s₁.heap→YP w s₁.heap →
   s₁.heap.get? fa=some o→o.data=.func (docDef d.name d.params d.body d.scope pm cd doc)→s₁.heap.CodeRec cd d.name→mg d.name=some (.ref fa) →
   s₁.heap.get? a=some { cls:=.type "list",data:=.seq vs.toArray }→IntsAre vs ns→ns.length≤n→s₁.gens=#[] →
   codeAny (model l.prog w) callerA (.call (.ref fa) ⟨[.ref a],[]⟩) (fun r s'=>r=.ok (.ret (.bool true))∧OldK s₁.heap s'.heap∧s'.os=s₁.os∧AllBare s'.gens) s₁) :
  WalkO q loose XP YP l.row.toRowW d [] (fun f vs=>PySem.call f vs):=by
 intro w s₀ s₁ mg mb G Y fa o pm cd doc dV kV ho hd hcd hD hmg hg args vals as hpre hlay hrd hwl hlo
 obtain rfl:dV=.none:=Dflts.none hD hdf
 obtain rfl:kV=.none:=Dflts.noKw hD
 obtain ⟨a,vs,ns,rfl,rfl,hobj,hints,hlen⟩:=ku hn hpre hwl
 refine enter_call (codeAny_mono (call w s₀ s₁ mg mb fa o pm cd doc a vs ns G Y ho (fd_plain hd) hcd hmg hobj hints hlen hg) fun r s' hq=>?_)
 obtain ⟨rfl,h2,h3,h4⟩:=hq
 exact ⟨.inl ⟨.bool true,.bool true,[],rfl,fun _=>rfl,.bool true,kx l _,fun _=>⟨List.Pairwise.nil,fun _ hm=>(nomatch hm)⟩⟩,h2,h3,h4⟩
section
variable {prog:Program}{w:World}{A:Around}{E:Value→Shared→Prop}{s:Shared}{K:Frag}
end
end Att
namespace L2
open PySem PySem.Spec PyProof.Rows
theorem z6:∀{vs:List Value} {ns:List Int},IntsAre vs ns→Vals (ns.map V.int) vs
 | _,_,.nil=>.nil
 | _,_,.cons n t h=>.cons ⟨t,rfl⟩ (z6 h)
noncomputable def Zx(s:Stmt):Arguments:=match s with
 | .FunctionDef _ a _ _ _ _ _ _ _ _=>a
 | _=>{ posonlyargs:=[],args:=[],vararg:=none,kwonlyargs:=[],kw_defaults:=[],kwarg:=none,defaults:=[] }
noncomputable def Zu(s:Stmt):List Stmt:=match s with
 | .FunctionDef _ _ b _ _ _ _ _ _ _=>b
 | _=>[]
noncomputable def Zf(s:Stmt):Scope:=match s with
 | .FunctionDef _ _ _ _ _ _ sc _ _ _=>sc
 | _=>{ kind:=.function,names:=[],isGenerator:=false,isCoroutine:=false }
noncomputable abbrev CX0:CXT:=fun _ _ _ _ _ _=>False
noncomputable abbrev E0:XK:=fun _ _ _=>False
theorem Zy{X:Cx}:Passes CX0 X E0:=fun _ _ _ _ _ _ _ h=>h.elim
structure Fun(K:PySem.W.Frag)(x qual:Str)(st:Stmt)(f:Addr)(fd:FuncData):Prop where
 ex:∃(oc:Value) (od:Option Addr) (kV doc pm:Value) (an:Option Addr) (cdv ct:Value) (osl:Array (Option Value)),
  fd=PySem.W.fnOf x qual (Zx st) (Zu st) (Zf st) .none kV doc pm an cdv ct∧K.lookup f=some ⟨oc,od,.func fd,osl⟩∧PySem.W.codeIn K cdv qual=true
 kp:PySem.W.keepIn K (.ref f)=true
section
variable {P:Program}{w:World}{K:PySem.W.Frag}{mg:Str→Option Value}{base:Heap}
theorem Fun.ok{x qual:Str}{st:Stmt}{f:Addr}{fd:FuncData}{N ps:List Str}{k:Nat}{sp:Sp}(F:Fun K x qual st f fd)(S:Zw N ps (Zf st))(len:∀vs H Q E,sp vs H Q E→vs.length=ps.length)
  (hbody:∀(cdv:Value) (A:Around) (outer:List Env) (s:Shared) (H:Hp) (vs:List V) (Q:VK) (E:XK),Wi k (A.deeper (envOfC qual (Zf st) s.heap.objs.size f cdv))→sp vs H Q E →
   ∃t,PSs (vY CX0 P w K mg base N qual (Zf st) f cdv A outer s H E).nox (Zu st) t∧t { nx:=fun _ H'=>Q .non H',rt:=Q } (start N vs) H):Z7 P w K mg base CX0 (k + 1) f fd ps sp:=by
 obtain ⟨oc,od,kV,doc,pm,an,cdv,ct,osl,rfl,lk,hcd⟩:=F.ex
 refine Zb3 lk hcd S len fun A outer s H vs Q E hr hsp=>?_
 obtain ⟨t,h,q⟩:=hbody cdv A outer s H vs Q E hr hsp
 exact ⟨t,h.nox,q⟩
theorem Fun.binds{x qual:Str}{st:Stmt}{f:Addr}{fd:FuncData}{ps:List Str}(F:Fun K x qual st f fd)
  (h:∀(kV doc pm:Value) (an:Option Addr) (cdv ct:Value) (us:List Value),us.length=ps.length→bindArgs (PySem.W.fnOf x qual (Zx st) (Zu st) (Zf st) .none kV doc pm an cdv ct) ⟨us,[]⟩=pure (ps.zip us)):Binds K fd ps []:=by
 obtain ⟨oc,od,kV,doc,pm,an,cdv,ct,osl,rfl,lk,hcd⟩:=F.ex
 exact .all (h kV doc pm an cdv ct)
theorem Z3{x qual:Str}{st:Stmt}{f:Addr}{oc:Value}{od an:Option Addr}{osl:Array (Option Value)}{kV doc pm cdv ct:Value}(l:K.lookup f=some ⟨oc,od,.func (PySem.W.fnOf x qual (Zx st) (Zu st) (Zf st) .none kV doc pm an cdv ct),osl⟩)
  (c:PySem.W.codeIn K cdv qual=true) (k:PySem.W.keepIn K (.ref f)=true):Fun K x qual st f (PySem.W.fnOf x qual (Zx st) (Zu st) (Zf st) .none kV doc pm an cdv ct):=⟨⟨oc,od,kV,doc,pm,an,cdv,ct,osl,rfl,l,c⟩,k⟩
end
theorem ZR{A:Around}{k:Nat}(hr:Wi k A):A.units + 1 < cLine:=Nat.lt_of_le_of_lt (Nat.add_le_add_left (by decide:1≤64) _) hr.units
theorem Zt{n:Nat}(h:n≤1000):n < sizeLine:=Nat.lt_of_le_of_lt h (by decide)
section
variable {X:Cx}
theorem pv (i:Nat) {x:Str} {pos:Pos} (hN:X.N[i]?=some x:=by rfl) (hv:Vis X.env.scope x:=by first | exact Or.inl rfl | exact Or.inr (Or.inl rfl) | exact Or.inr (Or.inr rfl)) (hd:(x == ("__debug__" : Str))=false:=by decide)
  (hcd:(x == ("__classdict__" : Str))=false:=by decide):PE X (.Name x pos) (Zdk i):=Zae hN hv hd hcd
end
theorem Yh{A B:Prop}(h:B):if false=true then A else B:=by
 rw [if_neg Bool.false_ne_true]
 exact h
theorem YB{A B:Prop}(h:A):if true=true then A else B:=by
 rw [if_pos rfl]
 exact h
theorem yc{c A B:Prop}[Decidable c](h1:c→A)(h2:¬c→B):if c then A else B:=by
 by_cases h:c
 ·rw [if_pos h]
  exact h1 h
 ·rw [if_neg h]
  exact h2 h
noncomputable def ZU(H H':Hp):Prop:=∀b o,H b=some o→H' b=some o
theorem ZU.refl(H:Hp):ZU H H:=fun _ _ h=>h
theorem ZU.trans{H H1 H2:Hp}(a:ZU H H1)(b:ZU H1 H2):ZU H H2:=fun c o h=>b c o (a c o h)
theorem ZU.free{H H':Hp}(e:ZU H H'){l:Addr}(h:H' l=Option.none):H l=Option.none:=by
 cases q:H l with
 | none=>rfl
 | some o =>
  rw [e l o q] at h
  cases h
theorem ZU.seq{K:PySem.W.Frag}{H H':Hp}{a:Addr}{xs:List V}(e:ZU H H')(h:SqL K H a xs):SqL K H' a xs:=by
 rcases h with (h | ⟨o,h⟩) | h
 ·exact .inl (.inl (e _ _ h))
 ·exact .inl (.inr ⟨o,e _ _ h⟩)
 ·exact .inr h
section
variable {X:Cx}
noncomputable def Zb7(i j:Int):Prop:=0 < j∧j.natAbs.log2 < 9000
theorem GH:OpR X (binaryOp .FloorDiv) (rI Zb7 fun i j=>.int (i / j)):=opI fun i j _ _ _ _ _ hc q=>by
 have h1:(0:Int) < j:=hc.1
 exact floordiv_int (by lia) (by rw [Int.fdiv_eq_ediv_of_nonneg i (by lia)];exact q) (.inl (PyProof.noPylong_of_log2 hc.2))
theorem Zb7.of{i j:Int}(h1:0 < j)(h2:j < 2 ^ 250):Zb7 i j:=by
 refine ⟨h1,?_⟩
 have h3:j.natAbs < 2 ^ 250:=by lia
 have h4:j.natAbs≠0:=by lia
 have:=(Nat.log2_lt h4).mpr h3
 lia
noncomputable def Zb8(i j:Int):Prop:=(i.natAbs < 2 ^ 250∧j.natAbs < 2 ^ 250)∨CMul i j
theorem Zb8.ok{i j:Int}(h:Zb8 i j):IntMulOk i j:=by
 rcases h with ⟨h1,h2⟩ | h
 ·refine IntMulOk.of_bits (Nat.le_trans (PyProof.Rows.intBits_le h1) (by decide)) (Nat.le_trans (PyProof.Rows.intBits_le h2) (by decide))
 ·exact h.ok
theorem Xb:OpR X (binaryOp .Mult) (rI Zb8 fun i j=>.int (i * j)):=opI fun _ _ _ _ _ _ _ hc q=>mul_int q hc.ok
theorem kz (hc:X.calm=true):XR X (.builtin "sum") (fun xs H Q=>∃(p:Addr) (ns:List Int),xs=[.ref p]∧SqL X.K H p (ns.map V.int)∧Q (.int ns.sum) H):=by
 intro pins s σ H xs us Q I r h
 obtain ⟨p,ns,rfl,hq,q⟩:=h
 obtain ⟨u,rfl,rx⟩:=vals1 r
 cases rx
 obtain ⟨its,r',pl,hz⟩:=I.list hq
 have hi:IntsAre its ns:=intsAre_of r'
 obtain ⟨xs,hx⟩:=hi.allInts.items
 have hl':s.heap.IsList p (intItems xs):=hx ▸ pl.isList
 refine sum_intListG (I.ok.hd hc) hl' fun h' tk t' hk=>?_
 have e1:ns=xs.toList.map (·.1):=by
  rw [←nums_intItems,←hx]
  exact (show numsOf its.toArray.toList=ns from hi.numsOf).symm
 have e2:preSum (numAt xs) xs.size=ns.sum:=by
  rw [preSum_eq,List.take_of_length_le (by simp),e1]
 rw [e2]
 exact ⟨.int ns.sum,H,I.kept hk,⟨_,rfl⟩,q⟩
inductive Zay(K:PySem.W.Frag)(xs:List V)(H:Hp)(Q:VK):Prop
 | mk (x T t b):(xs=[x,.ty T])→(yI K H x t)→(PySem.W.kitOne K t (.type T)=some b)→(Q (.bl b) H)→Zay K xs H Q
noncomputable def rIsi(K:PySem.W.Frag):List V→Hp→VK→Prop:=fun xs H Q=>Zay K xs H Q
theorem GI:XR X (.builtin "isinstance") (rIsi X.K):=by
 intro pins s σ H xs us Q I r h
 obtain ⟨x,T,t,b,rfl,ty,e,q⟩:=h
 obtain ⟨u,w',rfl,rx,rt⟩:=vals2 r
 cases rt
 exact vV I rx ty e fun tk=>⟨.bl b,H,I.tok tk,rfl,q⟩
end
noncomputable def Yp:Expr→Bool
 | .Starred _ _=>false
 | _=>true
theorem Zz{e:Expr}{rest:List Expr}{env:Env}(h:Yp e=true):starEach (e::rest) env=(false,eval e env)::starEach rest env:=by
 cases e <;> first
  | rfl
  | cases h
theorem Xx{pos:Pos}{env:Env}:∀{es:List Expr},es.all Yp=true→(backTo pos (starEach es env)).any (·.1)=false
 | [],_=>rfl
 | e::es,h=>by
  rw [List.all_cons,Bool.and_eq_true] at h
  rw [Zz h.1]
  show (false || (backTo pos (starEach es env)).any (·.1))=false
  rw [Xx h.2]
  rfl
theorem all_plain{pos:Pos}{env:Env}:∀{es:List Expr},es.all Yp=true→(backTo pos (starEach es env)).all (fun x=>!x.1)=true
 | [],_=>rfl
 | e::es,h=>by
  rw [List.all_cons,Bool.and_eq_true] at h
  rw [Zz h.1]
  show (true && (backTo pos (starEach es env)).all (fun x=>!x.1))=true
  rw [all_plain h.2]
  rfl
section
variable {X:Cx}{CX:CXT}{k:Nat}{f C:Addr}{fd:FuncData}{ps:List Str}{sp:Sp}{dvs:List V}{ds:List Value}{E:XK}{x m:Str}{p pos apos:Pos}{e o:Expr}{es:List Expr}{ta te:TE}{t:TA}{id T:String}{r:List V→Hp→VK→Prop}
theorem pa_c(ha:PE X e te)(hr:PA X es t)(hp:Yp e=true:=by rfl):PA X (e::es) (vW te t):=Zb1 ha hr (Zz hp)
theorem gK(F:Z7 X.prog X.w X.K X.mg X.base CX k f fd ps sp)(hr:Wi k X.A)(hg:Gl X x)(hm:X.mg x=some (.ref f))(hk:PySem.W.keepIn X.K (.ref f)=true)(hb:Binds X.K fd ps ds)(hd:Vals dvs ds)(hx:Passes CX X E)
  (ha:PA X (e::es) t) (hdb:(x == ("__debug__" : Str))=false:=by decide) (hp:(e::es).all Yp=true:=by rfl):PE X (.Call (.Name x p) (e::es) [] pos) (vX sp dvs E t):=by
 rw [List.all_cons,Bool.and_eq_true] at hp
 exact Zb2 F hr hg hm hk hb hd hx ha hdb (Zz hp.1) (Xx hp.2)
theorem kA (hc:XR X (.builtin id) r) (hg:Gl X x) (hm:X.mg x=none) (hv:bootBuiltins x=some (.builtin id)) (ha:PA X (e::es) t) (hn:x ≠ "__name__" := by decide) (hdb:(x == ("__debug__" : Str))=false:=by decide)
  (hp:(e::es).all Yp=true:=by rfl):PE X (.Call (.Name x p) (e::es) [] pos) (tCB r t):=by
 rw [List.all_cons,Bool.and_eq_true] at hp
 exact gF hc hg hm hv ha hn hdb (Zz hp.1) (Xx hp.2)
theorem kB (hc:XR X (.type T) r) (hg:Gl X x) (hm:X.mg x=none) (hv:bootBuiltins x=some (.type T)) (ha:PA X (e::es) t) (hn:x ≠ "__name__" := by decide) (hdb:(x == ("__debug__" : Str))=false:=by decide)
  (hp:(e::es).all Yp=true:=by rfl):PE X (.Call (.Name x p) (e::es) [] pos) (tCB r t):=by
 rw [List.all_cons,Bool.and_eq_true] at hp
 exact ka hc hg hm hv ha hn hdb (Zz hp.1) (Xx hp.2)
theorem kC {tg a:Expr} (hg:Gl X "range") (hm:X.mg "range" = none) (ha:PA X [a] t) (hp:Yp a=true:=by rfl):PI X tg (.Call (.Name "range" p) [a] [] pos) (Zbu t) :=
 vN hg hm ha (by rw [Zz hp];rfl)
theorem pe_bmF {name:Str} {cpos:Pos} {to:TE} {rm:V→List V→Hp→VK→Prop} (pa:PlainAttrs T) (slot:Slot T name id) (hty:typeOf (.builtin id)=pure (.type "method_descriptor")) (hm:MtR X id rm) (ho:PE X o to) (ha:PA X (e::es) t)
  (hbase:attributeBase o name X.env (eval o X.env)=eval o X.env:=by rfl) (hline:(apos.endLine == cpos.line)=true:=by rfl) (hp:(e::es).all Yp=true:=by rfl) (hl:(e::es).length < 30:=by decide) :
  PE X (.Call (.Attribute o name apos) (e::es) [] cpos) (tBM X.K T rm to t):=by
 have hp':=hp
 rw [List.all_cons,Bool.and_eq_true] at hp'
 refine pe_bm pa slot hty hm ho ha hbase ?_ hline (Zz hp'.1) (Xx hp'.2)
 rw [all_plain hp]
 show decide ((e::es).length + 0 + 0 < 30)=true
 exact decide_eq_true hl
end
theorem X7:bootBuiltins "len" = some (.builtin "len"):=by decide +kernel
theorem bt_sum:bootBuiltins "sum" = some (.builtin "sum"):=by decide +kernel
theorem Yb:bootBuiltins "isinstance" = some (.builtin "isinstance"):=by decide +kernel
theorem bt_all:bootBuiltins "all" = some (.builtin "all"):=by decide +kernel
theorem J8:bootBuiltins "int" = some (.type "int"):=by decide +kernel
theorem Zb9:bootBuiltins "bool" = some (.type "bool"):=by decide +kernel
theorem Zaz:bootBuiltins "str" = some (.type "str"):=by decide +kernel
theorem gL:bootBuiltins "tuple" = some (.type "tuple"):=by decide +kernel
theorem ju:bootBuiltins "reversed" = some (.type "reversed"):=by decide +kernel
theorem jv {K:PySem.W.Frag}:PySem.W.kitOne K (.type "int") (.type "int")=some true:=by rfl
theorem jw {K:PySem.W.Frag}:PySem.W.kitOne K (.type "str") (.type "int")=some false:=by with_unfolding_all rfl
theorem Jy {K:PySem.W.Frag}:PySem.W.kitOne K (.type "str") (.type "str")=some true:=by rfl
theorem qa {K:PySem.W.Frag}:PySem.W.kitOne K (.type "int") (.type "str")=some false:=by with_unfolding_all rfl
structure QE(X:Cx)(e:Expr)(t:TE):Prop where
 out:PE X e t
structure QT(X:Cx)(e:Expr)(t:TT):Prop where
 out:PT X e t
structure QW(X:Cx)(e:Expr)(t:TT):Prop where
 out:PW X e t
structure QA(X:Cx)(e:List Expr)(t:TA):Prop where
 out:PA X e t
structure QSs(X:Cx)(e:List Stmt)(t:TS):Prop where
 out:PSs X e t
structure QS(X:Cx)(e:Stmt)(t:TS):Prop where
 out:PS X e t
structure QG(X:Cx)(e:Expr)(t:TG):Prop where
 out:PG X e t
structure QI(X:Cx)(tg e:Expr)(t:TI):Prop where
 out:PI X tg e t
structure QO(X:Cx)(e:Option Expr)(t:TO):Prop where
 out:PO X e t
theorem qv {X:Cx} (i:Nat) {x:Str} {pos:Pos} (hN:X.N[i]?=some x:=by rfl) (hv:Vis X.env.scope x:=by first | exact Or.inl rfl | exact Or.inr (Or.inl rfl) | exact Or.inr (Or.inr rfl)) (hd:(x == ("__debug__" : Str))=false:=by decide) (hcd:(x == ("__classdict__" : Str))=false:=by decide):QE X (.Name x pos) (Zdk i):=⟨pv (i:=i) (hN:=hN) (hv:=hv) (hd:=hd) (hcd:=hcd)⟩
theorem Ze{X:Cx}{i j pos}:QE X (.Constant (.int i) j pos) (tC (.int i)):=⟨pe_int ⟩
theorem xC{X:Cx}{b j pos}:QE X (.Constant (.bool b) j pos) (tC (.bl b)):=⟨pe_bl ⟩
theorem qe_non{X:Cx}{j pos}:QE X (.Constant .none j pos) (tC .non):=⟨pe_non ⟩
theorem Zk{X:Cx}{x j pos}:QE X (.Constant (.str x) j pos) (tC (.str x)):=⟨pe_str ⟩
theorem Y3 {X:Cx} {x:Str} {v:V} {u:Value} {pos:Pos} (hg:Gl X x) (hm:X.mg x=some u) (r:RelV v u) (hd:(x == ("__debug__" : Str))=false:=by decide):QE X (.Name x pos) (tC v):=⟨Zbl (hg:=hg) (hm:=hm) (r:=r) (hd:=hd)⟩
theorem qb {X:Cx} {x:Str} {v:V} {u:Value} {pos:Pos} (hg:Gl X x) (hm:X.mg x=none) (hv:bootBuiltins x=some u) (r:RelV v u) (hn:x ≠ "__name__" := by decide) (hd:(x == ("__debug__" : Str))=false:=by decide):QE X (.Name x pos) (tC v):=⟨Zbm (hg:=hg) (hm:=hm) (hv:=hv) (r:=r) (hn:=hn) (hd:=hd)⟩
theorem Zv{X:Cx}{a:Expr}{b:Expr}{ta:TE}{tb:TE}{pos:Pos}{op:Operator}{r:R2}(ho:OpR X (binaryOp op) r)(ha:QE X a ta)(hb:QE X b tb):QE X (.BinOp a op b pos) (tOp r ta tb):=⟨pe_op (ho:=ho) (ha:=ha.out) (hb:=hb.out)⟩
theorem Jz{X:Cx}{a:Expr}{ta:TE}{pos:Pos}{op:UnaryOp}{r:V→Hp→VK→Prop}(ho:UnR X (unaryOp op) r)(ha:QE X a ta):QE X (.UnaryOp op a pos) (tUn r ta):=⟨pe_un (ho:=ho) (ha:=ha.out)⟩
theorem ZJ{X:Cx}{a:Expr}{b:Expr}{ta:TE}{tb:TE}{pos:Pos}{op:CmpOp}{r:R2}(ho:OpR X (compareOp op) r)(ha:QE X a ta)(hb:QE X b tb)(hm:behindInMarks op b=false):QE X (.Compare a [op] [b] pos) (tOp r ta tb):=⟨Zbx (ho:=ho) (ha:=ha.out) (hb:=hb.out) (hm:=hm)⟩
theorem Zo{X:Cx}{a:Expr}{b:Expr}{ta:TE}{tb:TE}{pos:Pos}{op:CmpOp}{r:R2}(ho:OpR X (compareOp op) r)(ha:QE X a ta)(hb:QE X b tb)(hm:behindInMarks op b=false):QT X (.Compare a [op] [b] pos) (Zd0 (tOp r ta tb)):=⟨Zby (ho:=ho) (ha:=ha.out) (hb:=hb.out) (hm:=hm)⟩
theorem Jc{X:Cx}{e:Expr}{t:TE}(h:QE X e t)(he:∀whole,isTrue e X.env whole=(do let v ←whole;standAt e.pos;holding [v] (truthy v)):=by intro _;rfl):QT X e (tB t):=⟨pt_val (h:=h.out) (he:=he)⟩
theorem jx{X:Cx}{a:Expr}{pos:Pos}{tA:TT}(ha:QT X a tA):QW X (.BoolOp .And [a] pos) tA:=⟨Zbn (ha:=ha.out)⟩
theorem Za0{X:Cx}{a:Expr}{pos:Pos}{tA:TT}(ha:QT X a tA):QW X (.BoolOp .Or [a] pos) tA:=⟨pw_or1 (ha:=ha.out)⟩
theorem yd{X:Cx}{a:Expr}{b:Expr}{pos:Pos}{tA:TT}{tB':TT}{rest:List Expr}(ha:QT X a tA)(hb:QW X (.BoolOp .And (b::rest) pos) tB'):QW X (.BoolOp .And (a::b::rest) pos) (tAnd tA tB'):=⟨pw_and (ha:=ha.out) (hb:=hb.out)⟩
theorem Zca{X:Cx}{a:Expr}{b:Expr}{pos:Pos}{tA:TT}{tB':TT}{rest:List Expr}(ha:QT X a tA)(hb:QW X (.BoolOp .Or (b::rest) pos) tB'):QW X (.BoolOp .Or (a::b::rest) pos) (tOr tA tB'):=⟨pw_or (ha:=ha.out) (hb:=hb.out)⟩
theorem ye{X:Cx}{a:Expr}{pos:Pos}{tA:TT}(ha:QT X a tA):QT X (.UnaryOp .Not a pos) (tNot tA):=⟨pt_not (ha:=ha.out)⟩
theorem JA{X:Cx}{a:Expr}{pos:Pos}{op}{t:TE}(h:QE X a t):QE X (.BoolOp op [a] pos) t:=⟨pe_one (h:=h.out)⟩
theorem xh{X:Cx}{a:Expr}{b:Expr}{ta:TE}{tb:TE}{pos:Pos}{rest:List Expr}(ha:QE X a ta)(hb:QE X (.BoolOp .And (b::rest) pos) tb):QE X (.BoolOp .And (a::b::rest) pos) (Zdq ta tb):=⟨pe_and (ha:=ha.out) (hb:=hb.out)⟩
theorem gM{X:Cx}{a:Expr}{b:Expr}{ta:TE}{tb:TE}{pos:Pos}{rest:List Expr}(ha:QE X a ta)(hb:QE X (.BoolOp .Or (b::rest) pos) tb):QE X (.BoolOp .Or (a::b::rest) pos) (tOrV ta tb):=⟨pe_or (ha:=ha.out) (hb:=hb.out)⟩
theorem kD{X:Cx}{a:Expr}{ta:TE}{pos:Pos}(ha:QE X a ta):QE X (.UnaryOp .Not a pos) (Zdr ta):=⟨pe_not (ha:=ha.out)⟩
theorem gN{X:Cx}{a:Expr}{b:Expr}{ta:TE}{tb:TE}{pos:Pos}{tA:TT}{c:Expr}(hc:QT X c tA)(ha:QE X a ta)(hb:QE X b tb):QE X (.IfExp c a b pos) (tIf tA ta tb):=⟨g7 (hc:=hc.out) (ha:=ha.out) (hb:=hb.out)⟩
theorem Zq{X:Cx}:QSs X [] Zds:=⟨Zbo ⟩
theorem Za{X:Cx}{st:Stmt}{rest:List Stmt}{t:TS}{u:TS}(h1:QS X st t)(h2:QSs X rest u):QSs X (st::rest) (ZT t u):=⟨g8 (h1:=h1.out) (h2:=h2.out)⟩
theorem Zg{X:Cx}{st:Stmt}{t:TS}(h1:QS X st t):QSs X [st] t:=⟨Zbp (h1:=h1.out)⟩
theorem Wj{X:Cx}{e:Expr}{te:TE}{pos:Pos}(he:QE X e te)(hs:swapsWith e none pos.line X.env=pure false:=by rfl):QS X (.Expr e pos) (Zdt te):=⟨Zbq (he:=he.out) (hs:=hs)⟩
theorem Zn{X:Cx}{e:Expr}{te:TE}{pos:Pos}(he:QE X e te):QS X (.Return (some e) pos) (tRet te):=⟨ps_ret (he:=he.out)⟩
theorem Z8{X:Cx}{t:TS}{u:TS}{pos:Pos}{c:Expr}{a b:List Stmt}{tc:TT}(hc:QT X c tc)(ha:QSs X a t)(hb:QSs X b u):QS X (.If c a b pos) (Zbr tc t u):=⟨ps_if (hc:=hc.out) (ha:=ha.out) (hb:=hb.out)⟩
theorem YD{X:Cx}{pos:Pos}{i:Nat}{x:Str}(hN:X.N.Nodup)(hi:X.N[i]?=some x)(hx:Loc X.env.scope x)(hf:X.fn x=true∨X.env.scope.names.lookup x=some .local:=by first | exact .inl rfl | exact .inr rfl | assumption):QG X (.Name x pos) (Jw i):=⟨Jx (hN:=hN) (hi:=hi) (hx:=hx) (hf:=hf)⟩
theorem z7{X:Cx}{pos:Pos}{o i:Expr}{to ti:TE}{t:Zev}(ho:QE X o to)(hi:QE X i ti)(hs:PSet X t)(ha:∀v,assign (.Subscript o i pos) X.env v=(do
   let ov ←holding [v] (eval o X.env)
   let iv ←holding [v,ov] (eval i X.env)
   standAt pos
   holding [v,ov,iv] (setItem ov iv v)
   release [v,ov,iv] []):=by intro _;rfl):QG X (.Subscript o i pos) (gSub to ti t):=⟨pg_sub (ho:=ho.out) (hi:=hi.out) (hs:=hs) (ha:=ha)⟩
theorem z8{X:Cx}{pos:Pos}{tg e:Expr}{te:TE}{g:TG}(he:QE X e te)(hg:QG X tg g)(hs:swapsWithSole [tg] e pos.line X.env=pure false:=by rfl)(hw:swappedStores [tg] e X.env=pure none:=by rfl)(h1:(assignEach [tg] X.env).map (·.2)=[assign tg X.env]:=by rfl):QS X (.Assign [tg] e pos) (Zbs te g):=⟨ps_asg (he:=he.out) (hg:=hg.out) (hs:=hs) (hw:=hw) (h1:=h1)⟩
theorem Zr{X:Cx}{pos:Pos}{i:Nat}{x:Str}{e:Expr}{te:TE}{pos':Pos}(hN:X.N.Nodup)(hi:X.N[i]?=some x)(hx:Loc X.env.scope x)(he:QE X e te)(hs:swapsWith e (some (.Name x pos')) pos.line X.env=pure false:=by rfl)(hf:X.fn x=true∨X.env.scope.names.lookup x=some .local:=by first | exact .inl rfl | exact .inr rfl | assumption):QS X (.Assign [.Name x pos'] e pos) (Zbs te (Jw i)):=⟨ps_set (hN:=hN) (hi:=hi) (hx:=hx) (he:=he.out) (hs:=hs) (hf:=hf)⟩
theorem gO{X:Cx}{pos:Pos}{c:Expr}{body:List Stmt}{tc:TT}{tb:TS}(hp:PassesOwn (model X.prog X.w) X.A X.env X.xe)(hc:QT X c tc)(hb:QSs X body tb):QS X (.While c body [] pos) (vJ tc tb):=⟨g9 (hp:=hp) (hc:=hc.out) (hb:=hb.out)⟩
theorem xD{X:Cx}{tg:Expr}{l:Expr}{tl:TE}(hl:QE X l tl):QI X tg l (Zdu X.K tl):=⟨Zbt (hl:=hl.out)⟩
theorem Za1{X:Cx}{tg:Expr}{l:Expr}{tl:TE}(hl:QE X l tl):QI X tg l (iTup X.K tl):=⟨pi_tup (hl:=hl.out)⟩
theorem X8{X:Cx}{tg:Expr}{iter:Expr}{body:List Stmt}{wi:TI}{g:TG}{tb:TS}{pos:Pos}(hp:PassesOwn (model X.prog X.w) X.A X.env X.xe)(hc:X.calm=true)(hi:QI X tg iter wi)(hg:QG X tg g)(hb:QSs X body tb)(hs:∀x,foldedSetIterable iter X.env x=pure x:=by intro _;rfl):QS X (.For tg iter body [] pos) (tFor wi g tb):=⟨ps_for (hp:=hp) (hc:=hc) (hi:=hi.out) (hg:=hg.out) (hb:=hb.out) (hs:=hs)⟩
theorem Jd{X:Cx}{es:List Expr}{t:TA}{pos:Pos}{x1}(h:QA X es t):QE X (.Tuple es x1 pos) (tTup t):=⟨pe_tup (h:=h.out)⟩
theorem ZA{X:Cx}{es:List Expr}{t:TA}{pos:Pos}(h:QA X es t):QE X (.List es pos) (tLst t):=⟨pe_lst (h:=h.out)⟩
theorem Zd{X:Cx}:QA X [] Zd1:=⟨pa_nil ⟩
theorem Zi{X:Cx}{e:Expr}{es:List Expr}{te:TE}{t:TA}(ha:QE X e te)(hr:QA X es t)(hp:Yp e=true:=by rfl):QA X (e::es) (vW te t):=⟨pa_c (ha:=ha.out) (hr:=hr.out) (hp:=hp)⟩
theorem Zh {X:Cx} {CX:CXT} {k:Nat} {f:Addr} {fd:FuncData} {ps:List Str} {sp:Sp} {dvs:List V} {ds:List Value} {E:XK} {x:Str} {p:Pos} {pos:Pos} {e:Expr} {es:List Expr} {t:TA} (F:Z7 X.prog X.w X.K X.mg X.base CX k f fd ps sp) (hr:Wi k X.A) (hg:Gl X x) (hm:X.mg x=some (.ref f)) (hk:PySem.W.keepIn X.K (.ref f)=true) (hb:Binds X.K fd ps ds) (hd:Vals dvs ds) (hx:Passes CX X E) (ha:QA X (e::es) t) (hdb:(x == ("__debug__" : Str))=false:=by decide) (hp:(e::es).all Yp=true:=by rfl):QE X (.Call (.Name x p) (e::es) [] pos) (vX sp dvs E t):=⟨gK (F:=F) (hr:=hr) (hg:=hg) (hm:=hm) (hk:=hk) (hb:=hb) (hd:=hd) (hx:=hx) (ha:=ha.out) (hdb:=hdb) (hp:=hp)⟩
theorem Z1 {X:Cx} {x:Str} {p:Pos} {pos:Pos} {e:Expr} {es:List Expr} {t:TA} {id:String} {r:List V→Hp→VK→Prop} (hc:XR X (.builtin id) r) (hg:Gl X x) (hm:X.mg x=none) (hv:bootBuiltins x=some (.builtin id)) (ha:QA X (e::es) t) (hn:x ≠ "__name__" := by decide) (hdb:(x == ("__debug__" : Str))=false:=by decide) (hp:(e::es).all Yp=true:=by rfl):QE X (.Call (.Name x p) (e::es) [] pos) (tCB r t):=⟨kA (hc:=hc) (hg:=hg) (hm:=hm) (hv:=hv) (ha:=ha.out) (hn:=hn) (hdb:=hdb) (hp:=hp)⟩
theorem Yq {X:Cx} {x:Str} {p:Pos} {pos:Pos} {e:Expr} {es:List Expr} {t:TA} {T:String} {r:List V→Hp→VK→Prop} (hc:XR X (.type T) r) (hg:Gl X x) (hm:X.mg x=none) (hv:bootBuiltins x=some (.type T)) (ha:QA X (e::es) t) (hn:x ≠ "__name__" := by decide) (hdb:(x == ("__debug__" : Str))=false:=by decide) (hp:(e::es).all Yp=true:=by rfl):QE X (.Call (.Name x p) (e::es) [] pos) (tCB r t):=⟨kB (hc:=hc) (hg:=hg) (hm:=hm) (hv:=hv) (ha:=ha.out) (hn:=hn) (hdb:=hdb) (hp:=hp)⟩
theorem GJ {X:Cx} {CX:CXT} {k:Nat} {f:Addr} {fd:FuncData} {ps:List Str} {sp:Sp} {dvs:List V} {ds:List Value} {E:XK} {x:Str} {p:Pos} {pos:Pos} (F:Z7 X.prog X.w X.K X.mg X.base CX k f fd ps sp) (hr:Wi k X.A) (hg:Gl X x) (hm:X.mg x=some (.ref f)) (hk:PySem.W.keepIn X.K (.ref f)=true) (hb:Binds X.K fd ps ds) (hd:Vals dvs ds) (hx:Passes CX X E) (hdb:(x == ("__debug__" : Str))=false:=by decide):QE X (.Call (.Name x p) [] [] pos) (vX sp dvs E Zd1):=⟨gE (F:=F) (hr:=hr) (hg:=hg) (hm:=hm) (hk:=hk) (hb:=hb) (hd:=hd) (hx:=hx) (hdb:=hdb)⟩
theorem ZV {X:Cx} {p:Pos} {pos:Pos} {t:TA} {tg a:Expr} (hg:Gl X "range") (hm:X.mg "range" = none) (ha:QA X [a] t) (hp:Yp a=true:=by rfl):QI X tg (.Call (.Name "range" p) [a] [] pos) (Zbu t):=⟨kC (hg:=hg) (hm:=hm) (ha:=ha.out) (hp:=hp)⟩
theorem Ww {X:Cx} {apos:Pos} {e:Expr} {o:Expr} {es:List Expr} {t:TA} {id:String} {T:String} {name:Str} {cpos:Pos} {to:TE} {rm:V→List V→Hp→VK→Prop} (pa:PlainAttrs T) (slot:Slot T name id) (hty:typeOf (.builtin id)=pure (.type "method_descriptor")) (hm:MtR X id rm) (ho:QE X o to) (ha:QA X (e::es) t) (hbase:attributeBase o name X.env (eval o X.env)=eval o X.env:=by rfl) (hline:(apos.endLine == cpos.line)=true:=by rfl) (hp:(e::es).all Yp=true:=by rfl) (hl:(e::es).length < 30:=by decide):QE X (.Call (.Attribute o name apos) (e::es) [] cpos) (tBM X.K T rm to t):=⟨pe_bmF (pa:=pa) (slot:=slot) (hty:=hty) (hm:=hm) (ho:=ho.out) (ha:=ha.out) (hbase:=hbase) (hline:=hline) (hp:=hp) (hl:=hl)⟩
theorem z9 {X:Cx} {o:Expr} {to:TE} {name:Str} {apos:Pos} {cpos:Pos} {T:String} {id:String} {r:V→List V→Hp→VK→Prop} (pa:PlainAttrs T) (slot:Slot T name id) (hty:typeOf (.builtin id)=pure (.type "method_descriptor")) (hm:MtR X id r) (ho:QE X o to) (hbase:attributeBase o name X.env (eval o X.env)=eval o X.env:=by rfl) (hline:(apos.endLine == cpos.line)=true:=by rfl):QE X (.Call (.Attribute o name apos) [] [] cpos) (Zex X.K T r to):=⟨pe_bm0 (pa:=pa) (slot:=slot) (hty:=hty) (hm:=hm) (ho:=ho.out) (hbase:=hbase) (hline:=hline)⟩
theorem Wk{X:Cx}:QO X none kf:=⟨Zb4 ⟩
theorem Wl{X:Cx}{e:Expr}{te:TE}(h:QE X e te):QO X (some e) (Zd2 te):=⟨Zb5 (h:=h.out)⟩
theorem Xi{X:Cx}{e:Expr}{te:TE}{lo:Option Expr}{hi:Option Expr}{tl:TO}{th:TO}{pos:Pos}{p2:Pos}{r:V→Option Int→Option Int→Hp→VK→Prop}(hr:SlR X r)(he:QE X e te)(hl:QO X lo tl)(hu:QO X hi th):QE X (.Subscript e (.Slice lo hi none p2) pos) (tSl r te tl th):=⟨gG (hr:=hr) (he:=he.out) (hl:=hl.out) (hu:=hu.out)⟩
theorem Z4{X:Cx}{a:Expr}{b:Expr}{ta:TE}{tb:TE}{pos:Pos}{r:R2}(hr:IxR X r)(ha:QE X a ta)(hb:QE X b tb)(hs:km b):QE X (.Subscript a b pos) (tOp r ta tb):=⟨pe_ix (hr:=hr) (ha:=ha.out) (hb:=hb.out) (hs:=hs)⟩
theorem kE{X:Cx}{e:Expr}{t:TT}(h:QW X e t):QT X e t:=⟨h.out.pt⟩
end L2
set_option maxHeartbeats 4000000
namespace L2
open PySem PySem.Spec PyProof.Rows
noncomputable def qc(cells:List (Str × Addr)):List (Str × NameKind)→List (Str × Addr)→List (Str × Addr)
 | [],acc=>acc
 | (n,k)::r,acc=>qc cells r (if (k == NameKind.free)=true then (n,(cells.lookup n).getD 0)::acc else acc)
theorem xi{env:Env}:∀(names:List (Str × NameKind)) (acc:List (Str × Addr)),(∀y∈names,y.2=.free→∃c,env.cells.lookup y.1=some c) →
  (forIn names acc fun (x:Str × NameKind) (r:List (Str × Addr))=>match x with
   | (name,kind)=>if (kind == NameKind.free)=true then do let a ←cellOf env name;pure (ForInStep.yield ((name,a)::r)) else pure (ForInStep.yield r):Sem (List (Str × Addr)))=pure (qc env.cells names acc)
 | [],acc,_=>rfl
 | (n,k)::r,acc,h=>by
  rw [List.forIn_cons]
  have ih:=fun acc'=>xi (env:=env) r acc' fun y hy=>h y (List.mem_cons_of_mem _ hy)
  by_cases hk:(k == NameKind.free)=true
  ·obtain ⟨c,hc⟩:=h (n,k) List.mem_cons_self (by simpa using hk)
   have hc':env.cells.lookup n=some c:=hc
   have e:cellOf env n=pure c:=by unfold cellOf;rw [hc']
   simp only [hk,if_true,e]
   rw [qc,if_pos hk,hc']
   exact ih ((n,c)::acc)
  ·rw [qc,if_neg hk]
   simp only [hk,if_false]
   exact ih acc
theorem XT{scope:Scope}{env:Env}(h:∀y∈scope.names,y.2=.free→∃c,env.cells.lookup y.1=some c):closureFor scope env=pure (qc env.cells scope.names []):=by
 have e:=xi (env:=env) scope.names [] h
 unfold closureFor
 show (do let r ←_;pure r)=_
 rw [show (forIn scope.names ([]:List (Str × Addr)) fun (x:Str × NameKind) (r:List (Str × Addr))=>match x with
   | (name,kind)=>if (kind == NameKind.free)=true then do let a ←cellOf env name;pure (ForInStep.yield ((name,a)::r)) else pure (ForInStep.yield r):Sem (List (Str × Addr)))=pure (qc env.cells scope.names []) from e]
 rfl
theorem xE{cells:List (Str × Addr)}:∀{names:List (Str × NameKind)} {acc:List (Str × Addr)},(∀y∈names,y.2=.free→∃c,cells.lookup y.1=some c)→(∀x c,acc.lookup x=some c→cells.lookup x=some c) →
  ∀x c,(qc cells names acc).lookup x=some c→cells.lookup x=some c
 | [],acc,_,ha,x,c,h=>ha x c h
 | (n,k)::r,acc,hf,ha,x,c,h=>by
  rw [qc] at h
  refine xE (names:=r) (fun y hy=>hf y (List.mem_cons_of_mem _ hy)) (fun y d hd=>?_) x c h
  by_cases hk:(k == NameKind.free)=true
  ·rw [if_pos hk] at hd
   obtain ⟨e,he⟩:=hf (n,k) List.mem_cons_self (by simpa using hk)
   have he':cells.lookup n=some e:=he
   rw [he',List.lookup_cons] at hd
   cases hy:y == n with
   | true =>
    rw [hy] at hd
    have hy':y=n:=by simpa using hy
    rw [hy',he']
    exact hd
   | false =>
    rw [hy] at hd
    exact ha y d hd
  ·rw [if_neg hk] at hd
   exact ha y d hd
theorem zA{cells:List (Str × Addr)}:∀{names:List (Str × NameKind)} {acc:List (Str × Addr)} {x:Str},(∃c,acc.lookup x=some c)→∃c,(qc cells names acc).lookup x=some c
 | [],acc,x,h=>h
 | (n,k)::r,acc,x,h=>by
  rw [qc]
  refine zA (names:=r) ?_
  by_cases hk:(k == NameKind.free)=true
  ·rw [if_pos hk,List.lookup_cons]
   cases hx:x == n with
   | true=>exact ⟨_,rfl⟩
   | false=>exact h
  ·rw [if_neg hk];exact h
theorem Xj{cells:List (Str × Addr)}:∀{names:List (Str × NameKind)} {acc:List (Str × Addr)} {x:Str},names.lookup x=some .free→∃c,(qc cells names acc).lookup x=some c
 | [],acc,x,h=>by cases h
 | (n,k)::r,acc,x,h=>by
  rw [qc]
  rw [List.lookup_cons] at h
  cases hx:x == n with
  | true =>
   rw [hx] at h
   have hk:k=.free:=Option.some.inj h
   refine zA (names:=r) ?_
   rw [hk,if_pos (show (NameKind.free == NameKind.free)=true by rfl),List.lookup_cons,hx]
   exact ⟨_,rfl⟩
  | false =>
   rw [hx] at h
   exact Xj (names:=r) h
theorem X9{scope:Scope}{env:Env}(hk:env.scope.kind=.function):∀{names:List (Str × NameKind)} {x:Str},names.lookup x=some .free→env.kindOf x=some .cell →
  (names.map fun (n,k)=>if (k == NameKind.free && env.scope.kind == .function && env.kindOf n == some .cell)=true then (n,NameKind.cell) else (n,k)).lookup x=some .cell
 | [],_,h,_=>by cases h
 | (n,k)::r,x,h,hc=>by
  rw [List.lookup_cons] at h
  show List.lookup x ((if (k == NameKind.free && env.scope.kind == .function && env.kindOf n == some .cell)=true then (n,NameKind.cell) else (n,k))::_)=_
  cases hx:x == n with
  | true =>
   rw [hx] at h
   have hkk:k=.free:=Option.some.inj h
   have hxn:x=n:=by simpa using hx
   rw [hkk,hk,←hxn,hc]
   simp [List.lookup_cons]
  | false =>
   rw [hx] at h
   have ih:=X9 (scope:=scope) hk (names:=r) h hc
   by_cases hq:(k == NameKind.free && env.scope.kind == .function && env.kindOf n == some .cell)=true
   ·rw [if_pos hq,List.lookup_cons,hx];exact ih
   ·rw [if_neg hq,List.lookup_cons,hx];exact ih
theorem Xk{env:Env}:∀{names:List (Str × NameKind)} {x:Str},names.lookup x=some .free→env.kindOf x=some .free →
  (names.map fun (n,k)=>if (k == NameKind.free && env.scope.kind == .function && env.kindOf n == some .cell)=true then (n,NameKind.cell) else (n,k)).lookup x=some .free
 | [],_,h,_=>by cases h
 | (n,k)::r,x,h,hc=>by
  rw [List.lookup_cons] at h
  show List.lookup x ((if (k == NameKind.free && env.scope.kind == .function && env.kindOf n == some .cell)=true then (n,NameKind.cell) else (n,k))::_)=_
  cases hx:x == n with
  | true =>
   rw [hx] at h
   have hkk:k=.free:=Option.some.inj h
   have hxn:x=n:=by simpa using hx
   have hq:¬(k == NameKind.free && env.scope.kind == .function && env.kindOf n == some .cell)=true:=by
    rw [←hxn,hc,Bool.and_eq_true]
    exact fun z=>absurd z.2 (by decide)
   rw [if_neg hq,List.lookup_cons,hx,hkk]
  | false =>
   rw [hx] at h
   have ih:=Xk (names:=r) h hc
   by_cases hq:(k == NameKind.free && env.scope.kind == .function && env.kindOf n == some .cell)=true
   ·rw [if_pos hq,List.lookup_cons,hx];exact ih
   ·rw [if_neg hq,List.lookup_cons,hx];exact ih
theorem XA{env:Env}:∀{names:List (Str × NameKind)} {x:Str},(∀y∈names,y.2≠.cell) →
    ((names.map fun (n,k)=>if (k == NameKind.free && env.scope.kind == .function && env.kindOf n == some .cell)=true then (n,NameKind.cell) else (n,k)).lookup x=some .cell ∨
     (names.map fun (n,k)=>if (k == NameKind.free && env.scope.kind == .function && env.kindOf n == some .cell)=true then (n,NameKind.cell) else (n,k)).lookup x=some .free)→names.lookup x=some .free
  | [],_,_,h=>by rcases h with h | h <;> cases h
  | (n,k)::r,x,hn,h=>by
    have ih:=XA (env:=env) (names:=r) (x:=x) fun y hy=>hn y (List.mem_cons_of_mem _ hy)
    rw [List.map_cons] at h
    rw [List.lookup_cons]
    by_cases hq:(k == NameKind.free && env.scope.kind == .function && env.kindOf n == some .cell)=true
    · have hk:k=.free:=by
        rw [Bool.and_eq_true,Bool.and_eq_true] at hq
        simpa using hq.1.1
      simp only [hq,if_true,List.lookup_cons] at h
      cases hx:x == n with
      | true=>rw [hk]
      | false =>
        rw [hx] at h
        exact ih h
    · simp only [hq,Bool.false_eq_true,if_false,List.lookup_cons] at h
      cases hx:x == n with
      | true =>
        rw [hx] at h
        rcases h with h | h
        · exact absurd (Option.some.inj h) (hn (n,k) List.mem_cons_self)
        · exact h
      | false =>
        rw [hx] at h
        exact ih h
noncomputable def cxC(X:Cx)(N':List Str)(scope:Scope)(C:Addr)(s₂:Shared)(H₂:Hp)(ex:List Addr):Cx :=
 { X with N:=N',s₀:=s₂,H₀:=H₂,env:=compEnvC scope (qc X.env.cells scope.names []) C X.env,outer:=X.stack,stack:=X.stack,ex:=ex,fn:=fun _=>false,pn:=[],xe:=fun _ _=>False }
noncomputable def GK(is:List Nat)(σ:St)(v:Option V):St:=v::is.map fun i=>(σ[i]?).getD none
structure ZW(S scope:Scope)(N:List Str)(x:Str)(ys:List Str)(is:List Nat):Prop where
 kind:scope.kind=.function
 cell:∀y∈scope.names,y.2≠.cell
 names:∀y∈scope.names,y.2=.local→scope.names.lookup y.1=some .local
 own:scope.names.lookup x=some .local
 free:∀y∈scope.names,y.2=.free→S.names.lookup y.1=some .cell∨S.names.lookup y.1=some .free
 vis:∀p∈ys.zip is,N[p.2]?=some p.1∧scope.names.lookup p.1=some .free
 len:ys.length=is.length
 nd:(x::ys).Nodup
noncomputable def PF(X:Cx)(ifs:List Expr)(t:TT):Prop :=
 ∀(pins:List (Addr × Obj)) (s:Shared) (σ:St) (H:Hp) (Q:Bool→Hp→Prop),Inv X pins σ H s→t σ H Q →
  wpAny (model X.prog X.w) X.A (forIn ifs true fun c r=>if r=true then do let ok ←isTrue c X.env (eval c X.env);pure (ForInStep.yield ok) else pure (ForInStep.yield r)) (TP X pins σ Q) X.xe s
structure QF(X:Cx)(ifs:List Expr)(t:TT):Prop where
 out:PF X ifs t
noncomputable def kF:TT:=fun _ H Q=>Q true H
theorem qd{X:Cx}:QF X [] kF:=⟨fun _ _ _ H _ I h=>wpAny_tests_nil ⟨H,I,h⟩⟩
theorem kG{X:Cx}{c:Expr}{t:TT}(h:QT X c t):QF X [c] t:=⟨fun pins s σ H Q I hw=>wpAny_tests_one (h.out pins s σ H Q I hw)⟩
section
variable {X:Cx}{S scope:Scope}{N:List Str}{x:Str}{ys:List Str}{is:List Nat}{pins:List (Addr × Obj)}{σ:St}{H₂:Hp}{s₂:Shared}{fp:List Addr}
theorem ZW.cellOf'(K:ZW S scope N x ys is)(hX:X.env.scope=S)(ok:X.Ok):∀y∈scope.names,y.2=.free→∃c,X.env.cells.lookup y.1=some c:=fun y hy h =>
 ok.has y.1 (by show X.env.scope.names.lookup y.1=_∨X.env.scope.names.lookup y.1=_;rw [hX];exact K.free y hy h)
theorem ZW.cl(K:ZW S scope N x ys is)(hX:X.env.scope=S)(ok:X.Ok):∀y c,(qc X.env.cells scope.names []).lookup y=some c→X.env.cells.lookup y=some c :=
 xE (K.cellOf' hX ok) fun _ _ z=>by cases z
theorem GL{names:List (Str × NameKind)}{y:Str}{k:NameKind}(h:names.lookup y=some k):(y,k)∈names:=by
 induction names with
 | nil=>cases h
 | cons p r ih =>
  obtain ⟨n,k'⟩:=p
  rw [List.lookup_cons] at h
  cases hx:y == n with
  | true =>
   rw [hx] at h
   have e1:y=n:=by simpa using hx
   have e2:k'=k:=Option.some.inj h
   rw [e1,e2]
   exact List.mem_cons_self
  | false =>
   rw [hx] at h
   exact List.mem_cons_of_mem _ (ih h)
theorem kH(K:ZW S scope N x ys is)(hX:X.env.scope=S)(I:Inv X pins σ H₂ s₂){C:Addr}(hC:s₂.heap.objs.size≤C)(hfp:∀b∈fp,Gm X pins H₂ b)(hlt:∀b∈fp,b < s₂.heap.objs.size):(cxC X (x::ys) scope C s₂ H₂ fp).Ok where
 mod:=I.ok.mod
 kind:=K.kind
 glob:=I.ok.glob
 blt:=I.ok.blt
 above:=hC
 inj:=fun y z c h1 h2=>I.ok.inj y z c (K.cl hX I.ok y c h1) (K.cl hX I.ok z c h2)
 has:=fun y hy=>Xj (XA (env:=X.env) K.cell hy)
 cab:=fun y c h=>by cases h
 hd:=I.ok.hd
 frames:=I.ok.frames
 stk:=.inl rfl
 exf:=fun b hb=>⟨fun e=>absurd (Nat.lt_of_lt_of_le (hlt b hb) (Nat.le_trans hC (Nat.le_of_eq (Eq.symm e)))) (Nat.lt_irrefl _),fun y c h=>(hfp b hb).2.2.2.2.1 y c (K.cl hX I.ok y c h)⟩
 bs:=I.bs
 bsz:=Nat.le_trans I.ok.bsz I.sz
 noex:=fun b o e hb=>by
  rcases (hfp b hb).2.2.2.1 with z | z
  ·exact I.ok.noex b o e z
  ·exact absurd (Nat.lt_of_lt_of_le (Heap.lt_size e) (Nat.le_trans I.ok.bsz z)) (Nat.lt_irrefl _)
 exfs:=fun b hb z=>by
  rcases List.mem_cons.mp (I.stkSub b z) with e | e
  ·exact (hfp b hb).2.1 e
  ·exact (hfp b hb).2.2.1 e
 funs:=I.stack
 frf:=I.stkFree
theorem Zcb(K:ZW S scope N x ys is)(hX:X.env.scope=S)(hN:X.N=N)(hk:S.kind=.function)(I:Inv X pins σ H₂ s₂){C D:Addr}{h₁:Heap}{tk:Nat}{oD:Obj}(hC:s₂.heap.objs.size≤C)(hD:s₂.heap.objs.size≤D)(hDC:D≠C)
  (hfp:∀b∈fp,Gm X pins H₂ b) (hlt:∀b∈fp,b < s₂.heap.objs.size) (old:∀b o,s₂.heap.get? b=some o→h₁.get? b=some o) (hn:h₁.Ns C fun _=>none) (hacc:h₁.get? D=some oD) (hod:∀v,oD.data≠.cell v) :
  Inv (cxC X (x::ys) scope C s₂ H₂ fp) [(D,oD)] (GK is σ none) H₂ { s₂ with heap:=h₁,toks:=tk }:=by
 have ok:=kH K hX I hC hfp hlt
 refine ⟨ok,rfl,I.bare,Un.kept old,⟨_,hn,fun i y v h1 h2 h3=>?_⟩,fun y c h=>?_,I.hok.fresh hC,fun y c h=>I.freeC y c (K.cl hX I.ok y c h),fun p hp=>?_,I.hok.kept old,?_⟩
 ·cases i with
  | zero =>
   have h2':some (none:Option V)=some (some v):=h2
   cases h2'
  | succ i =>
   have h1':ys[i]?=some y:=h1
   have h2':(is.map fun i=>(σ[i]?).getD none)[i]?=some (some v):=h2
   rw [List.getElem?_map] at h2'
   cases hj:is[i]? with
   | none=>rw [hj] at h2';cases h2'
   | some j =>
    rw [hj] at h2'
    have h2'':(σ[j]?).getD none=some v:=Option.some.inj h2'
    have hσ:σ[j]?=some (some v):=by
     cases q:σ[j]? with
     | none=>rw [q] at h2'';cases h2''
     | some z=>rw [q] at h2'';exact congrArg some h2''
    have hz:(y,j)∈ys.zip is:=by
     obtain ⟨a1,e1⟩:=List.getElem?_eq_some_iff.mp h1'
     obtain ⟨a2,e2⟩:=List.getElem?_eq_some_iff.mp hj
     rw [←e1,←e2,←List.getElem_zip (h:=by rw [List.length_zip];lia)]
     exact List.getElem_mem _
    obtain ⟨v1,v2⟩:=K.vis _ hz
    have kc:X.env.kindOf y=some .cell∨X.env.kindOf y=some .free:=by show X.env.scope.names.lookup y=_∨X.env.scope.names.lookup y=_;rw [hX];exact K.free _ (GL v2) rfl
    obtain ⟨m,hm,hl⟩:=I.loc
    obtain ⟨u,r,l⟩:=hl j y v (by rw [hN];exact v1) hσ (.inr kc)
    refine ⟨u,r,.inr ?_⟩
    rcases l with ⟨l1,_⟩ | ⟨_,c,l2,l3⟩
    ·rcases kc with kc | kc <;> rw [kc] at l1 <;> cases l1
    ·obtain ⟨c',hc'⟩:=Xj (cells:=X.env.cells) (acc:=[]) v2
     have e:c'=c:=by have:=K.cl hX I.ok y c' hc';rw [l2] at this;exact (Option.some.inj this).symm
     subst e
     refine ⟨kc.imp (X9 (scope:=scope) (by rw [hX];exact hk) v2) (Xk v2),c',hc',?_⟩
     obtain ⟨o,ho,hd⟩:=l3
     exact ⟨o,old _ _ ho,hd⟩
 ·obtain ⟨v,o,ho,hd⟩:=I.cell y c (K.cl hX I.ok y c h)
  exact ⟨v,o,old _ _ ho,hd⟩
 ·have e:p=(D,oD):=by simpa [cxC] using hp
  subst e
  refine ⟨hacc,I.hok.fresh hD,hDC,fun z=>?_,hod⟩
  obtain ⟨_,o,ho,_⟩:=ok.funs.mem z
  exact absurd (Nat.lt_of_lt_of_le (Heap.lt_size ho) hD) (Nat.lt_irrefl _)
 ·show (GK is σ none).length=(x::ys).length
  unfold GK
  rw [List.length_cons,List.length_map,List.length_cons,K.len]
theorem jy(I:Inv X pins σ H₂ s₂){C D:Addr}{N':List Str}{σ':St}{H':Hp}{s':Shared}{pl:List (Addr × Obj)}(I':Inv (cxC X N' scope C s₂ H₂ fp) pl σ' H' s')(hD:s₂.heap.objs.size≤D)(hDn:H' D=none)
  (hfp:∀b∈fp,Gm X pins H₂ b) {zs:List V} {its:List Value} {n:Nat} (hz:zs.length≤sizeLine) (r:Vals zs its) (hd:s'.heap.get? D=some { cls:=.type "list",data:=.seq its.toArray n }) :
  Inv X pins σ (upd H' D (.lst zs)) s':=by
 have b:Un (frs X.stack) fp H₂ H' s₂.heap s'.heap:=I'.base
 have ne:∀c o,s₂.heap.get? c=some o→c≠D:=fun c o e z=>absurd (Nat.lt_of_lt_of_le (Heap.lt_size e) (Nat.le_trans hD (Nat.le_of_eq (Eq.symm z)))) (Nat.lt_irrefl _)
 have D2:H₂ D=none:=I.hok.fresh hD
 refine I.call' I'.os ⟨b.keep,b.slot,fun c o e n hx=>?_,b.there,fun c xs e=>?_,fun c o u e=>?_,fun c ps e=>?_⟩ (fun c u e=>?_) I'.bare fun c hc=>⟨(hfp c hc).2.2.2.1,(hfp c hc).2.1,(hfp c hc).2.2.2.2.1,(hfp c hc).2.2.2.2.2⟩
 ·rw [Zj (ne c o e)];exact b.free c o e n hx
 ·rw [Zj (Zl e D2)];exact b.tups c xs e
 ·rw [Zj (Zl e D2)];exact b.frzs c o u e
 ·rw [Zj (Zl e D2)];exact b.tbls c ps e
 ·by_cases hc:c=D
  ·subst hc
   rw [Zb] at e
   cases e
   exact ⟨hz,its,n,r,hd⟩
  ·rw [Zj hc] at e
   exact (I'.hok c u e).stay (fun _ _ _ q=>q) (fun d q=>by rw [Zj (Zl q hDn)];exact q) fun d xs q=>by rw [Zj (Zl q hDn)];exact q
end
section
variable {prog:Program}{w:World}{A:Around}{R:Result→Shared→Prop}{s:Shared}
theorem qe{elt target iter:Expr}{ifs:List Expr}{scope:Scope}{pos:Pos}{it acc:Value}{env:Env}(I:Nat→Shared→Prop)
  (turn:∀n s,I n s→wpAny (model prog w) A (pyNext it) (fun r s₁=>match r with
   | none=>R (.ok .next) s₁
   | some v=>wpAny (model prog w) A (letOwnedTupleGo target it v) (fun _ s₁'=>wpAny (model prog w) A (assign target env v) (fun _ s₂ =>
     wpAny (model prog w) A (forIn ifs true fun c r=>if r=true then do let ok ←isTrue c env (eval c env);pure (ForInStep.yield ok) else pure (ForInStep.yield r)) (fun ok s₃ =>
      if ok=true then wpAny (model prog w) A (eval elt env) (fun x s₄ =>
       wpAny (model prog w) A (call (.builtin "list.append") [acc,x]) (fun _ s₅=>∃m,m < n∧I m s₅) (fun _ _=>False) s₄) (fun _ _=>False) s₃
      else ∃m,m < n∧I m s₃) (fun _ _=>False) s₂) (fun _ _=>False) s₁') (fun _ _=>False) s₁) (fun _ _=>False) s)
  (n:Nat) (h:I n s) :
  codeAny (model prog w) A (.compLoop (.ListComp elt [⟨target,iter,ifs,0⟩] scope pos) 0 it acc env) R s:=by
 refine codeAny_loop rfl I (fun n s hI=>?_) n h
 show wpAny _ A ((compTurn (.ListComp elt [⟨target,iter,ifs,0⟩] scope pos) 0 it acc env).onRaise (fun x=>do noteFrame x env;theTreesLotGoes x)) _ _ s
 refine wpAny_noted ?_
 rw [compTurn_list]
 have nf:∀{E:Value→Shared→Prop} (e:Value) (s':Shared),False→E e s':=fun _ _ z=>z.elim
 refine wpAny_bind (wpAny_standAt (wpAny_bind (wpAny_mono (turn n s hI) (fun r s₁ h₁=>?_) nf)))
 cases r with
 | none=>exact wpAny_pure h₁
 | some v =>
  refine wpAny_bind (wpAny_mono h₁ (fun _ s₁' h₁'=>?_) nf)
  refine wpAny_bind (wpAny_mono h₁' (fun _ s₂ h₂=>wpAny_bind (wpAny_mono h₂ (fun ok s₃ h₃=>?_) nf)) nf)
  cases ok with
  | false=>exact wpAny_pure ⟨rfl,h₃⟩
  | true =>
   exact wpAny_bind (wpAny_bind (wpAny_mono h₃ (fun x s₄ h₄=>wpAny_bind (wpAny_mono h₄ (fun _ s₅ h₅=>wpAny_pure (wpAny_pure ⟨rfl,h₅⟩)) nf)) nf))
end
noncomputable def zB(is:List Nat)(tc:TT)(te:TE)(σ:St)(Q:VK)(J:It)(H1:Hp):Prop:=∃W:Nat→Nat→List V→Hp→Prop,(∃m,W 0 m [] H1)∧∀i m zs H,W i m zs H →
 (J.stop i H∧zs.length≤sizeLine∧∀p,H p=none→Q (.ref p) (upd H p (.lst zs))) ∨
 (J.go i H∧zs.length≤sizeLine∧∀x H',J.yld i H x H'→tc (GK is σ (some x)) H' fun b H2=>if b=true then te (GK is σ (some x)) H2 fun y H3=>∃m',m' < m∧W (i + 1) m' (zs++[y]) H3 else ∃m',m' < m∧W (i + 1) m' zs H2)
noncomputable def Zd6(wi:TI)(is:List Nat)(tc:TT)(te:TE):TE:=fun σ H Q=>wi σ H (zB is tc te σ Q)
section
variable {X:Cx}{S scope:Scope}{N:List Str}{x:Str}{ys:List Str}{is:List Nat}{pins:List (Addr × Obj)}{σ:St}{H₂:Hp}{s₂:Shared}{fp:List Addr}{elt iter:Expr}{px pos:Pos}{ifs:List Expr}{tc:TT}{te:TE}
theorem xj{J:It}{it:Addr}{tn:Nat→Heap→Prop}{Q:VK}{RR:Value→Addr→Result→Shared→Prop}{E:Value→Shared→Prop}(K:ZW S scope N x ys is)(hX:X.env.scope=S)(hN:X.N=N)(hk:S.kind=.function)(hc:X.calm=true)
  (hf:∀C s₂ H₂ ex,QF (cxC X (x::ys) scope C s₂ H₂ ex) ifs tc) (he:∀C s₂ H₂ ex,QE (cxC X (x::ys) scope C s₂ H₂ ex) elt te)
  (I:Inv X pins σ H₂ s₂) (T:Turn X.prog X.w X.K (.Name x px) J fp it tn) (st:tn 0 s₂.heap) (hfp:∀b∈fp,Gm X pins H₂ b)
  {W:Nat→Nat→List V→Hp→Prop} {m0:Nat} (w0:W 0 m0 [] H₂)
  (turn:∀i m zs H,W i m zs H→(J.stop i H∧zs.length≤sizeLine∧∀p,H p=none→Q (.ref p) (upd H p (.lst zs))) ∨
   (J.go i H∧zs.length≤sizeLine∧∀x H',J.yld i H x H'→tc (GK is σ (some x)) H' fun b H2=>if b=true then te (GK is σ (some x)) H2 fun y H3=>∃m',m' < m∧W (i + 1) m' (zs++[y]) H3 else ∃m',m' < m∧W (i + 1) m' zs H2))
  (fin:∀D C s' H' m',Inv X pins σ H' s'→Gm X pins H' C→s'.heap.Ns C m'→Q (.ref D) H'→RR (.ref D) C (.ok .next) s') :
  wpAny (model X.prog X.w) X.A (newList []) (fun acc s₃=>wpAny (model X.prog X.w) X.A (newFunctionEnv scope X.env.globals (qc X.env.cells scope.names []) [] X.env.qual none .none (some X.env)) (fun cenv s₄ =>
   codeAny (model X.prog X.w) X.A (.compStart (.ListComp elt [⟨.Name x px,iter,ifs,0⟩] scope pos) 0 (.ref it) acc { cenv with scope:=relabel scope X.env }) (RR acc cenv.locals) s₄) E s₃) E s₂:=by
 refine wpAny_newObj_type (wpAny_newFunctionEnv K.cell (by intro y hy;simp at hy) (fun h₁ hns₁ hsb₁=>?_) K.kind)
 dsimp only at hns₁ hsb₁ ⊢
 generalize hH2:s₂.heap.push { cls:=.type "list",dict:=none,data:=.seq ([]:List Value).toArray }=H2 at hns₁ hsb₁ ⊢
 have hCs:H2.objs.size=s₂.heap.objs.size + 1:=by rw [←hH2,Heap.size_push]
 have hDC:s₂.heap.objs.size≠H2.objs.size:=by rw [hCs];exact Nat.ne_of_lt (Nat.lt_succ_self _)
 have hC:s₂.heap.objs.size≤H2.objs.size:=by rw [hCs];exact Nat.le_succ _
 have hlt:∀b∈fp,b < s₂.heap.objs.size:=fun b hb=>by obtain ⟨o,e,_⟩:=T.obj 0 _ st b hb;exact Heap.lt_size e
 have old:∀b o,s₂.heap.get? b=some o→h₁.get? b=some o:=fun b o e=>hsb₁.extBut b o (by rw [hCs];exact Nat.ne_of_lt (Nat.lt_succ_of_lt (Heap.lt_size e))) (Heap.get?_push_of_some _ (hH2 ▸ Heap.get?_push_of_some _ e))
 have hacc:h₁.get? s₂.heap.objs.size=some { cls:=.type "list",data:=.seq ([]:List Value).toArray 0 }:=hsb₁.extBut _ _ hDC (Heap.get?_push_of_some _ (hH2 ▸ Heap.get?_push_size _ rfl))
 have st₁:tn 0 h₁:=T.keep _ _ _ st fun b _ o e=>old b o e
 have fpC:∀{H':Hp} {pl:List (Addr × Obj)},(∀p∈pl,∀b∈fp,p.1≠b)→(∀b∈fp,H' b=none)→∀b∈fp,Gm (cxC X (x::ys) scope H2.objs.size s₂ H₂ fp) pl H' b:=fun {H' pl} hpl hn b hb=>by
  have ok:=kH K hX I hC hfp hlt
  exact ⟨hn b hb,(ok.exf b hb).1,ok.exfs b hb,.inl hb,(ok.exf b hb).2,fun p hp=>hpl p hp b hb⟩
 have Dfp:∀(o:Obj),∀p∈[(s₂.heap.objs.size,o)],∀b∈fp,p.1≠b:=fun o p hp b hb e=>by
  have e1:p=(s₂.heap.objs.size,o):=by simpa using hp
  subst e1
  exact absurd (hlt b hb) (by rw [←e];exact Nat.lt_irrefl _)
 have loop:∀s₃:Shared,s₃={ s₂ with heap:=h₁,toks:=s₂.toks + ([]:List (Str × Value)).length } →
   codeAny (model X.prog X.w) X.A (.compLoop (.ListComp elt [⟨.Name x px,iter,ifs,0⟩] scope pos) 0 (.ref it) (.ref s₂.heap.objs.size) (compEnvC scope (qc X.env.cells scope.names []) H2.objs.size X.env))
    (RR (.ref s₂.heap.objs.size) H2.objs.size) s₃:=by
  rintro s₃ rfl
  have I0:=Zcb K hX hN hk I (tk:=s₂.toks + ([]:List (Str × Value)).length) hC (Nat.le_refl _) hDC hfp hlt old hns₁ hacc (fun v z=>by cases z)
  refine qe (fun n s'=>∃(i:Nat) (v0:Option V) (zs:List V) (its:List Value) (k:Nat) (H':Hp),Inv (cxC X (x::ys) scope H2.objs.size s₂ H₂ fp) [(s₂.heap.objs.size,{ cls:=.type "list",data:=.seq its.toArray k })] (GK is σ v0) H' s' ∧
   Vals zs its∧tn i s'.heap∧(∀b∈fp,H' b=none)∧W i n zs H') ?_ m0 ⟨0,none,[],[],0,H₂,I0,.nil,st₁,fun b hb=>(hfp b hb).1,w0⟩
  rintro n s3 ⟨i,v0,zs,its,k,H3,I3,rv,st3,fr3,w3⟩
  have hD3:=I3.pin _ (List.mem_append_right _ (List.mem_singleton.mpr rfl))
  rcases turn i n zs H3 w3 with ⟨stop,hz,q⟩ | ⟨go,hz,step⟩
  ·refine thn (T.done (cxC X (x::ys) scope H2.objs.size s₂ H₂ fp) rfl rfl rfl hc i _ s3 _ H3 _ I3 (fpC (Dfp _) fr3) st3 stop) fun r s4 ⟨hr,I4⟩=>?_
   subst hr
   have hD4:=I4.pin _ (List.mem_append_right _ (List.mem_singleton.mpr rfl))
   have I5:=jy I I4 (Nat.le_refl _) hD4.2.1 hfp hz rv hD4.1
   obtain ⟨m',hm',_⟩:=I4.loc
   refine fin _ _ s4 _ m' I5 ?_ hm' (q _ hD4.2.1)
   refine I.fpOk hC ?_
   rw [Zj (Ne.symm hDC)]
   exact I4.free
  ·refine thn (T.item (cxC X (x::ys) scope H2.objs.size s₂ H₂ fp) rfl rfl rfl hc i _ s3 _ H3 _ I3 (fpC (Dfp _) fr3) st3 go) fun r s4 ⟨u,hr,h4⟩=>?_
   subst hr
   refine thn h4 fun _ s5 ⟨xv,H5,I5,r5,y5,st5,fr5⟩=>?_
   have I5':=I5.pinned (fpC (Dfp _) fr5) (T.obj _ _ st5)
   have pg:PG (cxC X (x::ys) scope H2.objs.size s₂ H₂ fp) (.Name x px) (Jw 0):=Jx K.nd rfl (.inl (lookup_relabel_local K.own)) (.inr (lookup_relabel_local K.own))
   refine thn (pg _ s5 _ H5 xv u (fun σ2 H2=>σ2=GK is σ (some xv)∧H2=H5) I5' r5 ⟨rfl,rfl⟩) fun _ s6 ⟨σ6,H6,I6,e6,e6'⟩=>?_
   subst e6
   subst e6'
   have back:∀{s7:Shared} {H7:Hp},Inv (cxC X (x::ys) scope H2.objs.size s₂ H₂ fp) ([(s₂.heap.objs.size,{ cls:=.type "list",data:=.seq its.toArray k })]++GW fp s5.heap) (GK is σ (some xv)) H7 s7 →
     tn (i + 1) s7.heap∧(∀b∈fp,H7 b=none)∧s7.heap.get? s₂.heap.objs.size=some { cls:=.type "list",data:=.seq its.toArray k }∧H7 s₂.heap.objs.size=none:=fun {s7 H7} I7=>by
    refine ⟨T.keep _ _ _ st5 fun b hb o e=>(I7.pin (b,o) (List.mem_append_right _ (List.mem_append_right _ (Y5 hb e)))).1,fun b hb=>?_,?_,?_⟩
    ·obtain ⟨o,e,d⟩:=T.obj _ _ st5 b hb
     exact (I7.pin (b,o) (List.mem_append_right _ (List.mem_append_right _ (Y5 hb e)))).2.1
    ·exact (I7.pin (s₂.heap.objs.size,{ cls:=.type "list",data:=.seq its.toArray k }) (List.mem_append_right _ (List.mem_append_left _ (List.mem_singleton.mpr rfl)))).1
    ·exact (I7.pin (s₂.heap.objs.size,{ cls:=.type "list",data:=.seq its.toArray k }) (List.mem_append_right _ (List.mem_append_left _ (List.mem_singleton.mpr rfl)))).2.1
   refine thn ((hf _ _ _ _).out _ s6 _ H6 _ I6 (step xv H6 y5)) fun b s7 ⟨H7,I7,q7⟩=>?_
   cases b with
   | false =>
    have q7':∃m',m' < n∧W (i + 1) m' zs H7:=by simpa using q7
    obtain ⟨m',hm',w7⟩:=q7'
    obtain ⟨b1,b2,b3,b4⟩:=back I7
    rw [if_neg Bool.false_ne_true]
    exact ⟨m',hm',i + 1,some xv,zs,its,k,H7,I7.unpinned,rv,b1,b2,w7⟩
   | true =>
    rw [if_pos rfl]
    have q7':=q7
    rw [if_pos rfl] at q7'
    refine thn ((he _ _ _ _).out _ s7 _ H7 _ I7 q7') fun yv s8 ⟨y,H8,I8,r8,m',hm',w8⟩=>?_
    obtain ⟨b1,b2,b3,b4⟩:=back I8
    refine append_at b3 (fun h9 sb9 e9=>?_) (by rw [List.size_toArray,←rv.length];exact hz)
    have ok:=kH K hX I hC hfp hlt
    have I8':Inv (cxC X (x::ys) scope H2.objs.size s₂ H₂ fp) [] (GK is σ (some xv)) H8 s8:=I8.pins_of fun p hp=>by cases hp
    have I9:Inv (cxC X (x::ys) scope H2.objs.size s₂ H₂ fp) [] (GK is σ (some xv)) H8 { s8 with heap:=h9 }:=I8'.turned (t':=s8.toks) (it:=s₂.heap.objs.size) (fun b o hb e=>(sb9.2 b hb).trans e) b4 hDC (.inr (Nat.le_refl _))
     (fun y c h z=>by
      obtain ⟨v,o,ho,_⟩:=I.cell y c (K.cl hX I.ok y c h)
      have:=Heap.lt_size ho
      rw [z] at this
      exact Nat.lt_irrefl _ this) (fun p hp=>by cases hp)
    refine ⟨m',hm',i + 1,some xv,zs++[y],its++[yv],k + 1,H8,?_,rv.append (.cons r8 .nil),T.keep _ _ _ b1 fun b hb o e=>(sb9.2 b fun z=>absurd (hlt b hb) (by rw [z];exact Nat.lt_irrefl _)).trans e,b2,w8⟩
    refine I9.pins_of fun p hp=>?_
    have e1:p=(s₂.heap.objs.size,{ cls:=.type "list",data:=.seq (its++[yv]).toArray (k + 1) }):=by simpa using hp
    subst e1
    refine ⟨by rw [e9,List.push_toArray],b4,hDC,fun z=>?_,fun v z=>by cases z⟩
    obtain ⟨_,o,ho,_⟩:=ok.funs.mem z
    exact absurd (Heap.lt_size ho) (Nat.lt_irrefl _)
 exact codeAny_compStart_list (loop _ rfl) (T.self _ 0 _ _ _ st₁ (loop _ rfl))
end
section
variable {X:Cx}{S scope:Scope}{N:List Str}{x:Str}{ys:List Str}{is:List Nat}{elt iter:Expr}{px pos:Pos}{ifs:List Expr}{wi:TI}{tc:TT}{te:TE}
theorem J0(K:ZW S scope N x ys is)(hi:QI X (.Name x px) iter wi)(hf:∀C s₂ H₂ ex,QF (cxC X (x::ys) scope C s₂ H₂ ex) ifs tc)(he:∀C s₂ H₂ ex,QE (cxC X (x::ys) scope C s₂ H₂ ex) elt te)
  (hc:X.calm=true:=by rfl) (hX:X.env.scope=S:=by rfl) (hN:X.N=N:=by rfl) (hk:S.kind=.function:=by rfl) (hs:∀v,foldedSetIterable iter X.env v=pure v:=by intro _;rfl) :
  QE X (.ListComp elt [⟨.Name x px,iter,ifs,0⟩] scope pos) (Zd6 wi is tc te):=by
 refine ⟨fun pins s σ H Q I h=>?_⟩
 rw [eval_ListComp]
 refine wpAny_comprehension_free (use:=none) rfl hs (XT (K.cellOf' hX I.ok)) K.kind K.names (thn (hi.out pins s σ H _ I h) fun v s1 h1=>thn h1 fun itv s2 h2=>?_)
 obtain ⟨it,fp,tn,J,H2,rfl,I2,T,st2,f2,W,⟨m0,w0⟩,turn⟩:=h2
 refine xj (RR:=fun acc C=>compPost (model X.prog X.w) X.A X.xe none (EP X pins σ Q) acc C) K hX hN hk hc hf he I2 T st2 f2 w0 turn ?_
 intro D C s' H' m' I' fC hm' q
 obtain ⟨f0,f1,f3,f4,f5,f6⟩:=fC
 exact ⟨m',hm',fun h' hs'=>⟨.ref D,H',I'.turned (t':=s'.toks) (fun b o hb e=>(hs'.2 b hb).trans e) f0 f1 f4 f5 f6,rfl,q⟩⟩
theorem Zcc{i:Nat}{y:Str}{py spos:Pos}(hNd:X.N.Nodup)(hy:X.N[i]?=some y)(hl:X.env.scope.names.lookup y=some .local)(K:ZW S scope N x ys is)(hi:QI X (.Name x px) iter wi)
  (hf:∀C s₂ H₂ ex,QF (cxC X (x::ys) scope C s₂ H₂ ex) ifs tc) (he:∀C s₂ H₂ ex,QE (cxC X (x::ys) scope C s₂ H₂ ex) elt te)
  (hsw:swapsWith (.ListComp elt [⟨.Name x px,iter,ifs,0⟩] scope pos) (some (.Name y py)) spos.line X.env=pure true:=by rfl)
  (hc:X.calm=true:=by rfl) (hX:X.env.scope=S:=by rfl) (hN:X.N=N:=by rfl) (hk:S.kind=.function:=by rfl) (hs:∀v,foldedSetIterable iter X.env v=pure v:=by intro _;rfl) :
  QS X (.Assign [.Name y py] (.ListComp elt [⟨.Name x px,iter,ifs,0⟩] scope pos) spos) (Zbs (Zd6 wi is tc te) (Jw i)):=by
 refine ⟨fun pins s σ H D I h=>?_⟩
 rw [exec_Assign_Name_used _ _ _ _ hsw]
 refine wpAny_bind (wpAny_standAt (wpAny_bind ?_))
 show wpAny _ X.A (do let _ ←comprehension (.ListComp elt [⟨.Name x px,iter,ifs,0⟩] scope pos) scope X.env _ (newList []) false (eval iter X.env) (some (assign (.Name y py) X.env))) _ _ s
 refine wpAny_bind (thn (wpAny_comprehension_free (use:=some (assign (.Name y py) X.env)) (Q:=fun _ s'=>SP X pins D .next s') rfl hs (XT (K.cellOf' hX I.ok)) K.kind K.names
  (thn (hi.out pins s σ H _ I h) fun v s1 h1=>thn h1 fun itv s2 h2=>?_)) fun _ s' hq=>wpAny_pure (wpAny_pure hq))
 obtain ⟨it,fp,tn,J,H2,rfl,I2,T,st2,f2,W,⟨m0,w0⟩,turn⟩:=h2
 refine xj (RR:=fun acc C=>compPost (model X.prog X.w) X.A X.xe (some (assign (.Name y py) X.env)) (fun _ s'=>SP X pins D .next s') acc C) (Q:=fun v H=>D.nx (σ.set i (some v)) H) K hX hN hk hc hf he I2 T st2 f2 w0 turn ?_
 intro Dl C s' H' m' I' fC hm' q
 obtain ⟨f0,f1,f3,f4,f5,f6⟩:=fC
 show wpAny _ X.A (assign (.Name y py) X.env (.ref Dl)) _ _ _
 obtain ⟨oC,es,ep,hoC,hdC,hrC⟩:=hm'
 have Ip:Inv X (pins++[(C,oC)]) σ H' s':=I'.pins_of fun p hp=>(List.mem_append.mp hp).elim (fun z=>I'.pin p (List.mem_append_right _ z)) fun z=>by
  have e:p=(C,oC):=by simpa using z
  subst e
  exact ⟨hoC,f0,f1,f3,fun v z=>by rw [hdC] at z;cases z⟩
 refine wpAny_assign_Name (J6 Ip hNd hy (.inl hl) (v:=.ref Dl) rfl (fun s'' I''=>?_) (.inr hl))
 have hC2:=(I''.pin (C,oC) (List.mem_append_right _ (List.mem_append_right _ (List.mem_singleton.mpr rfl)))).1
 refine ⟨m',⟨oC,es,ep,hC2,hdC,hrC⟩,fun h' hs'=>⟨_,H',I''.unpinned.turned (t':=s''.toks) (fun b o hb e=>(hs'.2 b hb).trans e) f0 f1 f4 f5 f6,q⟩⟩
end
theorem Gp{lo:Int}{n:Nat}{is:List Nat}{tc:TT}{te:TE}{σ:St}{H:Hp}{Q:VK}(Pv:Nat→List V→Hp→Prop)(h0:Pv 0 [] H)(hl:∀i zs H,Pv i zs H→zs.length≤sizeLine)
  (hs:∀i zs H (R:List V→Hp→Prop),(∀zs H,Pv (i + 1) zs H→R zs H)→i < n→Pv i zs H→tc (GK is σ (some (.int (lo + i)))) H fun b H2=>if b=true then te (GK is σ (some (.int (lo + i)))) H2 fun y H3=>R (zs++[y]) H3 else R zs H2)
  (hd:∀zs H,Pv n zs H→∀p,H p=none→Q (.ref p) (upd H p (.lst zs))) :
  zB is tc te σ Q (Itr lo n) H:=by
 refine ⟨fun i m zs H=>m=n - i∧i≤n∧Pv i zs H,⟨n,by simp,Nat.zero_le _,h0⟩,?_⟩
 rintro i m zs H ⟨rfl,hi,p⟩
 by_cases hlt:i < n
 ·refine .inr ⟨hlt,hl i zs H p,fun x H' y=>?_⟩
  obtain ⟨e,y⟩:=y
  subst e y
  exact hs i zs _ (fun zs H=>∃m',m' < n - i∧m'=n - (i + 1)∧i + 1≤n∧Pv (i + 1) zs H) (fun zs H q=>⟨n - (i + 1),by lia,rfl,hlt,q⟩) hlt p
 ·have e:i=n:=by lia
  subst e
  exact .inl ⟨Nat.le_refl _,hl _ _ _ p,hd zs H p⟩
theorem gP{K:PySem.W.Frag}{a:Addr}{xs:List V}{is:List Nat}{tc:TT}{te:TE}{σ:St}{H:Hp}{Q:VK}(Pv:Nat→List V→Hp→Prop)(h0:Pv 0 [] H)(hl:∀i zs H,Pv i zs H→zs.length≤sizeLine)(hq:∀i zs H,Pv i zs H→SqT K H a xs)
  (hs:∀i x zs H (R:List V→Hp→Prop),(∀zs H,Pv (i + 1) zs H→R zs H)→xs[i]?=some x→Pv i zs H→tc (GK is σ (some x)) H fun b H2=>if b=true then te (GK is σ (some x)) H2 fun y H3=>R (zs++[y]) H3 else R zs H2)
  (hd:∀zs H,Pv xs.length zs H→∀p,H p=none→Q (.ref p) (upd H p (.lst zs))) :
  zB is tc te σ Q (Itt K a) H:=by
 refine ⟨fun i m zs H=>m=xs.length - i∧i≤xs.length∧Pv i zs H,⟨xs.length,by simp,Nat.zero_le _,h0⟩,?_⟩
 rintro i m zs H ⟨rfl,hi,p⟩
 by_cases hlt:i < xs.length
 ·refine .inr ⟨⟨xs,xs[i],hq i zs H p,List.getElem?_eq_getElem hlt⟩,hl i zs H p,fun x H' y=>?_⟩
  obtain ⟨e,y⟩:=y
  subst e
  exact hs i x zs _ (fun zs H=>∃m',m' < xs.length - i∧m'=xs.length - (i + 1)∧i + 1≤xs.length∧Pv (i + 1) zs H) (fun zs H q=>⟨xs.length - (i + 1),by lia,rfl,hlt,q⟩) (y xs (hq i zs _ p)) p
 ·have e:i=xs.length:=by lia
  exact .inl ⟨⟨xs,hq i zs H p,by lia⟩,hl _ _ _ p,by rw [e] at p;exact hd zs H p⟩
end L2
namespace HT
open PySem PySem.Spec PyProof.Rows
section
variable {prog:Program}{w:World}{A:Around}{E:Value→Shared→Prop}{s:Shared}
end
end HT
namespace L2
open PySem PySem.Spec PyProof.Rows
section
variable {X:Cx}{e st:Expr}{te ts:TE}{pos p2:Pos}
noncomputable def RvR(X:Cx)(r:V→Hp→VK→Prop):Prop :=
 ∀(pins:List (Addr × Obj)) (s:Shared) (σ:St) (H:Hp) (x:V) (v:Value) (t:Tok) (sl:Addr) (Q:VK),Inv X pins σ H s→RelV x v→s.heap.IsSliceOf sl .none .none (.int (-1) t)→r x H Q →
  ∃T id,typeLookup (.type T) "__getitem__" = pure (some (.builtin id))∧s.TypeIs v T∧wpAny (model X.prog X.w) X.A (getItem v (.ref sl)) (EP X pins σ Q) X.xe s
noncomputable def tRv(r:V→Hp→VK→Prop)(te ts:TE):TE:=fun σ H Q=>te σ H fun x H1=>ts σ H1 fun y H2=>y=.int (-1)∧r x H2 Q
theorem yf{r:V→Hp→VK→Prop}(hr:RvR X r)(he:QE X e te)(hst:QE X st ts):QE X (.Subscript e (.Slice none none (some st) p2) pos) (tRv r te ts):=by
 refine ⟨fun pins s σ H Q I h=>?_⟩
 refine Subscript_ (thn (he.out pins s σ H _ I h) fun v s1 ⟨x,H1,I1,r1,q1⟩=>?_)
 refine wpAny_Slice ?_
 rw [evalPart_none]
 refine wpAny_pure ?_
 refine wpAny_pure ?_
 rw [evalPart_some]
 refine thn (hst.out pins s1 σ H1 _ I1 q1) fun vs s3 ⟨y,H3,I3,r3,e3,q3⟩=>?_
 subst e3
 obtain ⟨t,rfl⟩:=r3
 have I4:Inv X pins σ H3 { s3 with heap:=s3.heap.push { cls:=.type "slice",data:=.fields #[.none,.none,.int (-1) t] } }:=I3.kept (t':=s3.toks) fun b ob q=>Heap.get?_push_of_some _ q
 obtain ⟨T,id,hT,ht,hg⟩:=hr pins { s3 with heap:=s3.heap.push { cls:=.type "slice",data:=.fields #[.none,.none,.int (-1) t] } } σ H3 x v t s3.heap.objs.size Q I4 r1 (Heap.IsSliceOf.new ..) q3
 show wpAny (model X.prog X.w) X.A (subscriptTail e (.Slice none none (some st) p2) v (.ref s3.heap.objs.size)) (EP X pins σ Q) X.xe { s3 with heap:=s3.heap.push { cls:=.type "slice",data:=.fields #[.none,.none,.int (-1) t] } }
 exact tail_any (ops:=[v,.ref s3.heap.objs.size]) ht hT hg (by with_unfolding_all rfl)
noncomputable def rRvL(K:PySem.W.Frag):V→Hp→VK→Prop:=fun x H Q=>∃a xs,x=.ref a∧SqL K H a xs∧∀p,H p=none→Q (.ref p) (upd H p (.lst xs.reverse))
theorem xF:RvR X (rRvL X.K):=by
 intro pins s σ H x v t sl Q I rx hs h
 obtain ⟨a,xs,rfl,hx,q⟩:=h
 cases rx
 obtain ⟨its,r,ht,hz⟩:=I.list hx
 have hlen:=r.length
 refine ⟨"list",_,slot_list_getitem.lookup,ht.isList.typeIs,?_⟩
 refine wpAny_getItem_list_slice ht.isList hs .none .none (.int (-1) t) (by decide) ?_ (by rw [List.size_toArray] <;> lia)
 rw [PySem.W.krv_pick]
 refine ⟨.ref s.heap.objs.size,_,I.laid (t':=s.toks) (o:=.lst xs.reverse) (fun b ob q=>Heap.get?_push_of_some _ q) (Nat.le_refl _) ?_,rfl,q _ (I.hok.fresh (Nat.le_refl _))⟩
 exact ⟨by rw [List.length_reverse];exact hz,_,0,r.reverse,Heap.get?_push_size _ rfl⟩
end
theorem JB{k:Nat}{A:Around}(hr:Wi k A):A.units < cLine:=hr.units0
end L2
namespace RvT
open PySem PySem.Spec PyProof.Rows
theorem zC:Manifest.owners.lookup (String.ofList ['d','e','s','r','e','v','e','r'].reverse)=some Manifest.sig_reversed:=by kernel_rfl
theorem slot_next:Slot "reversed" "__next__" "reversed.__next__" :=
 .of (owner := "reversed") (n := "__next__") (by rw [typeLookup_type,builtinLookup_eq_fast];kernel_rfl) (by decide +kernel) (by decide +kernel) (by decide +kernel)
  (by first | exact .inl (by decide +kernel) | exact .inr (by decide +kernel)) (by rw [isSubtype_type];kernel_rfl)
theorem entry_next:entryFor table "reversed.__next__" = some Builtin.«reversed.__next__»:=entryFor_of_tree (by kernel_rfl)
theorem args_next (a:Value):argsOk "reversed.__next__" ⟨[a],[]⟩:=by
 unfold argsOk;rw [signature?_of (id := "reversed.__next__") (n:=['_','_','t','x','e','n','_','_']) (o:=['d','e','s','r','e','v','e','r']) (by kernel_rfl) zC];kernel_rfl
theorem zD:Slot "reversed" "__iter__" "reversed.__iter__" :=
 .of (owner := "reversed") (n := "__iter__") (by rw [typeLookup_type,builtinLookup_eq_fast];kernel_rfl) (by decide +kernel) (by decide +kernel) (by decide +kernel)
  (by first | exact .inl (by decide +kernel) | exact .inr (by decide +kernel)) (by rw [isSubtype_type];kernel_rfl)
theorem kI (a:Value):argsOk "reversed.__iter__" ⟨[a],[]⟩:=by
 unfold argsOk;rw [signature?_of (id := "reversed.__iter__") (n:=['_','_','r','e','t','i','_','_']) (o:=['d','e','s','r','e','v','e','r']) (by kernel_rfl) zC];kernel_rfl
theorem yN:entryFor table "reversed.__iter__" = some Builtin.«dict_keyiterator.__iter__» :=
 entryFor_alias (id' := "dict_keyiterator.__iter__") (by kernel_rfl) (by first | rfl | decide +kernel | (unfold String.splitOn;simp +decide [String.splitOnAux])) (by decide +kernel) (by kernel_rfl)
theorem kJ:Slot "reversed" "__init__" "object.__init__" :=
 .of (owner := "object") (n := "__init__") (by rw [typeLookup_type,builtinLookup_eq_fast];kernel_rfl) (by decide +kernel) (by decide +kernel) (by decide +kernel)
  (by first | exact .inl (by decide +kernel) | exact .inr (by decide +kernel)) (by rw [isSubtype_type];kernel_rfl)
theorem called:TypeCalled "reversed" "reversed.__new__" "object.__init__" :=
 ⟨by decide +kernel,F.create_reversed,⟨_,_,F.mro_reversed⟩,F.made_reversed,F.plain_reversed_new,F.sub_reversed_self,kJ⟩
theorem jz:typeLookup (.type "tuple") "__reversed__" = pure none:=by rw [typeLookup_type,builtinLookup_eq_fast];kernel_rfl
theorem sub_tuple_dict:isSubtype (.type "tuple") (.type "dict")=pure false:=by rw [isSubtype_type];kernel_rfl
noncomputable def revObj (t:Addr) (i:Int):Obj:={ cls:=.type "reversed",data:=.fields #[.ref t,rawInt i] }
noncomputable def IsRev (h:Heap) (a t:Addr) (i:Int):Prop:=∃o,h.get? a=some o∧o.cls=.type "reversed" ∧ o.data=.fields #[.ref t,rawInt i]
theorem IsRev.typeIs {s:Shared} {a t:Addr} {i:Int} (x:IsRev s.heap a t i):s.TypeIs (.ref a) "reversed" := let ⟨o,ho,hc,_⟩:=x;⟨o,ho,hc⟩
theorem IsRev.at{h h':Heap}{a t:Addr}{i:Int}(x:IsRev h a t i)(e:∀o,h.get? a=some o→h'.get? a=some o):IsRev h' a t i:=let ⟨o,ho,r⟩:=x;⟨o,e _ ho,r⟩
section
variable {prog:Program}{w:World}{A:Around}{E:Value→Shared→Prop}{s:Shared}
theorem WC(t:Addr)(items:Array Value)(hz:items.size < 2 ^ 63) :
  Meets (Builtin.«reversed.__new__» ⟨[.type "reversed",.ref t],[]⟩) (fun _ R s=>IsTup s.heap t items∧∀tk,R (.ok (.ret (.ref s.heap.objs.size))) { s with heap:=s.heap.push (revObj t ((items.size:Int) - 1)),toks:=tk }) :=
 .of_wp fun prog w A R s h=>by
  obtain ⟨ht,h⟩:=h
  unfold Builtin.«reversed.__new__»
  refine wpAny_bind (wpAny_of_eq (newClass_reversed _) ?_)
  try dsimp only
  refine wpAny_bind (wpAny_of_eq (a:=()) (by first | rfl | kernel_rfl) ?_)
  refine wpAny_bind (wpAny_of_eq (a:=()) (by first | rfl | kernel_rfl) ?_)
  try dsimp only
  refine wpAny_bind (wpAny_specialOf ht.typeIs jz ?_)
  try dsimp only
  refine wpAny_bind ?_
  show wpAny _ _ (isInstance (Value.ref t) (.type "dict") >>= _) _ _ _
  refine wpAny_bind (wpAny_isInstance (T := "tuple") (b:=false) ht.typeIs sub_tuple_dict ?_)
  simp only [Bool.false_eq_true,if_false]
  refine wpAny_bind (wpAny_specialOf ht.typeIs PyProof.Rows.slot_tuple_getitem.lookup ?_)
  try dsimp only
  rw [if_pos (by decide +kernel)]
  refine wpAny_pure ?_
  simp only [Bool.not_true,Bool.false_eq_true,if_false]
  refine wpAny_bind (len_tuple ht (by lia) ?_)
  refine wpAny_bind (wpAny_of_eq (a:=some (items.size:Int)) rfl ?_)
  try dsimp only
  refine wpAny_bind (m:=newObj (.type "reversed") (.fields #[.ref t,rawInt ((items.size:Int) - 1)])) (wpAny_newObj_type ?_)
  exact wpAny_pure ⟨_,rfl,h _⟩
theorem call_rev{t:Addr}{items:Array Value}{Q:Value→Shared→Prop}(ht:IsTup s.heap t items)(hz:items.size < 2 ^ 63)(h:∀tk,Q (.ref s.heap.objs.size) { s with heap:=s.heap.push (revObj t ((items.size:Int) - 1)),toks:=tk }) :
  wpAny (model prog w) A (call (.type "reversed") [.ref t]) Q E s :=
 callType_new called (by decide) (F.typeCall_reversed_1 _) (F.newCall_reversed_1 _) (fun obj=>F.args_object_init_2 obj _) F.entry_reversed_new (WC t items hz)
  ⟨ht,fun tk=>⟨⟨_,Heap.get?_push_size _ rfl,rfl⟩,h tk⟩⟩
theorem next_item{it t:Addr}{i:Nat}{items:Array Value}{x:Value}{Q:Option Value→Shared→Prop}(hit:IsRev s.heap it t (i:Int))(ht:IsTup s.heap t items)(hi:(i:Int) < 2 ^ 63)(hx:items[i]?=some x)(hne:t≠it)
  (hQ:∀h' tk,IsRev h' it t ((i:Int) - 1)→Heap.SameBut it s.heap h'→Q (some x) { s with heap:=h',toks:=tk }):wpAny (model prog w) A (pyNext (.ref it)) Q E s:=by
 obtain ⟨o,ho,hc,hd⟩:=id hit
 unfold pyNext
 refine wpAny_bind (wpAny_attempt (wpAny_callSpecial?_slot (name:=Str.ofString "__next__") hit.typeIs slot_next
  (wpAny_call_entry slot_next hit.typeIs entry_next ?_ (args_next _))))
 unfold Builtin.«reversed.__next__»
 refine wpAny_bind (wpAny_of_eq (a:=(Value.ref it,[])) rfl ?_)
 try dsimp only
 refine wpAny_bind (wpAny_field ho hd (x:=.ref t) rfl ?_)
 refine wpAny_bind (wpAny_field ho hd (x:=rawInt (i:Int)) rfl ?_)
 show wpAny _ _ (if (i:Int) < 0 then _ else _) _ _ s
 rw [if_neg (by lia)]
 refine wpAny_bind (wpAny_specialOf ht.typeIs PyProof.Rows.slot_tuple_getitem.lookup ?_)
 simp only [Option.isNone_some,Bool.false_eq_true,if_false]
 refine wpAny_bind (wpAny_mkInt ?_)
 have hsz:=(Array.getElem?_eq_some_iff.mp hx).1
 refine wpAny_bind (wpAny_attempt (getItem_tuple (s:={ s with toks:=s.toks + 1 }) (j:=i) ht (by lia) hi (by rw [seqIndex_of (by lia) (by lia),Int.toNat_natCast]) hx ?_))
 show wpAny _ _ (field (.ref it) 1 >>= _) _ _ _
 refine wpAny_bind (wpAny_field (s:={ s with toks:=s.toks + 1 }) ho hd (x:=rawInt (i:Int)) rfl ?_)
 show wpAny _ _ (setField (.ref it) 1 (rawInt ((i:Int) - 1)) >>= _) _ _ _
 refine wpAny_bind (wpAny_setField (s:={ s with toks:=s.toks + 1 }) ho hd (by simp) ?_)
 refine wpAny_pure ⟨x,rfl,wpAny_pure (hQ _ _ ?_ (Heap.SameBut.update ..))⟩
 exact ⟨_,Heap.get?_update_self _ ho (Obj.isFreed_of_fields (Obj.data_mapFields hd _)),(Obj.cls_mapFields ..).trans hc,by
  rw [Obj.data_mapFields hd];simp⟩
theorem next_end{it t:Addr}{Q:Option Value→Shared→Prop}(hh:A.handled=none)(hit:IsRev s.heap it t (-1))
  (hQ:∀h',(∀b o,b≠it→s.heap.get? b=some o→h'.get? b=some o)→Q none { s with heap:=h' }):wpAny (model prog w) A (pyNext (.ref it)) Q E s:=by
 obtain ⟨o,ho,hc,hd⟩:=id hit
 unfold pyNext
 refine wpAny_bind (wpAny_attempt (wpAny_callSpecial?_slot (name:=Str.ofString "__next__") hit.typeIs slot_next
  (wpAny_call_entry slot_next hit.typeIs entry_next ?_ (args_next _))))
 unfold Builtin.«reversed.__next__»
 refine wpAny_bind (wpAny_of_eq (a:=(Value.ref it,[])) rfl ?_)
 try dsimp only
 refine wpAny_bind (wpAny_field ho hd (x:=.ref t) rfl ?_)
 refine wpAny_bind (wpAny_field ho hd (x:=rawInt (-1)) rfl ?_)
 show wpAny _ _ (if (-1:Int) < 0 then _ else _) _ _ s
 rw [if_pos (by decide)]
 refine wpAny_bind (wpAny_rule ?_)
 refine wpAny_bind ?_
 show wpAny _ _ (setField (.ref it) 1 (rawInt (-1)) >>= _) _ _ _
 refine wpAny_bind (wpAny_setField ho hd (by simp) ?_)
 have ho2:=Heap.get?_update_self (Obj.mapFields (·.setIfInBounds 1 (rawInt (-1)))) ho (Obj.isFreed_of_fields (Obj.data_mapFields hd _))
 refine wpAny_setField ho2 (Obj.data_mapFields hd _) (by simp) ?_
 first
 | show wpAny _ _ (newExc (.type "StopIteration") [] >>= _) _ _ _
 | (refine wpAny_bind ?_;show wpAny _ _ (newExc (.type "StopIteration") [] >>= _) _ _ _)
 refine wpAny_bind ?_
 simp only [newExc,newTuple]
 refine wpAny_bind (wpAny_newObj_type ?_ (by size_fits))
 refine wpAny_bind (m:=firstArgMember _ _) (wpAny_of_eq (a:=Value.none) (by first | rfl | (simp only [firstArgMember];rfl)) ?_)
 refine wpAny_newObj_type ?_ (by size_fits)
 simp only [raiseNew]
 refine wpAny_bind (wpAny_handled ?_)
 first | rw [show A.in1.handled=none from hh] | rw [hh]
 refine wpAny_bind (wpAny_pure (wpAny_throw ?_))
 refine wpAny_bind (wpAny_isInstance (T := "StopIteration") (b:=true) ⟨_,Heap.get?_push_size _ rfl,rfl⟩ isSubtype_stop ?_)
 refine wpAny_pure (hQ _ fun b ob hb e=>?_)
 exact Heap.get?_push_of_some _ (Heap.get?_push_of_some _ ((Heap.get?_update_other _ _ (Ne.symm hb)).trans ((Heap.get?_update_other _ _ (Ne.symm hb)).trans e)))
theorem iter_self{it t:Addr}{i:Int}{Q:Value→Shared→Prop}(hit:IsRev s.heap it t i)(h:Q (.ref it) s):wpAny (model prog w) A (pyIter (.ref it)) Q E s:=by
 refine wpAny_pyIter_slot hit.typeIs zD (wpAny_call_entry zD hit.typeIs yN ?_ (kI _))
 show wpAny _ _ (ret (.ref it)) _ _ s
 exact wpAny_pure ⟨_,rfl,"reversed",_,hit.typeIs,slot_next.lookup,h⟩
end
end RvT
namespace L2
open PySem PySem.Spec PyProof.Rows
noncomputable def Itv(K:PySem.W.Frag)(a:Addr)(n:Nat):It :=
 ⟨fun i H=>∃xs x,SqT K H a xs∧xs.length=n∧xs.reverse[i]?=some x,fun i H x H'=>H'=H∧∀xs,SqT K H a xs→xs.reverse[i]?=some x,fun i _=>i=n⟩
theorem gQ{P:Program}{w:World}{K:PySem.W.Frag}{tg:Expr}(a it:Addr)(n:Nat)(hne:a≠it):Turn P w K tg (Itv K a n) [it] it (fun i h=>RvT.IsRev h it a ((n:Int) - 1 - (i:Int))) where
 mem:=by simp
 obj:=fun i h st b hb=>by
  have e:b=it:=by simpa using hb
  subst e
  obtain ⟨o,e,c,d⟩:=st
  exact ⟨o,e,fun v z=>by rw [d] at z;cases z⟩
 keep:=fun i h h' st k=>st.at fun o e=>k it (by simp) o e
 item:=by
  intro X hP hw hK hc i pins s σ H E I hf st hg
  subst hP hw hK
  obtain ⟨xs,x,hq,hn,hx⟩:=hg
  obtain ⟨its,rv,p,hz⟩:=I.tuple hq
  have hi:i < xs.length:=by
   have:=(List.getElem?_eq_some_iff.mp hx).1
   rw [List.length_reverse] at this
   exact this
  have hx':xs[xs.length - 1 - i]?=some x:=by rw [←List.getElem?_reverse hi];exact hx
  obtain ⟨u,hu,ru⟩:=rv.get hx'
  obtain ⟨f0,f1,f2,f3,f4,f5⟩:=hf it (by simp)
  have e0:(n:Int) - 1 - (i:Int)=((xs.length - 1 - i:Nat):Int):=by lia
  have hl:=GX
  rw [e0] at st
  refine RvT.next_item (items:=its.toArray) (x:=u) st p (by lia) (by simpa using hu) hne fun h' tk st' sb=>?_
  have I1:Inv X pins σ H { s with heap:=h',toks:=tk }:=I.turned (fun b o hb e=>(sb.2 b hb).trans e) f0 f1 f3 f4 f5
  have e1:((xs.length - 1 - i:Nat):Int) - 1=(n:Int) - 1 - ((i + 1:Nat):Int):=by lia
  rw [e1] at st'
  obtain ⟨o,e,c,d⟩:=id st'
  exact ⟨u,rfl,yF (s:={ s with heap:=h',toks:=tk }) e c d (by decide) ⟨x,H,I1,ru,⟨rfl,fun ys hy=>by rw [I.tuple_inj hy hq];exact hx⟩,st',fun b hb=>(hf b hb).1⟩⟩
 done:=by
  intro X hP hw hK hc i pins s σ H E I hf st hg
  subst hP hw hK
  obtain ⟨f0,f1,f2,f3,f4,f5⟩:=hf it (by simp)
  have hg':i=n:=hg
  have e0:(n:Int) - 1 - (i:Int)=-1:=by lia
  rw [e0] at st
  exact RvT.next_end (I.ok.hd hc) st fun h' eb=>⟨rfl,I.turned (t':=s.toks) (fun b o hb e=>eb b o hb e) f0 f1 f3 f4 f5⟩
 self:=fun _ _ _ _ _ st h=>RvT.iter_self st h
inductive Za2(K:PySem.W.Frag)(R:It→Hp→Prop)(x:V)(H1:Hp):Prop
 | mk (a xs):(x=.ref a)→(SqT K H1 a xs)→(R (Itv K a xs.length) H1)→Za2 K R x H1
noncomputable def iRev(K:PySem.W.Frag)(te:TE):TI:=fun σ H R=>te σ H fun x H1=>Za2 K R x H1
theorem kK {X:Cx} {tg e:Expr} {te:TE} {p pos:Pos} (hg:Gl X "reversed") (hm:X.mg "reversed" = none) (he:QE X e te) (hp:Yp e=true:=by rfl):QI X tg (.Call (.Name "reversed" p) [e] [] pos) (iRev X.K te):=by
 refine ⟨fun pins s σ H R I h=>?_⟩
 have hs:starEach [e] X.env=[(false,eval e X.env)]:=by rw [Zz hp];rfl
 refine Call_ (GV I hg hm ju (PyProof.Rows.callWith_type1 ?_ hs rfl))
 rw [hs]
 show wpAny _ _ (spliced ((false,eval e X.env)::[])) _ _ s
 refine Calls.spliced_cons (thn (he.out pins s σ H _ I h) fun u s1 ⟨x,H1,I1,ru,q1⟩=>?_)
 refine Calls.spliced_nil ?_
 obtain ⟨a,xs,rfl,hq,q⟩:=q1
 cases ru
 obtain ⟨its,rv,pt,hz⟩:=I1.tuple hq
 have hl:=GX
 have hlen:=rv.length
 refine RvT.call_rev pt (by rw [List.size_toArray];lia) fun tk=>?_
 have I2:Inv X pins σ H1 { s1 with heap:=s1.heap.push (RvT.revObj a ((its.toArray.size:Int) - 1)),toks:=tk }:=I1.kept fun b o e=>Heap.get?_push_of_some _ e
 have e0:(xs.length:Int) - 1 - ((0:Nat):Int)=(its.toArray.size:Int) - 1:=by rw [List.size_toArray,←hlen];lia
 have st:RvT.IsRev (s1.heap.push (RvT.revObj a ((its.toArray.size:Int) - 1))) s1.heap.objs.size a ((xs.length:Int) - 1 - ((0:Nat):Int)):=by
  rw [e0]
  exact ⟨_,Heap.get?_push_size _ rfl,rfl,rfl⟩
 refine RvT.iter_self st ⟨s1.heap.objs.size,[s1.heap.objs.size],_,_,H1,rfl,I2,gQ a _ xs.length (Nat.ne_of_lt pt.lt),st,fun b hb=>?_,q⟩
 have e:b=s1.heap.objs.size:=by simpa using hb
 subst e
 exact I1.fpOk (Nat.le_refl _) (I1.hok.fresh (Nat.le_refl _)) |> fun f=>f
theorem kL{K:PySem.W.Frag}{a:Addr}{xs:List V}{g:TG}{tb:TS}{D:Ends}{σ:St}{H:Hp}(Pv:Nat→St→Hp→Prop)(h0:Pv 0 σ H)(hl:∀i σ H,i≤xs.length→Pv i σ H→SqT K H a xs)
  (hs:∀i x σ H,xs.reverse[i]?=some x→Pv i σ H→g x σ H fun σ2 H2=>tb { D with nx:=Pv (i + 1),ct:=Pv (i + 1),bk:=D.nx } σ2 H2) (hd:∀σ H,Pv xs.length σ H→D.nx σ H) :
  ∃W:Nat→Nat→St→Hp→Prop,(∃m,W 0 m σ H)∧∀i m σ H,W i m σ H →
   ((Itv K a xs.length).stop i H∧D.nx σ H)∨((Itv K a xs.length).go i H∧∃N:St→Hp→Prop,(∀σ' H',N σ' H'→∃m',m' < m∧W (i + 1) m' σ' H')∧∀x H',(Itv K a xs.length).yld i H x H'→g x σ H' fun σ2 H2=>tb { D with nx:=N,ct:=N,bk:=D.nx } σ2 H2):=by
 refine ⟨fun i m σ H=>m=xs.length - i∧i≤xs.length∧Pv i σ H,⟨xs.length,by simp,Nat.zero_le _,h0⟩,?_⟩
 rintro i m σ H ⟨rfl,hi,p⟩
 by_cases hlt:i < xs.length
 ·have hlt':i < xs.reverse.length:=by rw [List.length_reverse];exact hlt
  refine .inr ⟨⟨xs,xs.reverse[i],hl i σ H hi p,rfl,List.getElem?_eq_getElem hlt'⟩,Pv (i + 1),fun σ' H' p'=>⟨xs.length - (i + 1),by lia,rfl,hlt,p'⟩,fun x H' y=>?_⟩
  obtain ⟨e,y⟩:=y
  subst e
  exact hs i x σ _ (y xs (hl i σ _ hi p)) p
 ·have e:i=xs.length:=by lia
  exact .inl ⟨e,by rw [e] at p;exact hd σ H p⟩
end L2
namespace HT
open PySem PySem.Spec PyProof.Rows
section
variable {prog:Program}{w:World}{A:Around}{E:Value→Shared→Prop}{s:Shared}
end
end HT
namespace L2
open PySem PySem.Spec PyProof.Rows
section
variable {X:Cx}
end
section
variable {X:Cx}
theorem kM:SlR X (fun x lo hi H Q=>∃z,x=.str z∧z.length≤sizeLine∧Q (.str (Txt.slice z lo hi)) H):=by
 intro pins s σ H x v vl vu lo hi sl Q I rx hs pl pu h
 obtain ⟨z,rfl,hz,q⟩:=h
 obtain ⟨t,rfl⟩:=rx
 refine ⟨"str",_,F.slot_str_getitem.lookup,typeIs_str _ _ _,?_⟩
 have fin:∀t' k,EP X pins σ Q (.str (Txt.slice z lo hi) t') { s with toks:=k }:=fun t' k=>⟨.str _,H,I.tok _,⟨_,rfl⟩,q⟩
 cases pl with
 | none =>
  cases pu with
  | none=>exact wpAny_getItem_str_slice (l:=none) (u:=none) (st:=none) hs rfl (post_val_or_str ⟨Nat.le_trans (Txt.slice_le z _ _) hz,fin⟩)
  | int j uj=>exact wpAny_getItem_str_slice (l:=none) (u:=some (j,uj)) (st:=none) hs rfl (post_val_or_str ⟨Nat.le_trans (Txt.slice_le z _ _) hz,fin⟩)
 | int i ui =>
  cases pu with
  | none=>exact wpAny_getItem_str_slice (l:=some (i,ui)) (u:=none) (st:=none) hs rfl (post_val_or_str ⟨Nat.le_trans (Txt.slice_le z _ _) hz,fin⟩)
  | int j uj=>exact wpAny_getItem_str_slice (l:=some (i,ui)) (u:=some (j,uj)) (st:=none) hs rfl (post_val_or_str ⟨Nat.le_trans (Txt.slice_le z _ _) hz,fin⟩)
theorem yO{ys:List Str}:∀{us:List Value},Vals (ys.map V.str) us→StrsAre us ys:=by
 induction ys with
 | nil=>intro us r;rw [List.map_nil] at r;cases r;exact .nil
 | cons n ns ih =>
  intro us r
  rw [List.map_cons] at r
  cases r with
  | cons r1 r2 =>
   obtain ⟨t,e⟩:=r1
   subst e
   exact .cons n t (ih r2)
theorem Zcd:MtR X "str.join" (fun x vs H Q=>∃(z:Str) (p:Addr) (ys:List Str),x=.str z∧vs=[.ref p]∧SqL X.K H p (ys.map V.str)∧(ys.map (·.length)).sum + ys.length * z.length≤16777216∧Q (.str (Txt.join z ys)) H):=by
 intro pins s σ H x vs v us Q I rx rv h
 obtain ⟨z,p,ys,rfl,rfl,hq,hok,q⟩:=h
 obtain ⟨t,rfl⟩:=rx
 obtain ⟨u,rfl,ru⟩:=vals1 rv
 cases ru
 obtain ⟨its,r',pl,hz⟩:=I.list hq
 exact join_list pl.isList (yO r') hok fun t' k=>⟨.str _,H,I.tok _,⟨_,rfl⟩,q⟩
end
theorem zE{K:PySem.W.Frag}{a:Addr}{xs:List V}{is:List Nat}{tc:TT}{te:TE}{σ:St}{H:Hp}{Q:VK}(Pv:Nat→List V→Hp→Prop)(h0:Pv 0 [] H)(hl:∀i zs H,Pv i zs H→zs.length≤sizeLine)(hq:∀i zs H,Pv i zs H→SqL K H a xs)
  (hs:∀i x zs H (R:List V→Hp→Prop),(∀zs H,Pv (i + 1) zs H→R zs H)→xs[i]?=some x→Pv i zs H→tc (GK is σ (some x)) H fun b H2=>if b=true then te (GK is σ (some x)) H2 fun y H3=>R (zs++[y]) H3 else R zs H2)
  (hd:∀zs H,Pv xs.length zs H→∀p,H p=none→Q (.ref p) (upd H p (.lst zs))) :
  zB is tc te σ Q (Itl K a) H:=by
 refine ⟨fun i m zs H=>m=xs.length - i∧i≤xs.length∧Pv i zs H,⟨xs.length,by simp,Nat.zero_le _,h0⟩,?_⟩
 rintro i m zs H ⟨rfl,hi,p⟩
 by_cases hlt:i < xs.length
 ·refine .inr ⟨⟨xs,xs[i],hq i zs H p,List.getElem?_eq_getElem hlt⟩,hl i zs H p,fun x H' y=>?_⟩
  obtain ⟨e,y⟩:=y
  subst e
  exact hs i x zs _ (fun zs H=>∃m',m' < xs.length - i∧m'=xs.length - (i + 1)∧i + 1≤xs.length∧Pv (i + 1) zs H) (fun zs H q=>⟨xs.length - (i + 1),by lia,rfl,hlt,q⟩) (y xs (hq i zs _ p)) p
 ·have e:i=xs.length:=by lia
  exact .inl ⟨⟨xs,hq i zs H p,by lia⟩,hl _ _ _ p,by rw [e] at p;exact hd zs H p⟩
noncomputable def Its(x:Str):It:=⟨fun i _=>i < x.cps.size,fun i H v H'=>H'=H∧∃c,x.cps[i]?=some c∧v=.str ⟨#[c]⟩,fun i _=>i=x.cps.size⟩
theorem gR {P:Program} {w:World} {K:PySem.W.Frag} {tg:Expr} (it:Addr) (x:Str) (t:Tok) (T:String) (hT:T = "str_ascii_iterator" ∨ T = "str_iterator"):Turn P w K tg (Its x) [it] it (fun i h=>h.IsStrIter it T x t i) where
 mem:=by simp
 obj:=fun i h st b hb=>by
  have e:b=it:=by simpa using hb
  subst e
  obtain ⟨o,e,c,d⟩:=st
  exact ⟨o,e,fun v z=>by rw [d] at z;cases z⟩
 keep:=fun i h h' st k=>let ⟨o,ho,r⟩:=st;⟨o,k it (by simp) o ho,r⟩
 item:=by
  intro X hP hw hK hc i pins s σ H E I hf st hg
  subst hP hw hK
  obtain ⟨f0,f1,f2,f3,f4,f5⟩:=hf it (by simp)
  rcases hT with rfl | rfl
  ·refine (Walks.strAscii (prog:=X.prog) (w:=X.w) (I.ok.hd hc) it x t).item i s _ _ hg st fun v h' tk hv st' kk=>?_
   obtain ⟨c,u,hc',rfl⟩:=hv
   have I1:Inv X pins σ H { s with heap:=h',toks:=tk }:=I.turned (fun b o hb e=>kk b o (by simpa using hb) e) f0 f1 f3 f4 f5
   obtain ⟨o,e,cc,d⟩:=id st'
   exact ⟨_,rfl,yF (s:={ s with heap:=h',toks:=tk }) e cc d (by decide) ⟨.str ⟨#[c]⟩,H,I1,⟨_,rfl⟩,⟨rfl,c,hc',rfl⟩,st',fun b hb=>(hf b hb).1⟩⟩
  ·refine (Walks.strWide (prog:=X.prog) (w:=X.w) (I.ok.hd hc) it x t).item i s _ _ hg st fun v h' tk hv st' kk=>?_
   obtain ⟨c,u,hc',rfl⟩:=hv
   have I1:Inv X pins σ H { s with heap:=h',toks:=tk }:=I.turned (fun b o hb e=>kk b o (by simpa using hb) e) f0 f1 f3 f4 f5
   obtain ⟨o,e,cc,d⟩:=id st'
   exact ⟨_,rfl,yF (s:={ s with heap:=h',toks:=tk }) e cc d (by decide) ⟨.str ⟨#[c]⟩,H,I1,⟨_,rfl⟩,⟨rfl,c,hc',rfl⟩,st',fun b hb=>(hf b hb).1⟩⟩
 done:=by
  intro X hP hw hK hc i pins s σ H E I hf st hg
  subst hP hw hK
  obtain ⟨f0,f1,f2,f3,f4,f5⟩:=hf it (by simp)
  have hg':i=x.cps.size:=hg
  subst hg'
  rcases hT with rfl | rfl
  ·exact (Walks.strAscii (prog:=X.prog) (w:=X.w) (I.ok.hd hc) it x t).done s _ _ st fun h' tk kk=>⟨rfl,I.turned (t':=tk) (fun b o hb e=>kk b o (by simpa using hb) e) f0 f1 f3 f4 f5⟩
  ·exact (Walks.strWide (prog:=X.prog) (w:=X.w) (I.ok.hd hc) it x t).done s _ _ st fun h' tk kk=>⟨rfl,I.turned (t':=tk) (fun b o hb e=>kk b o (by simpa using hb) e) f0 f1 f3 f4 f5⟩
 self:=fun A i s Q E st h=>by
  rcases hT with rfl | rfl
  ·exact wpAny_pyIter_striter_ascii st h
  ·exact wpAny_pyIter_striter_wide st h
inductive Za3(R:It→Hp→Prop)(v:V)(H1:Hp):Prop
 | mk (x):(v=.str x)→(R (Its x) H1)→Za3 R v H1
noncomputable def iStr(te:TE):TI:=fun σ H R=>te σ H fun v H1=>Za3 R v H1
theorem qi_str{X:Cx}{tg l:Expr}{tl:TE}(hl:QE X l tl):QI X tg l (iStr tl):=by
 refine ⟨fun pins s σ H R I h=>?_⟩
 refine thn (hl.out pins s σ H _ I h) fun v s1 ⟨y,H1,I1,r1,q1⟩=>?_
 obtain ⟨x,rfl,q⟩:=q1
 obtain ⟨t,rfl⟩:=r1
 have go:∀(o:Obj) (T:String),(T = "str_ascii_iterator" ∨ T = "str_iterator")→(s1.heap.push o).IsStrIter s1.heap.objs.size T x t 0→PIE X pins σ tg R (.ref s1.heap.objs.size) { s1 with heap:=s1.heap.push o }:=fun o T hT st =>
  ⟨s1.heap.objs.size,[s1.heap.objs.size],_,_,H1,rfl,I1.kept (t':=s1.toks) fun b o e=>Heap.get?_push_of_some _ e,gR _ x t T hT,st,fun b hb=>by
   have e:b=s1.heap.objs.size:=by simpa using hb
   subst e
   exact I1.fpOk (Nat.le_refl _) (I1.hok.fresh (Nat.le_refl _)),q⟩
 cases ha:x.cps.all (· < 128)
 ·exact wpAny_pyIter_wide ha (go _ "str_iterator" (.inr rfl) ⟨_,Heap.get?_push_size _ rfl,rfl,rfl⟩)
 ·exact wpAny_pyIter_ascii ha (go _ "str_ascii_iterator" (.inl rfl) ⟨_,Heap.get?_push_size _ rfl,rfl,rfl⟩)
section
variable {X:Cx}
theorem gS:MtR X "str.index" (fun x vs H Q=>∃(z y:Str) (i:Nat) (rest:List Nat),x=.str z∧vs=[.str y]∧Builtin.Str.occurrences z y 0 z.length 1=i::rest∧Q (.int i) H):=by
 intro pins s σ H x vs v us Q I rx rv h
 obtain ⟨z,y,i,rest,rfl,rfl,ho,q⟩:=h
 obtain ⟨t,rfl⟩:=rx
 obtain ⟨u,rfl,t',rfl⟩:=vals1 rv
 refine call_gives F.slot_str_index (typeIs_str _ _ _) F.entry_str_index (F.args_str_index_2 _ _) (gives_str_index z y t t' i rest ho) ?_
 exact ⟨.int i,H,I.tok _,⟨_,rfl⟩,q⟩
theorem kN (hc:X.calm=true):XR X (.builtin "all") (fun xs H Q=>∃(p:Addr) (bs:List Bool),xs=[.ref p]∧SqL X.K H p (bs.map V.bl)∧Q (.bl (bs.all id)) H):=by
 intro pins s σ H xs us Q I r h
 obtain ⟨p,bs,rfl,hq,q⟩:=h
 obtain ⟨u,rfl,rx⟩:=vals1 r
 cases rx
 obtain ⟨its,r',pl,hz⟩:=I.list hq
 have hl:=pl.isList
 have hlt:p < s.heap.objs.size:=by obtain ⟨_,e,_⟩:=hl;exact Heap.lt_size e
 have hlen:=r'.length
 rw [List.length_map] at hlen
 refine call_all_walk (wpAny_pyIter_list hl ?_)
 refine ⟨s.heap.objs.size,[s.heap.objs.size,p],[s.heap.objs.size],its.toArray.size,_,_,fun i=>(bs[i]?).getD true,rfl,Walks.list (A:=X.A.in1) (I.ok.hd hc) _ p (Nat.ne_of_lt hlt) its.toArray,
  ⟨⟨_,Heap.get?_push_size _ rfl,rfl,rfl⟩,hl.push _⟩,fun i v s' Q' E' hP hQ=>?_,fun h' tk hk=>?_⟩
 ·have hi:its[i]?=some v:=by simpa using hP
  have hb:i < bs.length:=by rw [hlen];exact (List.getElem?_eq_some_iff.mp hi).1
  obtain ⟨w',e1,e2⟩:=r'.get (show (bs.map V.bl)[i]?=some (V.bl bs[i]) by rw [List.getElem?_map,List.getElem?_eq_getElem hb];rfl)
  rw [hi] at e1
  cases e1
  cases e2
  simp only [List.getElem?_eq_getElem hb,Option.getD_some] at hQ
  exact wpAny_truthy_bool hQ
 ·have e:((List.range its.toArray.size).all fun i=>(bs[i]?).getD true)=bs.all id:=by
   rw [List.size_toArray,←hlen,Bool.eq_iff_iff,List.all_eq_true,List.all_eq_true]
   constructor
   ·intro z b hb
    obtain ⟨i,hi,rfl⟩:=List.getElem_of_mem hb
    have:=z i (List.mem_range.mpr hi)
    simpa [List.getElem?_eq_getElem hi] using this
   ·intro z i hi
    have hi':=List.mem_range.mp hi
    have:=z _ (List.getElem_mem hi')
    simpa [List.getElem?_eq_getElem hi'] using this
  rw [e]
  refine ⟨.bl (bs.all id),H,I.kept (t':=tk) (fun b o eb=>hk b o (fun hm=>?_) (Heap.get?_push_of_some _ eb)),rfl,q⟩
  rw [List.mem_singleton.mp hm] at eb
  exact absurd (Heap.lt_size eb) (Nat.lt_irrefl _)
end
section
variable {X:Cx}
end
theorem kO:bootBuiltins "dict" = some (.type "dict"):=by decide +kernel
theorem xG {K:PySem.W.Frag}:PySem.W.kitOne K (.type "bool") (.type "bool")=some true:=by rfl
theorem xH{t u:TS}{D:Ends}{σ:St}{H:Hp}(J:St→Hp→Prop)(h1:∀N:St→Hp→Prop,(∀σ H,J σ H→N σ H)→t { D with nx:=N } σ H)(h2:∀σ H,J σ H→u D σ H):ZT t u D σ H:=h1 _ h2
theorem take_snoc{α:Type}{xs:List α}{i:Nat}{x:α}(h:xs[i]?=some x):xs.take (i + 1)=xs.take i++[x]:=by
 rw [List.take_succ,h]
 rfl
theorem qf{K:PySem.W.Frag}{a:Addr}{xs:List V}{is:List Nat}{tc:TT}{te:TE}{σ:St}{H:Hp}{Q:VK}(p:V→Bool)(f:V→V)(hx:SqL K H a xs)(hz:xs.length≤sizeLine)
  (hc:∀x∈xs,∀R:Bool→Hp→Prop,R (p x) H→tc (GK is σ (some x)) H R)
  (he:∀x∈xs,p x=true→∀R:VK,R (f x) H→te (GK is σ (some x)) H R)
  (hd:∀l,H l=none→Q (.ref l) (upd H l (.lst ((xs.filter p).map f)))):zB is tc te σ Q (Itl K a) H:=by
 refine zE (xs:=xs) (fun i zs H'=>zs=((xs.take i).filter p).map f∧H'=H) ⟨rfl,rfl⟩ ?_ ?_ ?_ ?_
 ·rintro i zs H' ⟨rfl,rfl⟩
  rw [List.length_map]
  exact Nat.le_trans (List.length_filter_le _ _) (by rw [List.length_take];lia)
 ·rintro i zs H' ⟨rfl,rfl⟩
  exact hx
 ·rintro i x zs H' R hR hxi ⟨rfl,rfl⟩
  have hm:=List.mem_of_getElem? hxi
  have e:=take_snoc hxi
  refine hc x hm _ ?_
  cases hp:p x with
  | true =>
   refine (if_pos rfl:(if true=true then _ else _)=_) ▸ he x hm hp _ (hR _ _ ⟨?_,rfl⟩)
   rw [e,List.filter_append,List.map_append,List.filter_cons,if_pos hp]
   rfl
  | false =>
   refine (if_neg Bool.false_ne_true:(if false=true then _ else _)=_) ▸ hR _ _ ⟨?_,rfl⟩
   rw [e,List.filter_append,List.map_append,List.filter_cons,if_neg (by rw [hp];exact Bool.false_ne_true)]
   simp
 ·rintro zs H' ⟨rfl,rfl⟩ l hl
  rw [List.take_length]
  exact hd l hl
theorem comp_map{K:PySem.W.Frag}{a:Addr}{xs:List V}{is:List Nat}{te:TE}{σ:St}{H:Hp}{Q:VK}(f:V→V)(hx:SqL K H a xs)(hz:xs.length≤sizeLine)
  (he:∀x∈xs,∀R:VK,R (f x) H→te (GK is σ (some x)) H R)
  (hd:∀l,H l=none→Q (.ref l) (upd H l (.lst (xs.map f)))):zB is kF te σ Q (Itl K a) H:=by
 refine qf (fun _=>true) f hx hz (fun x _ R h=>h) (fun x hm _=>he x hm) fun l hl=>?_
 rw [List.filter_eq_self.mpr fun _ _=>rfl]
 exact hd l hl
section
variable {κ:Type}[DecidableEq κ]
noncomputable def Yw(kvs:List (κ × V))(k:κ):Option V:=(kvs.find? fun kv=>decide (kv.1=k)).map (·.2)
noncomputable def putK(kvs:List (κ × V))(k:κ)(v:V):List (κ × V) :=
 if (kvs.any fun kv=>decide (kv.1=k))=true then kvs.map (fun kv=>if kv.1=k then (kv.1,v) else kv) else kvs++[(k,v)]
theorem Yn{p:κ × V}{r:List (κ × V)}{k:κ}(e:p.1=k):Yw (p::r) k=some p.2:=by simp [Yw,List.find?_cons,e]
theorem Yc{p:κ × V}{r:List (κ × V)}{k:κ}(e:¬p.1=k):Yw (p::r) k=Yw r k:=by simp [Yw,List.find?_cons,e]
theorem GN(k:κ):∀kvs:List (κ × V),(kvs.any fun kv=>decide (kv.1=k))=(Yw kvs k).isSome
 | []=>rfl
 | p::r=>by
  rw [List.any_cons]
  by_cases e:p.1=k
  ·simp only [Yn e,decide_eq_true e,Bool.true_or,Option.isSome_some]
  ·rw [Yc e,decide_eq_false e,Bool.false_or];exact GN k r
theorem yg(k j:κ)(y:V):∀kvs:List (κ × V),Yw (kvs.map fun kv=>if kv.1=k then (kv.1,y) else kv) j=(Yw kvs j).map fun x=>if j=k then y else x
 | []=>rfl
 | p::r=>by
  have ih:=yg k j y r
  rw [List.map_cons]
  by_cases h:p.1=k
  ·rw [if_pos h]
   by_cases e:p.1=j
   ·rw [Yn (p:=(p.1,y)) e,Yn e,Option.map_some,if_pos (e.symm.trans h)]
   ·rw [Yc (p:=(p.1,y)) e,Yc e,ih]
  ·rw [if_neg h]
   by_cases e:p.1=j
   ·rw [Yn (p:=p) e,Yn e,Option.map_some,if_neg (fun z=>h (e.trans z))]
   ·rw [Yc (p:=p) e,Yc e,ih]
theorem zF(k j:κ)(y:V):∀kvs:List (κ × V),Yw kvs k=none→Yw (kvs++[(k,y)]) j=if j=k then some y else Yw kvs j
 | [],_=>by
  by_cases e:k=j
  ·rw [if_pos e.symm];exact Yn (p:=(k,y)) e
  ·rw [if_neg (fun z=>e z.symm)];exact Yc (p:=(k,y)) e
 | p::r,hn=>by
  rw [List.cons_append]
  have hk:¬p.1=k:=fun z=>by rw [Yn z] at hn;cases hn
  rw [Yc hk] at hn
  have ih:=zF k j y r hn
  by_cases e:p.1=j
  ·rw [Yn e,Yn e,if_neg (fun z=>hk (e.trans z))]
  ·rw [Yc e,Yc e,ih]
theorem GO(kvs:List (κ × V))(k j:κ)(y:V):Yw (putK kvs k y) j=if j=k then some y else Yw kvs j:=by
 unfold putK
 by_cases a:(kvs.any fun kv=>decide (kv.1=k))=true
 ·rw [if_pos a,yg]
  rw [GN] at a
  by_cases e:j=k
  ·obtain ⟨x,hx⟩:=Option.isSome_iff_exists.mp a
   rw [if_pos e,e,hx,Option.map_some,if_pos rfl]
  ·rw [if_neg e]
   cases Yw kvs j with
   | none=>rfl
   | some x=>rw [Option.map_some,if_neg e]
 ·rw [if_neg a]
  refine zF k j y kvs ?_
  rw [GN] at a
  cases q:Yw kvs k with
  | none=>rfl
  | some x=>rw [q] at a;exact (a rfl).elim
theorem Wm(kvs:List (κ × V))(k:κ)(v:V):(putK kvs k v).length≤kvs.length + 1:=by
 unfold putK
 split
 ·rw [List.length_map];lia
 ·rw [List.length_append,List.length_cons,List.length_nil];lia
theorem jo.isSome_eq{o:Option V}{u:Option Value}(r:jo o u):o.isSome=u.isSome:=by
 cases o with
 | none=>cases u with
  | none=>rfl
  | some _=>exact (show False from r).elim
 | some _=>cases u with
  | none=>exact (show False from r).elim
  | some _=>rfl
theorem jo.getD{o:Option V}{u:Option Value}{d:V}{d':Value}(r:jo o u)(rd:RelV d d'):RelV (o.getD d) (u.getD d'):=by
 cases o with
 | none=>cases u with
  | none=>exact rd
  | some _=>exact (show False from r).elim
 | some _=>cases u with
  | none=>exact (show False from r).elim
  | some _=>exact r
theorem KV.val{kvs:List (κ × V)}{vs:List (κ × Value)}(r:KV kvs vs)(k:κ):jo (Yw kvs k) (valueAt vs k):=by
 unfold KV at r
 induction r with
 | nil=>exact True.intro
 | @cons p q ps qs h t ih =>
  obtain ⟨h1,h2⟩:=h
  by_cases e:p.1=k
  ·have e':q.1=k:=h1.symm.trans e
   have b:valueAt (q::qs) k=some q.2:=by simp [valueAt,List.find?_cons,e']
   rw [Yn e,b];exact h2
  ·have e':¬q.1=k:=fun z=>e (h1.trans z)
   have b:valueAt (q::qs) k=valueAt qs k:=by simp [valueAt,List.find?_cons,e']
   rw [Yc e,b];exact ih
theorem KV.any{kvs:List (κ × V)}{vs:List (κ × Value)}(r:KV kvs vs)(k:κ):(kvs.any fun kv=>decide (kv.1=k))=vs.any fun kv=>decide (kv.1=k):=by
 unfold KV at r
 induction r with
 | nil=>rfl
 | cons h t ih=>rw [List.any_cons,List.any_cons,ih,h.1]
theorem KV.repl{kvs:List (κ × V)}{vs:List (κ × Value)}(r:KV kvs vs)(k:κ){y:V}{u:Value}(ry:RelV y u) :
  KV (kvs.map fun kv=>if kv.1=k then (kv.1,y) else kv) (vs.map fun kv=>if kv.1=k then (kv.1,u) else kv):=by
 unfold KV at r ⊢
 induction r with
 | nil=>exact .nil
 | @cons p q ps qs h t ih =>
  rw [List.map_cons,List.map_cons]
  refine .cons ?_ ih
  obtain ⟨h1,h2⟩:=h
  by_cases e:p.1=k
  ·rw [if_pos e,if_pos (h1.symm.trans e)];exact ⟨h1,ry⟩
  ·rw [if_neg e,if_neg (fun z=>e (h1.trans z))];exact ⟨h1,h2⟩
theorem KV.put{kvs:List (κ × V)}{vs:List (κ × Value)}(r:KV kvs vs)(k:κ){y:V}{u:Value}(ry:RelV y u):KV (putK kvs k y) (stored vs k u):=by
 unfold putK stored
 rw [r.any k]
 by_cases e:(vs.any fun kv=>decide (kv.1=k))=true
 ·rw [if_pos e,if_pos e];exact r.repl k ry
 ·rw [if_neg e,if_neg e];exact Paired.snoc r ⟨rfl,ry⟩
theorem KV.keys{kvs:List (κ × V)}{vs:List (κ × Value)}(r:KV kvs vs):kvs.map (·.1)=vs.map (·.1):=by
 unfold KV at r
 induction r with
 | nil=>rfl
 | cons h t ih=>rw [List.map_cons,List.map_cons,ih,h.1]
theorem KV.length{kvs:List (κ × V)}{vs:List (κ × Value)}(r:KV kvs vs):kvs.length=vs.length:=Paired.length r
end
theorem j0{P:Program}{w:World}{k:Key}{u:Value}(r:RelV (kV k) u):(ZP P w).is k u=true:=by
 cases k with
 | inl i=>obtain ⟨t,e⟩:=(show ∃t,u=Value.int i t from r);subst e;exact jr P w i t
 | inr x=>obtain ⟨t,e⟩:=(show ∃t,u=Value.str x t from r);subst e;exact Ju P w x t
theorem zG{P:Program}{w:World}:∀{ks:List Key} {us:List Value},Vals (ks.map kV) us→ItemsAre (ZP P w) ks us
 | [],_,r=>by rw [List.map_nil] at r;cases r;exact .nil
 | k::ks,_,r=>by
  rw [List.map_cons] at r
  cases r with
  | cons h t=>exact .cons (j0 h) (zG t)
noncomputable abbrev KT(H:Hp):List (List Key × V)→List (List Key × Addr × Value)→Prop:=Paired fun p q=>p.1=q.1∧H q.2.1=some (.tup (p.1.map kV))∧RelV p.2 q.2.2
theorem KT.val{H:Hp}{kvs:List (List Key × V)}{xs:List (List Key × Addr × Value)}(r:KT H kvs xs)(k:List Key):jo (Yw kvs k) ((atKey xs k).map (·.2)):=by
 induction r with
 | nil=>exact True.intro
 | @cons p q ps qs h t ih =>
  obtain ⟨h1,_,h2⟩:=h
  by_cases e:p.1=k
  ·have e':q.1=k:=h1.symm.trans e
   have b:atKey (q::qs) k=some q.2:=by simp [atKey,List.find?_cons,e']
   rw [Yn e,b];exact h2
  ·have e':¬q.1=k:=fun z=>e (h1.trans z)
   have b:atKey (q::qs) k=atKey qs k:=by simp [atKey,List.find?_cons,e']
   rw [Yc e,b];exact ih
theorem KT.repl{H:Hp}{kvs:List (List Key × V)}{xs:List (List Key × Addr × Value)}(r:KT H kvs xs)(k:List Key){y:V}{u:Value}(ry:RelV y u) :
  KT H (kvs.map fun kv=>if kv.1=k then (kv.1,y) else kv) (xs.map (putAt k u)):=by
 induction r with
 | nil=>exact .nil
 | @cons p q ps qs h t ih =>
  rw [List.map_cons,List.map_cons]
  refine .cons ?_ ih
  obtain ⟨h1,h2,h3⟩:=h
  unfold putAt
  by_cases e:p.1=k
  ·rw [if_pos e,if_pos (h1.symm.trans e)];exact ⟨h1,h2,ry⟩
  ·rw [if_neg e,if_neg (fun z=>e (h1.trans z))];exact ⟨h1,h2,h3⟩
theorem KT.put{H:Hp}{kvs:List (List Key × V)}{xs:List (List Key × Addr × Value)}(r:KT H kvs xs)(k:List Key){b:Addr}{y:V}{u:Value}(hb:H b=some (.tup (k.map kV)))(ry:RelV y u) :
  KT H (putK kvs k y) (storedH xs k b u):=by
 have e:(kvs.any fun kv=>decide (kv.1=k))=(atKey xs k).isSome:=by
  rw [GN,(r.val k).isSome_eq,Option.isSome_map]
 unfold putK storedH
 rw [e]
 by_cases q:(atKey xs k).isSome=true
 ·rw [if_pos q,if_pos q];exact r.repl k ry
 ·rw [if_neg q,if_neg q];exact Paired.snoc r ⟨rfl,hb,ry⟩
theorem KT.keeps{H H':Hp}{kvs:List (List Key × V)}{xs:List (List Key × Addr × Value)}(r:KT H kvs xs)(ht:∀b ys,H b=some (.tup ys)→H' b=some (.tup ys)):KT H' kvs xs :=
 Paired.mapP r fun _ _ z=>⟨z.1,ht _ _ z.2.1,z.2.2⟩
section
variable {P:Program}{w:World}{H:Hp}{h:Heap}{a:Addr}
theorem Zd7{u:HO}(ok:HOk P w H h)(e:Rd H a u):Yg P w H h a u:=e.ok ok
theorem j4{kvs:List (Key × V)}(ok:HOk P w H h)(e:Rd H a (.dK kvs)):kvs.length≤sizeLine∧(a == sysModules)=false∧∃vs,KV kvs vs∧h.DictOf (ZP P w) a vs :=
 show Yg P w H h a (.dK kvs) from Zd7 ok e
theorem dk_of{kvs:List (Key × V)}(ok:HOk P w H h)(e:H a=some (.dK kvs)):kvs.length≤sizeLine∧(a == sysModules)=false∧∃vs,KV kvs vs∧h.DictOf (ZP P w) a vs:=j4 ok (.inl e)
theorem yh{ks:List Key}(ok:HOk P w H h)(e:H a=some (.tup (ks.map kV))):(tupleKind (ZP P w)).is h ks a:=by
 obtain ⟨_,its,r,o,h1,h2,n,h3⟩:=(show Yg P w H h a (.tup (ks.map kV)) from ok a _ e)
 exact ⟨o,its.toArray,n,h1,h2,h3,by simpa using zG r⟩
theorem gT{kvs:List (List Key × V)}(ok:HOk P w H h)(e:Rd H a (.dT kvs)):kvs.length≤sizeLine∧(a == sysModules)=false ∧
  ∃xs,KT H kvs xs∧h.DictOfH (tupleKind (ZP P w)) a xs:=by
 obtain ⟨z,y,xs,r,o,es,ep,h1,h2,h3,h4,h5⟩:=(show Yg P w H h a (.dT kvs) from Zd7 ok e)
 refine ⟨z,y,xs,r,o,es,ep,h1,h2,h3,h4,fun x hx=>?_,h5⟩
 have all:∀{l:List (List Key × V)} {m:List (List Key × Addr × Value)},KT H l m→∀x∈m,(tupleKind (ZP P w)).is h x.1 x.2.1:=by
  intro l m q
  induction q with
  | nil=>intro x hx;exact nomatch hx
  | @cons p q ps qs hq t ih =>
   intro x hx
   rcases List.mem_cons.mp hx with e | hx
   ·subst e
    exact yh ok (by rw [←hq.1];exact hq.2.1)
   ·exact ih x hx
 exact all r x hx
theorem dt_of{kvs:List (List Key × V)}(ok:HOk P w H h)(e:H a=some (.dT kvs)):kvs.length≤sizeLine∧(a == sysModules)=false ∧
  ∃xs,KT H kvs xs∧h.DictOfH (tupleKind (ZP P w)) a xs:=gT ok (.inl e)
end
noncomputable def Zd8(H:Hp)(a:Addr)(y:V)(r:Option V):Prop :=
 (∃kvs k,Rd H a (.dK kvs)∧y=kV k∧r=Yw kvs k)∨∃kvs k b,Rd H a (.dT kvs)∧y=.ref b∧H b=some (.tup (k.map kV))∧r=Yw kvs k
noncomputable def Zdl(H:Hp)(a:Addr)(y v:V)(H':Hp):Prop :=
 (∃kvs k,H a=some (.dK kvs)∧y=kV k∧kvs.length < sizeLine∧H'=upd H a (.dK (putK kvs k v))) ∨
 ∃kvs k b,H a=some (.dT kvs)∧y=.ref b∧H b=some (.tup (k.map kV))∧kvs.length < sizeLine∧H'=upd H a (.dT (putK kvs k v))
theorem Zdl.k{H:Hp}{a:Addr}{kvs:List (Key × V)}{k:Key}{v:V}(e:H a=some (.dK kvs))(hl:kvs.length < sizeLine):Zdl H a (kV k) v (upd H a (.dK (putK kvs k v))):=.inl ⟨kvs,k,e,rfl,hl,rfl⟩
section
variable {X:Cx}{pins:List (Addr × Obj)}{σ:St}{H:Hp}{s:Shared}{a:Addr}{y v:V}{u r:Value}{o:Option V}{A:Around}{E:Value→Shared→Prop}
theorem Inv.big(I:Inv X pins σ H s):sysModules < s.heap.objs.size:=by
 have h:mainGlobals < s.heap.objs.size:=(I.mod.glob.keeps I.bk).lt
 exact Nat.lt_trans (by decide) h
theorem kP{Q:Value→Shared→Prop}(hu:A.units + 1 < cLine)(I:Inv X pins σ H s)(g:Zd8 H a y (some v))(ry:RelV y u)(h:∀w' s',Inv X pins σ H s'→RelV v w'→Q w' s') :
  wpAny (model X.prog X.w) A (getItem (.ref a) u) Q E s:=by
 rcases g with ⟨kvs,k,e,ey,l⟩ | ⟨kvs,k,b,e,ey,eb,l⟩
 ·subst ey
  obtain ⟨z,hd,vs,rel,dd⟩:=j4 I.hok e
  obtain ⟨w',hw,rw'⟩:=jo.some_of (v:=v) (o:=valueAt vs k) (by rw [l];exact rel.val k)
  exact wpAny_getItem_of (j0 ry) dd.mapOf hw (h w' _ (I.tok _) rw')
 ·subst ey
  cases (show u=Value.ref b from ry)
  obtain ⟨z,hd,xs,rel,dd⟩:=gT I.hok e
  obtain ⟨w',hw,rw'⟩:=jo.some_of (v:=v) (o:=(atKey xs k).map (·.2)) (by rw [l];exact rel.val k)
  obtain ⟨p,hp,hp2⟩:=Option.map_eq_some_iff.mp hw
  refine wpAny_getItem_heap (tupleKind_room_in1 hu) (yh I.hok eb) dd hp ?_
  rw [hp2]
  exact h w' _ (I.tok _) rw'
theorem Zce{Q:Value→Shared→Prop}(hu:A.units + 1 < cLine)(I:Inv X pins σ H s)(g:Zd8 H a y o)(ry:RelV y u)(h:∀s',Inv X pins σ H s'→Q (.bool (!o.isSome)) s') :
  wpAny (model X.prog X.w) A (compareOp .NotIn u (.ref a)) Q E s:=by
 rcases g with ⟨kvs,k,e,ey,l⟩ | ⟨kvs,k,b,e,ey,eb,l⟩
 ·subst ey
  obtain ⟨z,hd,vs,rel,dd⟩:=j4 I.hok e
  refine wpAny_notIn_of (j0 ry) hd dd.mapOf ?_
  rw [←(rel.val k).isSome_eq,←l]
  exact h _ (I.tok _)
 ·subst ey
  cases (show u=Value.ref b from ry)
  obtain ⟨z,hd,xs,rel,dd⟩:=gT I.hok e
  refine wpAny_notIn_heap (tupleKind_room_in1 hu) (yh I.hok eb) hd dd ?_
  have q:=(rel.val k).isSome_eq
  rw [Option.isSome_map] at q
  rw [←q,←l]
  exact h _ (I.tok _)
theorem kQ{h':Heap}{t':Nat}{ob:HO}(I:Inv X pins σ H s)(mu:Mut (H a))(hs:Heap.SameBut a s.heap h')(he:∃q,h'.get? a=some q)(new:Yg X.prog X.w (upd H a ob) h' a ob) :
  Inv X pins σ (upd H a ob) { s with heap:=h',toks:=t' } :=
 I.write (x:=a) (e:=a) mu (.inl rfl) (fun b q hb z=>(hs.2 b hb).trans z) he new
theorem kR{P:Program}{w:World}{H':Hp}{h':Heap}{kvs:List (Key × V)}{vs:List (Key × Value)}(z:kvs.length≤sizeLine)(hd:(a == sysModules)=false)(rel:KV kvs vs)(dd:h'.DictOf (ZP P w) a vs) :
  Yg P w H' h' a (.dK kvs):=⟨z,hd,vs,rel,dd⟩
theorem kS{H':Hp}{Q:Unit→Shared→Prop}(hu:A.units + 1 < cLine)(I:Inv X pins σ H s)(g:Zdl H a y v H')(ry:RelV y u)(rv:RelV v r)(h:∀s',Inv X pins σ H' s'→Q () s') :
  wpAny (model X.prog X.w) A (setItem (.ref a) u r) Q E s:=by
 rcases g with ⟨kvs,k,e,ey,l,eH⟩ | ⟨kvs,k,b,e,ey,eb,l,eH⟩
 ·subst ey eH
  obtain ⟨z,hd,vs,rel,dd⟩:=dk_of I.hok e
  have hz:vs.length≤sizeLine:=by rw [←rel.length];exact z
  have hl:(putK kvs k v).length≤sizeLine:=by have:=Wm kvs k v;lia
  refine wpAny_setItem_pairs (hsz:=hz) (j0 ry) dd fun h' dd' hs=>h _ ?_
  have he:∃q,h'.get? a=some q:=let ⟨q,_,_,hq,_⟩:=dd';⟨q,hq⟩
  exact kQ I (by rw [e];exact True.intro) hs he (kR hl hd (rel.put k rv) dd')
 ·subst ey eH
  cases (show u=Value.ref b from ry)
  obtain ⟨z,hd,xs,rel,dd⟩:=dt_of I.hok e
  have hz:xs.length≤sizeLine:=by rw [←Paired.length rel];exact z
  have hl:(putK kvs k v).length≤sizeLine:=by have:=Wm kvs k v;lia
  refine wpAny_setItem_heap (hsz:=hz) (tupleKind_room_in1 hu) (yh I.hok eb) dd fun h' dd' hs=>h _ ?_
  obtain ⟨q,es,ep,hq,h2,h3,h4,_,h5⟩:=dd'
  refine kQ I (by rw [e];exact True.intro) hs ⟨q,hq⟩ ⟨hl,hd,_,(rel.put k eb rv).keeps fun c ys ec=>?_,q,es,ep,hq,h2,h3,h4,h5⟩
  rw [Zj (ZK ec e (fun z=>nomatch z))]
  exact ec
end
section
variable {X:Cx}{pins:List (Addr × Obj)}{σ:St}{H:Hp}{s:Shared}{a:Addr}{kvs:List (Key × V)}{k:Key}{u:Value}{A:Around}{E:Value→Shared→Prop}
end
noncomputable def NoSl(i:Expr):Prop:=∀ov iv,subscripted i false ov iv=operate [ov,iv] (getItem ov iv)
theorem Zcf{prog:Program}{w:World}{A:Around}{E:Value→Shared→Prop}{s:Shared}{env:Env}{value slice:Expr}{pos:Pos}{T id:String}{Q:Value→Shared→Prop}
  (hl:typeLookup (.type T) "__getitem__" = pure (some (.builtin id))) (hs:NoSl slice)
  (h:wpAny (model prog w) A (eval value env) (fun o s₁=>wpAny (model prog w) A (eval slice env) (fun i s₂=>s₂.TypeIs o T∧wpAny (model prog w) A (getItem o i) Q E s₂) E s₁) E s) :
  wpAny (model prog w) A (eval (.Subscript value slice pos) env) Q E s:=by
 refine Subscript_ (wpAny_mono h (fun o s₁ h₁=>wpAny_mono h₁ (fun i s₂ h₂=>?_) fun _ _ x=>x) fun _ _ x=>x)
 obtain ⟨hT,h₂⟩:=h₂
 unfold subscriptTail
 refine wpAny_bind ?_
 rw [getitemInPython_of_ne hT.not_modules]
 refine wpAny_bind (wpAny_specialOf hT hl ?_)
 have fin:wpAny (model prog w) A (subscripted slice false o i) (fun r s₃=>wpAny (model prog w) A (letTemporaryGo value o r >>= fun _=>pure r) Q E s₃) E s₂:=by
  rw [hs o i]
  exact wpAny_operating (wpAny_mono h₂ (fun r s₃ h₃=>wpAny_bind (wpAny_letTemporaryGo (wpAny_pure h₃))) fun _ _ x=>x)
 first
  | exact wpAny_pure (wpAny_bind fin)
  | exact wpAny_bind (wpAny_pure (wpAny_bind fin))
  | exact wpAny_bind fin
theorem j5 {X:Cx} {pins:List (Addr × Obj)} {σ:St} {H:Hp} {s:Shared} {a:Addr} {y:V} {o:Option V} (I:Inv X pins σ H s) (g:Zd8 H a y o):s.TypeIs (.ref a) "dict" := by
 rcases g with ⟨kvs,k,e,_,_⟩ | ⟨kvs,k,b,e,_,_,_⟩
 ·obtain ⟨_,_,vs,_,dd⟩:=j4 I.hok e
  exact dd.typeIs
 ·obtain ⟨_,_,xs,_,dd⟩:=gT I.hok e
  exact dd.typeIs
inductive kT(Q:VK)(x:V)(y:V)(H2:Hp):Prop
 | mk (a v):(x=.ref a)→(Zd8 H2 a y (some v))→(Q v H2)→kT Q x y H2
noncomputable def Zd9(td ty:TE):TE:=fun σ H Q=>td σ H fun x H1=>ty σ H1 fun y H2=>kT Q x y H2
inductive kU(D:Ends)(σ:St)(v:V)(x:V)(y:V)(H3:Hp):Prop
 | mk (a H4):(x=.ref a)→(Zdl H3 a y v H4)→(D.nx σ H4)→kU D σ v x y H3
noncomputable def Zea(td ty tv:TE):TS:=fun D σ H=>tv σ H fun v H1=>td σ H1 fun x H2=>ty σ H2 fun y H3=>kU D σ v x y H3
section
variable {X:Cx}{o i e value:Expr}{pos pos' tpos:Pos}{td ty tv:TE}
theorem Zcg(hu:X.A.units + 1 < cLine)(ho:PE X o td)(hi:PE X i ty)(hs:NoSl i):PE X (.Subscript o i pos) (Zd9 td ty):=by
 intro pins s σ H Q I h
 refine Zcf PySem.F.slot_dict_getitem.lookup hs (thn (ho pins s σ H _ I h) fun u s1 ⟨x,H1,I1,rx,q1⟩=>thn (hi pins s1 σ H1 _ I1 q1) fun iv s2 ⟨y,H2,I2,ry,a,v,ex,g,q2⟩=>?_)
 subst ex
 obtain rfl:u=Value.ref a:=rx
 exact ⟨j5 I2 g,kP hu I2 g ry fun w' s3 I3 rw'=>⟨v,H2,I3,rw',q2⟩⟩
theorem Zch(hu:X.A.units + 1 < cLine)(ho:PE X o td)(hi:PE X i ty)(hv:PE X value tv)(hs:swapsWith value (some (.Subscript o i pos')) pos.line X.env=pure false) :
  PS X (.Assign [.Subscript o i pos'] value pos) (Zea td ty tv):=by
 intro pins s σ H D I h
 refine wpAny_Assign_Subscript (thn (hv pins s σ H _ I h) fun r s1 ⟨v,H1,I1,rv,q1⟩=>thn (ho pins s1 σ H1 _ I1 q1) fun u s2 ⟨x,H2,I2,rx,q2⟩=>thn (hi pins s2 σ H2 _ I2 q2) fun iv s3 ⟨y,H3,I3,ry,a,H4,ex,g,q3⟩=>?_) hs
 subst ex
 obtain rfl:u=Value.ref a:=rx
 exact kS hu I3 g ry rv fun s4 I4=>⟨σ,H4,I4,q3⟩
end
theorem gU {P:Program} {w:World} {H:Hp} (h:Heap) (hb:sysModules < h.objs.size):Yg P w H (h.push { cls:=.type "dict",data:=.dict #[] }) h.objs.size (.dK []) :=
 ⟨Nat.zero_le _,beq_eq_false_iff_ne.mpr (Ne.symm (Nat.ne_of_lt hb)),[],.nil,Heap.DictOf.new h⟩
noncomputable def Za4:TE:=fun _ H Q=>∀p,H p=none→Q (.ref p) (upd H p (.dK []))
section
variable {X:Cx}{pos:Pos}
theorem gW:PE X (.Dict [] [] pos) Za4:=fun pins s σ H Q I h =>
 wpAny_Dict_empty ⟨.ref s.heap.objs.size,_,I.laid (a:=s.heap.objs.size) (o:=.dK []) (t':=s.toks) (fun _ _ q=>Heap.get?_push_of_some _ q) (Nat.le_refl _) (gU s.heap I.big),rfl,h _ (I.hok.fresh (Nat.le_refl _))⟩
end
structure M2(X:Cx)(o:Expr)(m:Str)(apos:Pos)(e f:Expr)(cpos:Pos):Prop where
 base:attributeBase o m X.env (eval o X.env)=eval o X.env
 few:((backTo cpos (starEach [e,f] X.env)).all (fun x=>!x.1) && (backToKw cpos (keywordEach [] X.env)).all (fun x=>x.1.isSome)
  && decide (([e,f]:List Expr).length + ([]:List Keyword).length + (if ([]:List Keyword).isEmpty then 0 else 1) < 30))=true
 line:(apos.endLine == cpos.line)=true
 trees:backTo cpos (starEach [e,f] X.env)=[(false,eval e X.env),(false,eval f X.env)]
section
variable {X:Cx}{pins:List (Addr × Obj)}{σ:St}{H:Hp}{s:Shared}{a:Addr}{y d:V}{u r:Value}{o:Option V}{A:Around}{E:Value→Shared→Prop}
end
section
variable {X:Cx}{o e f:Expr}{apos cpos:Pos}{td ty tx:TE}
end
section
variable {X:Cx}{pins:List (Addr × Obj)}{σ:St}{H:Hp}{s:Shared}{a:Addr}{kvs:List (Key × V)}{A:Around}{E:Value→Shared→Prop}
theorem gX {Q:Value→Shared→Prop} (I:Inv X pins σ H s) (e:Rd H a (.dK kvs)) (h:∀p s',H p=none→Inv X pins σ (upd H p (.dK kvs)) s'→Q (.ref p) s'):wpAny (model X.prog X.w) A (call (.type "dict") [.ref a]) Q E s:=by
 obtain ⟨z,hd,vs,rel,dd⟩:=j4 I.hok e
 refine kt_call_dict hd dd (by rw [←rel.length];exact z) fun h' dd' hs=>?_
 refine h _ _ (I.hok.fresh (Nat.le_refl _)) (I.laid (a:=s.heap.objs.size) (o:=.dK kvs) (t':=s.toks) (fun b q hq=>?_) (Nat.le_refl _) (kR z (beq_eq_false_iff_ne.mpr (Ne.symm (Nat.ne_of_lt I.big))) rel dd'))
 exact (hs.2 b (Nat.ne_of_lt (Heap.lt_size hq))).trans (Heap.get?_push_of_some _ hq)
end
section
variable {X:Cx}{pins:List (Addr × Obj)}{σ:St}{H:Hp}{s:Shared}{a:Addr}{y:V}{u:Value}{A:Around}{E:Value→Shared→Prop}
end
section
variable {X:Cx}
end
end L2
namespace EnT
open PySem PySem.Spec PyProof.Rows
open AutoSeq1 (wpAny_loadPart')
section
variable {prog:Program}{w:World}{A:Around}{E:Value→Shared→Prop}{s:Shared}
theorem next_of{it l:Addr}{i:Nat}{items}{x:Value}{Q:Value→Shared→Prop}(hit:s.heap.IsTupleIter it l i)(hl:s.heap.IsTuple l items)(hx:items[i]?=some x)
  (hQ:∀h',h'.IsTupleIter it l (i + 1)→Heap.SameBut it s.heap h'→Q x { s with heap:=h' }):wpAny (model prog w) A (Builtin.SmallTypes.nextOf (.ref it)) Q E s:=by
 obtain ⟨o,ho,hc,hd⟩:=id hit
 obtain ⟨ol,hol,_,nl,hdl⟩:=hl
 unfold Builtin.SmallTypes.nextOf
 refine wpAny_bind (wpAny_callSpecial?_slot (name:=Str.ofString "__next__") hit.typeIs F.slot_tuple_iterator_next (wpAny_call_entry F.slot_tuple_iterator_next hit.typeIs F.entry_tuple_iterator_next ?_ (F.args_tuple_iterator_next_1 _)))
 show wpAny _ _ (field (.ref it) 0 >>= _) _ _ s
 refine wpAny_bind (wpAny_field ho hd (x:=.ref l) rfl ?_)
 show wpAny _ _ (if (Value.ref l == Value.none)=true then _ else _) _ _ s
 rw [if_neg (show ¬((Value.ref l == Value.none)=true) from Bool.false_ne_true)]
 show wpAny _ _ (field (.ref it) 1 >>= _) _ _ s
 refine wpAny_bind (wpAny_field ho hd (x:=.int i 0) rfl ?_)
 show wpAny _ _ (seqItems? (.ref l) >>= _) _ _ s
 refine wpAny_bind (wpAny_seqItems hol hdl ?_)
 simp only [Int.toNat_natCast,hx]
 refine wpAny_bind (wpAny_setField ho hd (by simp) (wpAny_pure ⟨x,rfl,wpAny_pure (hQ _ ⟨_,Heap.get?_update_self _ ho (Obj.isFreed_of_fields (Obj.data_mapFields hd _)),(Obj.cls_mapFields ..).trans hc,?_⟩ (Heap.SameBut.update ..))⟩))
 rw [Obj.data_mapFields hd]
 simp [rawInt]
theorem next_no{it l:Addr}{i:Nat}{items}{Q:Value→Shared→Prop}(hh:A.handled=none)(hit:s.heap.IsTupleIter it l i)(hl:s.heap.IsTuple l items)(hx:items[i]?=none)
  (hE:∀h' e,Heap.ExtBut it s.heap h'→(∃o,h'.get? e=some o∧o.cls=.type "StopIteration")→E (.ref e) { s with heap:=h' }):wpAny (model prog w) A (Builtin.SmallTypes.nextOf (.ref it)) Q E s:=by
 obtain ⟨o,ho,hc,hd⟩:=id hit
 obtain ⟨ol,hol,_,nl,hdl⟩:=hl
 unfold Builtin.SmallTypes.nextOf
 refine wpAny_bind (wpAny_callSpecial?_slot (name:=Str.ofString "__next__") hit.typeIs F.slot_tuple_iterator_next (wpAny_call_entry F.slot_tuple_iterator_next hit.typeIs F.entry_tuple_iterator_next ?_ (F.args_tuple_iterator_next_1 _)))
 show wpAny _ _ (field (.ref it) 0 >>= _) _ _ s
 refine wpAny_bind (wpAny_field ho hd (x:=.ref l) rfl ?_)
 show wpAny _ _ (if (Value.ref l == Value.none)=true then _ else _) _ _ s
 rw [if_neg (show ¬((Value.ref l == Value.none)=true) from Bool.false_ne_true)]
 show wpAny _ _ (field (.ref it) 1 >>= _) _ _ s
 refine wpAny_bind (wpAny_field ho hd (x:=.int i 0) rfl ?_)
 show wpAny _ _ (seqItems? (.ref l) >>= _) _ _ s
 refine wpAny_bind (wpAny_seqItems hol hdl ?_)
 simp only [Int.toNat_natCast,hx]
 refine wpAny_bind (wpAny_rule (wpAny_bind (wpAny_setField ho hd (by simp) ?_)))
 show wpAny _ _ (newExc (.type "StopIteration") [] >>= _) _ _ _
 refine wpAny_bind ?_
 simp only [newExc,newTuple]
 refine wpAny_bind (wpAny_newObj_type ?_ (by size_fits))
 refine wpAny_bind (m:=firstArgMember _ _) (wpAny_of_eq (a:=Value.none) (by first | rfl | (simp only [firstArgMember];rfl)) ?_)
 refine wpAny_newObj_type ?_ (by size_fits)
 simp only [raiseNew]
 refine wpAny_bind (wpAny_handled ?_)
 first | rw [show A.in1.handled=none from hh] | rw [hh]
 refine wpAny_bind (wpAny_pure (wpAny_throw ?_))
 exact hE _ _ (((Heap.SameBut.update ..).extBut.push _).push _) ⟨_,Heap.get?_push_size _ rfl,rfl⟩
theorem Zci{e it l:Addr}{i:Nat}{items:Array Value}{x old:Value}{Q:Value→Shared→Prop}
  (he:IsEnum s.heap e it i old) (hit:s.heap.IsTupleIter it l i) (hl:s.heap.IsTuple l items) (hx:items[i]?=some x) (hne:e≠it)
  (hQ:∀h',IsEnumOut h' e it ((i:Int) + 1) x s.heap.objs.size→h'.IsTupleIter it l (i + 1) →
   h'.get? s.heap.objs.size=some { cls:=.type "tuple",data:=.seq #[.int i s.toks,x] }→h'.objs.size=s.heap.objs.size + 1 →
   (∀b o,b≠e→b≠it→s.heap.get? b=some o→h'.get? b=some o)→Q (.ref s.heap.objs.size) { s with heap:=h',toks:=s.toks + 1 }) :
  wpAny (model prog w) A (Builtin.«enumerate.__next__» ⟨[.ref e],[]⟩) (fun fin s'=>∃v,fin=.done (.ret v)∧Q v s') E s:=by
 obtain ⟨hp,g,d,tk,os⟩:=s
 show wpAny _ _ (field (.ref e) 2 >>= _) _ _ _
 refine wpAny_bind (wpAny_field he rfl (x:=.ref it) rfl ?_)
 refine wpAny_bind (next_of hit hl hx fun h₁ hit₁ hs₁=>?_)
 replace hs₁:Heap.SameBut it hp h₁:=hs₁
 have he₁:IsEnum h₁ e it i old:=(hs₁.2 e hne).trans he
 show wpAny _ _ (field (.ref e) 3 >>= _) _ _ ⟨h₁,g,d,tk,os⟩
 refine wpAny_bind (wpAny_field he₁ rfl (x:=rawInt i) rfl ?_)
 show wpAny _ _ (field (.ref e) 4 >>= _) _ _ ⟨h₁,g,d,tk,os⟩
 refine wpAny_bind (wpAny_field he₁ rfl (x:=.none) rfl ?_)
 show wpAny _ _ (mkInt i >>= _) _ _ ⟨h₁,g,d,tk,os⟩
 refine wpAny_bind (wpAny_mkInt ?_)
 show wpAny _ _ (setField (.ref e) 3 (rawInt ((i:Int) + 1)) >>= _) _ _ ⟨h₁,g,d,tk + 1,os⟩
 refine wpAny_bind (wpAny_setField_rec he₁ (by simp) fun h₂ he₂ hs₂=>?_)
 replace hs₂:Heap.SameBut e h₁ h₂:=hs₂
 replace he₂:IsEnum h₂ e it ((i:Int) + 1) old:=he₂
 show wpAny _ _ (setField (.ref e) 4 .none >>= _) _ _ ⟨h₂,g,d,tk + 1,os⟩
 refine wpAny_bind (wpAny_setField_rec he₂ (by simp) fun h₃ he₃ hs₃=>?_)
 replace hs₃:Heap.SameBut e h₂ h₃:=hs₃
 replace he₃:IsEnum h₃ e it ((i:Int) + 1) old:=he₃
 show wpAny _ _ (newTuple [.int i tk,x] >>= _) _ _ ⟨h₃,g,d,tk + 1,os⟩
 refine wpAny_bind (wpAny_newTuple ?_)
 have he₄:IsEnum (h₃.push { cls:=.type "tuple",data:=.seq #[.int i tk,x] }) e it ((i:Int) + 1) old:=Heap.get?_push_of_some _ he₃
 generalize hh₄:h₃.push { cls:=.type "tuple",data:=.seq #[.int i tk,x] }=h₄ at he₄
 have hsz:h₃.objs.size=hp.objs.size:=by rw [hs₃.1,hs₂.1,hs₁.1]
 have hel:e < hp.objs.size:=Heap.lt_size he
 have ht₄:h₄.get? hp.objs.size=some { cls:=.type "tuple",data:=.seq #[.int i tk,x] }:=by rw [←hh₄,←hsz];exact Heap.get?_push_size _ rfl
 have hz₄:h₄.objs.size=hp.objs.size + 1:=by rw [←hh₄,Heap.size_push,hsz]
 have hk₄:∀b o,b≠e→b≠it→hp.get? b=some o→h₄.get? b=some o:=fun b o hbe hbi hb=>by
  rw [←hh₄];exact Heap.get?_push_of_some _ (hs₃.extBut b o hbe (hs₂.extBut b o hbe (hs₁.extBut b o hbi hb)))
 have hit₄:h₄.IsTupleIter it l (i + 1):=by
  rw [←hh₄];obtain ⟨o,ho,r⟩:=(hit₁.extBut hs₂.extBut (Ne.symm hne)).extBut hs₃.extBut (Ne.symm hne);exact ⟨o,Heap.get?_push_of_some _ ho,r⟩
 show wpAny _ _ (Builtin.SmallTypes.ownedTupleIsFree (.ref e) >>= _) _ _ ⟨h₄,g,d,tk + 1,os⟩
 rw [hsz]
 clear hh₄ he₃ hs₃ he₂ hs₂ he₁ hs₁ hit₁ hsz h₃ h₂ h₁
 refine wpAny_bind ?_
 ·unfold Builtin.SmallTypes.ownedTupleIsFree
  refine wpAny_bind (wpAny_field he₄ rfl (x:=.none) rfl (wpAny_pure ?_))
  simp only [if_true]
  refine wpAny_bind (wpAny_rule ?_)
  refine wpAny_bind (wpAny_field he₄ rfl (x:=old) rfl ?_)
  refine wpAny_bind (wpAny_setField_rec he₄ (by simp) fun h₅ he₅ hs₅=>?_)
  replace hs₅:Heap.SameBut e h₄ h₅:=hs₅
  replace he₅:IsEnum h₅ e it ((i:Int) + 1) x:=he₅
  show wpAny _ _ (Builtin.SmallTypes.ownedTupleHandOut (.ref e) (.ref hp.objs.size) >>= _) _ _ ⟨h₅,g,d,tk + 1,os⟩
  refine wpAny_bind ?_
  ·unfold Builtin.SmallTypes.ownedTupleHandOut
   refine wpAny_bind (wpAny_setField_rec he₅ (by simp) fun h₆ he₆ hs₆=>?_)
   replace hs₆:Heap.SameBut e h₅ h₆:=hs₆
   replace he₆:IsEnumOut h₆ e it ((i:Int) + 1) x hp.objs.size:=he₆
   refine wpAny_setField_rec he₆ (by simp) fun h₇ he₇ hs₇=>?_
   replace hs₇:Heap.SameBut e h₆ h₇:=hs₇
   replace he₇:IsEnumOut h₇ e it ((i:Int) + 1) x hp.objs.size:=he₇
   refine wpAny_bind (wpAny_letGo (wpAny_pure ⟨_,rfl,hQ h₇ he₇ ?_ ?_ ?_ ?_⟩))
   ·exact ((hit₄.extBut hs₅.extBut (Ne.symm hne)).extBut hs₆.extBut (Ne.symm hne)).extBut hs₇.extBut (Ne.symm hne)
   ·exact hs₇.extBut _ _ (Nat.ne_of_gt hel) (hs₆.extBut _ _ (Nat.ne_of_gt hel) (hs₅.extBut _ _ (Nat.ne_of_gt hel) ht₄))
   ·rw [hs₇.1,hs₆.1,hs₅.1,hz₄]
   ·exact fun b o hbe hbi hb=>hs₇.extBut b o hbe (hs₆.extBut b o hbe (hs₅.extBut b o hbe (hk₄ b o hbe hbi hb)))
end
end EnT
namespace L2
open PySem PySem.Spec PyProof.Rows
theorem WV{X:Cx}{pins:List (Addr × Obj)}{σ:St}{H:Hp}{s:Shared}{h':Heap}{t':Nat}{fp:List Addr}(I:Inv X pins σ H s)(hf:∀b∈fp,Gm X pins H b)(k:∀b o,b∉fp→s.heap.get? b=some o→h'.get? b=some o):Inv X pins σ H { s with heap:=h',toks:=t' }:=by
 have nit:∀b u,H b=some u→b∉fp:=fun b u e z=>by rw [(hf b z).1] at e;cases e
 refine I.step (g':=s.gens) (d':=s.drawn) (ch:=fp) (fun b hb=>⟨(hf b hb).2.2.2.1,(hf b hb).2.1,(hf b hb).2.2.2.2.1,(hf b hb).2.2.2.2.2⟩) (fun b o _ _ hc e _=>k b o hc e) (fun b o _ _ hc e _=>⟨o.slots,k b o hc e⟩) (fun _ _ _ _ n=>n)
  (fun b o hc e=>⟨o,k b o hc e⟩) (fun _ _ e=>e) (fun _ _ _ e=>e) (fun b ps e=>⟨#[],by rw [e];simp⟩) (fun m hm=>?_) (fun b u e=>?_) I.bare
 ·obtain ⟨o,es,ep,ho,r⟩:=hm
  exact ⟨o,es,ep,k _ o (fun z=>(hf _ z).2.1 rfl) ho,r⟩
 ·refine (I.hok b u e).stay (fun c v hc q=>k c v ?_ q) (fun _ q=>q) fun _ _ q=>q
  rcases hc with z | z
  ·rw [z]
   exact nit b u e
  ·exact nit c _ z
section
variable {X:Cx}
theorem j6{o i:Expr}{td ty:TE}{pos:Pos}(hu:X.A.units + 1 < cLine)(ho:QE X o td)(hi:QE X i ty)(hs:NoSl i):QE X (.Subscript o i pos) (Zd9 td ty):=⟨Zcg hu ho.out hi.out hs⟩
theorem Zcj{pos:Pos}:QE X (.Dict [] [] pos) Za4:=⟨gW⟩
theorem kW{o i value:Expr}{td ty tv:TE}{pos pos':Pos}(hu:X.A.units + 1 < cLine)(ho:QE X o td)(hi:QE X i ty)(hv:QE X value tv)(hs:swapsWith value (some (.Subscript o i pos')) pos.line X.env=pure false) :
  QS X (.Assign [.Subscript o i pos'] value pos) (Zea td ty tv):=⟨Zch hu ho.out hi.out hv.out hs⟩
inductive Za5(neg:Bool)(y:V)(x:V)(H:Hp)(Q:VK):Prop
 | mk (a o):(x=.ref a)→(Zd8 H a y o)→(Q (.bl (if neg then !o.isSome else o.isSome)) H)→Za5 neg y x H Q
noncomputable def rDIn(neg:Bool):R2:=fun y x H Q=>Za5 neg y x H Q
theorem JC(hu:X.A.units + 1 < cLine):OpR X (compareOp .NotIn) (rDIn true):=by
 intro pins s σ H x y v u Q I rx ry h
 obtain ⟨a,o,rfl,g,q⟩:=h
 cases ry
 exact Zce hu I g rx fun s' I'=>⟨.bl (!o.isSome),H,I',rfl,q⟩
theorem yP:XR X (.type "dict") (fun xs H Q=>∃a kvs,xs=[V.ref a]∧Rd H a (.dK kvs)∧∀p,H p=none→Q (.ref p) (upd H p (.dK kvs))):=by
 intro pins s σ H xs us Q I r h
 obtain ⟨a,kvs,rfl,e,q⟩:=h
 obtain ⟨u,rfl,ru⟩:=vals1 r
 cases ru
 exact gX I e fun p s' hp I'=>⟨.ref p,_,I',rfl,q p hp⟩
theorem yi{κ:Type}[DecidableEq κ]:∀{kvs:List (κ × V)},(kvs.map (·.1)).Nodup→∀p∈kvs,Yw kvs p.1=some p.2
 | [],_,_,h=>nomatch h
 | q::r,nd,p,h=>by
  rw [List.map_cons,List.nodup_cons] at nd
  rcases List.mem_cons.mp h with rfl | h
  ·exact Yn rfl
  ·have hne:¬q.1=p.1:=fun z=>nd.1 (by rw [z];exact List.mem_map_of_mem h)
   rw [Yc hne]
   exact yi nd.2 p h
theorem gY{x:V}(h:YC x=true):eqV x x=true:=by
 cases x <;> first
  | exact beq_self_eq_true _
  | rfl
  | cases h
theorem zH{A:Around}{s:Shared}{kvs:List (Key × V)}{vb:List (Key × Value)}(rb:KV kvs vb):∀{r:List (Key × V)} {va:List (Key × Value)},KV r va→(∀p∈r,Yw kvs p.1=some p.2)→(∀p∈r,YC p.2=true)→PySem.W.KeqHits A s vb va true
 | _,_,.nil,_,_=>.nil
 | p::r,q::va,.cons h t,hv,hf=>by
  obtain ⟨h1,h2⟩:=h
  have e:=hv p List.mem_cons_self
  have f:=hf p List.mem_cons_self
  obtain ⟨y,hy,ry⟩:=jo.some_of (v:=p.2) (o:=valueAt vb q.1) (by rw [←e,h1];exact rb.val q.1)
  have z:=PySem.W.KeqHits.hit (k:=q.1) (v:=q.2) hy (kq (A:=A) (s:=s) h2 ry f f) (zH rb (r:=r) (va:=va) t (fun p hp=>hv p (List.mem_cons_of_mem _ hp)) fun p hp=>hf p (List.mem_cons_of_mem _ hp))
  rw [gY f] at z
  exact z
inductive Za6(x:V)(y:V)(H:Hp)(Q:VK):Prop
 | mk (a b kvs):(x=.ref a)→(y=.ref b)→(Rd H a (.dK kvs))→(Rd H b (.dK kvs))→((∀p∈kvs,YC p.2=true))→(Q (.bl false) H)→Za6 x y H Q
noncomputable def rNeD  : R2:=fun x y H Q=>Za6 x y H Q
theorem op_neD(hu:X.A.units < cLine):OpR X (compareOp .NotEq) rNeD:=by
 intro pins s σ H x y v u Q I rx ry h
 obtain ⟨a,b,kvs,rfl,rfl,ha,hb,hf,q⟩:=h
 cases rx
 cases ry
 obtain ⟨za,na,va,ra,da⟩:=j4 I.hok ha
 obtain ⟨zb,nb,vb,rb,db⟩:=j4 I.hok hb
 have nd:(kvs.map (·.1)).Nodup:=by
  rw [ra.keys]
  obtain ⟨_,_,_,_,_,_,_,_,z⟩:=da
  exact z
 refine PySem.W.keq_ne na nb da db hu (fun _=>zH rb ra (yi nd) hf) ?_
 rw [show va.length=vb.length by rw [←ra.length,←rb.length],beq_self_eq_true]
 exact ⟨.bl false,H,I,rfl,q⟩
end
inductive KTab(P:Params):List DictEntry→List (Str × Int)→Prop
 | nil:KTab P [] []
 | cons {k:Str} {v:Int} {t u:Tok} {es:List DictEntry} {l:List (Str × Int)}:KTab P es l→KTab P ({ hash:=PyData.keyHash P k,key:=.str k t,val:=.int v u }::es) ((k,v)::l)
structure KD(K:PySem.W.Frag)(w:World)(a:Addr)(l:List (Str × Int)):Prop where
 ex:∃es ep,K.lookup a=some { cls:=.type "dict",dict:=none,data:=.dict es ep,slots:=#[] }∧KTab w.params es.toList l
 nd:(l.map (·.1)).Nodup
 ns:(a == sysModules)=false
noncomputable def kvsOf(l:List (Str × Int)):List (Key × V):=l.map fun p=>((Sum.inr p.1:Key),V.int p.2)
theorem KTab.pairs{P:Program}{w:World}{es:List DictEntry}{l:List (Str × Int)}(h:KTab w.params es l):(∃vs,KV (kvsOf l) vs∧Pairs (ZP P w) es vs)∧∀e∈es,∃k,(ZP P w).is k e.key=true∧e.hash=(ZP P w).hash k:=by
 induction h with
 | nil=>exact ⟨⟨[],.nil,.nil⟩,fun _ h=>nomatch h⟩
 | @cons k v t u es l _ ih =>
  obtain ⟨⟨vs,r,p⟩,q⟩:=ih
  refine ⟨⟨(.inr k,.int v u)::vs,.cons ⟨rfl,⟨u,rfl⟩⟩ r,.cons (Ju P w k t) rfl p⟩,fun e he=>?_⟩
  rcases List.mem_cons.mp he with rfl | he
  ·exact ⟨.inr k,Ju P w k t,rfl⟩
  ·exact q e he
section
variable {X:Cx}{pins:List (Addr × Obj)}{σ:St}{H:Hp}{s:Shared}{a:Addr}{l:List (Str × Int)}{k:Key}{u:Value}{A:Around}{E:Value→Shared→Prop}
theorem KD.of(I:Inv X pins σ H s)(d:KD X.K X.w a l):∃vs,KV (kvsOf l) vs∧s.heap.DictOf (ZP X.prog X.w) a vs:=by
 obtain ⟨es,ep,hk,t⟩:=d.ex
 obtain ⟨⟨vs,r,p⟩,q⟩:=t.pairs (P:=X.prog)
 refine ⟨vs,r,_,es,ep,I.kIn a _ hk,⟨rfl,rfl,rfl⟩,rfl,fun e he=>q e (by simpa using he),p,?_⟩
 rw [←r.keys]
 unfold kvsOf
 rw [List.map_map]
 have:=d.nd
 rw [List.nodup_iff_pairwise_ne] at *
 rw [List.pairwise_map] at *
 exact this.imp fun h z=>h (Sum.inr.inj z)
theorem kd_in{Q:Value→Shared→Prop}(I:Inv X pins σ H s)(d:KD X.K X.w a l)(ry:RelV (kV k) u)(h:∀s',Inv X pins σ H s'→Q (.bool (Yw (kvsOf l) k).isSome) s'):wpAny (model X.prog X.w) A (compareOp .In u (.ref a)) Q E s:=by
 obtain ⟨vs,rel,dd⟩:=d.of I
 refine wpAny_in_of (j0 ry) d.ns dd.mapOf ?_
 rw [←(rel.val k).isSome_eq]
 exact h _ (I.tok _)
theorem Zck{z:V}{r:Value}{Q:Value→Shared→Prop}(I:Inv X pins σ H s)(d:KD X.K X.w a l)(ry:RelV (kV k) u)(rz:RelV z r)(h:∀w' s',Inv X pins σ H s'→RelV ((Yw (kvsOf l) k).getD z) w'→Q w' s') :
  wpAny (model X.prog X.w) A (call (.builtin "dict.get") [.ref a,u,r]) Q E s:=by
 obtain ⟨vs,rel,dd⟩:=d.of I
 exact call_meetsIn PySem.F.slot_dict_get dd.typeIs PySem.F.entry_dict_get (PySem.F.args_dict_get_3 _ _ _) (meets_dict_get_default (ZP X.prog X.w) a (j0 ry) d.ns r) ⟨_,dd.mapOf,h _ _ (I.tok _) ((rel.val k).getD rz)⟩
end
section
variable {X:Cx}
noncomputable def rKIn(K:PySem.W.Frag)(w:World):R2:=fun y x H Q=>∃a l k,x=.ref a∧KD K w a l∧y=kV k∧Q (.bl (Yw (kvsOf l) k).isSome) H
theorem j7:OpR X (compareOp .In) (rKIn X.K X.w):=by
 intro pins s σ H x y v u Q I rx ry h
 obtain ⟨a,l,k,rfl,d,rfl,q⟩:=h
 cases ry
 exact kd_in I d rx fun s' I'=>⟨.bl _,H,I',rfl,q⟩
noncomputable def tKGet(K:PySem.W.Frag)(w:World)(td ty tx:TE):TE:=fun σ H Q=>td σ H fun x H1=>∃a l,x=.ref a∧KD K w a l∧ty σ H1 fun y H2=>tx σ H2 fun z H3=>∃k,y=kV k∧Q ((Yw (kvsOf l) k).getD z) H3
theorem m2_of{o e f:Expr}{m:Str}{apos cpos:Pos}(he:Yp e=true)(hf:Yp f=true)(hb:attributeBase o m X.env (eval o X.env)=eval o X.env)(hl:(apos.endLine == cpos.line)=true):M2 X o m apos e f cpos where
 base:=hb
 few:=by
  rw [all_plain (by rw [List.all_cons,he,List.all_cons,hf];rfl)]
  rfl
 line:=hl
 trees:=by
  rw [Zz he,Zz hf]
  rfl
theorem j8 {o e f:Expr} {apos cpos:Pos} {td ty tx:TE} (ho:QE X o td) (he:QE X e ty) (hf:QE X f tx) (h1:Yp e=true:=by rfl) (h2:Yp f=true:=by rfl) (hb:attributeBase o "get" X.env (eval o X.env)=eval o X.env:=by rfl) (hl:(apos.endLine == cpos.line)=true:=by rfl) :
  QE X (.Call (.Attribute o "get" apos) [e,f] [] cpos) (tKGet X.K X.w td ty tx):=by
 have m:=m2_of (X:=X) (m := "get") (o:=o) h1 h2 hb hl
 refine ⟨fun pins s σ H Q I h=>?_⟩
 refine wpAny_Call_method m.base m.few m.line PySem.F.plainAttrs_dict PySem.F.slot_dict_get PySem.F.type_dict_get (thn (ho.out pins s σ H _ I h) fun u s1 ⟨x,H1,I1,rx,a,l,ex,d,q1⟩=>?_)
 subst ex
 obtain rfl:u=Value.ref a:=rx
 obtain ⟨vs,rel,dd⟩:=d.of I1
 refine ⟨dd.typeIs,fun b q=>?_,?_⟩
 ·cases q
  obtain ⟨ob,_,_,g1,g2,_⟩:=dd
  exact ⟨ob,g1,g2.2.1⟩
 rw [m.trees]
 refine Calls.callWith_builtin rfl (Calls.evalArgs_plain (Calls.spliced_cons (thn (he.out pins s1 σ H1 _ I1 q1) fun iv s2 ⟨y,H2,I2,ry,q2⟩=>Calls.spliced_cons (thn (hf.out pins s2 σ H2 _ I2 q2) fun fv s3 ⟨z,H3,I3,rz,k,ey,q3⟩=>Calls.spliced_nil ?_))))
 subst ey
 exact Zck I3 d ry rz fun w' s4 I4 rw'=>⟨_,H3,I4,rw',q3⟩
end
theorem gZ{x:Str}{is:List Nat}{te:TE}{σ:St}{H:Hp}{Q:VK}(f:Nat→V)(hz:x.cps.size≤sizeLine)
  (he:∀c∈x.cps.toList,∀R:VK,R (f c) H→te (GK is σ (some (.str ⟨#[c]⟩))) H R)
  (hd:∀l,H l=none→Q (.ref l) (upd H l (.lst (x.cps.toList.map f)))):zB is kF te σ Q (Its x) H:=by
 refine ⟨fun i m zs H'=>m=x.cps.size - i∧i≤x.cps.size∧zs=(x.cps.toList.take i).map f∧H'=H,⟨x.cps.size,by simp,Nat.zero_le _,rfl,rfl⟩,?_⟩
 rintro i m zs H' ⟨rfl,hi,rfl,rfl⟩
 have hl:((x.cps.toList.take i).map f).length≤sizeLine:=by
  rw [List.length_map,List.length_take]
  lia
 by_cases hlt:i < x.cps.size
 ·refine .inr ⟨hlt,hl,fun v H2 y=>?_⟩
  obtain ⟨e,c,hc,rfl⟩:=y
  subst e
  have hc':x.cps.toList[i]?=some c:=by rw [Array.getElem?_toList];exact hc
  unfold kF
  dsimp only
  rw [if_pos rfl]
  refine he c (List.mem_of_getElem? hc') _ ⟨x.cps.size - (i + 1),by lia,rfl,hlt,?_,rfl⟩
  rw [take_snoc hc',List.map_append]
  rfl
 ·have e:i=x.cps.size:=by lia
  refine .inl ⟨e,hl,fun l hl2=>?_⟩
  rw [List.take_of_length_le (by rw [Array.length_toList];lia)]
  exact hd l hl2
noncomputable def jq:List V→List V→Bool
 | [],[]=>true
 | x::xs,y::ys=>eqV x y && jq xs ys
 | _,_=>false
noncomputable def eqJ(xs ys:List V)(j:Nat):Bool:=match xs[j]?,ys[j]? with
 | some a,some b=>eqV a b
 | _,_=>true
theorem Gq:∀xs ys:List V,((List.range (min xs.length ys.length)).all (eqJ xs ys) && xs.length == ys.length)=jq xs ys
 | [],[]=>rfl
 | [],y::ys=>by simp [jq]
 | x::xs,[]=>by simp [jq]
 | x::xs,y::ys=>by
  have ih:=Gq xs ys
  have e1:min (x::xs).length (y::ys).length=min xs.length ys.length + 1:=by
   simp only [List.length_cons]
   lia
  have e2:((x::xs).length == (y::ys).length)=(xs.length == ys.length):=by simp
  rw [e1,e2,List.range_succ_eq_map,List.all_cons,List.all_map,Bool.and_assoc]
  show (eqV x y && ((List.range (min xs.length ys.length)).all (eqJ xs ys) && xs.length == ys.length))=(eqV x y && jq xs ys)
  rw [ih]
theorem zI{A:Around}{s:Shared}{xs ys:List V}{its its2:List Value}(r:Vals xs its)(r2:Vals ys its2)(f:xs.all YC=true)(f2:ys.all YC=true):∀j (h1:j < its.toArray.size) (h2:j < its2.toArray.size),SeqAt.EqAt A s its.toArray[j] its2.toArray[j] (eqJ xs ys j):=by
 intro j h1 h2
 have l1:=r.length
 have l2:=r2.length
 have hj:j < xs.length:=by rw [l1];simpa using h1
 have hj2:j < ys.length:=by rw [l2];simpa using h2
 obtain ⟨u,e1,q1⟩:=r.get (List.getElem?_eq_getElem hj)
 obtain ⟨u2,e2,q2⟩:=r2.get (List.getElem?_eq_getElem hj2)
 have g1:YC xs[j]=true:=List.all_eq_true.mp f _ (List.getElem_mem hj)
 have g2:YC ys[j]=true:=List.all_eq_true.mp f2 _ (List.getElem_mem hj2)
 have e1':its.toArray[j]=u:=by
  have:its[j]?=some its[j]:=List.getElem?_eq_getElem (by simpa using h1)
  rw [e1] at this
  simpa using (Option.some.inj this).symm
 have e2':its2.toArray[j]=u2:=by
  have:its2[j]?=some its2[j]:=List.getElem?_eq_getElem (by simpa using h2)
  rw [e2] at this
  simpa using (Option.some.inj this).symm
 have e3:eqJ xs ys j=eqV xs[j] ys[j]:=by
  unfold eqJ
  rw [List.getElem?_eq_getElem hj,List.getElem?_eq_getElem hj2]
 rw [e1',e2',e3]
 exact kq (A:=A) (s:=s) q1 q2 g1 g2
section
variable {X:Cx}
inductive Za7(K:PySem.W.Frag)(neg:Bool)(x:V)(y:V)(H:Hp)(Q:VK):Prop
 | mk (a c xs ys):(x=.ref a)→(y=.ref c)→(SqL K H a xs)→(SqL K H c ys)→(xs.all YC=true)→(ys.all YC=true)→(Q (.bl (if neg then !jq xs ys else jq xs ys)) H)→Za7 K neg x y H Q
noncomputable def rEqL(K:PySem.W.Frag)(neg:Bool):R2:=fun x y H Q=>Za7 K neg x y H Q
theorem Zcl(hu:X.A.units < cLine):OpR X (compareOp .Eq) (rEqL X.K false):=by
 intro pins s σ H x y v u Q I rx ry h
 obtain ⟨a,c,xs,ys,rfl,rfl,ha,hc,f,f2,q⟩:=h
 cases rx
 cases ry
 obtain ⟨its,r,p,_⟩:=I.list ha
 obtain ⟨its2,r2,p2,_⟩:=I.list hc
 have e:=Gq xs ys
 by_cases hl:xs.length=ys.length
 ·have hs:its.toArray.size=its2.toArray.size:=by rw [List.size_toArray,List.size_toArray,←r.length,←r2.length];exact hl
  refine SeqAt.eq_listAt (e:=eqJ xs ys) p.isList p2.isList hs hu (zI r r2 f f2) (ZE I q ?_)
  show jq xs ys=_
  rw [hl,Nat.min_self,beq_self_eq_true,Bool.and_true] at e
  rw [List.size_toArray,←r.length,hl,e]
 ·have hs:(its.toArray.size != its2.toArray.size)=true:=by
   rw [List.size_toArray,List.size_toArray,←r.length,←r2.length]
   simpa using hl
  refine SeqAt.eq_list_lengthsAt p.isList p2.isList hs hu (ZE I q ?_)
  show jq xs ys=false
  rw [←e,beq_eq_false_iff_ne.mpr hl,Bool.and_false]
theorem Zcm(hu:X.A.units < cLine):OpR X (compareOp .NotEq) (rEqL X.K true):=by
 intro pins s σ H x y v u Q I rx ry h
 obtain ⟨a,c,xs,ys,rfl,rfl,ha,hc,f,f2,q⟩:=h
 cases rx
 cases ry
 obtain ⟨its,r,p,_⟩:=I.list ha
 obtain ⟨its2,r2,p2,_⟩:=I.list hc
 have e:=Gq xs ys
 by_cases hl:xs.length=ys.length
 ·have hs:its.toArray.size=its2.toArray.size:=by rw [List.size_toArray,List.size_toArray,←r.length,←r2.length];exact hl
  refine SeqAt.RcNeAt.lists (e:=eqJ xs ys) p.isList p2.isList hs hu (zI r r2 f f2) X.prog X.w _ _ (ZE I q ?_)
  show (!jq xs ys)=_
  rw [hl,Nat.min_self,beq_self_eq_true,Bool.and_true] at e
  rw [List.size_toArray,←r.length,hl,e]
 ·have hs:(its.toArray.size != its2.toArray.size)=true:=by
   rw [List.size_toArray,List.size_toArray,←r.length,←r2.length]
   simpa using hl
  refine SeqAt.RcNeAt.lists_lengths p.isList p2.isList hs hu X.prog X.w _ _ (ZE I q ?_)
  show (!jq xs ys)=true
  rw [←e,beq_eq_false_iff_ne.mpr hl,Bool.and_false]
  rfl
end
section
variable {prog:Program}{w:World}{A:Around}{E:Value→Shared→Prop}{s:Shared}
end
section
variable {prog:Program}{w:World}{A:Around}{R:Result→Shared→Prop}{I:Addr}{fp wr:List Addr}{G:Array GenState→Array GenState→Prop}{n:Nat}{P:Nat→Value→Prop}{St:Nat→Shared→Prop}
end
section
variable {prog:Program}{w:World}{A:Around}{E:Value→Shared→Prop}{s:Shared}
end
section
variable {prog:Program}{w:World}{A:Around}{E:Value→Shared→Prop}{s:Shared}
end
section
variable {prog:Program}{w:World}{A:Around}{E:Value→Shared→Prop}{s:Shared}
end
section
variable {prog:Program}{w:World}{A:Around}{E:Value→Shared→Prop}{s:Shared}
end
section
variable {prog:Program}{w:World}{A:Around}{E:Value→Shared→Prop}{s:Shared}
end
section
variable {prog:Program}{w:World}{A:Around}{E:Value→Shared→Prop}{s:Shared}
end
section
variable {prog:Program}{w:World}{A:Around}{E:Value→Shared→Prop}{s:Shared}
end
section
variable {X:Cx}
end
section
variable {prog:Program}{w:World}{A:Around}{E:Value→Shared→Prop}{s:Shared}
end
section
variable {X:Cx}
end
theorem kX{K:PySem.W.Frag}{a:Addr}{xs:List V}{is:List Nat}{tc:TT}{te:TE}{σ:St}{H:Hp}{Q:VK}(p:V→Bool)(S:Hp→Hp→Prop)(sr:∀H,S H H)(st:∀H1 H2 H3,S H1 H2→S H2 H3→S H1 H3)(hx:∀H1,S H H1→SqT K H1 a xs)(hz:xs.length≤sizeLine)
  (hc:∀x∈xs,∀H1,S H H1→∀R:Bool→Hp→Prop,(∀H2,S H1 H2→R (p x) H2)→tc (GK is σ (some x)) H1 R)
  (he:∀x∈xs,∀H1,∀R:VK,R x H1→te (GK is σ (some x)) H1 R)
  (hd:∀H1 l,S H H1→H1 l=none→Q (.ref l) (upd H1 l (.lst (xs.filter p)))):zB is tc te σ Q (Itt K a) H:=by
 refine gP (xs:=xs) (fun i zs H'=>zs=(xs.take i).filter p∧S H H') ⟨rfl,sr H⟩ ?_ ?_ ?_ ?_
 ·rintro i zs H' ⟨rfl,_⟩
  exact Nat.le_trans (List.length_filter_le _ _) (by rw [List.length_take];lia)
 ·rintro i zs H' ⟨rfl,s1⟩
  exact hx _ s1
 ·rintro i x zs H' R hR hxi ⟨rfl,s1⟩
  have hm:=List.mem_of_getElem? hxi
  have e:=take_snoc hxi
  refine hc x hm H' s1 _ fun H2 s2=>?_
  cases hp:p x with
  | true =>
   refine (if_pos rfl:(if true=true then _ else _)=_) ▸ he x hm H2 _ (hR _ _ ⟨?_,st _ _ _ s1 s2⟩)
   rw [e,List.filter_append,List.filter_cons,if_pos hp]
   rfl
  | false =>
   refine (if_neg Bool.false_ne_true:(if false=true then _ else _)=_) ▸ hR _ _ ⟨?_,st _ _ _ s1 s2⟩
   rw [e,List.filter_append,List.filter_cons,if_neg (by rw [hp];exact Bool.false_ne_true)]
   simp
 ·rintro zs H' ⟨rfl,s1⟩ l hl
  rw [List.take_length]
  exact hd H' l s1 hl
section
variable {X:Cx}
end
noncomputable abbrev Gk(o:Obj):HO:=.frz o (.ext fun _=>True)
theorem qg{P:Program}{w:World}{H:Hp}{h:Heap}{a:Addr}{o:Obj}(e:h.get? a=some o):Yg P w H h a (Gk o):=⟨e,trivial,⟨o,e⟩,fun _ _ _ _=>trivial⟩
noncomputable def hide(cs:List Addr)(H:Hp):Hp:=fun b=>if b∈cs then none else H b
noncomputable def xk(cs:List Addr)(H H':Hp):Hp:=fun b=>if b∈cs then H b else H' b
theorem XO{cs:List Addr}{H:Hp}{b:Addr}(h:b∈cs):hide cs H b=none:=if_pos h
theorem ZF{cs:List Addr}{H:Hp}{b:Addr}(h:b∉cs):hide cs H b=H b:=if_neg h
theorem JD{cs:List Addr}{H H':Hp}{b:Addr}(h:b∈cs):xk cs H H' b=H b:=if_pos h
theorem Y6{cs:List Addr}{H H':Hp}{b:Addr}(h:b∉cs):xk cs H H' b=H' b:=if_neg h
theorem of_hide{cs:List Addr}{H:Hp}{b:Addr}{o:HO}(h:hide cs H b=some o):b∉cs∧H b=some o:=by
 by_cases m:b∈cs
 ·rw [XO m] at h;cases h
 ·rw [ZF m] at h;exact ⟨m,h⟩
noncomputable def Gr(H H1:Hp):Prop:=∀b o u,H b=some (.frz o u)→H1 b=some (.frz o u)
theorem Gr.refl(H:Hp):Gr H H:=fun _ _ _ h=>h
theorem Gr.trans{H H1 H2:Hp}(a:Gr H H1)(b:Gr H1 H2):Gr H H2:=fun c o u h=>b c o u (a c o u h)
theorem ZU.frz{H H1:Hp}(a:ZU H H1):Gr H H1:=fun b o u h=>a b _ h
noncomputable def Xl(P:Program)(w:World)(K:PySem.W.Frag)(mg:Str→Option Value)(base:Heap)(k:Nat)(f:Addr)(H:Hp)(τ:Sp):Prop :=
 (∃o fd,H f=some (Gk o)∧o.data=.func fd) ∧
 ∀(A:Around) (outer:List Env) (s:Shared) (H1:Hp) (us:List Value) (vs:List V) (Q:VK) (E:XK),Gr H H1→Wi k A→vw P w K mg base A outer s H1→Vals vs us→τ vs H1 Q E →
  codeAny (model P w) A (.call (.ref f) ⟨us,[]⟩) (CR CX0 outer P w H1 s Q E) s
theorem Xl.frz{P:Program}{w:World}{K:PySem.W.Frag}{mg:Str→Option Value}{base:Heap}{k:Nat}{f:Addr}{H H1:Hp}{τ:Sp}(c:Xl P w K mg base k f H τ)(h:Gr H H1):Xl P w K mg base k f H1 τ :=
 ⟨let ⟨o,fd,e,d⟩:=c.1;⟨o,fd,h _ _ _ e,d⟩,fun A outer s H2 us vs Q E fz=>c.2 A outer s H2 us vs Q E (h.trans fz)⟩
section
variable {P:Program}{w:World}{H H':Hp}{h h':Heap}{cs:List Addr}
theorem kY(x:HOk P w H h)(hcs:∀c∈cs,∃o,H c=some (Gk o)):HOk P w (hide cs H) h:=fun a o e=>by
 obtain ⟨_,e'⟩:=of_hide e
 refine (x a o e').stay (fun _ _ _ q=>q) (fun d q=>?_) fun d xs q=>?_
 ·by_cases m:d∈cs
  ·obtain ⟨ob,z⟩:=hcs d m
   rw [q] at z;cases z
  ·rw [ZF m];exact q
 ·by_cases m:d∈cs
  ·obtain ⟨ob,z⟩:=hcs d m
   rw [q] at z;cases z
  ·rw [ZF m];exact q
theorem kZ(x:HOk P w H' h')(hn:∀c∈cs,H' c=none)(hcs:∀c∈cs,∃o,H c=some (Gk o)∧h'.get? c=some o):HOk P w (xk cs H H') h':=fun a o e=>by
 by_cases m:a∈cs
 ·rw [JD m] at e
  obtain ⟨ob,z,g⟩:=hcs a m
  rw [z] at e;cases e
  exact qg g
 ·rw [Y6 m] at e
  refine (x a o e).stay (fun _ _ _ q=>q) (fun d q=>?_) fun d xs q=>?_
  ·by_cases m:d∈cs
   ·rw [hn d m] at q;cases q
   ·rw [Y6 m];exact q
  ·by_cases m:d∈cs
   ·rw [hn d m] at q;cases q
   ·rw [Y6 m];exact q
end
structure Zeb(scope:Scope)(ps ys:List Str):Prop where
 kind:scope.kind=.function
 co:scope.isCoroutine=false
 gen:scope.isGenerator=false
 cell:∀y∈scope.names,y.2≠.cell
 par:∀p∈ps,scope.names.lookup p=some .local
 free:∀y∈ys,scope.names.lookup y=some .free
 nd:(ps++ys).Nodup
noncomputable def cxL(P:Program)(w:World)(K:PySem.W.Frag)(mg:Str→Option Value)(base:Heap)(N:List Str)(qual:Str)(scope:Scope)(f:Addr)(cd:Value)(cl:List (Str × Addr))(A:Around)(outer:List Env)(s:Shared)(H:Hp):Cx where
 prog:=P
 w:=w
 K:=K
 mg:=mg
 base:=base
 A:=A.deeper (PySem.W.envX qual scope s.heap.objs.size f cd cl)
 N:=N
 s₀:=s
 H₀:=H
 env:=PySem.W.envX qual scope s.heap.objs.size f cd cl
 outer:=outer
 stack:=PySem.W.envX qual scope s.heap.objs.size f cd cl::outer
 ex:=[]
 calm:=true
 fn:=fun _=>false
 pn:=[]
 xe:=fun _ _=>False
noncomputable def Zcn(n:Nat)(te:TE)(cs:List Addr)(cv:List (Option V)):Sp:=fun vs H Q _=>vs.length=n∧te (vs.map some++cv) (hide cs H) fun v H'=>(∀c∈cs,H' c=none)→Q v (xk cs H H')
theorem yQ{ps:List Str}{us:List Value}(nd:ps.Nodup){i:Nat}{x:Str}{u:Value}(h1:ps[i]?=some x)(h2:us[i]?=some u)(hl:ps.length=us.length):(ps.zip us).reverse.lookup x=some u:=by
 have hm:(x,u)∈ps.zip us:=by
  obtain ⟨a1,e1⟩:=List.getElem?_eq_some_iff.mp h1
  obtain ⟨a2,e2⟩:=List.getElem?_eq_some_iff.mp h2
  rw [←e1,←e2,←List.getElem_zip (h:=by rw [List.length_zip];lia)]
  exact List.getElem_mem _
 have ndz:((ps.zip us).map (·.1)).Nodup:=by
  rw [List.map_fst_zip (by lia)]
  exact nd
 have ndr:((ps.zip us).reverse.map (·.1)).Nodup:=by
  rw [List.map_reverse]
  unfold List.Nodup at ndz ⊢
  rw [List.pairwise_reverse]
  exact ndz.imp fun h=>h.symm
 have hr:(x,u)∈(ps.zip us).reverse:=List.mem_reverse.mpr hm
 generalize (ps.zip us).reverse=l at ndr hr
 induction l with
 | nil=>cases hr
 | cons p r ih =>
  obtain ⟨n,v⟩:=p
  rw [List.lookup_cons]
  rcases List.mem_cons.mp hr with e | hr'
  ·injection e with e1 e2
   subst e1;subst e2
   simp
  ·have hne:x≠n:=fun e=>by
    rw [List.map_cons,List.nodup_cons] at ndr
    exact ndr.1 (by rw [←e];exact List.mem_map_of_mem (f:=(·.1)) hr')
   have:(x == n)=false:=by simpa using hne
   rw [this]
   rw [List.map_cons,List.nodup_cons] at ndr
   exact ih ndr.2 hr'
section
variable {P:Program}{w:World}{K:PySem.W.Frag}{mg:Str→Option Value}{base:Heap}
theorem zJ{k:Nat}{f c':Addr}{name qual:Str}{params:Arguments}{body:Expr}{scope:Scope}{cl:List (Str × Addr)}{pm ctv:Value}{oc:Obj}{ps ys:List Str}{cv:List (Option V)}{te:TE}{H:Hp}{cs:List Addr}
  (S:Zeb scope ps ys) (hf:H f=some (Gk (PySem.W.kla_obj name qual params body scope cl pm c' ctv))) (hc:H c'=some (Gk oc)) (hoc:∃vs t,oc.data=.fields vs∧vs[1]?=some (.str qual t))
  (hcl:∀x c,cl.lookup x=some c→c∈cs) (hcs:∀c∈cs,∃o v,H c=some (Gk o)∧o.data=.cell v)
  (inj:∀x y c,cl.lookup x=some c→cl.lookup y=some c→x=y) (has:∀x,scope.names.lookup x=some .free→∃c,cl.lookup x=some c)
  (hcv:cv.length=ys.length) (hval:∀(i:Nat) (y:Str) (v:V),ys[i]?=some y→cv[i]?=some (some v)→∃c o u,cl.lookup y=some c∧H c=some (Gk o)∧o.data=.cell (some u)∧RelV v u)
  (hb:∀us:List Value,us.length=ps.length→bindArgs (PySem.W.kla_fn name qual params body scope cl pm (.ref c') ctv) ⟨us,[]⟩=pure (ps.zip us))
  (hbody:∀(A:Around) (outer:List Env) (s:Shared) (H1:Hp),Wi k (A.deeper (PySem.W.envX qual scope s.heap.objs.size f (.ref c') cl))→PE (cxL P w K mg base (ps++ys) qual scope f (.ref c') cl A outer s H1) body te) :
  Xl P w K mg base (k + 1) f H (Zcn ps.length te cs cv):=by
 refine ⟨⟨_,_,hf,rfl⟩,?_⟩
 intro A outer s H1 us vs Q E fz hr e0 r ht
 obtain ⟨hl,ht⟩:=ht
 have gf:s.heap.get? f=some (PySem.W.kla_obj name qual params body scope cl pm c' ctv):=(e0.hok f _ (fz _ _ _ hf)).1
 have hcs1:∀c∈cs,∃o v,H1 c=some (Gk o)∧o.data=.cell v∧s.heap.get? c=some o:=fun c m=>by
  obtain ⟨o,v,e,d⟩:=hcs c m
  exact ⟨o,v,fz _ _ _ e,d,(e0.hok c _ (fz _ _ _ e)).1⟩
 have hcs2:∀c∈cs,∃o,H1 c=some (Gk o):=fun c m=>let ⟨o,_,e,_⟩:=hcs1 c m;⟨o,e⟩
 obtain ⟨vs0,t0,hd0,hv0⟩:=hoc
 have lim:s.heap.NoLimit:=e0.mod.nolimit.keeps fun b o e=>(e0.bs b o e).1
 have lus:us.length=ps.length:=by rw [←r.length];exact hl
 refine PySem.W.kla_callFunE hr.depth gf rfl S.co S.gen rfl ⟨c',oc,vs0,t0,rfl,(e0.hok c' _ (fz _ _ _ hc)).1,hd0,hv0⟩ ?_
 rw [hb us lus]
 refine wpAny_pure (wpAny_newFunctionEnv S.cell (fun x hx=>S.par _ (List.of_mem_zip hx).1) (fun h₁ hns hsb=>⟨lim.fresh _ hsb,?_⟩) S.kind)
 have old:∀b o,s.heap.get? b=some o→h₁.get? b=some o:=fun b o e=>hsb.extBut b o (Nat.ne_of_lt (Heap.lt_size e)) (Heap.get?_push_of_some _ e)
 show codeAny _ _ (.expr body (PySem.W.envX qual scope s.heap.objs.size f (.ref c') cl)) _ _
 have ndp:ps.Nodup:=(List.nodup_append.mp S.nd).1
 have I:Inv (cxL P w K mg base (ps++ys) qual scope f (.ref c') cl A outer s (hide cs H1)) [] (vs.map some++cv) (hide cs H1) { s with heap:=h₁,toks:=s.toks + (ps.zip us).length }:=by
  have noA:∀b:Addr,b∉([]:List Addr):=fun b z=>nomatch z
  refine ⟨⟨e0.mod,S.kind,rfl,rfl,Nat.le_refl _,inj,fun y hy=>?_,(fun y c h=>by cases h),fun _=>hr.hd,Around.frames_deeper e0.frames,.inr ⟨rfl,rfl⟩,fun b z=>absurd z (noA b),fun b o e=>⟨(e0.bs b o e).1,?_⟩,e0.bsz,fun b _ _=>noA b,fun b z=>absurd z (noA b),e0.funs,fun b hb=>?_⟩,
   rfl,e0.bare,Un.kept old,⟨_,hns,fun i y v h1 h2 h3=>?_⟩,fun y c h=>?_,?_,fun y c h=>XO (hcl y c h),fun p hp=>absurd (show p∈([]:List (Addr × Obj)) from hp) (by simp),(kY e0.hok hcs2).kept old,?_⟩
  ·have hy:scope.names.lookup y=some .cell∨scope.names.lookup y=some .free:=hy
   rcases hy with hy | hy
   ·exact absurd rfl (S.cell _ (PySem.mem_of_lookup hy))
   ·exact has y hy
  ·by_cases m:b∈cs
   ·exact XO m
   ·exact (ZF m).trans (e0.bs b o e).2
  ·by_cases m:b∈cs
   ·exact XO m
   ·exact (ZF m).trans (e0.frf b hb)
  ·by_cases hi:i < vs.length
   ·rw [List.getElem?_append_left (by simpa using hi),List.getElem?_map] at h2
    have ha:vs[i]?=some v:=by
     cases e:vs[i]? with
     | none=>rw [e] at h2;cases h2
     | some a=>rw [e] at h2;cases h2;rfl
    obtain ⟨u,hu,rv⟩:=r.get ha
    have h1':(ps++ys)[i]?=some y:=h1
    rw [List.getElem?_append_left (by lia)] at h1'
    exact ⟨u,rv,.inl ⟨S.par y (List.mem_of_getElem? h1'),yQ ndp h1' hu lus.symm⟩⟩
   ·rw [List.getElem?_append_right (by simpa using hi),List.length_map] at h2
    have h1':(ps++ys)[i]?=some y:=h1
    rw [List.getElem?_append_right (by lia),←hl] at h1'
    obtain ⟨c,o,u,e1,e2,e3,rv⟩:=hval _ y v h1' h2
    refine ⟨u,rv,.inr ⟨.inr (S.free y (List.mem_of_getElem? h1')),c,e1,o,old _ _ (e0.hok c _ (fz _ _ _ e2)).1,e3⟩⟩
  ·obtain ⟨o,v,_,d,g⟩:=hcs1 c (hcl y c h)
   exact ⟨v,o,old _ _ g,d⟩
  ·show hide cs H1 s.heap.objs.size=none
   by_cases m:s.heap.objs.size∈cs
   ·exact XO m
   ·rw [ZF m];exact e0.hok.fresh (Nat.le_refl _)
  ·show (vs.map some++cv).length=(ps++ys).length
   rw [List.length_append,List.length_append,List.length_map,hl,hcv]
 refine PySem.W.kla_codeExpr (wpAny_mono (hbody A outer s (hide cs H1) (hr.deeper _) [] _ _ _ _ I ht) (fun u s' hs=>?_) fun _ _ z=>z.elim)
 obtain ⟨v,H',J,rv,q⟩:=hs
 have b:Un (frs outer) [] (hide cs H1) H' s.heap s'.heap:=J.base
 have nfr:∀c∈cs,c∉frs outer:=fun c m z=>by
  obtain ⟨o,e⟩:=hcs2 c m
  rw [e0.frf c z] at e;cases e
 have Hn:∀c∈cs,H' c=none:=fun c m=>by
  obtain ⟨o,v,e,d,g⟩:=hcs1 c m
  exact b.free c o g (XO m) (fun z=>nomatch z)
 have hh:∀d,H1 d=none→hide cs H1 d=none:=fun d n=>by
  by_cases m:d∈cs
  ·exact XO m
  ·rw [ZF m];exact n
 have nm:∀d o,H1 d=some o→(∀ob,o≠Gk ob)→d∉cs:=fun d o e ne m=>by
  obtain ⟨ob,z⟩:=hcs2 d m
  rw [e] at z
  exact ne ob (Option.some.inj z)
 refine ⟨v,xk cs H1 H',J.os,J.bare,⟨fun d o e n hb hx=>b.keep d o e (hh d n) hb hx,fun d o e n hb hx=>b.slot d o e (hh d n) hb hx,fun d o e n hx=>?_,b.there,fun d xs e=>?_,fun d o u e=>?_,fun d pz e=>?_⟩,kZ J.hok Hn fun c m=>?_,rv,q Hn⟩
 ·by_cases m:d∈cs
  ·rw [JD m];exact n
  ·rw [Y6 m];exact b.free d o e (hh d n) hx
 ·have m:=nm d _ e (fun ob z=>nomatch z)
  rw [Y6 m];exact b.tups d xs (by rw [ZF m];exact e)
 ·by_cases m:d∈cs
  ·rw [JD m];exact e
  ·rw [Y6 m];exact b.frzs d o u (by rw [ZF m];exact e)
 ·have m:=nm d _ e (fun ob z=>nomatch z)
  rw [Y6 m];exact b.tbls d pz (by rw [ZF m];exact e)
 ·obtain ⟨o,v,e,d,g⟩:=hcs1 c m
  exact ⟨o,e,b.keep c o g (XO m) (nfr c m) (fun z=>nomatch z)⟩
end
noncomputable def wa(oc:Obj)(qual:Str):Prop:=∃vs t,oc.data=.fields vs∧vs[1]?=some (.str qual t)
noncomputable def XU(H:Hp)(P:Addr)(pos:Pos)(qual:Str):Prop :=
 H P=some (.tbl #[])∨∃c' oc,H P=some (.tbl #[rawInt pos.line,rawInt pos.col,.ref c'])∧H c'=some (Gk oc)∧wa oc qual
theorem XU.ex{H:Hp}{P:Addr}{pos:Pos}{qual:Str}(h:XU H P pos qual):∃ps,H P=some (.tbl ps):=by
 rcases h with h | ⟨_,_,h,_⟩ <;> exact ⟨_,h⟩
structure qR(mg:Str→Option Value)(base:Heap):Prop where
 ex:∃bm ob,mg "__builtins__" = some (.ref bm)∧bm≠builtinsNs∧base.get? bm=some ob∧ob.cls=.type "module" ∧ ob.dict=some builtinsNs∧ob.data=.plain
noncomputable def tLam(P:Addr)(lpos:Pos)(qual:Str)(obj:Addr→Value→Obj):TE:=fun _ H Q=>XU H P lpos qual ∧
 ∀(f c':Addr) (oc:Obj) (ctv:Value) (H2:Hp),H f=none→H2 f=some (Gk (obj c' ctv))→H2 c'=some (Gk oc)→wa oc qual→XU H2 P lpos qual→(∀b o,H b=some o→b≠P→H2 b=some o)→Q (.ref f) H2
theorem ua{X:Cx}{pins:List (Addr × Obj)}{σ:St}{H:Hp}{s:Shared}{P c':Addr}{lpos:Pos}{oc fo:Obj}{h':Heap}{tk:Nat}(I:Inv X pins σ H s)(hT:H P=some (.tbl #[]))(hx:Heap.ExtBut P s.heap h')(hge:s.heap.objs.size≤c')(hlt:c' < h'.objs.size)(hoc:h'.get? c'=some oc)
  (htb:h'.get? P=some (PySem.W.tabObj #[rawInt lpos.line,rawInt lpos.col,.ref c'])) (hfo:fo.isFreed=false:=by rfl):Inv X pins σ (upd (upd (upd H P (.tbl #[rawInt lpos.line,rawInt lpos.col,.ref c'])) c' (Gk oc)) h'.objs.size (Gk fo)) { s with heap:=h'.push fo,toks:=tk }:=by
 have cn:H c'=none:=I.hok.fresh hge
 have cP:c'≠P:=fun e=>by rw [e,hT] at cn;cases cn
 have hsz:s.heap.objs.size≤h'.objs.size:=Nat.le_trans hge (Nat.le_of_lt hlt)
 have lo:∀{b:Addr} {o:Obj},s.heap.get? b=some o→b≠c':=fun e z=>absurd (Heap.lt_size e) (by rw [z];exact Nat.not_lt.mpr hge)
 have I1:Inv X pins σ (upd (upd H P (.tbl #[rawInt lpos.line,rawInt lpos.col,.ref c'])) c' (Gk oc)) { s with heap:=h',toks:=tk }:=by
  refine I.un ⟨fun b o e n _ _=>hx b o (fun z=>by rw [z,hT] at n;cases n) e,fun b o e n _ _=>⟨o.slots,hx b o (fun z=>by rw [z,hT] at n;cases n) e⟩,fun b o e n _=>?_,fun b o e _=>?_,fun b xs e=>?_,fun b o u e=>?_,fun b pz e=>?_⟩ fun b u e=>?_
  ·rw [Zj (lo e),Zj (fun z=>by rw [z,hT] at n;cases n)];exact n
  ·by_cases hbP:b=P
   ·rw [hbP];exact ⟨_,htb⟩
   ·exact ⟨o,hx b o hbP e⟩
  ·rw [Zj (Zl e cn),Zj (ZK e hT (fun z=>nomatch z))];exact e
  ·rw [Zj (Zl e cn),Zj (ZK e hT (fun z=>nomatch z))];exact e
  ·by_cases hbP:b=P
   ·subst hbP
    rw [hT] at e
    cases e
    exact ⟨#[rawInt lpos.line,rawInt lpos.col,.ref c'],by rw [Zj cP.symm,Zb];rfl⟩
   ·exact ⟨#[],by rw [Zj (Zl e cn),Zj hbP,e];simp⟩
  ·by_cases hbc:b=c'
   ·subst hbc
    rw [Zb] at e;cases e
    exact qg hoc
   ·rw [Zj hbc] at e
    by_cases hbP:b=P
    ·subst hbP
     rw [Zb] at e;cases e
     exact htb
    ·rw [Zj hbP] at e
     refine (I.hok b u e).stay (fun d v hd q=>hx d v ?_ q) (fun d q=>?_) fun d xs q=>?_
     ·rcases hd with z | z
      ·rw [z];exact hbP
      ·exact ZK z hT (fun z=>nomatch z)
     ·rw [Zj (Zl q cn),Zj (ZK q hT (fun z=>nomatch z))];exact q
     ·rw [Zj (Zl q cn),Zj (ZK q hT (fun z=>nomatch z))];exact q
 exact I1.laid (h':=h'.push fo) (t':=tk) (a:=h'.objs.size) (o:=Gk fo) (fun b u e=>Heap.get?_push_of_some _ e) (Nat.le_refl _) (qg (Heap.get?_push_size _ hfo))
section
variable {X:Cx}{params:Arguments}{body:Expr}{scope:Scope}{lpos:Pos}{c P:Addr}{qual:Str}
noncomputable abbrev xl (X:Cx) (qual:Str) (params:Arguments) (body:Expr) (scope:Scope):Addr→Value→Obj:=fun c' ctv=>PySem.W.kla_obj "<lambda>" qual params body scope (qc X.env.cells scope.names []) ((X.mg "__name__").getD .none) c' ctv
theorem wb (hcode:X.env.code=.ref c) (C:PySem.W.CodeHd X.base c P) (B:qR X.mg X.base) (hdef:defaultsOf params X.env=([],[])) (hq:X.env.qual ++ "<lambda>" = qual)
  (hfree:∀y∈scope.names,y.2=.free→X.env.scope.names.lookup y.1=some .cell) :
  PE X (.Lambda params body scope lpos) (tLam P lpos qual (xl X qual params body scope)):=by
 intro pins s σ H Q I hw
 obtain ⟨hT,hq2⟩:=hw
 refine PySem.W.kla_eval hdef ?_
 rw [hq]
 have hcl:closureFor scope X.env=pure (qc X.env.cells scope.names []):=XT fun y hy h=>I.ok.has y.1 (.inl (hfree y hy h))
 have hg:s.heap.Ns mainGlobals X.mg:=I.mod.glob.keeps I.bk
 obtain ⟨pz,hPs⟩:=hT.ex
 have baseP:X.base.get? P=none:=by
  cases e:X.base.get? P with
  | none=>rfl
  | some o=>rw [(I.bs P o e).2] at hPs;cases hPs
 have hgP:mainGlobals≠P:=fun e=>by
  obtain ⟨o,es,ep,g,_⟩:=I.mod.glob
  rw [e,baseP] at g;cases g
 have hb:s.heap.BuiltinsAt X.mg P:=by
  obtain ⟨bm,ob,b1,b2,b3,b4,b5,b6⟩:=B.ex
  refine ⟨bm,ob,b1,b2,fun e=>?_,(fun e=>by rw [e,baseP] at b3;cases b3),I.bk _ _ b3,b4,b5,b6⟩
  obtain ⟨o,es,ep,g,hd,_⟩:=I.mod.glob
  rw [←e,b3] at g;cases g
  rw [b6] at hd;cases hd
 rcases hT with hT | ⟨c',oc,hT,hc',hoc⟩
 ·have hP:s.heap.get? P=some (PySem.W.tabObj #[]):=I.hok P _ hT
  refine PySem.W.kla_makeFunction (mg:=X.mg) (ps:=#[]) hcl I.ok.glob hg hcode (C.keeps I.bk) hP trivial rfl hgP hb fun c' ctv h' tk hx hge hlt hrec htb=>?_
  obtain ⟨c₂,oc,vs,t,e2,hoc,hd,hv⟩:=hrec
  cases e2
  have cn:H c'=none:=I.hok.fresh hge
  have cP:c'≠P:=fun e=>by rw [e,hT] at cn;cases cn
  have hsz:s.heap.objs.size≤h'.objs.size:=Nat.le_trans hge (Nat.le_of_lt hlt)
  have I2:=ua (lpos:=lpos) (fo:=xl X qual params body scope c' ctv) (tk:=tk) I hT hx hge hlt hoc htb
  have fn:H h'.objs.size=none:=I.hok.fresh hsz
  have fc:c'≠h'.objs.size:=Nat.ne_of_lt hlt
  have fP:P≠h'.objs.size:=Zl hT fn
  refine ⟨.ref h'.objs.size,_,I2,rfl,hq2 _ c' oc ctv _ fn Zb ?_ ⟨vs,t,hd,hv⟩ (.inr ⟨c',oc,?_,?_,⟨vs,t,hd,hv⟩⟩) fun b o e hbP=>?_⟩
  ·rw [Zj fc];exact Zb
  ·rw [Zj fP,Zj cP.symm];exact Zb
  ·rw [Zj fc];exact Zb
  ·rw [Zj (Zl e fn),Zj (Zl e cn),Zj hbP];exact e
 ·have hP:s.heap.get? P=some (PySem.W.tabObj #[rawInt lpos.line,rawInt lpos.col,.ref c']):=I.hok P _ hT
  have hf:codeAmong lpos (#[rawInt lpos.line,rawInt lpos.col,.ref c']:Array Value).toList=some (.ref c'):=by
   show (if ((lpos.line:Int) == lpos.line && (lpos.col:Int) == lpos.col)=true then some (Value.ref c') else _)=_
   rw [beq_self_eq_true,beq_self_eq_true]
   rfl
  refine PySem.W.kla_makeFunctionHit (mg:=X.mg) hcl I.ok.glob hg hcode (C.keeps I.bk) hP trivial hf hb fun ctv h' tk hk hsz=>?_
  have I2:=I.laid (h':=h'.push (xl X qual params body scope c' ctv)) (t':=tk) (a:=h'.objs.size) (o:=Gk (xl X qual params body scope c' ctv)) (fun b u e=>Heap.get?_push_of_some _ (hk b u e)) hsz (qg (Heap.get?_push_size _ rfl))
  have fn:H h'.objs.size=none:=I.hok.fresh hsz
  have sm:∀b o,H b=some o→upd H h'.objs.size (Gk (xl X qual params body scope c' ctv)) b=some o:=fun b o e=>by rw [Zj (Zl e fn)];exact e
  exact ⟨.ref h'.objs.size,_,I2,rfl,hq2 _ c' oc ctv _ fn Zb (sm _ _ hc') hoc (.inr ⟨c',oc,sm _ _ hT,sm _ _ hc',hoc⟩) fun b o e _=>sm b o e⟩
end
noncomputable def cellsOf(cells:List (Str × Addr)):List Addr:=(cells.map (·.1)).filterMap fun x=>cells.lookup x
theorem YG{cells:List (Str × Addr)}{c:Addr}:c∈cellsOf cells↔∃x,cells.lookup x=some c:=by
 unfold cellsOf
 rw [List.mem_filterMap]
 constructor
 ·rintro ⟨x,_,h⟩
  exact ⟨x,h⟩
 ·rintro ⟨x,h⟩
  exact ⟨x,List.mem_map.mpr ⟨(x,c),PySem.mem_of_lookup h,rfl⟩,h⟩
noncomputable def tCallL(Pg:Program)(w:World)(K:PySem.W.Frag)(mg:Str→Option Value)(base:Heap)(k:Nat)(sp:Sp)(P:Addr)(lpos:Pos)(qual:Str)(ta:TE)(n:Nat)(is:List Nat)(te:TE):TE:=fun σ H Q=>ta σ H fun x H1=>XU H1 P lpos qual ∧
 ∀(cs:List Addr) (f:Addr) (H2:Hp),(∀c∈cs,H1 c=none)→(∀c∈cs,∃o,H2 c=some (Gk o))→H1 f=none→(∀H3,ZU H2 H3→XU (hide cs H3) P lpos qual)→(∀b o,H1 b=some o→b≠P→H2 b=some o) →
  Xl Pg w K mg base k f H2 (Zcn n te cs (is.map fun i=>(σ[i]?).getD none))→sp [x,.ref f] H2 (fun v H3=>Q v (hide cs H3)) E0
structure Zec(S0 scope:Scope)(N0 ps ys:List Str)(is:List Nat):Prop where
 sc:Zeb scope ps ys
 free:∀y∈scope.names,y.2=.free→S0.names.lookup y.1=some .cell
 vis:∀q∈ys.zip is,N0[q.2]?=some q.1
 len:ys.length=is.length
section
variable {X:Cx}{params:Arguments}{body a:Expr}{scope:Scope}{lpos p pos:Pos}{c P g:Addr}{qual x:Str}{k kl:Nat}{gd:FuncData}{pg ps ys:List Str}{is:List Nat}{sp:Sp}{ta te:TE}
theorem ub(F:Z7 X.prog X.w X.K X.mg X.base CX0 k g gd pg sp)(hr:Wi k X.A)(hg:Gl X x)(hm:X.mg x=some (.ref g))(hk:PySem.W.keepIn X.K (.ref g)=true)(hb:Binds X.K gd pg [])(hfn:X.fn=fun _=>true)
  (ha:QE X a ta) (hcode:X.env.code=.ref c) (C:PySem.W.CodeHd X.base c P) (B:qR X.mg X.base) (hdef:defaultsOf params X.env=([],[])) (hq:X.env.qual ++ "<lambda>" = qual)
  {S0:Scope} {N0:List Str} (hX:X.env.scope=S0) (hXN:X.N=N0) (LL:Zec S0 scope N0 ps ys is)
  (hbind:∀(cl:List (Str × Addr)) (pm cv ctv:Value) (us:List Value),us.length=ps.length→bindArgs (PySem.W.kla_fn "<lambda>" qual params body scope cl pm cv ctv) ⟨us,[]⟩=pure (ps.zip us))
  (hbody:∀(f c':Addr) (cl:List (Str × Addr)) (A:Around) (outer:List Env) (s:Shared) (H1:Hp),Wi kl (A.deeper (PySem.W.envX qual scope s.heap.objs.size f (.ref c') cl))→QE (cxL X.prog X.w X.K X.mg X.base (ps++ys) qual scope f (.ref c') cl A outer s H1) body te)
  (hdb:(x == ("__debug__" : Str))=false:=by decide) (he:starEach [a,.Lambda params body scope lpos] X.env=(false,eval a X.env)::starEach [.Lambda params body scope lpos] X.env:=by rfl)
  (hs2:starEach [.Lambda params body scope lpos] X.env=(false,eval (.Lambda params body scope lpos) X.env)::starEach [] X.env:=by rfl) (hpl:(backTo pos (starEach [.Lambda params body scope lpos] X.env)).any (·.1)=false:=by rfl) :
  QE X (.Call (.Name x p) [a,.Lambda params body scope lpos] [] pos) (tCallL X.prog X.w X.K X.mg X.base (kl + 1) sp P lpos qual ta ps.length is te):=by
 have S:=LL.sc
 have hfree:∀y∈scope.names,y.2=.free→X.env.scope.names.lookup y.1=some .cell:=fun y hy h=>by rw [hX];exact LL.free y hy h
 have hN:∀q∈ys.zip is,X.N[q.2]?=some q.1:=fun q hq=>by rw [hXN];exact LL.vis q hq
 have hlen:=LL.len
 refine ⟨?_⟩
 intro pins s σ H Q I hw
 refine wpAny_Call_Name_kw (Jv I hg hm ?_ hdb)
 have hlam:=wb (X:=X) (lpos:=lpos) (params:=params) (body:=body) (scope:=scope) hcode C B hdef hq hfree
 refine PySem.W.callWith_K (h₀:=X.base) I.ok.mod.kin hk ?_ he hpl
 rw [he]
 show wpAny _ _ (spliced ((false,eval a X.env)::backTo pos (starEach [.Lambda params body scope lpos] X.env))) _ _ s
 refine Calls.spliced_cons (thn (ha.out pins s σ H _ I hw) fun u s1 ⟨x0,H1,I1,r1,hT,q1⟩=>?_)
 rw [hs2]
 show wpAny _ _ (spliced ((false,eval (.Lambda params body scope lpos) X.env)::backTo pos (starEach [] X.env))) _ _ s1
 refine Calls.spliced_cons (thn (hlam pins s1 σ H1 (fun v H2=>∃(f c':Addr) (oc:Obj) (ctv:Value),v=.ref f∧H1 f=none∧H2 f=some (Gk (xl X qual params body scope c' ctv))∧H2 c'=some (Gk oc)∧wa oc qual∧XU H2 P lpos qual∧∀b o,H1 b=some o→b≠P→H2 b=some o) I1 ⟨hT,fun f c' oc ctv H2 a1 a2 a3 a4 a5 a6=>⟨f,c',oc,ctv,rfl,a1,a2,a3,a4,a5,a6⟩⟩) fun u2 s2 ⟨y,H2,I2,r2,f,c',oc,ctv,hy,f1,f2,f3,f4,f5,f6⟩=>?_)
 subst hy
 cases r2
 refine Calls.spliced_nil ⟨I2.kIn,?_⟩
 have hcell:∀d∈cellsOf X.env.cells,∃o v,s2.heap.get? d=some o∧o.data=.cell v:=fun d m=>by
  obtain ⟨y,hy⟩:=YG.mp m
  obtain ⟨v,o,ho,hd⟩:=I2.cell y d hy
  exact ⟨o,v,ho,hd⟩
 have hnone:∀d∈cellsOf X.env.cells,H2 d=none:=fun d m=>by
  obtain ⟨y,hy⟩:=YG.mp m
  exact I2.freeC y d hy
 have hn1:∀d∈cellsOf X.env.cells,H1 d=none:=fun d m=>by
  obtain ⟨y,hy⟩:=YG.mp m
  exact I1.freeC y d hy
 let H3:Hp:=fun b=>if b∈cellsOf X.env.cells then (s2.heap.get? b).map Gk else H2 b
 have h3in:∀d∈cellsOf X.env.cells,∃o v,H3 d=some (Gk o)∧o.data=.cell v∧s2.heap.get? d=some o:=fun d m=>by
  obtain ⟨o,v,e,hd⟩:=hcell d m
  exact ⟨o,v,by show (if d∈cellsOf X.env.cells then _ else _)=_;rw [if_pos m,e];rfl,hd,e⟩
 have h3out:∀d,d∉cellsOf X.env.cells→H3 d=H2 d:=fun d m=>if_neg m
 have h3sub:∀b o,H2 b=some o→H3 b=some o:=fun b o e=>by
  rw [h3out b (fun m=>by rw [hnone b m] at e;cases e)]
  exact e
 have nloc:∀d∈cellsOf X.env.cells,d≠X.env.locals:=fun d m e=>by
  obtain ⟨o,v,g,hd⟩:=hcell d m
  obtain ⟨m',⟨o',es,ep,g',hd',_⟩,_⟩:=I2.loc
  rw [e,g'] at g
  cases g
  rw [hd'] at hd
  cases hd
 have above:∀d∈cellsOf X.env.cells,X.s₀.heap.objs.size≤d:=fun d m=>by
  obtain ⟨y,hy⟩:=YG.mp m
  exact I2.ok.cab y d (by rw [hfn]) hy
 have nfr:∀d∈cellsOf X.env.cells,d∉frs X.stack:=fun d m z=>by
  rcases List.mem_cons.mp (I2.stkSub d z) with e | e
  ·exact nloc d m e
  ·obtain ⟨_,o,g,_⟩:=I2.ok.funs.mem e
   exact absurd (Heap.lt_size g) (Nat.not_lt.mpr (above d m))
 have hok3:HOk X.prog X.w H3 s2.heap:=fun b o e=>by
  by_cases m:b∈cellsOf X.env.cells
  ·obtain ⟨ob,v,e',hd,g⟩:=h3in b m
   rw [e'] at e;cases e
   exact qg g
  ·rw [h3out b m] at e
   exact (I2.hok b o e).stay (fun _ _ _ q=>q) (fun d q=>h3sub _ _ q) fun d xs q=>h3sub _ _ q
 have e0:vw X.prog X.w X.K X.mg X.base X.A X.stack s2 H3:=by
  have z:=I2.env0
  refine ⟨z.frames,z.mod,fun b o e=>⟨(z.bs b o e).1,?_⟩,z.bsz,z.funs,fun b hb=>?_,hok3,z.bare⟩
  ·rw [h3out b fun m=>?_]
   ·exact (z.bs b o e).2
   ·exact absurd (Heap.lt_size e) (Nat.not_lt.mpr (Nat.le_trans I2.ok.bsz (above b m)))
  ·rw [h3out b fun m=>nfr b m hb]
   exact z.frf b hb
 have hcl:∀y d,(qc X.env.cells scope.names []).lookup y=some d→X.env.cells.lookup y=some d :=
  xE (fun y hy h=>I2.ok.has y.1 (.inl (hfree y hy h))) fun _ _ z=>by cases z
 have hcall:Xl X.prog X.w X.K X.mg X.base (kl + 1) f H3 (Zcn ps.length te (cellsOf X.env.cells) (is.map fun i=>(σ[i]?).getD none)):=by
  refine zJ (ys:=ys) S (h3sub _ _ f2) (h3sub _ _ f3) f4 (fun y d h=>YG.mpr ⟨y,hcl y d h⟩) (fun d m=>let ⟨o,v,e,hd,_⟩:=h3in d m;⟨o,v,e,hd⟩) (fun y z d h1 h2=>I2.ok.inj y z d (hcl y d h1) (hcl z d h2)) (fun y h=>Xj h) (by rw [List.length_map,hlen]) (fun i y v h1 h2=>?_) (fun us hl=>hbind _ _ _ _ us hl) fun A outer s H1 hr=>(hbody f c' _ A outer s H1 hr).out
  rw [List.getElem?_map] at h2
  cases hj:is[i]? with
  | none=>rw [hj] at h2;cases h2
  | some j =>
   rw [hj] at h2
   have h2'':(σ[j]?).getD none=some v:=Option.some.inj h2
   have hσ:σ[j]?=some (some v):=by
    cases q:σ[j]? with
    | none=>rw [q] at h2'';cases h2''
    | some z=>rw [q] at h2'';exact congrArg some h2''
   have hz:(y,j)∈ys.zip is:=by
    obtain ⟨a1,e1⟩:=List.getElem?_eq_some_iff.mp h1
    obtain ⟨a2,e2⟩:=List.getElem?_eq_some_iff.mp hj
    rw [←e1,←e2,←List.getElem_zip (h:=by rw [List.length_zip];lia)]
    exact List.getElem_mem _
   have hfr:=S.free y (List.mem_of_getElem? h1)
   have kc:X.env.kindOf y=some .cell:=hfree _ (GL hfr) rfl
   obtain ⟨m,hm',hl⟩:=I2.loc
   obtain ⟨u,r,l⟩:=hl j y v (hN _ hz) hσ (.inr (.inl kc))
   rcases l with ⟨l1,_⟩ | ⟨_,d,l2,l3⟩
   ·rw [kc] at l1;cases l1
   ·obtain ⟨d',hd'⟩:=Xj (cells:=X.env.cells) (acc:=[]) hfr
    have e:d'=d:=by have:=hcl y d' hd';rw [l2] at this;exact (Option.some.inj this).symm
    subst e
    obtain ⟨o,ho,hd⟩:=l3
    obtain ⟨o',v',e',_,g'⟩:=h3in d' (YG.mpr ⟨y,l2⟩)
    rw [ho] at g';cases g'
    exact ⟨d',o,u,hd',e',hd,r⟩
 have hsp:=q1 (cellsOf X.env.cells) f H3 hn1 (fun d m=>let ⟨o,_,e,_⟩:=h3in d m;⟨o,e⟩) f1 ?_ (fun b o e hbP=>h3sub _ _ (f6 b o e hbP)) hcall
 ·have hl:=F.len _ _ _ _ hsp
  have rv:Vals [x0,V.ref f] [u,Value.ref f]:=.cons r1 (.cons rfl .nil)
  have hlu:([u,Value.ref f]++[]).length=pg.length:=hl
  refine wpAny_call (codeAny_mono (F.run X.A X.stack s2 H3 ⟨[u,.ref f],[]⟩ [u,.ref f] [x0,.ref f] _ _ hr e0 (by simpa using hb s2 [u,.ref f] I2.kIn hlu) rv hsp) fun r s' hq=>?_)
  cases r with
  | error e=>exact hq.elim
  | ok fl =>
   cases fl with
   | next=>exact False.elim hq
   | brk=>exact False.elim hq
   | cont=>exact False.elim hq
   | ret uu =>
    obtain ⟨v,H4,os,bare,un,hok4,rv4,q4⟩:=hq
    have h4in:∀d∈cellsOf X.env.cells,∃o,H4 d=some (Gk o)∧s2.heap.get? d=some o∧s'.heap.get? d=some o:=fun d m=>by
     obtain ⟨o,v,e,hd,g⟩:=h3in d m
     have e4:=un.frzs d o _ e
     exact ⟨o,e4,g,(hok4 d _ e4).1⟩
    have h3none:∀d,H2 d=none→d∉cellsOf X.env.cells→H3 d=none:=fun d n m=>by rw [h3out d m];exact n
    have nm:∀d o,H2 d=some o→d∉cellsOf X.env.cells:=fun d o e m=>by rw [hnone d m] at e;cases e
    refine ⟨v,hide (cellsOf X.env.cells) H4,I2.call' os ⟨fun d o e n hb hx=>?_,fun d o e n hb hx=>?_,fun d o e n hx=>?_,fun d o e hx=>un.there d o e hx,fun d xs e=>?_,fun d o u e=>?_,fun d pz e=>?_⟩ (kY hok4 fun d m=>let ⟨o,e,_⟩:=h4in d m;⟨o,e⟩) bare (fun _ z=>nomatch z),rv4,q4⟩
    ·by_cases m:d∈cellsOf X.env.cells
     ·obtain ⟨o',_,g,g'⟩:=h4in d m
      rw [e] at g;cases g
      exact g'
     ·exact un.keep d o e (h3none d n m) hb hx
    ·by_cases m:d∈cellsOf X.env.cells
     ·obtain ⟨o',_,g,g'⟩:=h4in d m
      rw [e] at g;cases g
      exact ⟨o.slots,g'⟩
     ·exact un.slot d o e (h3none d n m) hb hx
    ·by_cases m:d∈cellsOf X.env.cells
     ·exact XO m
     ·rw [ZF m];exact un.free d o e (h3none d n m) hx
    ·rw [ZF (nm d _ e)];exact un.tups d xs (h3sub _ _ e)
    ·rw [ZF (nm d _ e)];exact un.frzs d o u (h3sub _ _ e)
    ·rw [ZF (nm d _ e)];exact un.tbls d pz (h3sub _ _ e)
 ·intro H4 s4
  have out:∀b o,H2 b=some o→hide (cellsOf X.env.cells) H4 b=some o:=fun b o e=>by
   rw [ZF (fun m=>by rw [hnone b m] at e;cases e)]
   exact s4 _ _ (h3sub _ _ e)
  rcases f5 with z | ⟨c2,oc2,z1,z2,z3⟩
  ·exact .inl (out _ _ z)
  ·exact .inr ⟨c2,oc2,out _ _ z1,out _ _ z2,z3⟩
theorem zK{cs:List Addr}{H2 H1:Hp}{b:Addr}{u:HO}(hcs:∀c∈cs,∃o,H2 c=some (Gk o))(s:ZU H2 H1)(h:H1 b=some u)(hu:∀o,u≠Gk o):hide cs H1 b=some u:=by
 rw [ZF fun m=>?_]
 ·exact h
 ·obtain ⟨o,e⟩:=hcs b m
  rw [s _ _ e] at h
  exact hu o (Option.some.inj h).symm
theorem j9(cs:List Addr)(H:Hp):xk cs H (hide cs H)=H:=by
 funext b
 by_cases m:b∈cs
 ·rw [JD m]
 ·rw [Y6 m,ZF m]
theorem XU.same{H H':Hp}{P:Addr}{pos:Pos}{qual:Str}(h:XU H P pos qual)(s:ZU H H'):XU H' P pos qual:=by
 rcases h with h | ⟨c,oc,h1,h2,h3⟩
 ·exact .inl (s _ _ h)
 ·exact .inr ⟨c,oc,s _ _ h1,s _ _ h2,h3⟩
noncomputable def tCallV(Pg:Program)(w:World)(K:PySem.W.Frag)(mg:Str→Option Value)(base:Heap)(k:Nat)(i:Nat)(t:TA):TE:=fun σ H Q=>∃(f:Addr) (τ:Sp),σ[i]?=some (some (.ref f))∧Xl Pg w K mg base k f H τ ∧
 t σ H fun vs H1=>Gr H H1∧τ vs H1 Q E0
theorem wc{P:Program}{w:World}{K:PySem.W.Frag}{mg:Str→Option Value}{base:Heap}{k:Nat}{f:Addr}{H H1:Hp}{τ:Sp}{h:Heap}(c:Xl P w K mg base k f H τ)(fz:Gr H H1)(hok:HOk P w H1 h):PySem.W.FnAt f h:=by
 obtain ⟨o,fd,e,d⟩:=c.1
 have g:=(hok f _ (fz _ _ _ e)).1
 obtain ⟨oc,od,dt,sl⟩:=o
 cases d
 exact ⟨oc,od,fd,sl,g⟩
theorem uc(i:Nat){e:Expr}{es:List Expr}{t:TA}(hr:Wi k X.A)(ha:QA X (e::es) t)(hN:X.N[i]?=some x:=by rfl)(hv:Vis X.env.scope x:=by first | exact Or.inl rfl | exact Or.inr (Or.inl rfl) | exact Or.inr (Or.inr rfl))
  (hdb:(x == ("__debug__" : Str))=false:=by decide) (hcd:(x == ("__classdict__" : Str))=false:=by decide) (he:starEach (e::es) X.env=(false,eval e X.env)::starEach es X.env:=by rfl) (hpl:(backTo pos (starEach es X.env)).any (·.1)=false:=by rfl) :
  QE X (.Call (.Name x p) (e::es) [] pos) (tCallV X.prog X.w X.K X.mg X.base k i t):=by
 refine ⟨?_⟩
 intro pins s σ H Q I hw
 obtain ⟨f,τ,hσ,hc,ht⟩:=hw
 refine wpAny_Call_Name_kw (thn (Zae hN hv hdb hcd pins s σ H (fun v H'=>v=.ref f∧H'=H) I ⟨.ref f,hσ,rfl,rfl⟩) fun u s1 ⟨v,H',I1,r,hv',hH⟩=>?_)
 subst hv'
 subst hH
 cases r
 refine PySem.W.callWith_F (wc hc (Gr.refl _) I1.hok) (thn (ha.out pos pins s1 σ H' _ I1 ht) fun us s2 ⟨vs,H1,I2,rv,fz,hτ⟩=>⟨wc hc fz I2.hok,?_⟩) he hpl
 refine wpAny_call (codeAny_mono (hc.2 X.A X.stack s2 H1 us vs Q E0 fz hr I2.env0 rv hτ) fun r s' hq=>?_)
 cases r with
 | error e=>exact hq.elim
 | ok fl =>
  cases fl with
  | ret u=>exact I2.after hq
  | next=>exact False.elim hq
  | brk=>exact False.elim hq
  | cont=>exact False.elim hq
end
theorem wd{P:Program}{w:World}{K:PySem.W.Frag}{mg mb:Str→Option Value}{CX:CXT}{k:Nat}{fa a:Addr}{fd:FuncData}{x:Str}{sp:Sp}{s₁:Shared}{vs:List Value}{ns:List Int}{tabs:List (Addr × Addr)}
  (KX:K.In s₁.heap) (hns:s₁.heap.Ns mainGlobals mg) (hb:s₁.heap.Ns builtinsNs mb) (hbb:∀x:Str,x ≠ "__name__" → mb x=bootBuiltins x) (hlim:s₁.heap.NoLimit) (hg:s₁.gens=#[])
  (ha:s₁.heap.get? a=some { cls:=.type "list",data:=.seq vs.toArray }) (hi:IntsAre vs ns) (hl:ns.length≤sizeLine) (hr:Wi k callerA)
  (hT:PySem.W.TabsAt tabs s₁.heap) (hKt:PySem.W.noTabs K=true) (hbm:qR mg s₁.heap)
  (F:∀base:Heap,K.In base→base.Ns mainGlobals mg→(∀q∈tabs,PySem.W.CodeHd base q.1 q.2)→qR mg base→Z7 P w K mg base CX k fa fd [x] sp) (hbind:∀(s:Shared) (u:Value),BindsTo s fd ⟨[u],[]⟩ [(x,u)])
  (hsp:∀H:Hp,(∀q∈tabs,H q.2=some (.tbl #[]))→SqL K H a (ns.map V.int)→sp [.ref a] H (fun v _=>v=.bl true) fun _ _ _=>False)
  (hCX:∀H e s',CX [] H s₁ (fun _ _ _=>False) e s'→False) :
  codeAny (model P w) callerA (.call (.ref fa) ⟨[.ref a],[]⟩) (fun r s'=>r=.ok (.ret (.bool true))∧OldK s₁.heap s'.heap∧s'.os=s₁.os∧AllBare s'.gens) s₁:=by
 have rv:=z6 hi
 have lenV:=hi.length
 have tabGet:∀b,b∈tabs.map (·.2)→s₁.heap.get? b=some (PySem.W.tabObj #[]):=fun b m=>by
  obtain ⟨q,hq,rfl⟩:=List.mem_map.mp m
  exact (hT q hq).2
 have aT:a∉tabs.map (·.2):=fun m=>by
  have e:=tabGet a m
  rw [ha] at e
  cases e
 have core:∀H:Hp,(∀q∈tabs,H q.2=some (.tbl #[]))→(∀b,H b=none∨(b=a∧∃o xs,H b=some (.frz o (.lst xs)))∨(b∈tabs.map (·.2)∧H b=some (.tbl #[])))→SqL K H a (ns.map V.int)→HOk P w H s₁.heap→(H a≠none→K.lookup a=none) →
   codeAny (model P w) callerA (.call (.ref fa) ⟨[.ref a],[]⟩) (fun r s'=>r=.ok (.ret (.bool true))∧OldK s₁.heap s'.heap∧s'.os=s₁.os∧AllBare s'.gens) s₁:=by
  intro H hTb hO hS hok hK
  have base_of:∀{b:Addr} {o:Obj},s₁.heap.get? b=some o→H b=none→(vC s₁.heap H).get? b=some o:=fun e n=>gz e n
  have noA:∀{b:Addr} {o:Obj},s₁.heap.get? b=some o→(∀its n,o.data≠.seq its n)→o.cls≠.none→H b=none:=fun {b o} e d1 d2=>by
   rcases hO b with z | ⟨rfl,_⟩ | ⟨m,_⟩
   ·exact z
   ·rw [ha] at e;cases e
    exact absurd rfl (d1 _ _)
   ·rw [tabGet b m] at e;cases e
    exact absurd rfl d2
  have nsK:∀{b:Addr} {m:Str→Option Value},s₁.heap.Ns b m→(vC s₁.heap H).Ns b m:=fun {b m} ⟨o,es,ep,e,d,r⟩=>⟨o,es,ep,base_of e (by
   rcases hO b with z | ⟨rfl,_⟩ | ⟨m,_⟩
   ·exact z
   ·rw [ha] at e;cases e
    have d':Data.seq vs.toArray _=Data.dict es ep:=d
    cases d'
   ·rw [tabGet b m] at e;cases e
    have d':Data.fields #[]=Data.dict es ep:=d
    cases d'),d,r⟩
  have hKb:K.In (vC s₁.heap H):=fun b o e=>base_of (KX b o e) (by
   rcases hO b with z | ⟨rfl,ob,xs,z⟩ | ⟨m,_⟩
   ·exact z
   ·rw [hK (by rw [z];simp)] at e;cases e
   ·have g:=KX b o e
    rw [tabGet b m] at g
    cases g
    have h2:=List.all_eq_true.mp hKt (b,_) (PySem.W.mem_of_lookupK e)
    exact absurd (show false=true from h2) Bool.false_ne_true)
  have hM:Mod K mg (vC s₁.heap H):=⟨hKb,nsK hns,⟨mb,nsK hb,hbb⟩,let ⟨mc,h1,h2⟩:=hlim;⟨mc,nsK h1,h2⟩⟩
  have hB:qR mg (vC s₁.heap H):=by
   obtain ⟨bm,ob,b1,b2,b3,b4,b5,b6⟩:=hbm.ex
   exact ⟨bm,ob,b1,b2,base_of b3 (noA b3 (fun its n z=>by rw [b6] at z;cases z) (fun z=>by rw [b4] at z;cases z)),b4,b5,b6⟩
  have hC:∀q∈tabs,PySem.W.CodeHd (vC s₁.heap H) q.1 q.2:=fun q hq=>by
   obtain ⟨o,vs',file,tf,flags,tg,inF,text,tt,e1,r1,r2,r3⟩:=(hT q hq).1
   exact ⟨o,vs',file,tf,flags,tg,inF,text,tt,base_of e1 (noA e1 (fun its n z=>by rw [r2] at z;cases z) (fun z=>by rw [r1] at z;cases z)),r1,r2,r3⟩
  have e0:vw P w K mg (vC s₁.heap H) callerA [] s₁ H:=⟨rfl,hM,fun b o e=>Zbj e,Nat.le_of_eq (vD _ _),trivial,fun b hb=>absurd (show b∈([]:List Addr) from hb) (by simp),hok,.of_eq hg⟩
  refine codeAny_mono ((F _ hKb (nsK hns) hC hB).run callerA [] s₁ H ⟨[.ref a],[]⟩ [.ref a] [.ref a] _ _ hr e0 (hbind s₁ (.ref a)) (.cons rfl .nil) (hsp H hTb hS)) fun r s' h=>?_
  cases r with
  | error e=>exact (hCX H e s' h).elim
  | ok fl =>
   cases fl with
   | next=>exact False.elim h
   | brk=>exact False.elim h
   | cont=>exact False.elim h
   | ret u =>
    obtain ⟨v,H',os,bare,un,hok',r',q⟩:=h
    have q':v=.bl true:=q
    subst q'
    obtain rfl:u=Value.bool true:=r'
    have all:∀b o,s₁.heap.get? b=some o→s'.heap.get? b=some o∨∃more,b∈tabs.map (·.2)∧o=PySem.W.tabObj #[]∧s'.heap.get? b=some (PySem.W.tabObj (#[]++more)):=fun b o e=>by
     rcases hO b with z | ⟨_,ob,xs,z⟩ | ⟨m,z⟩
     ·exact .inl (un.keep b o e z (by intro z;exact absurd (show b∈([]:List Addr) from z) (by simp)) (by simp))
     ·have z2:=un.frzs b ob _ z
      obtain ⟨e1,_⟩:=hok b _ z
      obtain ⟨e2,_⟩:=hok' b _ z2
      rw [e] at e1;cases e1
      exact .inl e2
     ·obtain ⟨more,z2⟩:=un.tbls b _ z
      rw [tabGet b m] at e
      cases e
      exact .inr ⟨more,m,rfl,hok' b _ z2⟩
    refine ⟨rfl,⟨fun b o e=>?_,fun b o e=>?_⟩,os,bare⟩
    ·rcases all b o e with z | ⟨more,m,rfl,z⟩
     ·exact .inl z
     ·obtain ⟨q,hq,rfl⟩:=List.mem_map.mp m
      exact .inr (.inl ⟨((hT q hq).1.tab (hT q hq).2).isCodeTable,rfl,#[],more,rfl,z⟩)
    ·rcases all b o e with z | ⟨more,_,_,z⟩
     ·exact ⟨_,z⟩
     ·exact ⟨_,z⟩
 have tm:∀q∈tabs,q.2∈tabs.map (·.2):=fun q hq=>List.mem_map_of_mem hq
 cases hk:K.lookup a with
 | some o =>
  have e:=KX a o hk
  rw [ha] at e
  cases e
  refine core (fun b=>if b∈tabs.map (·.2) then some (.tbl #[]) else none) (fun q hq=>if_pos (tm q hq)) (fun b=>?_) (.inr ⟨_,vs.toArray,_,hk,rfl,rfl,rfl,by rw [List.size_toArray,lenV];exact hl,by simpa using rv⟩) (fun b u z=>?_) (fun z=>absurd (if_neg aT) z)
  ·by_cases m:b∈tabs.map (·.2)
   ·exact .inr (.inr ⟨m,if_pos m⟩)
   ·exact .inl (if_neg m)
  ·by_cases m:b∈tabs.map (·.2)
   ·have z':=(if_pos m).symm.trans z
    cases z'
    exact tabGet b m
   ·have z':=(if_neg m).symm.trans z
    cases z'
 | none =>
  refine core (fun b=>if b∈tabs.map (·.2) then some (.tbl #[]) else if b=a then some (.frz { cls:=.type "list",data:=.seq vs.toArray } (.lst (ns.map V.int))) else none) (fun q hq=>if_pos (tm q hq)) (fun b=>?_) (.inl (.inr ⟨{ cls:=.type "list",data:=.seq vs.toArray },(if_neg aT).trans (if_pos rfl)⟩)) (fun b u z=>?_) fun _=>hk
  ·by_cases m:b∈tabs.map (·.2)
   ·exact .inr (.inr ⟨m,if_pos m⟩)
   ·by_cases hb:b=a
    ·exact .inr (.inl ⟨hb,_,_,(if_neg m).trans (if_pos hb)⟩)
    ·exact .inl ((if_neg m).trans (if_neg hb))
  ·by_cases m:b∈tabs.map (·.2)
   ·have z':=(if_pos m).symm.trans z
    cases z'
    exact tabGet b m
   ·by_cases hb:b=a
    ·have z':=((if_neg m).trans (if_pos hb)).symm.trans z
     cases z'
     subst hb
     exact ⟨ha,by rw [List.length_map];exact hl,vs,_,rv,ha⟩
    ·have z':=((if_neg m).trans (if_neg hb)).symm.trans z
     cases z'
theorem walk_ofT{l:PySem.W.OpenLaw}{n k:Nat}{q:Program}{loose:List Str}{XP:(Str→Option Value)→Heap→Prop}{YP:World→Heap→Prop}{d:DefRec}{K:Params→PySem.W.Frag}{CX:World→CXT}{sp:World→Sp}{x:Str}{tabs:List (Addr × Addr)}
  (hn:l.most=some n) (hn2:n≤sizeLine) (hdf:d.params.defaults=[]) (hr:Wi k callerA)
  (hY:∀(w:World) (h:Heap),YP w h→(K w.params).In h)
  (hTab:∀(w:World) (mean:ExcName→Option Value) (mg mb:Str→Option Value) (h:Heap),Top q (PySem.W.looseW q loose) mean mg mb h→(K w.params).In h→PySem.W.TabsAt tabs h) (hKt:∀w:World,PySem.W.noTabs (K w.params)=true)
  (F:∀(w:World) (mg:Str→Option Value) (fa:Addr) (h:Heap),(K w.params).In h→h.Ns mainGlobals mg→mg d.name=some (.ref fa) →
   ∃fd:FuncData,(∀(s:Shared) (u:Value),BindsTo s fd ⟨[u],[]⟩ [(x,u)]) ∧
    ∀base:Heap,(K w.params).In base→base.Ns mainGlobals mg→(∀q∈tabs,PySem.W.CodeHd base q.1 q.2)→qR mg base→Z7 l.prog w (K w.params) mg base (CX w) k fa fd [x] (sp w))
  (hsp:∀(w:World) (H:Hp) (a:Addr) (ns:List Int),ns.length≤n→(∀q∈tabs,H q.2=some (.tbl #[]))→SqL (K w.params) H a (ns.map V.int)→sp w [.ref a] H (fun v _=>v=.bl true) fun _ _ _=>False)
  (hCX:∀(w:World) (H:Hp) (s:Shared) (e:Value) (s':Shared),CX w [] H s (fun _ _ _=>False) e s'→False) :
  PySem.W.WalkO q loose XP YP l.row.toRowW d [] (fun f vs=>PySem.call f vs):=by
 refine Att.attach_call hn hdf fun w s₀ s₁ mg mb fa o pm cd doc a vs ns G Y ho hd hcd hmg hobj hints hlen hg=>?_
 have KX:=hY w _ Y
 obtain ⟨fd,hb,hF⟩:=F w mg fa _ KX G.T.g hmg
 exact wd KX G.T.g G.T.b G.T.builtins G.T.nolimit hg hobj hints (Nat.le_trans hlen hn2) hr (hTab w _ mg mb _ G.T KX) (hKt w) ⟨G.T.bmain⟩ hF hb (fun H hTb hS=>hsp w H a ns hlen hTb hS) fun H e s'=>hCX w H s₁ e s'
section
variable {X:Cx}
end
section
variable {prog:Program}{w:World}{A:Around}{E:Value→Shared→Prop}{s:Shared}
end
section
variable {X:Cx}
end
theorem qS:typeLookup (.type "list") "keys" = pure none:=by rw [typeLookup_type,builtinLookup_eq_fast];kernel_rfl
theorem JE{prog:Program}{w:World}{A:Around}{E:Value→Shared→Prop}{s:Shared}{a:Addr}{o:Obj}{xs:Array Value}{k:Nat}{name:Str}{Q:Option Value→Shared→Prop}
  (hx:s.heap.get? a=some o) (hc:o.cls=.type "list") (hdat:o.data=.seq xs k) (hd:o.dict=none) (hmiss:typeLookup (.type "list") name=pure none) (hname:(["__module__","__name__","__qualname__","__doc__","__annotations__"]:List Str).contains name=false) (hA:A.handled=none)
  (h:∀h' tk,(∀b o,s.heap.get? b=some o→h'.get? b=some o)→Q none { s with heap:=h',toks:=tk }) (hsz:name.length + 100≤sizeLine:=by size_fits) :
  wpAny (model prog w) A (getAttr? (.ref a) name) Q E s:=by
 obtain ⟨c,dct,dat,sl⟩:=o
 simp only at hc hdat hd
 subst hc hdat hd
 obtain ⟨hp,g,d,tk,os⟩:=s
 have hT:∀tk',(⟨hp,g,d,tk',os⟩:Shared).TypeIs (.ref a) "list" := fun _=>⟨_,hx,rfl⟩
 have f1:=sub_AttributeError
 have f3:=F.slot_list_getattribute.lookup
 have f4:=F.slot_list_getattribute.bind (.ref a)
 have f5:=am_list_getattr_none
 unfold getAttr? getAttrBy? getAttrBy
 repeat (any_goals (first | assumption | exact hT _ | ((with_reducible show wpAny _ _ (call (Value.builtin "list.__getattribute__") _ _) _ _ _);refine call_meets F.slot_list_getattribute (hT _) am_entry_list_getattribute (F.args_list_getattribute_2 _ _) (meets_getattribute_miss_list a xs k sl name _ hmiss hname hsz) ⟨hx,hA,fun h' tk' e hx'=>?_⟩) | wp_step))
 obtain ⟨t',u',he⟩:=hx'.there
 show wpAny _ _ (getattributeRaised _ _ _ _ _ _ _) _ _ _
 unfold getattributeRaised
 repeat (any_goals (first | assumption | wp_step))
 exact h _ _ hx'.of.keeps
theorem YR:plainId "dict.update.loop" = true:=by decide +kernel
theorem Je:entryFor table "dict.update.loop" = some Builtin.«dict.update.loop»:=entryFor_of_fast (by kernel_rfl)
section
variable {prog:Program}{w:World}{K:Type}[DecidableEq K]{knd:KeyKind prog w K}{A:Around}{R:Result→Shared→Prop}{d l it:Addr}{items:List Value}
noncomputable def we(kvs rest:List (K × Value)):List (K × Value):=rest.foldl (fun a p=>stored a p.1 p.2) kvs
theorem yj(hh:A.handled=none)(hld:l≠d)(hli:l≠it)(hid:it≠d):∀(rest:List (K × Value)) (i:Nat) (s:Shared) (kvs:List (K × Value)),s.heap.IsListIter it l i→s.heap.IsList l items.toArray→i + rest.length=items.length →
  (∀(j:Nat) (p:K × Value),rest[j]?=some p→∃a key,items[i + j]?=some (.ref a)∧IsTup s.heap a #[key,p.2]∧knd.is p.1 key=true∧a≠d∧a≠it)→s.heap.DictOf knd d kvs→kvs.length + rest.length≤sizeLine →
  (∀h' tk,h'.DictOf knd d (we kvs rest)→(∀b o,b≠d→b≠it→s.heap.get? b=some o→h'.get? b=some o)→R (.ok (.ret .none)) { s with heap:=h',toks:=tk }) →
  codeAny (model prog w) A (.builtin "dict.update.loop" ⟨[.ref d,.ref it,rawInt i,.none],[]⟩) R s
 | [],i,s,kvs,hit,hl,hlen,_,hm,hz,hR=>by
  refine codeAny_builtin Je ?_
  rw [Around.under_plainId YR _]
  show wpAny _ A.in1 (pyNext (.ref it) >>= _) _ _ s
  refine wpAny_bind (wpAny_pyNext_list_end hh hit hl (by rw [List.getElem?_toArray];exact List.getElem?_eq_none (by rw [List.length_nil] at hlen;lia)) fun h' hx=>?_)
  exact wpAny_pure (hR h' s.toks (by
   obtain ⟨o,es,ep,ho,r⟩:=hm
   exact ⟨o,es,ep,hx _ _ hid.symm ho,r⟩) fun b o _ hb e=>hx b o hb e)
 | p::rest,i,s,kvs,hit,hl,hlen,hitems,hm,hz,hR=>by
  refine codeAny_builtin Je ?_
  rw [Around.under_plainId YR _]
  show wpAny _ A.in1 (pyNext (.ref it) >>= _) _ _ s
  obtain ⟨a,key,e1,e2,e3,e4,e5⟩:=hitems 0 p rfl
  refine wpAny_bind (wpAny_pyNext_list_item hit hl (x:=.ref a) (by simpa using e1) fun h1 hit1 sb1=>?_)
  have keep1:∀b o,b≠it→s.heap.get? b=some o→h1.get? b=some o:=fun b o hb e=>(sb1.2 b hb).trans e
  have tup1:IsTup h1 a #[key,p.2]:=by
   obtain ⟨o,ho,r⟩:=e2
   exact ⟨o,keep1 _ _ e5 ho,r⟩
  obtain ⟨ot,hot,hct,nt,hdt⟩:=id tup1
  have hm1:h1.DictOf knd d kvs:=by
   obtain ⟨o,es,ep,ho,r⟩:=hm
   exact ⟨o,es,ep,keep1 _ _ hid.symm ho,r⟩
  show wpAny _ A.in1 (holding [Value.ref a] (tryCatch (Builtin.Dict.pairItems (.ref a)) _ >>= _) >>= _) _ _ _
  refine wpAny_bind (wpAny_holding (wpAny_bind (wpAny_tryCatch ?_)))
  unfold Builtin.Dict.pairItems
  refine wpAny_bind (wpAny_typeOf (s:={ s with heap:=h1 }) tup1.typeIs ?_)
  rw [if_pos (by decide)]
  refine wpAny_bind (wpAny_seqItems (s:={ s with heap:=h1 }) hot hdt (wpAny_pure ?_))
  show wpAny _ A.in1 (holding [key,p.2] (dictSet d key p.2)) _ _ _
  rw [List.length_cons] at hlen hz
  refine wpAny_holding (wpAny_dictSet_pairs (s:={ s with heap:=h1 }) e3 hm1 (fun h2 hm2 sb2=>?_) (by lia))
  have keep2:∀b o,b≠d→h1.get? b=some o→h2.get? b=some o:=fun b o hb e=>(sb2.2 b hb).trans e
  have sl:=stored_length_le kvs p.1 p.2
  refine wpAny_pure ⟨plainId_quiet YR _,?_⟩
  refine yj hh hld hli hid rest (i + 1) { s with heap:=h2,toks:=s.toks + 1 } (stored kvs p.1 p.2) ?_ ?_ (by lia) (fun j q hq=>?_) hm2 (by lia) fun h' tk hD hk=>?_
  ·obtain ⟨o,ho,r⟩:=hit1
   exact ⟨o,keep2 _ _ hid ho,r⟩
  ·obtain ⟨o,ho,r⟩:=hl
   exact ⟨o,keep2 _ _ hld (keep1 _ _ hli ho),r⟩
  ·obtain ⟨b,kb,g1,g2,g3,g4,g5⟩:=hitems (j + 1) q (by simpa using hq)
   refine ⟨b,kb,by rw [←g1];congr 1;lia,?_,g3,g4,g5⟩
   obtain ⟨o,ho,r⟩:=g2
   exact ⟨o,keep2 _ _ g4 (keep1 _ _ g5 ho),r⟩
  ·exact hR h' tk hD fun b o h1' h2' e=>hk b o h1' h2' (keep2 _ _ h1' (keep1 _ _ h2' e))
end
noncomputable def Xc(H:Hp)(ps:List (Str × V))(rs:List V):Prop:=Paired (fun (p:Str × V) (r:V)=>∃a,r=.ref a∧H a=some (.tup [.str p.1,p.2])) ps rs
noncomputable def zo(ps:List (Str × V)):List (Key × V):=ps.foldl (fun a p=>putK a (.inr p.1) p.2) []
theorem yk{x y:V}{its:List Value}(r:Vals [x,y] its):∃a b,its=[a,b]∧RelV x a∧RelV y b:=by
 cases r with
 | cons h1 t =>
  cases t with
  | cons h2 t =>
   cases t
   exact ⟨_,_,rfl,h1,h2⟩
theorem yR{P:Program}{w:World}{H:Hp}{h:Heap}(hok:HOk P w H h)(ps:List (Str × V)):∀{rs:List V} {its:List Value},Xc H ps rs→Vals rs its →
  ∃vps:List (Key × Value),KV (ps.map fun p=>((Sum.inr p.1:Key),p.2)) vps∧vps.length=its.length∧∀(j:Nat) (q:Key × Value),vps[j]?=some q→∃a key,its[j]?=some (.ref a)∧IsTup h a #[key,q.2]∧(ZP P w).is q.1 key=true:=by
 induction ps with
 | nil =>
  intro rs its hp hv
  cases hp
  cases hv
  exact ⟨[],.nil,rfl,fun j q h=>by simp at h⟩
 | cons p ps ih =>
  intro rs its hp hv
  cases hp with
  | cons hx t =>
   obtain ⟨a,e,ha⟩:=hx
   subst e
   cases hv with
   | cons r t2 =>
    obtain ⟨vps,k1,k2,k3⟩:=ih t t2
    have hob:Yg P w H h a (.tup [.str p.1,p.2]):=hok a _ ha
    obtain ⟨_,its2,r2,tp⟩:=hob
    obtain ⟨key,u,e2,rk,ru⟩:=yk r2
    subst e2
    have r':=r
    cases r'
    refine ⟨(.inr p.1,u)::vps,.cons ⟨rfl,ru⟩ k1,by rw [List.length_cons,List.length_cons,k2],fun j q hq=>?_⟩
    cases j with
    | zero =>
     have e:((Sum.inr p.1:Key),u)=q:=by simpa using hq
     subst e
     exact ⟨a,key,rfl,tp,j0 (k:=.inr p.1) rk⟩
    | succ j=>exact k3 j q (by simpa using hq)
theorem KV.putAll:∀{ps:List (Str × V)} {vps:List (Key × Value)} {kvs:List (Key × V)} {vs:List (Key × Value)},KV kvs vs→KV (ps.map fun p=>((Sum.inr p.1:Key),p.2)) vps→KV (ps.foldl (fun a p=>putK a (.inr p.1) p.2) kvs) (we vs vps)
 | [],_,_,_,r,.nil=>r
 | p::ps,q::vps,kvs,vs,r,.cons ⟨e,rq⟩ t=>by
  have e':(Sum.inr p.1:Key)=q.1:=e
  have:=r.put q.1 rq
  rw [←e'] at this
  show KV (ps.foldl _ (putK kvs (.inr p.1) p.2)) (we (stored vs q.1 q.2) vps)
  rw [←e']
  exact KV.putAll this t
theorem ud(ps:List (Str × V)):∀kvs:List (Key × V),(ps.foldl (fun a p=>putK a (.inr p.1) p.2) kvs).length≤kvs.length + ps.length:=by
 induction ps with
 | nil=>intro kvs;exact Nat.le_refl _
 | cons p r ih =>
  intro kvs
  have h1:=ih (putK kvs (.inr p.1) p.2)
  have h2:=Wm kvs (.inr p.1:Key) p.2
  rw [List.foldl_cons,List.length_cons]
  lia
section
variable {X:Cx}
theorem yS (hc:X.calm=true):XR X (.type "dict") (fun xs H Q=>∃(p:Addr) (rs:List V) (ps:List (Str × V)),xs=[V.ref p]∧H p=some (.lst rs)∧Xc H ps rs∧ps.length≤1000∧∀a,H a=none→Q (.ref a) (upd H a (.dK (zo ps)))):=by
 intro pins s σ H xs us Q I r h
 obtain ⟨p,rs,ps,rfl,hp,hps,hz,q⟩:=h
 obtain ⟨u,rfl,ru⟩:=vals1 r
 cases ru
 have hh:X.A.handled=none:=I.ok.hd hc
 obtain ⟨hzl,its,n,rv,hl⟩:=(show Yg X.prog X.w H s.heap p (.lst rs) from I.hok p _ hp)
 refine callType_codes (Q₁:=fun obj s₁=>obj=.ref s.heap.objs.size∧s₁={ s with heap:=s.heap.push { cls:=.type "dict",data:=.dict #[] } }) F.kt_called_dict (F.kt_typeCall_dict_1 _) F.entry_dict_init (kt_code_dict_new _ ⟨rfl,rfl⟩) ?_
 rintro obj s₁ ⟨rfl,rfl⟩
 have hnew:(s.heap.push { cls:=.type "dict",data:=.dict #[] }).DictOf (ZP X.prog X.w) s.heap.objs.size []:=Heap.DictOf.new s.heap
 refine ⟨hnew.typeIs,F.args_dict_init_2 _ _,?_⟩
 unfold Builtin.«dict.__init__»
 refine wpAny_bind ?_
 unfold Builtin.Dict.selfAndRest
 refine wpAny_bind (wpAny_notOrdered_dict hnew.typeIs ?_)
 show wpAny _ _ (pure (s.heap.objs.size,[Value.ref p])) _ _ _
 refine wpAny_pure ?_
 show wpAny _ _ (Builtin.Dict.updateFrom "dict.__init__" s.heap.objs.size (.ref p) [] .none) _ _ _
 unfold Builtin.Dict.updateFrom
 have hl0:(s.heap.push { cls:=.type "dict",data:=.dict #[] }).get? p=some { cls:=.type "list",data:=.seq its.toArray n }:=Heap.get?_push_of_some _ hl
 refine wpAny_bind (wpAny_typeOf (T := "list") ⟨_,hl0,rfl⟩ ?_)
 rw [if_pos (by decide)]
 obtain ⟨vps,w1,w2,w3⟩:=yR I.hok ps hps rv
 have big:=I.big
 refine wpAny_bind (JE (A:=X.A.in1.in1) hl0 rfl rfl rfl qS (by decide +kernel) hh fun h1 tk1 k1=>?_)
 simp only [Option.isNone_none,if_true]
 have old1:∀b o,s.heap.get? b=some o→h1.get? b=some o:=fun b o e=>k1 b o (Heap.get?_push_of_some _ e)
 have hD1:h1.DictOf (ZP X.prog X.w) s.heap.objs.size []:=by
  obtain ⟨o,es,ep,ho,r⟩:=hnew
  exact ⟨o,es,ep,k1 _ _ ho,r⟩
 have hl1:h1.IsList p its.toArray:=⟨_,old1 _ _ hl,rfl,_,rfl⟩
 refine wpAny_bind (wpAny_rule ?_)
 refine wpAny_bind (wpAny_pyIter_list (s:={ s with heap:=h1,toks:=tk1 }) hl1 ?_)
 have itn:h1.get? h1.objs.size=none:=Heap.get?_none_of_le (Nat.le_refl _)
 have lt1:∀{b:Addr} {o:Obj},h1.get? b=some o→b≠h1.objs.size:=fun e z=>by rw [z,itn] at e;cases e
 have hDg:∃o,h1.get? s.heap.objs.size=some o:=by
  obtain ⟨o,es,ep,ho,r⟩:=hD1
  exact ⟨o,ho⟩
 obtain ⟨oD,hoD⟩:=hDg
 have lenv:its.length=ps.length:=by rw [←w2,←w1.length,List.length_map]
 refine wpAny_pure ⟨plainId_quiet YR _,yj (knd:=ZP X.prog X.w) (A:=X.A.in1) (l:=p) (items:=its) hh (Nat.ne_of_lt (Heap.lt_size hl)) (lt1 (old1 _ _ hl)) (lt1 hoD).symm vps 0 _ [] ⟨_,Heap.get?_push_size _ rfl,rfl,rfl⟩ ?_ (by lia) (fun j q hq=>?_) ?_ (by rw [w2,lenv,List.length_nil];exact Nat.le_of_lt (Zt (by lia))) fun h' tk hDD hk=>?_⟩
 ·obtain ⟨o,ho,r⟩:=hl1
  exact ⟨o,Heap.get?_push_of_some _ ho,r⟩
 ·obtain ⟨b,key,g1,g2,g3⟩:=w3 j q hq
  obtain ⟨o,ho,r⟩:=g2
  refine ⟨b,key,by rw [Nat.zero_add];exact g1,⟨o,Heap.get?_push_of_some _ (old1 _ _ ho),r⟩,g3,Nat.ne_of_lt (Heap.lt_size ho),lt1 (old1 _ _ ho)⟩
 ·obtain ⟨o,es,ep,ho,r⟩:=hD1
  exact ⟨o,es,ep,Heap.get?_push_of_some _ ho,r⟩
 ·have old:∀b o,s.heap.get? b=some o→h'.get? b=some o:=fun b o e=>hk b o (Nat.ne_of_lt (Heap.lt_size e)) (lt1 (old1 _ _ e)) (Heap.get?_push_of_some _ (old1 _ _ e))
  have pl:=ud ps []
  refine ⟨rfl,.ref s.heap.objs.size,_,I.laid (a:=s.heap.objs.size) (o:=.dK (zo ps)) (t':=tk) old (Nat.le_refl _) (kR (Nat.le_of_lt (Zt (by rw [List.length_nil] at pl;exact Nat.le_trans pl (by lia)))) (beq_eq_false_iff_ne.mpr (Ne.symm (Nat.ne_of_lt big))) (KV.putAll .nil w1) hDD),rfl,q _ (I.hok.fresh (Nat.le_refl _))⟩
end
section
variable {X:Cx}
end
theorem Xc.same{H H':Hp}{ps:List (Str × V)}{rs:List V}(h:Xc H ps rs)(s:ZU H H'):Xc H' ps rs:=Paired.mapP h fun _ _ ⟨a,e,q⟩=>⟨a,e,s _ _ q⟩
theorem Xc.snoc{H:Hp}{ps:List (Str × V)}{rs:List V}(h:Xc H ps rs){y:Str}{v:V}{a:Addr}(e:H a=some (.tup [.str y,v])):Xc H (ps++[(y,v)]) (rs++[.ref a]):=by
 unfold Xc at h ⊢
 induction h with
 | nil=>exact .cons ⟨a,rfl,e⟩ .nil
 | cons r _ ih=>exact .cons r ih
theorem zL(ps:List (Str × V))(y:Str)(v:V):zo (ps++[(y,v)])=putK (zo ps) (.inr y) v:=by
 unfold zo
 rw [List.foldl_append]
 rfl
theorem ue(f:Str→V):∀{ys:List Str} {y:Str},y∈ys→Yw (zo (ys.map fun y=>(y,f y))) (.inr y)=some (f y):=by
 intro ys
 have h:∀n,n≤ys.length→∀y∈ys.take n,Yw (zo ((ys.take n).map fun y=>(y,f y))) (.inr y)=some (f y):=by
  intro n
  induction n with
  | zero=>intro _ y hy;rw [List.take_zero] at hy;cases hy
  | succ n ih =>
   intro hn y hy
   have e:=take_snoc (List.getElem?_eq_getElem (show n < ys.length by lia))
   rw [e] at hy ⊢
   rw [List.map_append]
   show Yw (zo (_++[_])) _=_
   rw [zL,GO]
   by_cases hyn:y=ys[n]
   ·rw [if_pos (by rw [hyn]),hyn]
   ·rw [if_neg (fun z=>hyn (Sum.inr.inj z))]
    rcases List.mem_append.mp hy with h | h
    ·exact ih (by lia) y h
    ·exact absurd (List.mem_singleton.mp h) hyn
 intro y hy
 have:=h ys.length (Nat.le_refl _) y (by rw [List.take_length];exact hy)
 rw [List.take_length] at this
 exact this
end L2
namespace ZpT
open PySem PySem.Spec PyProof.Rows
noncomputable def ZM:Bool→Heap→Addr→Addr→Nat→Prop
 | true,h,it,l,k=>h.IsTupleIter it l k
 | false,h,it,l,k=>h.IsListIter it l k
noncomputable def SeqAt:Bool→Heap→Addr→Array Value→Prop
 | true,h,l,xs=>h.IsTuple l xs
 | false,h,l,xs=>h.IsList l xs
theorem ZM.mv{b:Bool}{h h':Heap}{it l:Addr}{k:Nat}(x:ZM b h it l k)(f:∀o,h.get? it=some o→h'.get? it=some o):ZM b h' it l k:=by
 cases b
 ·exact Heap.IsListIter.at x f
 ·exact Heap.IsTupleIter.at x f
theorem SeqAt.mv{b:Bool}{h h':Heap}{l:Addr}{xs:Array Value}(x:SeqAt b h l xs)(f:∀o,h.get? l=some o→h'.get? l=some o):SeqAt b h' l xs:=by
 cases b
 ·obtain ⟨o,ho,r⟩:=(show h.IsList l xs from x)
  exact (show h'.IsList l xs from ⟨o,f o ho,r⟩)
 ·obtain ⟨o,ho,r⟩:=(show h.IsTuple l xs from x)
  exact (show h'.IsTuple l xs from ⟨o,f o ho,r⟩)
theorem ZM.ob{b:Bool}{h:Heap}{it l:Addr}{k:Nat}(x:ZM b h it l k):∃o,h.get? it=some o∧∀v,o.data≠.cell v:=by
 cases b
 ·obtain ⟨o,ho,hc,hd⟩:=(show h.IsListIter it l k from x)
  exact ⟨o,ho,fun v z=>by rw [hd] at z;cases z⟩
 ·obtain ⟨o,ho,hc,hd⟩:=(show h.IsTupleIter it l k from x)
  exact ⟨o,ho,fun v z=>by rw [hd] at z;cases z⟩
noncomputable def zO (f0:Value) (b:Bool) (TI TO:Addr):Obj:={ cls:=.type "zip",dict:=none,data:=.fields #[f0,.bool b,.bool false,.ref TI,.ref TO],slots:=#[] }
noncomputable def F0(f0:Value):Prop:=f0=.none∨∃T:Addr,f0=rawInt T
structure Ap(z TI TO i1 i2:Addr):Prop where
 TIz:TI≠z
 TOz:TO≠z
 i1z:i1≠z
 i2z:i2≠z
 TITO:TI≠TO
 TIi1:TI≠i1
 TIi2:TI≠i2
 TOi1:TO≠i1
 TOi2:TO≠i2
 i12:i1≠i2
section
variable {prog:Program}{w:World}{A:Around}{E:Value→Shared→Prop}{s:Shared}
theorem Xd{b:Bool}{it l:Addr}{k:Nat}{xs:Array Value}{x:Value}{Q:Value→Shared→Prop}(hit:ZM b s.heap it l k)(hl:SeqAt b s.heap l xs)(hx:xs[k]?=some x)
  (hQ:∀h',ZM b h' it l (k + 1)→Heap.SameBut it s.heap h'→Q x { s with heap:=h' }):wpAny (model prog w) A (Builtin.SmallTypes.nextOf (.ref it)) Q E s:=by
 cases b
 ·exact wpAny_nextOf_list_item hit hl hx hQ
 ·exact EnT.next_of hit hl hx hQ
theorem xm{b:Bool}{it l:Addr}{k:Nat}{xs:Array Value}{Q:Value→Shared→Prop}(hh:A.handled=none)(hit:ZM b s.heap it l k)(hl:SeqAt b s.heap l xs)(hx:xs[k]?=none)
  (hE:∀h' e,Heap.ExtBut it s.heap h'→(∃o,h'.get? e=some o∧o.cls=.type "StopIteration")→E (.ref e) { s with heap:=h' }):wpAny (model prog w) A (Builtin.SmallTypes.nextOf (.ref it)) Q E s:=by
 cases b
 ·exact wpAny_nextOf_list_end hh hit hl hx hE
 ·exact EnT.next_no hh hit hl hx hE
theorem alive{a:Addr}{Q:Option Obj→Shared→Prop}(h:Q (s.heap.get? a) s):wpAny (model prog w) A (loadIfAlive a) Q E s:=fun Γ p _=>h
theorem xI{z TI TO:Addr}{f0:Value}{fb:Bool}{Q:Bool→Shared→Prop}(hz:s.heap.get? z=some (zO f0 fb TI TO))(hf:F0 f0)
  (h:∀r h' fb',h'.get? z=some (zO f0 fb' TI TO)→Heap.SameBut z s.heap h'→Q r { s with heap:=h' }):wpAny (model prog w) A (Builtin.SmallTypes.ownedTupleIsFree (.ref z)) Q E s:=by
 unfold Builtin.SmallTypes.ownedTupleIsFree
 refine wpAny_bind (wpAny_field hz rfl (x:=f0) rfl ?_)
 rcases hf with rfl | ⟨T,rfl⟩
 ·exact wpAny_pure (h true s.heap fb hz ⟨rfl,fun _ _=>rfl⟩)
 ·show wpAny _ _ (loadIfAlive (Int.toNat (T:Int)) >>= _) _ _ s
  refine wpAny_bind (alive ?_)
  cases hT:s.heap.get? (Int.toNat (T:Int)) with
  | none=>exact wpAny_pure (h true s.heap fb hz ⟨rfl,fun _ _=>rfl⟩)
  | some o =>
   show wpAny _ _ (field (.ref z) 1 >>= _) _ _ s
   refine wpAny_bind (wpAny_field hz rfl (x:=.bool fb) rfl ?_)
   cases fb
   ·show wpAny _ _ (setField (.ref z) 1 (.bool true) >>= _) _ _ s
    refine wpAny_bind (wpAny_setField_rec hz (by simp) fun h₁ hz₁ hs₁=>wpAny_pure ?_)
    exact h false h₁ true hz₁ hs₁
   ·exact wpAny_pure (h false s.heap true hz ⟨rfl,fun _ _=>rfl⟩)
end
end ZpT
namespace ZpT
open PySem PySem.Spec PyProof.Rows
structure Of(z TO i1 i2 l:Addr):Prop where
 z:l≠z
 o:l≠TO
 i:l≠i1
 j:l≠i2
structure St(b1 b2:Bool)(z TI TO i1 i2 l1 l2:Addr)(k1 k2:Nat)(h:Heap):Prop where
 z:∃f0 fb,h.get? z=some (zO f0 fb TI TO)∧F0 f0
 I:IsPair h TI (.ref i1) (.ref i2)
 O:∃a b,IsPair h TO a b
 n1:ZM b1 h i1 l1 k1
 n2:ZM b2 h i2 l2 k2
section
variable {prog:Program}{w:World}{A:Around}{E:Value→Shared→Prop}{s:Shared}
theorem item{b1 b2:Bool}{z TI TO i1 i2 l1 l2:Addr}{k1 k2:Nat}{xs ys:Array Value}{x y:Value}{Q:Value→Shared→Prop}(D:Ap z TI TO i1 i2)(D1:Of z TO i1 i2 l1)(D2:Of z TO i1 i2 l2)
  (S:St b1 b2 z TI TO i1 i2 l1 l2 k1 k2 s.heap) (q1:SeqAt b1 s.heap l1 xs) (q2:SeqAt b2 s.heap l2 ys) (hx:xs[k1]?=some x) (hy:ys[k2]?=some y)
  (hQ:∀h',St b1 b2 z TI TO i1 i2 l1 l2 (k1 + 1) (k2 + 1) h'→IsPair h' s.heap.objs.size x y →
   (∀c o,c≠z→c≠TO→c≠i1→c≠i2→s.heap.get? c=some o→h'.get? c=some o)→Q (.ref s.heap.objs.size) { s with heap:=h' }) :
  wpAny (model prog w) A (Builtin.«zip.__next__» ⟨[.ref z],[]⟩) (fun fin s'=>∃v,fin=.done (.ret v)∧Q v s') E s:=by
 obtain ⟨⟨f0,fb,hz,hf⟩,hTI,⟨a,b,hTO⟩,n1,n2⟩:=S
 show wpAny _ _ (field (.ref z) 2 >>= _) _ _ _
 refine wpAny_bind (wpAny_field hz rfl (x:=.bool false) rfl ?_)
 show wpAny _ _ (field (.ref z) 3 >>= _) _ _ _
 refine wpAny_bind (wpAny_field hz rfl (x:=.ref TI) rfl ?_)
 refine wpAny_bind (wpAny_seqItems hTI rfl ?_)
 show wpAny _ _ (Builtin.SmallTypes.ownedTupleIsFree (.ref z) >>= _) _ _ _
 refine wpAny_bind (xI hz hf fun r h0 fb' hz0 hs0=>?_)
 have hz0':h0.get? z=some (zO f0 fb' TI TO):=hz0
 have hTO0:IsPair h0 TO a b:=hs0.extBut _ _ D.TOz hTO
 have hTI0:IsPair h0 TI (.ref i1) (.ref i2):=hs0.extBut _ _ D.TIz hTI
 have n10:ZM b1 h0 i1 l1 k1:=n1.mv fun o e=>hs0.extBut _ _ D.i1z e
 have n20:ZM b2 h0 i2 l2 k2:=n2.mv fun o e=>hs0.extBut _ _ D.i2z e
 have q10:SeqAt b1 h0 l1 xs:=q1.mv fun o e=>hs0.extBut _ _ D1.z e
 have q20:SeqAt b2 h0 l2 ys:=q2.mv fun o e=>hs0.extBut _ _ D2.z e
 cases r with
 | true =>
  simp only [if_true]
  refine wpAny_bind (wpAny_rule ?_)
  refine wpAny_bind (wpAny_field hz0 rfl (x:=.ref TO) rfl ?_)
  refine wpAny_bind (wpAny_setField_rec hz0 (by simp) fun h₁ hz₁ hs₁=>?_)
  replace hz₁:h₁.get? z=some (zO .ellipsis fb' TI TO):=hz₁
  refine wpAny_bind ?_
  simp only [List.zipIdx_cons,List.zipIdx_nil,List.forIn_cons,List.forIn_nil]
  refine wpAny_bind (wpAny_bind (wpAny_onRaise ?_))
  show wpAny _ _ (Builtin.SmallTypes.nextOf (.ref i1) >>= _) _ _ _
  refine wpAny_bind (Xd (n10.mv fun o e=>hs₁.extBut _ _ D.i1z e) (q10.mv fun o e=>hs₁.extBut _ _ D1.z e) hx fun h₂ h1₂ hs₂=>wpAny_pure ?_)
  have hTO₂:IsPair h₂ TO a b:=hs₂.extBut _ _ D.TOi1 (hs₁.extBut _ _ D.TOz hTO0)
  refine wpAny_bind (wpAny_seqItems hTO₂ rfl ?_)
  refine wpAny_bind (wpAny_updateSeq_pair hTO₂ fun h₃ hTO₃ hs₃=>?_)
  replace hTO₃:IsPair h₃ TO x b:=hTO₃
  refine wpAny_bind (wpAny_letGo (wpAny_pure ?_))
  refine wpAny_bind (wpAny_bind (wpAny_onRaise ?_))
  show wpAny _ _ (Builtin.SmallTypes.nextOf (.ref i2) >>= _) _ _ _
  refine wpAny_bind (Xd (n20.mv fun o e=>hs₃.extBut _ _ D.TOi2.symm (hs₂.extBut _ _ D.i12.symm (hs₁.extBut _ _ D.i2z e)))
   (q20.mv fun o e=>hs₃.extBut _ _ D2.o (hs₂.extBut _ _ D2.i (hs₁.extBut _ _ D2.z e))) hy fun h₄ h2₄ hs₄=>wpAny_pure ?_)
  have hTO₄:IsPair h₄ TO x b:=hs₄.extBut _ _ D.TOi2 hTO₃
  refine wpAny_bind (wpAny_seqItems hTO₄ rfl ?_)
  refine wpAny_bind (wpAny_updateSeq_pair hTO₄ fun h₅ hTO₅ hs₅=>?_)
  replace hTO₅:IsPair h₅ TO x y:=hTO₅
  refine wpAny_bind (wpAny_letGo (wpAny_pure (wpAny_pure ?_)))
  refine wpAny_bind (wpAny_seqItems hTO₅ rfl ?_)
  refine wpAny_bind (wpAny_newTuple ?_)
  have hsz:h₅.objs.size=s.heap.objs.size:=by rw [hs₅.1,hs₄.1,hs₃.1,hs₂.1,hs₁.1];exact hs0.1
  have hz₅:h₅.get? z=some (zO .ellipsis fb' TI TO):=hs₅.extBut _ _ D.TOz.symm (hs₄.extBut _ _ D.i2z.symm (hs₃.extBut _ _ D.TOz.symm (hs₂.extBut _ _ D.i1z.symm hz₁)))
  have hk₅:∀c o,c≠z→c≠TO→c≠i1→c≠i2→s.heap.get? c=some o→h₅.get? c=some o:=fun c o c1 c2 c3 c4 e =>
   hs₅.extBut _ _ c2 (hs₄.extBut _ _ c4 (hs₃.extBut _ _ c2 (hs₂.extBut _ _ c3 (hs₁.extBut _ _ c1 (hs0.extBut _ _ c1 e)))))
  have h1₅:ZM b1 h₅ i1 l1 (k1 + 1):=h1₂.mv fun o e=>hs₅.extBut _ _ D.TOi1.symm (hs₄.extBut _ _ D.i12 (hs₃.extBut _ _ D.TOi1.symm e))
  have h2₅:ZM b2 h₅ i2 l2 (k2 + 1):=h2₄.mv fun o e=>hs₅.extBut _ _ D.TOi2.symm e
  have hzlt:z < h₅.objs.size:=Heap.lt_size hz₅
  show wpAny _ _ (Builtin.SmallTypes.ownedTupleHandOut (.ref z) (.ref h₅.objs.size) >>= _) _ _ _
  refine wpAny_bind ?_
  unfold Builtin.SmallTypes.ownedTupleHandOut
  have hz₆:(h₅.push { cls:=.type "tuple",data:=.seq #[x,y] }).get? z=some (zO .ellipsis fb' TI TO):=Heap.get?_push_of_some _ hz₅
  refine wpAny_bind (wpAny_setField_rec hz₆ (by simp) fun h₇ hz₇ hs₇=>?_)
  replace hz₇:h₇.get? z=some (zO (rawInt h₅.objs.size) fb' TI TO):=hz₇
  refine wpAny_setField_rec hz₇ (by simp) fun h₈ hz₈ hs₈=>?_
  replace hz₈:h₈.get? z=some (zO (rawInt h₅.objs.size) false TI TO):=hz₈
  have up:∀c o,c≠z→h₅.get? c=some o→h₈.get? c=some o:=fun c o c1 e=>hs₈.extBut _ _ c1 (hs₇.extBut _ _ c1 (Heap.get?_push_of_some _ e))
  have hT₈:IsPair h₈ h₅.objs.size x y:=hs₈.extBut _ _ (Nat.ne_of_gt hzlt) (hs₇.extBut _ _ (Nat.ne_of_gt hzlt) (Heap.get?_push_size _ rfl))
  rw [hsz] at hz₈ hT₈
  refine wpAny_pure ⟨_,rfl,?_⟩
  show Q (.ref h₅.objs.size) _
  rw [hsz]
  exact hQ h₈ ⟨⟨_,_,hz₈,.inr ⟨_,rfl⟩⟩,up _ _ D.TIz (hk₅ _ _ D.TIz D.TITO D.TIi1 D.TIi2 hTI),⟨_,_,up _ _ D.TOz hTO₅⟩,h1₅.mv fun o e=>up _ o D.i1z e,h2₅.mv fun o e=>up _ o D.i2z e⟩ hT₈ fun c o c1 c2 c3 c4 e=>up c o c1 (hk₅ c o c1 c2 c3 c4 e)
 | false =>
  simp only [Bool.false_eq_true,if_false]
  refine wpAny_bind ?_
  simp only [←Array.forIn_toList,List.forIn_cons,List.forIn_nil]
  refine wpAny_bind (wpAny_bind (wpAny_holding ?_))
  show wpAny _ _ (Builtin.SmallTypes.nextOf (.ref i1) >>= _) _ _ _
  refine wpAny_bind (Xd n10 q10 hx fun h₂ h1₂ hs₂=>wpAny_pure (wpAny_pure ?_))
  refine wpAny_bind (wpAny_bind (wpAny_holding ?_))
  show wpAny _ _ (Builtin.SmallTypes.nextOf (.ref i2) >>= _) _ _ _
  refine wpAny_bind (Xd (n20.mv fun o e=>hs₂.extBut _ _ D.i12.symm e) (q20.mv fun o e=>hs₂.extBut _ _ D2.i e) hy fun h₃ h2₃ hs₃=>wpAny_pure (wpAny_pure (wpAny_pure ?_)))
  refine wpAny_bind (wpAny_newTuple (hsz:=(show 2≤sizeLine by decide)) (wpAny_pure ⟨_,rfl,?_⟩))
  have hsz:h₃.objs.size=s.heap.objs.size:=by rw [hs₃.1,hs₂.1];exact hs0.1
  have hk₃:∀c o,c≠z→c≠i1→c≠i2→s.heap.get? c=some o→h₃.get? c=some o:=fun c o c1 c3 c4 e=>hs₃.extBut _ _ c4 (hs₂.extBut _ _ c3 (hs0.extBut _ _ c1 e))
  have zz:h₃.get? z=some (zO f0 fb' TI TO):=hs₃.extBut _ _ D.i2z.symm (hs₂.extBut _ _ D.i1z.symm hz0')
  have hT:IsPair (h₃.push { cls:=.type "tuple",data:=.seq #[x,y] }) h₃.objs.size x y:=Heap.get?_push_size _ rfl
  show Q (.ref h₃.objs.size) { s with heap:=h₃.push { cls:=.type "tuple",data:=.seq #[x,y] } }
  rw [hsz] at hT ⊢
  have up:∀c o,h₃.get? c=some o→(h₃.push { cls:=.type "tuple",data:=.seq #[x,y] }).get? c=some o:=fun c o e=>Heap.get?_push_of_some _ e
  exact hQ _ ⟨⟨_,_,up _ _ zz,hf⟩,up _ _ (hk₃ _ _ D.TIz D.TIi1 D.TIi2 hTI),⟨_,_,up _ _ (hk₃ _ _ D.TOz D.TOi1 D.TOi2 hTO)⟩,h1₂.mv fun o e=>up _ _ (hs₃.extBut _ _ D.i12 e),h2₃.mv fun o e=>up _ _ e⟩ hT fun c o c1 c2 c3 c4 e=>up c o (hk₃ c o c1 c3 c4 e)
end
end ZpT
namespace ZpT
open PySem PySem.Spec PyProof.Rows
section
variable {prog:Program}{w:World}{A:Around}{E:Value→Shared→Prop}{s:Shared}
theorem fin{b1 b2:Bool}{z TI TO i1 i2 l1 l2:Addr}{k1 k2:Nat}{xs ys:Array Value}{Q:Fin→Shared→Prop}(hh:A.handled=none)(D:Ap z TI TO i1 i2)(D1:Of z TO i1 i2 l1)(D2:Of z TO i1 i2 l2)
  (S:St b1 b2 z TI TO i1 i2 l1 l2 k1 k2 s.heap) (q1:SeqAt b1 s.heap l1 xs) (q2:SeqAt b2 s.heap l2 ys) (hend:xs[k1]?=none∨ys[k2]?=none)
  (hE:∀h' e,(∀c o,c≠z→c≠TO→c≠i1→c≠i2→s.heap.get? c=some o→h'.get? c=some o)→(∃o,h'.get? e=some o∧o.cls=.type "StopIteration")→E (.ref e) { s with heap:=h' }) :
  wpAny (model prog w) A (Builtin.«zip.__next__» ⟨[.ref z],[]⟩) Q E s:=by
 obtain ⟨⟨f0,fb,hz,hf⟩,hTI,⟨a,b,hTO⟩,n1,n2⟩:=S
 show wpAny _ _ (field (.ref z) 2 >>= _) _ _ _
 refine wpAny_bind (wpAny_field hz rfl (x:=.bool false) rfl ?_)
 show wpAny _ _ (field (.ref z) 3 >>= _) _ _ _
 refine wpAny_bind (wpAny_field hz rfl (x:=.ref TI) rfl ?_)
 refine wpAny_bind (wpAny_seqItems hTI rfl ?_)
 show wpAny _ _ (Builtin.SmallTypes.ownedTupleIsFree (.ref z) >>= _) _ _ _
 refine wpAny_bind (xI hz hf fun r h0 fb' hz0 hs0=>?_)
 have hz0':h0.get? z=some (zO f0 fb' TI TO):=hz0
 have hTO0:IsPair h0 TO a b:=hs0.extBut _ _ D.TOz hTO
 have hTI0:IsPair h0 TI (.ref i1) (.ref i2):=hs0.extBut _ _ D.TIz hTI
 have n10:ZM b1 h0 i1 l1 k1:=n1.mv fun o e=>hs0.extBut _ _ D.i1z e
 have n20:ZM b2 h0 i2 l2 k2:=n2.mv fun o e=>hs0.extBut _ _ D.i2z e
 have q10:SeqAt b1 h0 l1 xs:=q1.mv fun o e=>hs0.extBut _ _ D1.z e
 have q20:SeqAt b2 h0 l2 ys:=q2.mv fun o e=>hs0.extBut _ _ D2.z e
 cases r with
 | true =>
  simp only [if_true]
  refine wpAny_bind (wpAny_rule ?_)
  refine wpAny_bind (wpAny_field hz0 rfl (x:=.ref TO) rfl ?_)
  refine wpAny_bind (wpAny_setField_rec hz0 (by simp) fun h₁ hz₁ hs₁=>?_)
  replace hz₁:h₁.get? z=some (zO .ellipsis fb' TI TO):=hz₁
  refine wpAny_bind ?_
  simp only [List.zipIdx_cons,List.zipIdx_nil,List.forIn_cons,List.forIn_nil]
  refine wpAny_bind (wpAny_bind (wpAny_onRaise ?_))
  show wpAny _ _ (Builtin.SmallTypes.nextOf (.ref i1) >>= _) _ _ _
  cases hx:xs[k1]? with
  | none =>
   refine wpAny_bind (xm hh (n10.mv fun o e=>hs₁.extBut _ _ D.i1z e) (q10.mv fun o e=>hs₁.extBut _ _ D1.z e) hx fun h₂ e hs₂ he=>?_)
   obtain ⟨oe,hoe,hce⟩:=he
   have hz₂:h₂.get? z=some (zO .ellipsis fb' TI TO):=hs₂ _ _ D.i1z.symm hz₁
   have hez:e≠z:=fun x=>by subst x;rw [hz₂] at hoe;cases hoe;simp [zO] at hce
   refine wpAny_setField_rec hz₂ (by simp) fun h₃ _ hs₃=>hE h₃ e (fun c o c1 _ c3 _ x=>hs₃.extBut _ _ c1 (hs₂ _ _ c3 (hs₁.extBut _ _ c1 (hs0.extBut _ _ c1 x)))) ⟨oe,hs₃.extBut _ _ hez hoe,hce⟩
  | some x =>
   have hy:ys[k2]?=none:=by rcases hend with h | h;rw [hx] at h;cases h;exact h
   refine wpAny_bind (Xd (n10.mv fun o e=>hs₁.extBut _ _ D.i1z e) (q10.mv fun o e=>hs₁.extBut _ _ D1.z e) hx fun h₂ h1₂ hs₂=>wpAny_pure ?_)
   have hTO₂:IsPair h₂ TO a b:=hs₂.extBut _ _ D.TOi1 (hs₁.extBut _ _ D.TOz hTO0)
   refine wpAny_bind (wpAny_seqItems hTO₂ rfl ?_)
   refine wpAny_bind (wpAny_updateSeq_pair hTO₂ fun h₃ hTO₃ hs₃=>?_)
   refine wpAny_bind (wpAny_letGo (wpAny_pure ?_))
   refine wpAny_bind (wpAny_bind (wpAny_onRaise ?_))
   show wpAny _ _ (Builtin.SmallTypes.nextOf (.ref i2) >>= _) _ _ _
   refine wpAny_bind (xm hh (n20.mv fun o e=>hs₃.extBut _ _ D.TOi2.symm (hs₂.extBut _ _ D.i12.symm (hs₁.extBut _ _ D.i2z e)))
    (q20.mv fun o e=>hs₃.extBut _ _ D2.o (hs₂.extBut _ _ D2.i (hs₁.extBut _ _ D2.z e))) hy fun h₄ e hs₄ he=>?_)
   obtain ⟨oe,hoe,hce⟩:=he
   have hz₄:h₄.get? z=some (zO .ellipsis fb' TI TO):=hs₄ _ _ D.i2z.symm (hs₃.extBut _ _ D.TOz.symm (hs₂.extBut _ _ D.i1z.symm hz₁))
   have hez:e≠z:=fun x=>by subst x;rw [hz₄] at hoe;cases hoe;simp [zO] at hce
   refine wpAny_setField_rec hz₄ (by simp) fun h₅ _ hs₅=>hE h₅ e (fun c o c1 c2 c3 c4 x=>hs₅.extBut _ _ c1 (hs₄ _ _ c4 (hs₃.extBut _ _ c2 (hs₂.extBut _ _ c3 (hs₁.extBut _ _ c1 (hs0.extBut _ _ c1 x)))))) ⟨oe,hs₅.extBut _ _ hez hoe,hce⟩
 | false =>
  simp only [Bool.false_eq_true,if_false]
  refine wpAny_bind ?_
  simp only [←Array.forIn_toList,List.forIn_cons,List.forIn_nil]
  refine wpAny_bind (wpAny_bind (wpAny_holding ?_))
  show wpAny _ _ (Builtin.SmallTypes.nextOf (.ref i1) >>= _) _ _ _
  cases hx:xs[k1]? with
  | none=>exact wpAny_bind (xm hh n10 q10 hx fun h₂ e hs₂ he=>hE h₂ e (fun c o c1 _ c3 _ x=>hs₂ _ _ c3 (hs0.extBut _ _ c1 x)) he)
  | some x =>
   have hy:ys[k2]?=none:=by rcases hend with h | h;rw [hx] at h;cases h;exact h
   refine wpAny_bind (Xd n10 q10 hx fun h₂ h1₂ hs₂=>wpAny_pure (wpAny_pure ?_))
   refine wpAny_bind (wpAny_bind (wpAny_holding ?_))
   show wpAny _ _ (Builtin.SmallTypes.nextOf (.ref i2) >>= _) _ _ _
   exact wpAny_bind (xm hh (n20.mv fun o e=>hs₂.extBut _ _ D.i12.symm e) (q20.mv fun o e=>hs₂.extBut _ _ D2.i e) hy fun h₃ e hs₃ he=>hE h₃ e (fun c o c1 _ c3 c4 x=>hs₃ _ _ c4 (hs₂.extBut _ _ c3 (hs0.extBut _ _ c1 x))) he)
theorem next_item{b1 b2:Bool}{z TI TO i1 i2 l1 l2:Addr}{k1 k2:Nat}{xs ys:Array Value}{x y:Value}{Q:Option Value→Shared→Prop}(D:Ap z TI TO i1 i2)(D1:Of z TO i1 i2 l1)(D2:Of z TO i1 i2 l2)
  (S:St b1 b2 z TI TO i1 i2 l1 l2 k1 k2 s.heap) (q1:SeqAt b1 s.heap l1 xs) (q2:SeqAt b2 s.heap l2 ys) (hx:xs[k1]?=some x) (hy:ys[k2]?=some y)
  (hQ:∀h',St b1 b2 z TI TO i1 i2 l1 l2 (k1 + 1) (k2 + 1) h'→IsPair h' s.heap.objs.size x y →
   (∀c o,c≠z→c≠TO→c≠i1→c≠i2→s.heap.get? c=some o→h'.get? c=some o)→Q (some (.ref s.heap.objs.size)) { s with heap:=h' }) :
  wpAny (model prog w) A (pyNext (.ref z)) Q E s:=by
 obtain ⟨f0,fb,hz,hf⟩:=S.z
 have hT:s.TypeIs (.ref z) "zip" := ⟨_,hz,rfl⟩
 unfold pyNext
 exact wpAny_bind (wpAny_attempt (wpAny_callSpecial?_slot (name:=Str.ofString "__next__") hT F.slot_zip_next
  (wpAny_call_entry F.slot_zip_next hT F.entry_zip_next (item D D1 D2 S q1 q2 hx hy fun h' a1 a2 a3=>wpAny_pure (hQ h' a1 a2 a3)) (F.args_zip_next_1 _))))
theorem next_end{b1 b2:Bool}{z TI TO i1 i2 l1 l2:Addr}{k1 k2:Nat}{xs ys:Array Value}{Q:Option Value→Shared→Prop}(hh:A.handled=none)(D:Ap z TI TO i1 i2)(D1:Of z TO i1 i2 l1)(D2:Of z TO i1 i2 l2)
  (S:St b1 b2 z TI TO i1 i2 l1 l2 k1 k2 s.heap) (q1:SeqAt b1 s.heap l1 xs) (q2:SeqAt b2 s.heap l2 ys) (hend:xs[k1]?=none∨ys[k2]?=none)
  (hQ:∀h',(∀c o,c≠z→c≠TO→c≠i1→c≠i2→s.heap.get? c=some o→h'.get? c=some o)→Q none { s with heap:=h' }) :
  wpAny (model prog w) A (pyNext (.ref z)) Q E s:=by
 obtain ⟨f0,fb,hz,hf⟩:=id S.z
 have hT:s.TypeIs (.ref z) "zip" := ⟨_,hz,rfl⟩
 unfold pyNext
 refine wpAny_bind (wpAny_attempt (wpAny_callSpecial?_slot (name:=Str.ofString "__next__") hT F.slot_zip_next (wpAny_call_entry F.slot_zip_next hT F.entry_zip_next ?_ (F.args_zip_next_1 _))))
 refine fin hh D D1 D2 S q1 q2 hend fun h' e hk he=>?_
 obtain ⟨o,ho,hc⟩:=he
 exact wpAny_bind (wpAny_isInstance (T := "StopIteration") (b:=true) ⟨o,ho,hc⟩ isSubtype_stop (wpAny_pure (hQ _ hk)))
theorem iter_self{z TI TO:Addr}{f0:Value}{fb:Bool}{Q:Value→Shared→Prop}(hz:s.heap.get? z=some (zO f0 fb TI TO))(h:Q (.ref z) s):wpAny (model prog w) A (pyIter (.ref z)) Q E s:=by
 have hT:s.TypeIs (.ref z) "zip" := ⟨_,hz,rfl⟩
 refine wpAny_pyIter_slot hT F.slot_zip_iter (wpAny_call_entry F.slot_zip_iter hT F.entry_zip_iter ?_ (F.args_zip_iter_1 _))
 show wpAny _ _ (ret (.ref z)) _ _ s
 exact wpAny_pure ⟨_,rfl,"zip",_,hT,F.slot_zip_next.lookup,h⟩
end
end ZpT
namespace ZpT
open PySem PySem.Spec PyProof.Rows
noncomputable def itO (b:Bool) (l:Addr):Obj:={ cls:=.type (if b then "tuple_iterator" else "list_iterator"),data:=.fields #[.ref l,.int 0 0] }
noncomputable def hz1(b1:Bool)(h:Heap)(l1:Addr):Heap:=h.push (itO b1 l1)
noncomputable def hz2(b1 b2:Bool)(h:Heap)(l1 l2:Addr):Heap:=(hz1 b1 h l1).push (itO b2 l2)
noncomputable def hz3 (b1 b2:Bool) (h:Heap) (l1 l2:Addr):Heap:=(hz2 b1 b2 h l1 l2).push { cls:=.type "tuple",data:=.seq #[.ref h.objs.size,.ref (hz1 b1 h l1).objs.size] }
noncomputable def hz4 (b1 b2:Bool) (h:Heap) (l1 l2:Addr):Heap:=(hz3 b1 b2 h l1 l2).push { cls:=.type "tuple",data:=.seq #[.none,.none] }
noncomputable def hz5(b1 b2:Bool)(h:Heap)(l1 l2:Addr):Heap:=(hz4 b1 b2 h l1 l2).push (zO .none false (hz2 b1 b2 h l1 l2).objs.size (hz3 b1 b2 h l1 l2).objs.size)
section
variable {prog:Program}{w:World}{A:Around}{E:Value→Shared→Prop}{s:Shared}
theorem WD{b:Bool}{l:Addr}{xs:Array Value}{Q:Value→Shared→Prop}(hl:SeqAt b s.heap l xs)(h:Q (.ref s.heap.objs.size) { s with heap:=s.heap.push (itO b l) }):wpAny (model prog w) A (pyIter (.ref l)) Q E s:=by
 cases b
 ·exact wpAny_pyIter_list hl h
 ·exact wpAny_pyIter_tuple hl h
end
theorem WC(b1 b2:Bool)(l1 l2:Addr)(xs ys:Array Value) :
  Meets (Builtin.«zip.__new__» ⟨[.type "zip",.ref l1,.ref l2],[]⟩) (fun _ R s=>SeqAt b1 s.heap l1 xs∧SeqAt b2 s.heap l2 ys ∧
   R (.ok (.ret (.ref (hz4 b1 b2 s.heap l1 l2).objs.size))) { s with heap:=hz5 b1 b2 s.heap l1 l2 }) :=
 .of_wp fun prog w A R s h=>by
  obtain ⟨hp,g,d,tk,os⟩:=s;obtain ⟨hl1,hl2,h⟩:=h
  have hsub:=sub_zip
  have hL1:SeqAt b1 (Shared.heap ⟨hp,g,d,tk,os⟩) l1 xs:=hl1
  have hL2:SeqAt b2 (Shared.heap ⟨hp.push (itO b1 l1),g,d,tk,os⟩) l2 ys:=hl2.mv fun o e=>Heap.get?_push_of_some _ e
  wp_walk using WD hL1,WD hL2
  exact ⟨_,rfl,h⟩
section
variable {prog:Program}{w:World}{A:Around}{E:Value→Shared→Prop}{s:Shared}
theorem JF{b:Bool}{h:Heap}{it l:Addr}(e:h.get? it=some (itO b l)):ZM b h it l 0:=by
 cases b
 ·exact (show h.IsListIter it l 0 from ⟨_,e,rfl,rfl⟩)
 ·exact (show h.IsTupleIter it l 0 from ⟨_,e,rfl,rfl⟩)
theorem call_new{b1 b2:Bool}{l1 l2:Addr}{xs ys:Array Value}{Q:Value→Shared→Prop}(hl1:SeqAt b1 s.heap l1 xs)(hl2:SeqAt b2 s.heap l2 ys)
  (h:∀h',St b1 b2 (s.heap.objs.size + 4) (s.heap.objs.size + 2) (s.heap.objs.size + 3) s.heap.objs.size (s.heap.objs.size + 1) l1 l2 0 0 h'→(∀c o,s.heap.get? c=some o→h'.get? c=some o)→Q (.ref (s.heap.objs.size + 4)) { s with heap:=h' }) :
  wpAny (model prog w) A (call (.type "zip") [.ref l1,.ref l2]) Q E s:=by
 refine callType_new F.called_zip (by decide) (F.typeCall_zip_2 _ _) (F.newCall_zip_2 _ _) (fun obj=>F.args_object_init_3 obj _ _) F.entry_zip_new (WC b1 b2 l1 l2 xs ys) ⟨hl1,hl2,?_⟩
 have z1:(hz1 b1 s.heap l1).objs.size=s.heap.objs.size + 1:=Heap.size_push ..
 have z2:(hz2 b1 b2 s.heap l1 l2).objs.size=s.heap.objs.size + 2:=by unfold hz2;rw [Heap.size_push,z1]
 have z3:(hz3 b1 b2 s.heap l1 l2).objs.size=s.heap.objs.size + 3:=by unfold hz3;rw [Heap.size_push,z2]
 have z4:(hz4 b1 b2 s.heap l1 l2).objs.size=s.heap.objs.size + 4:=by unfold hz4;rw [Heap.size_push,z3]
 have g5:(hz5 b1 b2 s.heap l1 l2).get? (hz4 b1 b2 s.heap l1 l2).objs.size=some (zO .none false (hz2 b1 b2 s.heap l1 l2).objs.size (hz3 b1 b2 s.heap l1 l2).objs.size):=Heap.get?_push_size _ rfl
 have g4:(hz5 b1 b2 s.heap l1 l2).get? (hz3 b1 b2 s.heap l1 l2).objs.size=some { cls:=.type "tuple",data:=.seq #[.none,.none] }:=Heap.get?_push_of_some _ (Heap.get?_push_size _ rfl)
 have g3:(hz5 b1 b2 s.heap l1 l2).get? (hz2 b1 b2 s.heap l1 l2).objs.size=some { cls:=.type "tuple",data:=.seq #[.ref s.heap.objs.size,.ref (hz1 b1 s.heap l1).objs.size] }:=Heap.get?_push_of_some _ (Heap.get?_push_of_some _ (Heap.get?_push_size _ rfl))
 have g2:(hz5 b1 b2 s.heap l1 l2).get? (hz1 b1 s.heap l1).objs.size=some (itO b2 l2):=Heap.get?_push_of_some _ (Heap.get?_push_of_some _ (Heap.get?_push_of_some _ (Heap.get?_push_size _ rfl)))
 have g1:(hz5 b1 b2 s.heap l1 l2).get? s.heap.objs.size=some (itO b1 l1):=Heap.get?_push_of_some _ (Heap.get?_push_of_some _ (Heap.get?_push_of_some _ (Heap.get?_push_of_some _ (Heap.get?_push_size _ rfl))))
 show _∧_
 rw [z2,z3,z4] at g5
 rw [z1,z2] at g3
 rw [z3] at g4
 rw [z1] at g2
 rw [z4]
 exact ⟨⟨_,g5,rfl⟩,h _ ⟨⟨_,_,g5,.inl rfl⟩,g3,⟨_,_,g4⟩,JF g1,JF g2⟩ fun c o x =>
  Heap.get?_push_of_some _ (Heap.get?_push_of_some _ (Heap.get?_push_of_some _ (Heap.get?_push_of_some _ (Heap.get?_push_of_some _ x))))⟩
theorem St.other{b1 b2:Bool}{z TI TO i1 i2 l1 l2:Addr}{k1 k2:Nat}{h h':Heap}(D:Ap z TI TO i1 i2)(S:St b1 b2 z TI TO i1 i2 l1 l2 k1 k2 h){f0:Value}{fb:Bool}(hz:h'.get? z=some (zO f0 fb TI TO))(hf:F0 f0)(hs:Heap.SameBut z h h'):St b1 b2 z TI TO i1 i2 l1 l2 k1 k2 h' :=
 ⟨⟨f0,fb,hz,hf⟩,hs.extBut _ _ D.TIz S.I,(let ⟨a,b,e⟩:=S.O;⟨a,b,hs.extBut _ _ D.TOz e⟩),S.n1.mv fun o e=>hs.extBut _ _ D.i1z e,S.n2.mv fun o e=>hs.extBut _ _ D.i2z e⟩
theorem go_any{b1 b2:Bool}{z TI TO i1 i2 l1 l2 T:Addr}{k1 k2:Nat}{tg:Expr}{Q:Unit→Shared→Prop}(D:Ap z TI TO i1 i2)(S:St b1 b2 z TI TO i1 i2 l1 l2 k1 k2 s.heap)
  (h:∀h',St b1 b2 z TI TO i1 i2 l1 l2 k1 k2 h'→Heap.SameBut z s.heap h'→Q () { s with heap:=h' }):wpAny (model prog w) A (letOwnedTupleGo tg (.ref z) (.ref T)) Q E s:=by
 have q0:Q () s:=h s.heap S ⟨rfl,fun _ _=>rfl⟩
 obtain ⟨f0,fb,hz,hf⟩:=id S.z
 have tup:wpAny (model prog w) A (do
   let o ←load z
   match o.cls,o.data with
   | .type n,.fields vs =>
    if ["enumerate","zip","dict_itemiterator","dict_reverseitemiterator","odict_iterator","itertools.zip_longest","itertools.pairwise"].contains n && vs[0]? == some (rawInt T) then
     rule "for.unpacks-the-owned-tuple"
     updateField z 0 .none
   | _,_=>pure ()) Q E s:=by
  refine wpAny_bind (wpAny_load hz ?_)
  show wpAny _ _ (if (["enumerate","zip","dict_itemiterator","dict_reverseitemiterator","odict_iterator","itertools.zip_longest","itertools.pairwise"].contains "zip" && (#[f0,.bool fb,.bool false,.ref TI,.ref TO]:Array Value)[0]? == some (rawInt T))=true then _ else _) Q E s
  split
  ·refine wpAny_bind (wpAny_rule ?_)
   show wpAny _ _ (setField (.ref z) 0 .none) Q E s
   exact wpAny_setField_rec hz (by simp) fun h' hz' hs'=>h h' (S.other D (f0:=.none) hz' (.inl rfl) hs') hs'
  ·exact wpAny_pure q0
 unfold letOwnedTupleGo
 cases tg <;> first
  | exact tup
  | exact wpAny_pure q0
end
end ZpT
namespace L2
open PySem PySem.Spec PyProof.Rows
open ZpT (St Ap Of SeqAt ZM)
noncomputable def SqB(K:PySem.W.Frag):Bool→Hp→Addr→List V→Prop
 | true,H,a,xs=>SqT K H a xs
 | false,H,a,xs=>SqL K H a xs
theorem SqB.l{K:PySem.W.Frag}{H:Hp}{a:Addr}{xs:List V}(h:H a=some (.lst xs)):SqB K false H a xs:=(SqL.of h:SqL K H a xs)
theorem Inv.sqB{X:Cx}{pins:List (Addr × Obj)}{σ:L2.St}{H:Hp}{s:Shared}{a:Addr}{xs:List V}{b:Bool}(I:Inv X pins σ H s)(h:SqB X.K b H a xs):∃its:List Value,Vals xs its∧SeqAt b s.heap a its.toArray∧xs.length≤sizeLine:=by
 cases b
 ·obtain ⟨its,rv,p,hz⟩:=I.list (show SqL X.K H a xs from h)
  obtain ⟨o,n,e,hc,_,hd⟩:=p
  exact ⟨its,rv,(show s.heap.IsList a its.toArray from ⟨o,e,hc,n,hd⟩),hz⟩
 ·obtain ⟨its,rv,p,hz⟩:=I.tuple (show SqT X.K H a xs from h)
  exact ⟨its,rv,(show s.heap.IsTuple a its.toArray from p),hz⟩
theorem Inv.sqB_inj{X:Cx}{pins:List (Addr × Obj)}{σ:L2.St}{H:Hp}{s:Shared}{a:Addr}{xs ys:List V}{b:Bool}(I:Inv X pins σ H s)(h:SqB X.K b H a xs)(h':SqB X.K b H a ys):xs=ys:=by
 cases b
 ·exact I.list_inj h h'
 ·exact I.tuple_inj h h'
noncomputable def Itz(K:PySem.W.Frag)(b1 b2:Bool)(a1 a2:Addr):It :=
  ⟨fun i H=>∃xs ys x y,SqB K b1 H a1 xs∧SqB K b2 H a2 ys∧xs[i]?=some x∧ys[i]?=some y,
   fun i H v H'=>∃p,H p=none∧v=.ref p∧∀xs ys x y,SqB K b1 H a1 xs→SqB K b2 H a2 ys→xs[i]?=some x→ys[i]?=some y→H'=upd H p (.tup [x,y]),
   fun i H=>∃xs ys,SqB K b1 H a1 xs∧SqB K b2 H a2 ys∧(xs.length≤i∨ys.length≤i)⟩
theorem uf{P:Program}{w:World}{K:PySem.W.Frag}{tg:Expr}{b1 b2:Bool}{z TI TO i1 i2 a1 a2:Addr}(D:Ap z TI TO i1 i2)(D1:Of z TO i1 i2 a1)(D2:Of z TO i1 i2 a2) :
  Turn P w K tg (Itz K b1 b2 a1 a2) [z,TI,TO,i1,i2] z (fun i h=>ZpT.St b1 b2 z TI TO i1 i2 a1 a2 i i h) where
 mem:=by simp
 obj:=fun i h st b hb=>by
  obtain ⟨⟨f0,fb,hz,hf⟩,hTI,⟨x,y,hTO⟩,n1,n2⟩:=st
  simp only [List.mem_cons,List.not_mem_nil,or_false] at hb
  rcases hb with rfl | rfl | rfl | rfl | rfl
  ·exact ⟨_,hz,fun v q=>by
    have q':Data.fields _=Data.cell v:=q
    cases q'⟩
  ·exact ⟨_,hTI,fun v q=>by
    have q':Data.seq _ _=Data.cell v:=q
    cases q'⟩
  ·exact ⟨_,hTO,fun v q=>by
    have q':Data.seq _ _=Data.cell v:=q
    cases q'⟩
  ·exact n1.ob
  ·exact n2.ob
 keep:=fun i h h' st k=>by
  obtain ⟨⟨f0,fb,hz,hf⟩,hTI,⟨x,y,hTO⟩,n1,n2⟩:=st
  exact ⟨⟨f0,fb,k z (by simp) _ hz,hf⟩,k TI (by simp) _ hTI,⟨x,y,k TO (by simp) _ hTO⟩,n1.mv fun o e=>k i1 (by simp) o e,n2.mv fun o e=>k i2 (by simp) o e⟩
 item:=by
  intro X hP hw hK hc i pins s σ H E I hf st hg
  subst hP hw hK
  obtain ⟨xs,ys,x,y,q1,q2,hx,hy⟩:=hg
  obtain ⟨its1,r1,p1,z1⟩:=I.sqB q1
  obtain ⟨its2,r2,p2,z2⟩:=I.sqB q2
  obtain ⟨u1,hu1,ru1⟩:=r1.get hx
  obtain ⟨u2,hu2,ru2⟩:=r2.get hy
  have olt:∀b∈[z,TI,TO,i1,i2],b < s.heap.objs.size:=fun b hb=>by
   obtain ⟨⟨f0,fb,hz,hf⟩,hTI,⟨x,y,hTO⟩,n1,n2⟩:=st
   simp only [List.mem_cons,List.not_mem_nil,or_false] at hb
   rcases hb with rfl | rfl | rfl | rfl | rfl
   ·exact Heap.lt_size hz
   ·exact Heap.lt_size hTI
   ·exact Heap.lt_size hTO
   ·obtain ⟨o,ho,_⟩:=n1.ob
    exact Heap.lt_size ho
   ·obtain ⟨o,ho,_⟩:=n2.ob
    exact Heap.lt_size ho
  refine ZpT.next_item D D1 D2 st p1 p2 (x:=u1) (y:=u2) (by simpa using hu1) (by simpa using hu2) fun h' st' hT hk=>?_
  refine ⟨_,rfl,ZpT.go_any (s:={ s with heap:=h' }) D st' fun h2 st2 hs2=>?_⟩
  have hs2':Heap.SameBut z h' h2:=hs2
  have I1:Inv X pins σ (upd H s.heap.objs.size (.tup [x,y])) { s with heap:=s.heap.push { cls:=.type "tuple",data:=.seq #[u1,u2] },toks:=s.toks } :=
   I.laid (fun b o y=>Heap.get?_push_of_some _ y) (Nat.le_refl _) ⟨by show 2≤sizeLine;decide,[u1,u2],.cons ru1 (.cons ru2 .nil),IsTup.new _ _⟩
  have fp':∀b∈[z,TI,TO,i1,i2],Gm X pins (upd H s.heap.objs.size (.tup [x,y])) b:=fun b hb=>by
   obtain ⟨a0,ar⟩:=hf b hb
   exact ⟨by rw [Zj (Nat.ne_of_lt (olt b hb))];exact a0,ar⟩
  have I2:Inv X pins σ (upd H s.heap.objs.size (.tup [x,y])) { s with heap:=h2,toks:=s.toks }:=by
   refine WV (s:={ s with heap:=s.heap.push { cls:=.type "tuple",data:=.seq #[u1,u2] },toks:=s.toks }) I1 fp' fun b o hb q=>?_
   have hbz:b≠z:=fun e=>hb (by simp [e])
   rcases Heap.get?_push_cases q with ⟨rfl,rfl⟩ | q
   ·exact (hs2'.2 _ hbz).trans hT
   ·exact (hs2'.2 b hbz).trans (hk b o hbz (fun e=>hb (by simp [e])) (fun e=>hb (by simp [e])) (fun e=>hb (by simp [e])) q)
  refine ⟨.ref s.heap.objs.size,_,I2,rfl,⟨_,I.hok.fresh (Nat.le_refl _),rfl,fun xs' ys' x' y' q1' q2' hx' hy'=>?_⟩,st2,fun b hb=>(fp' b hb).1⟩
  rw [I.sqB_inj q1' q1,hx] at hx'
  rw [I.sqB_inj q2' q2,hy] at hy'
  cases hx'
  cases hy'
  rfl
 done:=by
  intro X hP hw hK hc i pins s σ H E I hf st hg
  subst hP hw hK
  obtain ⟨xs,ys,q1,q2,hx⟩:=hg
  obtain ⟨its1,r1,p1,z1⟩:=I.sqB q1
  obtain ⟨its2,r2,p2,z2⟩:=I.sqB q2
  have e1:=r1.length
  have e2:=r2.length
  refine ZpT.next_end (I.ok.hd hc) D D1 D2 st p1 p2 (by simp;lia) fun h' hk=>⟨rfl,?_⟩
  exact WV (t':=s.toks) I hf fun b o hb q=>hk b o (fun e=>hb (by simp [e])) (fun e=>hb (by simp [e])) (fun e=>hb (by simp [e])) (fun e=>hb (by simp [e])) q
 self:=fun _ _ _ _ _ st h=>let ⟨_,_,hz,_⟩:=st.z;ZpT.iter_self hz h
theorem Za8:bootBuiltins "zip" = some (.type "zip"):=by decide +kernel
end L2
namespace L2
open PySem PySem.Spec PyProof.Rows
open ZpT (Ap Of SeqAt ZM)
section
variable {X:Cx}{A:Around}{b1 b2:Bool}{z TI TO i1 i2 a1 a2 S:Addr}{xs ys:List V}{pins:List (Addr × Obj)}{σ:St}{R:Result→Shared→Prop}
end
end L2
namespace L2
open PySem PySem.Spec PyProof.Rows
open ZpT (Ap Of SeqAt ZM)
noncomputable def zfp(n:Nat):List Addr:=[n + 4,n + 2,n + 3,n,n + 1]
theorem zap(n:Nat):Ap (n + 4) (n + 2) (n + 3) n (n + 1):=by constructor <;> (show @Ne Nat _ _;lia)
theorem zof{n l:Nat}(h:l < n):Of (n + 4) (n + 3) n (n + 1) l:=by constructor <;> (show @Ne Nat _ _;lia)
section
variable {X:Cx}{e1 e2:Expr}{t:TA}{p pos:Pos}{b1 b2:Bool}
theorem zM{b:Bool}{h:Heap}{l:Addr}{xs:Array Value}(q:SeqAt b h l xs):l < h.objs.size:=by
 cases b
 ·obtain ⟨o,ho,_⟩:=(show h.IsList l xs from q)
  exact Heap.lt_size ho
 ·obtain ⟨o,ho,_⟩:=(show h.IsTuple l xs from q)
  exact Heap.lt_size ho
theorem ug {pins:List (Addr × Obj)} {σ:St} {H:Hp} {s:Shared} {RR:Addr→Addr→List V→List V→Hp→Prop} {QQ:Value→Shared→Prop} (hg:Gl X "zip") (hm:X.mg "zip" = none) (ha:QA X [e1,e2] t) (hp:[e1,e2].all Yp=true) (I:Inv X pins σ H s)
  (h:t σ H fun vs H1=>∃a1 a2 xs ys,vs=[.ref a1,.ref a2]∧SqB X.K b1 H1 a1 xs∧SqB X.K b2 H1 a2 ys∧RR a1 a2 xs ys H1)
  (fin:∀a1 a2 xs ys n H1 s1,Inv X pins σ H1 s1→SqB X.K b1 H1 a1 xs→SqB X.K b2 H1 a2 ys→RR a1 a2 xs ys H1→a1 < n→a2 < n→ZpT.St b1 b2 (n + 4) (n + 2) (n + 3) n (n + 1) a1 a2 0 0 s1.heap→(∀b∈zfp n,Gm X pins H1 b)→QQ (.ref (n + 4)) s1) :
  wpAny (model X.prog X.w) X.A (eval (.Call (.Name "zip" p) [e1,e2] [] pos) X.env) QQ X.xe s:=by
 rw [List.all_cons,Bool.and_eq_true] at hp
 refine wpAny_Call_Name_kw (GV I hg hm Za8 ?_)
 refine PyProof.Rows.callWith_type1 (thn (ha.out pos pins s σ H _ I h) fun us s1 ⟨vs,H1,I1,r1,q1⟩=>?_) (Zz hp.1) (Xx hp.2)
 obtain ⟨a1,a2,xs,ys,rfl,q1,q2,r⟩:=q1
 obtain ⟨u1,u2,rfl,ru1,ru2⟩:=yk r1
 cases ru1
 cases ru2
 obtain ⟨its1,v1,p1,z1⟩:=I1.sqB q1
 obtain ⟨its2,v2,p2,z2⟩:=I1.sqB q2
 refine ZpT.call_new p1 p2 fun h' st hk=>?_
 refine fin a1 a2 xs ys s1.heap.objs.size H1 _ (I1.kept (t':=s1.toks) hk) q1 q2 r (zM p1) (zM p2) st fun b hb=>?_
 have hle:s1.heap.objs.size≤b:=by
  simp only [zfp,List.mem_cons,List.not_mem_nil,or_false] at hb
  rcases hb with rfl | rfl | rfl | rfl | rfl
  ·exact Nat.le_add_right _ _
  ·exact Nat.le_add_right _ _
  ·exact Nat.le_add_right _ _
  ·exact Nat.le_refl _
  ·exact Nat.le_add_right _ _
 exact I1.fpOk hle (I1.hok.fresh hle)
noncomputable def iZip2(K:PySem.W.Frag)(b1 b2:Bool)(t:TA):TI:=fun σ H R=>t σ H fun vs H1=>∃a1 a2 xs ys,vs=[.ref a1,.ref a2]∧SqB K b1 H1 a1 xs∧SqB K b2 H1 a2 ys∧R (Itz K b1 b2 a1 a2) H1
theorem qi_zip {tg:Expr} (hg:Gl X "zip") (hm:X.mg "zip" = none) (ha:QA X [e1,e2] t) (hp:[e1,e2].all Yp=true:=by rfl):QI X tg (.Call (.Name "zip" p) [e1,e2] [] pos) (iZip2 X.K b1 b2 t):=by
 refine ⟨fun pins s σ H R I h=>?_⟩
 refine ug (b1:=b1) (b2:=b2) (RR:=fun a1 a2 _ _ H1=>R (Itz X.K b1 b2 a1 a2) H1) hg hm ha hp I h fun a1 a2 xs ys n H1 s1 I1 q1 q2 r l1 l2 st hf=>?_
 obtain ⟨f0,fb,hz,_⟩:=id st.z
 exact ZpT.iter_self hz ⟨n + 4,zfp n,_,_,H1,rfl,I1,uf (zap n) (zof l1) (zof l2),st,hf,r⟩
end
end L2
namespace L2
open PySem PySem.Spec PyProof.Rows
structure Two(scope:Scope)(x x2:Str)(ys:List Str):Prop where
 own:scope.names.lookup x2=some .local
 nd:(x::x2::ys).Nodup
noncomputable def yT(is:List Nat)(σ:St)(v w:Option V):St:=v::w::is.map fun i=>(σ[i]?).getD none
noncomputable def Za9(K:PySem.W.Frag)(is:List Nat)(tc:TT)(te:TE)(σ:St)(Q:VK)(J:It)(H1:Hp):Prop:=∃W:Nat→Nat→List V→Hp→Prop,(∃m,W 0 m [] H1)∧∀i m zs H,W i m zs H →
 (J.stop i H∧zs.length≤sizeLine∧∀p,H p=none→Q (.ref p) (upd H p (.lst zs))) ∨
 (J.go i H∧zs.length≤sizeLine∧∀x H',J.yld i H x H'→∃a v1 v2,x=.ref a∧SqT K H' a [v1,v2]∧tc (yT is σ (some v1) (some v2)) H' fun b H2=>if b=true then te (yT is σ (some v1) (some v2)) H2 fun y H3=>∃m',m' < m∧W (i + 1) m' (zs++[y]) H3 else ∃m',m' < m∧W (i + 1) m' zs H2)
noncomputable def tComp2(K:PySem.W.Frag)(wi:TI)(is:List Nat)(tc:TT)(te:TE):TE:=fun σ H Q=>wi σ H (Za9 K is tc te σ Q)
section
variable {X:Cx}{S scope:Scope}{N:List Str}{x x2:Str}{ys:List Str}{is:List Nat}{pins:List (Addr × Obj)}{σ:St}{H₂:Hp}{s₂:Shared}{fp:List Addr}{elt iter:Expr}{px px2 pp pos:Pos}{pq:Nat}{ifs:List Expr}{tc:TT}{te:TE}{wi:TI}
theorem jA(K:ZW S scope N x ys is)(K2:Two scope x x2 ys)(hX:X.env.scope=S)(I:Inv X pins σ H₂ s₂){C:Addr}(hC:s₂.heap.objs.size≤C)(hfp:∀b∈fp,Gm X pins H₂ b)(hlt:∀b∈fp,b < s₂.heap.objs.size):(cxC X (x::x2::ys) scope C s₂ H₂ fp).Ok where
 mod:=I.ok.mod
 kind:=K.kind
 glob:=I.ok.glob
 blt:=I.ok.blt
 above:=hC
 inj:=fun y z c h1 h2=>I.ok.inj y z c (K.cl hX I.ok y c h1) (K.cl hX I.ok z c h2)
 has:=fun y hy=>Xj (XA (env:=X.env) K.cell hy)
 cab:=fun y c h=>by cases h
 hd:=I.ok.hd
 frames:=I.ok.frames
 stk:=.inl rfl
 exf:=fun b hb=>⟨fun e=>absurd (Nat.lt_of_lt_of_le (hlt b hb) (Nat.le_trans hC (Nat.le_of_eq (Eq.symm e)))) (Nat.lt_irrefl _),fun y c h=>(hfp b hb).2.2.2.2.1 y c (K.cl hX I.ok y c h)⟩
 bs:=I.bs
 bsz:=Nat.le_trans I.ok.bsz I.sz
 noex:=fun b o e hb=>by
  rcases (hfp b hb).2.2.2.1 with z | z
  ·exact I.ok.noex b o e z
  ·exact absurd (Nat.lt_of_lt_of_le (Heap.lt_size e) (Nat.le_trans I.ok.bsz z)) (Nat.lt_irrefl _)
 exfs:=fun b hb z=>by
  rcases List.mem_cons.mp (I.stkSub b z) with e | e
  ·exact (hfp b hb).2.1 e
  ·exact (hfp b hb).2.2.1 e
 funs:=I.stack
 frf:=I.stkFree
theorem uh(K:ZW S scope N x ys is)(K2:Two scope x x2 ys)(hX:X.env.scope=S)(hN:X.N=N)(hk:S.kind=.function)(I:Inv X pins σ H₂ s₂){C D:Addr}{h₁:Heap}{tk:Nat}{oD:Obj}(hC:s₂.heap.objs.size≤C)(hD:s₂.heap.objs.size≤D)(hDC:D≠C)
    (hfp:∀b∈fp,Gm X pins H₂ b) (hlt:∀b∈fp,b < s₂.heap.objs.size) (old:∀b o,s₂.heap.get? b=some o→h₁.get? b=some o) (hn:h₁.Ns C fun _=>none) (hacc:h₁.get? D=some oD) (hod:∀v,oD.data≠.cell v) :
    Inv (cxC X (x::x2::ys) scope C s₂ H₂ fp) [(D,oD)] (yT is σ none none) H₂ { s₂ with heap:=h₁,toks:=tk }:=by
  have ok:=jA K K2 hX I hC hfp hlt
  refine ⟨ok,rfl,I.bare,Un.kept old,⟨_,hn,fun i y v h1 h2 h3=>?_⟩,fun y c h=>?_,I.hok.fresh hC,fun y c h=>I.freeC y c (K.cl hX I.ok y c h),fun p hp=>?_,I.hok.kept old,?_⟩
  · cases i with
    | zero =>
      have h2':some (none:Option V)=some (some v):=h2
      cases h2'
    | succ i =>
     cases i with
     | zero =>
      have h2':some (none:Option V)=some (some v):=h2
      cases h2'
     | succ i =>
      have h1':ys[i]?=some y:=h1
      have h2':(is.map fun i=>(σ[i]?).getD none)[i]?=some (some v):=h2
      rw [List.getElem?_map] at h2'
      cases hj:is[i]? with
      | none=>rw [hj] at h2';cases h2'
      | some j =>
        rw [hj] at h2'
        have h2'':(σ[j]?).getD none=some v:=Option.some.inj h2'
        have hσ:σ[j]?=some (some v):=by
          cases q:σ[j]? with
          | none=>rw [q] at h2'';cases h2''
          | some z=>rw [q] at h2'';exact congrArg some h2''
        have hz:(y,j)∈ys.zip is:=by
          obtain ⟨a1,e1⟩:=List.getElem?_eq_some_iff.mp h1'
          obtain ⟨a2,e2⟩:=List.getElem?_eq_some_iff.mp hj
          rw [←e1,←e2,←List.getElem_zip (h:=by rw [List.length_zip];lia)]
          exact List.getElem_mem _
        obtain ⟨v1,v2⟩:=K.vis _ hz
        have kc:X.env.kindOf y=some .cell∨X.env.kindOf y=some .free:=by show X.env.scope.names.lookup y=_∨X.env.scope.names.lookup y=_;rw [hX];exact K.free _ (GL v2) rfl
        obtain ⟨m,hm,hl⟩:=I.loc
        obtain ⟨u,r,l⟩:=hl j y v (by rw [hN];exact v1) hσ (.inr kc)
        refine ⟨u,r,.inr ?_⟩
        rcases l with ⟨l1,_⟩ | ⟨_,c,l2,l3⟩
        · rcases kc with kc | kc <;> rw [kc] at l1 <;> cases l1
        · obtain ⟨c',hc'⟩:=Xj (cells:=X.env.cells) (acc:=[]) v2
          have e:c'=c:=by have:=K.cl hX I.ok y c' hc';rw [l2] at this;exact (Option.some.inj this).symm
          subst e
          refine ⟨kc.imp (X9 (scope:=scope) (by rw [hX];exact hk) v2) (Xk v2),c',hc',?_⟩
          obtain ⟨o,ho,hd⟩:=l3
          exact ⟨o,old _ _ ho,hd⟩
  · obtain ⟨v,o,ho,hd⟩:=I.cell y c (K.cl hX I.ok y c h)
    exact ⟨v,o,old _ _ ho,hd⟩
  · have e:p=(D,oD):=by simpa [cxC] using hp
    subst e
    refine ⟨hacc,I.hok.fresh hD,hDC,fun z=>?_,hod⟩
    obtain ⟨_,o,ho,_⟩:=ok.funs.mem z
    exact absurd (Nat.lt_of_lt_of_le (Heap.lt_size ho) hD) (Nat.lt_irrefl _)
  · show (yT is σ none none).length=(x::x2::ys).length
    unfold yT
    rw [List.length_cons,List.length_cons,List.length_map,List.length_cons,List.length_cons,K.len]
theorem jB{J:It}{it:Addr}{tn:Nat→Heap→Prop}{Q:VK}{RR:Value→Addr→Result→Shared→Prop}{E:Value→Shared→Prop}(K:ZW S scope N x ys is)(K2:Two scope x x2 ys)(hX:X.env.scope=S)(hN:X.N=N)(hk:S.kind=.function)(hc:X.calm=true)
  (hf:∀C s₂ H₂ ex,QF (cxC X (x::x2::ys) scope C s₂ H₂ ex) ifs tc) (he:∀C s₂ H₂ ex,QE (cxC X (x::x2::ys) scope C s₂ H₂ ex) elt te)
  (I:Inv X pins σ H₂ s₂) (T:Turn X.prog X.w X.K (.Tuple [.Name x px,.Name x2 px2] pq pp) J fp it tn) (st:tn 0 s₂.heap) (hfp:∀b∈fp,Gm X pins H₂ b)
  {W:Nat→Nat→List V→Hp→Prop} {m0:Nat} (w0:W 0 m0 [] H₂)
  (turn:∀i m zs H,W i m zs H→(J.stop i H∧zs.length≤sizeLine∧∀p,H p=none→Q (.ref p) (upd H p (.lst zs))) ∨
   (J.go i H∧zs.length≤sizeLine∧∀x H',J.yld i H x H'→∃a v1 v2,x=.ref a∧SqT X.K H' a [v1,v2]∧tc (yT is σ (some v1) (some v2)) H' fun b H2=>if b=true then te (yT is σ (some v1) (some v2)) H2 fun y H3=>∃m',m' < m∧W (i + 1) m' (zs++[y]) H3 else ∃m',m' < m∧W (i + 1) m' zs H2))
  (fin:∀D C s' H' m',Inv X pins σ H' s'→Gm X pins H' C→s'.heap.Ns C m'→Q (.ref D) H'→RR (.ref D) C (.ok .next) s') :
  wpAny (model X.prog X.w) X.A (newList []) (fun acc s₃=>wpAny (model X.prog X.w) X.A (newFunctionEnv scope X.env.globals (qc X.env.cells scope.names []) [] X.env.qual none .none (some X.env)) (fun cenv s₄ =>
   codeAny (model X.prog X.w) X.A (.compStart (.ListComp elt [⟨(.Tuple [.Name x px,.Name x2 px2] pq pp),iter,ifs,0⟩] scope pos) 0 (.ref it) acc { cenv with scope:=relabel scope X.env }) (RR acc cenv.locals) s₄) E s₃) E s₂:=by
 refine wpAny_newObj_type (wpAny_newFunctionEnv K.cell (by intro y hy;simp at hy) (fun h₁ hns₁ hsb₁=>?_) K.kind)
 dsimp only at hns₁ hsb₁ ⊢
 generalize hH2:s₂.heap.push { cls:=.type "list",dict:=none,data:=.seq ([]:List Value).toArray }=H2 at hns₁ hsb₁ ⊢
 have hCs:H2.objs.size=s₂.heap.objs.size + 1:=by rw [←hH2,Heap.size_push]
 have hDC:s₂.heap.objs.size≠H2.objs.size:=by rw [hCs];exact Nat.ne_of_lt (Nat.lt_succ_self _)
 have hC:s₂.heap.objs.size≤H2.objs.size:=by rw [hCs];exact Nat.le_succ _
 have hlt:∀b∈fp,b < s₂.heap.objs.size:=fun b hb=>by obtain ⟨o,e,_⟩:=T.obj 0 _ st b hb;exact Heap.lt_size e
 have old:∀b o,s₂.heap.get? b=some o→h₁.get? b=some o:=fun b o e=>hsb₁.extBut b o (by rw [hCs];exact Nat.ne_of_lt (Nat.lt_succ_of_lt (Heap.lt_size e))) (Heap.get?_push_of_some _ (hH2 ▸ Heap.get?_push_of_some _ e))
 have hacc:h₁.get? s₂.heap.objs.size=some { cls:=.type "list",data:=.seq ([]:List Value).toArray 0 }:=hsb₁.extBut _ _ hDC (Heap.get?_push_of_some _ (hH2 ▸ Heap.get?_push_size _ rfl))
 have st₁:tn 0 h₁:=T.keep _ _ _ st fun b _ o e=>old b o e
 have fpC:∀{H':Hp} {pl:List (Addr × Obj)},(∀p∈pl,∀b∈fp,p.1≠b)→(∀b∈fp,H' b=none)→∀b∈fp,Gm (cxC X (x::x2::ys) scope H2.objs.size s₂ H₂ fp) pl H' b:=fun {H' pl} hpl hn b hb=>by
  have ok:=jA K K2 hX I hC hfp hlt
  exact ⟨hn b hb,(ok.exf b hb).1,ok.exfs b hb,.inl hb,(ok.exf b hb).2,fun p hp=>hpl p hp b hb⟩
 have Dfp:∀(o:Obj),∀p∈[(s₂.heap.objs.size,o)],∀b∈fp,p.1≠b:=fun o p hp b hb e=>by
  have e1:p=(s₂.heap.objs.size,o):=by simpa using hp
  subst e1
  exact absurd (hlt b hb) (by rw [←e];exact Nat.lt_irrefl _)
 have loop:∀s₃:Shared,s₃={ s₂ with heap:=h₁,toks:=s₂.toks + ([]:List (Str × Value)).length } →
   codeAny (model X.prog X.w) X.A (.compLoop (.ListComp elt [⟨(.Tuple [.Name x px,.Name x2 px2] pq pp),iter,ifs,0⟩] scope pos) 0 (.ref it) (.ref s₂.heap.objs.size) (compEnvC scope (qc X.env.cells scope.names []) H2.objs.size X.env))
    (RR (.ref s₂.heap.objs.size) H2.objs.size) s₃:=by
  rintro s₃ rfl
  have I0:=uh K K2 hX hN hk I (tk:=s₂.toks + ([]:List (Str × Value)).length) hC (Nat.le_refl _) hDC hfp hlt old hns₁ hacc (fun v z=>by cases z)
  refine qe (fun n s'=>∃(i:Nat) (w1 w2:Option V) (zs:List V) (its:List Value) (k:Nat) (H':Hp),Inv (cxC X (x::x2::ys) scope H2.objs.size s₂ H₂ fp) [(s₂.heap.objs.size,{ cls:=.type "list",data:=.seq its.toArray k })] (yT is σ w1 w2) H' s' ∧
   Vals zs its∧tn i s'.heap∧(∀b∈fp,H' b=none)∧W i n zs H') ?_ m0 ⟨0,none,none,[],[],0,H₂,I0,.nil,st₁,fun b hb=>(hfp b hb).1,w0⟩
  rintro n s3 ⟨i,w1,w2,zs,its,k,H3,I3,rv,st3,fr3,w3⟩
  have hD3:=I3.pin _ (List.mem_append_right _ (List.mem_singleton.mpr rfl))
  rcases turn i n zs H3 w3 with ⟨stop,hz,q⟩ | ⟨go,hz,step⟩
  ·refine thn (T.done (cxC X (x::x2::ys) scope H2.objs.size s₂ H₂ fp) rfl rfl rfl hc i _ s3 _ H3 _ I3 (fpC (Dfp _) fr3) st3 stop) fun r s4 ⟨hr,I4⟩=>?_
   subst hr
   have hD4:=I4.pin _ (List.mem_append_right _ (List.mem_singleton.mpr rfl))
   have I5:=jy I I4 (Nat.le_refl _) hD4.2.1 hfp hz rv hD4.1
   obtain ⟨m',hm',_⟩:=I4.loc
   refine fin _ _ s4 _ m' I5 ?_ hm' (q _ hD4.2.1)
   refine I.fpOk hC ?_
   rw [Zj (Ne.symm hDC)]
   exact I4.free
  ·refine thn (T.item (cxC X (x::x2::ys) scope H2.objs.size s₂ H₂ fp) rfl rfl rfl hc i _ s3 _ H3 _ I3 (fpC (Dfp _) fr3) st3 go) fun r s4 ⟨u,hr,h4⟩=>?_
   subst hr
   refine thn h4 fun _ s5 ⟨xv,H5,I5,r5,y5,st5,fr5⟩=>?_
   have I5':=I5.pinned (fpC (Dfp _) fr5) (T.obj _ _ st5)
   have pg:PG (cxC X (x::x2::ys) scope H2.objs.size s₂ H₂ fp) (.Tuple [.Name x px,.Name x2 px2] pq pp) (gTup X.K 2 (yE (Jw 0) (yE (Jw 1) gNil))):=Zai hc (J7 (Jx K2.nd rfl (.inl (lookup_relabel_local K.own)) (.inr (lookup_relabel_local K.own))) (J7 (Jx K2.nd rfl (.inl (lookup_relabel_local K2.own)) (.inr (lookup_relabel_local K2.own))) vI))
   obtain ⟨av,v1,v2,exv,sq5,stp⟩:=step xv H5 y5
   subst exv
   refine thn (pg _ s5 _ H5 (.ref av) u (fun σ2 H2=>σ2=yT is σ (some v1) (some v2)∧H2=H5) I5' r5 ⟨av,[v1,v2],rfl,sq5,rfl,_,_,rfl,_,_,rfl,rfl,rfl,rfl⟩) fun _ s6 ⟨σ6,H6,I6,e6,e6'⟩=>?_
   subst e6
   subst e6'
   have back:∀{s7:Shared} {H7:Hp},Inv (cxC X (x::x2::ys) scope H2.objs.size s₂ H₂ fp) ([(s₂.heap.objs.size,{ cls:=.type "list",data:=.seq its.toArray k })]++GW fp s5.heap) (yT is σ (some v1) (some v2)) H7 s7 →
     tn (i + 1) s7.heap∧(∀b∈fp,H7 b=none)∧s7.heap.get? s₂.heap.objs.size=some { cls:=.type "list",data:=.seq its.toArray k }∧H7 s₂.heap.objs.size=none:=fun {s7 H7} I7=>by
    refine ⟨T.keep _ _ _ st5 fun b hb o e=>(I7.pin (b,o) (List.mem_append_right _ (List.mem_append_right _ (Y5 hb e)))).1,fun b hb=>?_,?_,?_⟩
    ·obtain ⟨o,e,d⟩:=T.obj _ _ st5 b hb
     exact (I7.pin (b,o) (List.mem_append_right _ (List.mem_append_right _ (Y5 hb e)))).2.1
    ·exact (I7.pin (s₂.heap.objs.size,{ cls:=.type "list",data:=.seq its.toArray k }) (List.mem_append_right _ (List.mem_append_left _ (List.mem_singleton.mpr rfl)))).1
    ·exact (I7.pin (s₂.heap.objs.size,{ cls:=.type "list",data:=.seq its.toArray k }) (List.mem_append_right _ (List.mem_append_left _ (List.mem_singleton.mpr rfl)))).2.1
   refine thn ((hf _ _ _ _).out _ s6 _ H6 _ I6 stp) fun b s7 ⟨H7,I7,q7⟩=>?_
   cases b with
   | false =>
    have q7':∃m',m' < n∧W (i + 1) m' zs H7:=by simpa using q7
    obtain ⟨m',hm',w7⟩:=q7'
    obtain ⟨b1,b2,b3,b4⟩:=back I7
    rw [if_neg Bool.false_ne_true]
    exact ⟨m',hm',i + 1,some v1,some v2,zs,its,k,H7,I7.unpinned,rv,b1,b2,w7⟩
   | true =>
    rw [if_pos rfl]
    have q7':=q7
    rw [if_pos rfl] at q7'
    refine thn ((he _ _ _ _).out _ s7 _ H7 _ I7 q7') fun yv s8 ⟨y,H8,I8,r8,m',hm',w8⟩=>?_
    obtain ⟨b1,b2,b3,b4⟩:=back I8
    refine append_at b3 (fun h9 sb9 e9=>?_) (by rw [List.size_toArray,←rv.length];exact hz)
    have ok:=jA K K2 hX I hC hfp hlt
    have I8':Inv (cxC X (x::x2::ys) scope H2.objs.size s₂ H₂ fp) [] (yT is σ (some v1) (some v2)) H8 s8:=I8.pins_of fun p hp=>by cases hp
    have I9:Inv (cxC X (x::x2::ys) scope H2.objs.size s₂ H₂ fp) [] (yT is σ (some v1) (some v2)) H8 { s8 with heap:=h9 }:=I8'.turned (t':=s8.toks) (it:=s₂.heap.objs.size) (fun b o hb e=>(sb9.2 b hb).trans e) b4 hDC (.inr (Nat.le_refl _))
     (fun y c h z=>by
      obtain ⟨v,o,ho,_⟩:=I.cell y c (K.cl hX I.ok y c h)
      have:=Heap.lt_size ho
      rw [z] at this
      exact Nat.lt_irrefl _ this) (fun p hp=>by cases hp)
    refine ⟨m',hm',i + 1,some v1,some v2,zs++[y],its++[yv],k + 1,H8,?_,rv.append (.cons r8 .nil),T.keep _ _ _ b1 fun b hb o e=>(sb9.2 b fun z=>absurd (hlt b hb) (by rw [z];exact Nat.lt_irrefl _)).trans e,b2,w8⟩
    refine I9.pins_of fun p hp=>?_
    have e1:p=(s₂.heap.objs.size,{ cls:=.type "list",data:=.seq (its++[yv]).toArray (k + 1) }):=by simpa using hp
    subst e1
    refine ⟨by rw [e9,List.push_toArray],b4,hDC,fun z=>?_,fun v z=>by cases z⟩
    obtain ⟨_,o,ho,_⟩:=ok.funs.mem z
    exact absurd (Heap.lt_size ho) (Nat.lt_irrefl _)
 exact codeAny_compStart_list (loop _ rfl) (T.self _ 0 _ _ _ st₁ (loop _ rfl))
theorem uk(K:ZW S scope N x ys is)(K2:Two scope x x2 ys)(hi:QI X (.Tuple [.Name x px,.Name x2 px2] pq pp) iter wi)(hf:∀C s₂ H₂ ex,QF (cxC X (x::x2::ys) scope C s₂ H₂ ex) ifs tc)(he:∀C s₂ H₂ ex,QE (cxC X (x::x2::ys) scope C s₂ H₂ ex) elt te)
  (hc:X.calm=true:=by rfl) (hX:X.env.scope=S:=by rfl) (hN:X.N=N:=by rfl) (hk:S.kind=.function:=by rfl) (hs:∀v,foldedSetIterable iter X.env v=pure v:=by intro _;rfl) :
  QE X (.ListComp elt [⟨(.Tuple [.Name x px,.Name x2 px2] pq pp),iter,ifs,0⟩] scope pos) (tComp2 X.K wi is tc te):=by
 refine ⟨fun pins s σ H Q I h=>?_⟩
 rw [eval_ListComp]
 refine wpAny_comprehension_free (use:=none) rfl hs (XT (K.cellOf' hX I.ok)) K.kind K.names (thn (hi.out pins s σ H _ I h) fun v s1 h1=>thn h1 fun itv s2 h2=>?_)
 obtain ⟨it,fp,tn,J,H2,rfl,I2,T,st2,f2,W,⟨m0,w0⟩,turn⟩:=h2
 refine jB (RR:=fun acc C=>compPost (model X.prog X.w) X.A X.xe none (EP X pins σ Q) acc C) K K2 hX hN hk hc hf he I2 T st2 f2 w0 turn ?_
 intro D C s' H' m' I' fC hm' q
 obtain ⟨f0,f1,f3,f4,f5,f6⟩:=fC
 exact ⟨m',hm',fun h' hs'=>⟨.ref D,H',I'.turned (t':=s'.toks) (fun b o hb e=>(hs'.2 b hb).trans e) f0 f1 f4 f5 f6,rfl,q⟩⟩
end
end L2
namespace L2
open PySem PySem.Spec PyProof.Rows PySem.W
section
variable {prog:Program}{w:World}{A:Around}{E:Value→Shared→Prop}{s:Shared}
end
section
variable {prog:Program}{w:World}{h:Heap}
end
section
variable {X:Cx}
end
end L2
namespace L2
open PySem PySem.Spec PyProof.Rows
section
variable {prog:Program}{w:World}{A:Around}{E:Value→Shared→Prop}{s:Shared}{c it:Addr}{oc:Obj}{es:Array DictEntry}{ep i:Nat}
end
section
variable {X:Cx}
end
section
variable {X:Cx}
end
section
variable {X:Cx}
end
open PySem.W (hideAll of_hideAll hideAll_get hideAll_none funFrames_hide)
noncomputable def CXO(P:Program)(w:World):CXT:=fun outer H s E v s'=>∃(e t C:Addr) (args:List Value) (H':Hp) (B:Heap),v=.ref e∧s'.os=s.os∧AllBare s'.gens∧Un (frs outer) [] H H' s.heap s'.heap∧HOk P w H' s'.heap ∧
 Heap.FlyingW B outer e (.ref C) (.ref t) s'.heap∧s'.heap.TupAt t args∧(∀b o,s'.heap.get? b=some o→((∃o',s.heap.get? b=some o')∨∃u,H' b=some u)→b∉frs outer→B.get? b=some o)∧H' e=none∧s.heap.get? e=none∧E (.ref C) (some e) H'
theorem Yg.there{P:Program}{w:World}{H:Hp}{h:Heap}{a:Addr}{o:HO}(x:Yg P w H h a o):∃q,h.get? a=some q:=by
 induction o with
 | lst xs=>obtain ⟨_,_,_,_,e⟩:=x;exact ⟨_,e⟩
 | tup xs=>obtain ⟨_,_,_,q,e,_⟩:=x;exact ⟨q,e⟩
 | dK kvs=>obtain ⟨_,_,_,_,q,_,_,e,_⟩:=x;exact ⟨q,e⟩
 | dT kvs=>obtain ⟨_,_,_,_,q,_,_,e,_⟩:=x;exact ⟨q,e⟩
 | set S n=>obtain ⟨q,_,_,_,e,_⟩:=x;exact ⟨q,e⟩
 | ins C dx fs=>obtain ⟨_,_,_,e,_⟩:=x;exact ⟨_,e⟩
 | own y=>exact x
 | xd fs=>obtain ⟨_,⟨q,_,_,e,_⟩,_⟩:=x;exact ⟨q,e⟩
 | rng lo hi=>obtain ⟨_,_,_,e⟩:=x;exact ⟨_,e⟩
 | frz q u _=>obtain ⟨e,_⟩:=x;exact ⟨_,e⟩
 | tbl ps=>exact ⟨_,x⟩
 | met f y=>exact ⟨_,x⟩
 | ext φ=>exact x.2.1
section
variable {P:Program}{w:World}{X:Cx}{pins:List (Addr × Obj)}{σ:St}{H:Hp}{s:Shared}
theorem wg{E:XK}{e t C:Addr}{args:List Value}{B h':Heap}{g':Array GenState}{d':Drawn}{t':Nat}(I:Inv X pins σ H s)(hx:X.ex=[])(hst:X.stack=X.env::X.outer)(hfr:X.env.frame=some X.env.locals)(hg:AllBare g')
  (cov:∀b o,s.heap.get? b=some o→((∃o',X.s₀.heap.get? b=some o')∨∃u,H b=some u)→b∉frs X.stack→B.get? b=some o)
  (up:s.heap.UpToSlots h') (fly:Heap.FlyingW B X.outer e (.ref C) (.ref t) h') (tup:h'.TupAt t args) (hHe:H e=none) (hse:X.s₀.heap.get? e=none) (hE:E (.ref C) (some e) H) :
  CXO X.prog X.w X.outer X.H₀ X.s₀ E (.ref e) { s with heap:=h',gens:=g',drawn:=d',toks:=t' }:=by
 have hB:B.StaysIn h':=fly.1
 have nin:∀{b:Addr} {o:Obj},X.s₀.heap.get? b=some o→b∉X.fs→b∉frs X.stack:=fun {b o} hb hf hm=>by
  rcases List.mem_cons.mp (I.stkSub b hm) with q | q
  ·have:=Heap.lt_size hb
   rw [q] at this
   exact absurd (Nat.lt_of_lt_of_le this I.ok.above) (Nat.lt_irrefl _)
  ·exact hf q
 have tin:∀{b:Addr} {u:HO},H b=some u→b∉frs X.stack:=fun {b u} hb hm=>by
  rw [I.stkFree b hm] at hb
  cases hb
 have old:∀b o,s.heap.get? b=some o→((∃o',X.s₀.heap.get? b=some o')∧b∉X.fs∨∃u,H b=some u)→h'.get? b=some o:=fun b o hb q=>by
  rcases q with ⟨⟨o',ho'⟩,hf⟩ | ⟨u,hu⟩
  ·exact hB b o (cov b o hb (.inl ⟨o',ho'⟩) (nin ho' hf))
  ·exact hB b o (cov b o hb (.inr ⟨u,hu⟩) (tin hu))
 have nex:∀b,b∉X.ex:=fun b hb=>by rw [hx] at hb;cases hb
 refine ⟨e,t,C,args,H,B,rfl,I.os,hg,?_,?_,fly,tup,?_,hHe,hse,hE⟩
 ·constructor
  ·intro b o hb hn hf _
   exact old b o (I.base.keep b o hb hn hf (nex b)) (.inl ⟨⟨o,hb⟩,hf⟩)
  ·intro b o hb hn hf _
   obtain ⟨sl,hs⟩:=I.base.slot b o hb hn hf (nex b)
   obtain ⟨_,o2,ho2,hd2⟩:=I.ok.funs.mem hf
   have eo:o2=o:=Option.some.inj (ho2.symm.trans hb)
   subst eo
   obtain ⟨sl2,hs2⟩:=up b _ hs (fun ws z=>hd2 ws z)
   exact ⟨sl2,hs2⟩
  ·intro b o hb hn _
   exact I.base.free b o hb hn (nex b)
  ·intro b o hb _
   by_cases hf:b∈X.fs
   ·obtain ⟨sl,hs⟩:=I.base.slot b o hb (I.ok.frf b hf) hf (nex b)
    obtain ⟨_,o2,ho2,hd2⟩:=I.ok.funs.mem hf
    have eo:o2=o:=Option.some.inj (ho2.symm.trans hb)
    subst eo
    obtain ⟨sl2,hs2⟩:=up b _ hs (fun ws z=>hd2 ws z)
    exact ⟨_,hs2⟩
   ·obtain ⟨o',ho'⟩:=I.base.there b o hb (nex b)
    exact ⟨o',old b o' ho' (.inl ⟨⟨o,hb⟩,hf⟩)⟩
  ·exact I.base.tups
  ·exact I.base.frzs
  ·exact I.base.tbls
 ·intro a o ha
  refine (I.hok a o ha).stay (fun b u hb q=>old b u q (.inr ?_)) (fun b q=>q) (fun b xs q=>q)
  rcases hb with rfl | hb
  ·exact ⟨o,ha⟩
  ·exact ⟨_,hb⟩
 ·intro b o hb q hf
  have fin:∀o1,s.heap.get? b=some o1→b∉frs X.stack→B.get? b=some o:=fun o1 h1 hn=>by
   have z:=cov b o1 h1 q hn
   have z2:=hB b o1 z
   rw [hb] at z2
   rw [Option.some.inj z2]
   exact z
  rcases q with ⟨o0,h0⟩ | ⟨u,hu⟩
  ·obtain ⟨o1,h1⟩:=I.base.there b o0 h0 (nex b)
   exact fin o1 h1 (nin h0 hf)
  ·obtain ⟨o1,h1⟩:=(I.hok b u hu).there
   exact fin o1 h1 (tin hu)
end
end L2
namespace L2
open PySem PySem.Spec PyProof.Rows
open PySem.W (hideAll of_hideAll hideAll_get hideAll_none funFrames_hide)
section
variable {X:Cx}{E:XK}
theorem Zco{env:Env}{l:List Env}:∀e∈env::l,∀a,e.frame=some a→a∈frs (env::l):=fun e he a ha=>List.mem_filterMap.mpr ⟨e,he,ha⟩
end
end L2
namespace L2
open PySem PySem.Spec PyProof.Rows
noncomputable abbrev Zcp:List Value:=[.type "ValueError",.type "Exception",.type "BaseException",.type "object"]
noncomputable abbrev uo (x:Str) (C:Addr) (mg:Str→Option Value) (base:Heap):Prop:=OwnCls x C Zcp "ValueError.__new__" mg base
section
variable {X:Cx}{E:XK}{x:Str}{C:Addr}{np cpos pos:Pos}{e₀:Expr}{rest:List Expr}{t:TA}
end
section
variable {M:Model}{A:Around}{E:Value→Shared→Prop}
variable {nm q nm' q':Str}{C N D N':Addr}{bs bm bs' bm':List Value}{hdct hdct':Bool}{sn sn':List Str}{sub sub':List Value}{ab ab':Bool}{col col':Option Bool}{dd dd':Option Addr}{k0 k1 k2 k3 k5 k0' k1' k2' k3' k5':Option Value}{newId newId':String}
theorem qT{h:Heap}{g:Array GenState}{d:Drawn}{t:Nat}{os:OsState}{e:Addr}{oe:Obj}{Q:Bool→Shared→Prop}
  (hC:h.get? C=some (excClassObj nm q C N bs bm hdct sn sub ab col dd k0 k1 k2 k3 k5 newId)) (hD:h.get? D=some (excClassObj nm' q' D N' bs' bm' hdct' sn' sub' ab' col' dd' k0' k1' k2' k3' k5' newId')) (he:h.get? e=some oe) (hcls:oe.cls=.ref C) (hbase:bm'.contains (.type "BaseException")=true) {b:Bool} (hb:(Value.ref C::bm).contains (.ref D)=b)
  (hq:Q b ⟨h,g,d,t,os⟩):wpAny M A (excMatches (.ref e) (.ref D)) Q E ⟨h,g,d,t,os⟩:=by
 have hcB:(Value.ref D::bm').contains (.type "BaseException")=true:=by rw [List.contains_cons,hbase,Bool.or_true]
 have f:=tc_notTuple
 unfold excMatches
 cases b <;> (repeat (first | (with_reducible refine wpAny_loadPart_at he ?_;rw [hcls]) | with_reducible refine wpAny_loadPart_at hD ?_ | (with_reducible refine wpAny_isSubtype_exc hD ?_;rw [hcB]) | (with_reducible refine wpAny_isSubtype_exc hC ?_;rw [hb]) | wp_step)) <;> exact hq
end
section
variable {X:Cx}{pins:List (Addr × Obj)}{σ:St}{H H':Hp}{s s':Shared}
theorem yl{B h':Heap}(I:Inv X pins σ H s)(os:s'.os=s.os)(bare:AllBare s'.gens)(un:Un (frs X.stack) [] H H' s.heap s'.heap)(hok:HOk X.prog X.w H' s'.heap)
  (cov:∀b o,s'.heap.get? b=some o→((∃o',s.heap.get? b=some o')∨∃u,H' b=some u)→b∉frs X.stack→B.get? b=some o) (hB:B.StaysIn h') (up:s'.heap.UpToSlots h'):Inv X pins σ H' { s' with heap:=h' }:=by
 have nf:∀b,b∈frs X.stack→H' b=none:=fun b hb=>by
  obtain ⟨_,o,ho,_⟩:=I.stack.mem hb
  exact un.free b o ho (I.stkFree b hb) (fun z=>nomatch z)
 have old:∀b o,s'.heap.get? b=some o→((∃o',s.heap.get? b=some o')∨∃u,H' b=some u)→b∉frs X.stack→h'.get? b=some o:=fun b o hb q n=>hB b o (cov b o hb q n)
 refine I.call' (s':={ s' with heap:=h' }) (ch:=[]) os ⟨fun b o hb hn hf _=>?_,fun b o hb hn hf _=>?_,un.free,fun b o hb _=>?_,un.tups,un.frzs,un.tbls⟩ (fun a o ha=>?_) bare (fun b z=>absurd z (by simp))
 ·exact old b o (un.keep b o hb hn hf (fun z=>nomatch z)) (.inl ⟨o,hb⟩) hf
 ·obtain ⟨sl,hs⟩:=un.slot b o hb hn hf (fun z=>nomatch z)
  obtain ⟨_,o2,ho2,hd2⟩:=I.stack.mem hf
  have eo:o2=o:=Option.some.inj (ho2.symm.trans hb)
  subst eo
  obtain ⟨sl2,hs2⟩:=up b _ hs (fun ws z=>hd2 ws z)
  exact ⟨sl2,hs2⟩
 ·by_cases hf:b∈frs X.stack
  ·obtain ⟨sl,hs⟩:=un.slot b o hb (I.stkFree b hf) hf (fun z=>nomatch z)
   obtain ⟨_,o2,ho2,hd2⟩:=I.stack.mem hf
   have eo:o2=o:=Option.some.inj (ho2.symm.trans hb)
   subst eo
   obtain ⟨sl2,hs2⟩:=up b _ hs (fun ws z=>hd2 ws z)
   exact ⟨_,hs2⟩
  ·obtain ⟨o',ho'⟩:=un.there b o hb (fun z=>nomatch z)
   exact ⟨o',old b o' ho' (.inl ⟨o,hb⟩) hf⟩
 ·refine (hok a o ha).stay (fun b u hb q=>?_) (fun _ q=>q) (fun _ _ q=>q)
  have hu:∃u,H' b=some u:=by
   rcases hb with rfl | hb
   ·exact ⟨o,ha⟩
   ·exact ⟨_,hb⟩
  refine old b u q (.inr hu) fun hf=>?_
  obtain ⟨u',hu'⟩:=hu
  rw [nf b hf] at hu'
  cases hu'
theorem Inv.known{a:Addr}{o:HO}(I:Inv X pins σ H s)(hn:H a=none)(h0:X.s₀.heap.get? a=none)(h1:a≠X.env.locals)(h2:∀x c,X.env.cells.lookup x=some c→c≠a)(h3:∀p∈X.pn++pins,p.1≠a)(ob:Yg X.prog X.w (upd H a o) s.heap a o):Inv X pins σ (upd H a o) s:=by
 have ne:∀{b u},H b=some u→b≠a:=fun e z=>by rw [z,hn] at e;cases e
 refine ⟨I.ok,I.os,I.bare,⟨I.base.keep,I.base.slot,fun b u hb q hx=>?_,I.base.there,fun b xs q=>?_,fun b u v q=>?_,fun b ps q=>?_⟩,I.loc,I.cell,?_,fun x c e=>?_,fun p hp=>?_,fun b u q=>?_,I.len⟩
 ·rw [Zj (fun z=>by rw [z,h0] at hb;cases hb)]
  exact I.base.free b u hb q hx
 ·have z:=I.base.tups b xs q
  rw [Zj (ne z)]
  exact z
 ·have z:=I.base.frzs b u v q
  rw [Zj (ne z)]
  exact z
 ·obtain ⟨more,z⟩:=I.base.tbls b ps q
  exact ⟨more,by rw [Zj (ne z)];exact z⟩
 ·rw [Zj (Ne.symm h1)]
  exact I.free
 ·rw [Zj (h2 x c e)]
  exact I.freeC x c e
 ·obtain ⟨e,n,r⟩:=I.pin p hp
  exact ⟨e,by rw [Zj (h3 p hp)];exact n,r⟩
 ·by_cases hb:b=a
  ·subst hb
   rw [Zb] at q
   cases q
   exact ob
  ·rw [Zj hb] at q
   exact (I.hok b u q).stay (fun _ _ _ q=>q) (fun c q=>by rw [Zj (ne q)];exact q) (fun c xs q=>by rw [Zj (ne q)];exact q)
theorem wj{M:Model}{A:Around}{E:Value→Shared→Prop}{i:Nat}{x:Str}{v:V}{Q:Unit→Shared→Prop}(I:Inv X pins σ H s)(hN:X.N.Nodup)(hi:X.N[i]?=some x)(hk:X.env.scope.names.lookup x=some .local)(hv:σ[i]?=some (some v))
  (h:∀s',Inv X pins (σ.set i none) H s'→Q () s'):wpAny M A (unbindName X.env x) Q E s:=by
 obtain ⟨m,hn,hl⟩:=id I.loc
 have hcls:(X.env.scope.kind == .class || (X.env.scope.kind == .module && X.env.locals != X.env.globals))=false:=by rw [I.ok.kind];rfl
 have hiσ:i < σ.length:=by rw [I.len];exact (List.getElem?_eq_some_iff.mp hi).1
 have cne:=I.cne
 obtain ⟨oL,_,_,hoL,_⟩:=id hn
 obtain ⟨u0,_,q0⟩:=hl i x v hi hv (.inl hk)
 have hm:m x=some u0:=by
  rcases q0 with ⟨_,e⟩ | ⟨k,_⟩
  ·exact e
  ·rcases k with k | k
   ·have k':X.env.scope.names.lookup x=some .cell:=k
    rw [hk] at k'
    cases k'
   ·have k':X.env.scope.names.lookup x=some .free:=k
    rw [hk] at k'
    cases k'
 refine wpAny_unbindName_local hk hn hm hcls fun h' u hn' hs=>?_
 refine h _ ⟨I.ok,I.os,I.bare,⟨fun b o e n hb hx=>?_,fun b o e n hb hx=>?_,I.base.free,fun b o e hx=>?_,I.base.tups,I.base.frzs,I.base.tbls⟩,⟨_,hn',fun j y v' e1 e2 e3=>?_⟩,fun y c e=>?_,I.free,I.freeC,fun p hp=>?_,fun b ob e=>?_,by simpa using I.len⟩
 ·exact (hs.2 b (Nat.ne_of_lt (Nat.lt_of_lt_of_le (Heap.lt_size e) I.ok.above))).trans (I.base.keep b o e n hb hx)
 ·obtain ⟨sl,e1⟩:=I.base.slot b o e n hb hx
  exact ⟨sl,(hs.2 b (Nat.ne_of_lt (Nat.lt_of_lt_of_le (Heap.lt_size e) I.ok.above))).trans e1⟩
 ·obtain ⟨o',e1⟩:=I.base.there b o e hx
  exact ⟨o',(hs.2 b (Nat.ne_of_lt (Nat.lt_of_lt_of_le (Heap.lt_size e) I.ok.above))).trans e1⟩
 ·by_cases hj:j=i
  ·subst hj
   rw [List.getElem?_set_self hiσ] at e2
   cases e2
  ·rw [List.getElem?_set_ne (Ne.symm hj)] at e2
   obtain ⟨u',r',q⟩:=hl j y v' e1 e2 e3
   refine ⟨u',r',?_⟩
   rcases q with ⟨k,e⟩ | ⟨k,c,e,z⟩
   ·refine .inl ⟨k,?_⟩
    have:y≠x:=fun e=>hj (x9 hN e1 (e ▸ hi))
    simp [this,e]
   ·exact .inr ⟨k,c,e,z.sameBut hs (cne y c e)⟩
 ·obtain ⟨w',z⟩:=I.cell y c e
  exact ⟨w',z.sameBut hs (cne y c e)⟩
 ·obtain ⟨e,n,ne,nf,d⟩:=I.pin p hp
  exact ⟨(hs.2 p.1 ne).trans e,n,ne,nf,d⟩
 ·refine (I.hok b ob e).stay (fun c w' hc q=>(hs.2 c ?_).trans q) (fun _ q=>q) fun _ _ q=>q
  rintro rfl
  rcases hc with rfl | hc
  ·rw [I.free] at e;cases e
  ·rw [I.free] at hc;cases hc
end
section
variable {X:Cx}{pins:List (Addr × Obj)}{σ:St}{H H':Hp}{s s':Shared}
noncomputable abbrev Cx.under(X:Cx)(e:Addr)(f:Value→Shared→Prop):Cx:={ X with A:=X.A.mark (some (.ref e)),calm:=false,xe:=f }
theorem Inv.under(I:Inv X pins σ H s)(e:Addr)(f:Value→Shared→Prop):Inv (X.under e f) pins σ H s :=
 ⟨⟨I.ok.mod,I.ok.kind,I.ok.glob,I.ok.blt,I.ok.above,I.ok.inj,I.ok.has,I.ok.cab,(fun z=>nomatch z),I.ok.frames,I.ok.stk,I.ok.exf,I.ok.bs,I.ok.bsz,I.ok.noex,I.ok.exfs,I.ok.funs,I.ok.frf⟩,I.os,I.bare,I.base,I.loc,I.cell,I.free,I.freeC,I.pin,I.hok,I.len⟩
theorem Inv.outof{e:Addr}{f:Value→Shared→Prop}(ok:X.Ok)(I:Inv (X.under e f) pins σ H s):Inv X pins σ H s :=
 ⟨ok,I.os,I.bare,I.base,I.loc,I.cell,I.free,I.freeC,I.pin,I.hok,I.len⟩
theorem wk{M:Model}{A:Around}{E:Value→Shared→Prop}{i:Nat}{x:Str}{pos:Pos}{Q:Unit→Shared→Prop}(I:Inv X pins σ H s)(hN:X.N.Nodup)(hi:X.N[i]?=some x)(hk:X.env.scope.names.lookup x=some .local)
  (h:∀s',Inv X pins ((σ.set i (some .non)).set i none) H s'→Q () s'):wpAny M A (do bindName X.env x .none;unbindBehindTheSuite X.env x pos) Q E s:=by
 have hiσ:i < σ.length:=by rw [I.len];exact (List.getElem?_eq_some_iff.mp hi).1
 refine wpAny_bind (wpAny_bindName (J6 (v:=.non) I hN hi (.inl hk) rfl (fun s1 I1=>?_) (.inr hk)))
 unfold unbindBehindTheSuite
 exact wpAny_onRaise (wj I1 hN hi hk (List.getElem?_set_self hiσ) h)
end
noncomputable def XW(base:Heap)(C D:Addr):Prop:=∃nm q N bs bm hdct sn sub ab col dd k0 k1 k2 k3 k5 newId,base.get? C=some (excClassObj nm q C N bs bm hdct sn sub ab col dd k0 k1 k2 k3 k5 newId)∧(Value.ref C::bm).contains (.ref D)=true
noncomputable def ExcOf(C e:Addr):Heap→Prop:=fun h=>∃o,h.get? e=some o∧o.cls=.ref C
section
variable {prog:Program}{w:World}{A:Around}{E:Value→Shared→Prop}{s:Shared}{env:Env}
theorem xJ{e C D:Addr}{x:Str}{bmB:List Value}{newId:String}{mg:Str→Option Value}{t:Expr}{n:Str}{b₀:Stmt}{suite:List Stmt}{pos:Pos}{rest:List ExceptHandler}{Q:Flow→Shared→Prop}{F0 F1:Value→Shared→Prop}
  (hbase:bmB.contains (.type "BaseException")=true) (hF0:F0=notedBy (model prog w) (A.mark (some (.ref e))) env (cameBackBy (model prog w) A env E)) (hF1:F1=AsSuiteRaised (model prog w) (A.mark (some (.ref e))) env n pos F0)
  (h:wpAny (model prog w) (A.mark (some (.ref e))) (eval t env) (fun c s₁=>c=.ref D∧OwnCls x D bmB newId mg s₁.heap∧XW s₁.heap C D∧(∃oe,s₁.heap.get? e=some oe∧oe.cls=.ref C) ∧
   wpAny (model prog w) (A.mark (some (.ref e))) (setFlight (.ref e) none) (fun _ s₂ =>
     wpAny (model prog w) (A.mark (some (.ref e))) (storeName env n (.ref e)) (fun _ s₃ =>
      wpAny (model prog w) (A.mark (some (.ref e))) (execs (b₀::suite) env)
       (fun f s₄=>wpAny (model prog w) A (do bindName env n .none;unbindBehindTheSuite env n pos) (fun _ s₅=>Q f s₅) E s₄)
       F1 s₃) F0 s₂) F0 s₁) F0 s) :
  wpAny (model prog w) A (handleBy (.ref e) env (.ExceptHandler (some t) (some n) (b₀::suite) pos::rest)) Q E s:=by
 subst hF0 hF1
 refine wpAny_handleBy_cons (codeAny_handlers_test (wpAny_mono h (fun c s₁ h₁=>?_) fun _ _ y=>y)) (by intro q;cases q)
 obtain ⟨rfl,O,⟨nm',q',N',bs',bm',hdct',sn',sub',ab',col',dd',k0',k1',k2',k3',k5',newId',hC',hin⟩,⟨oe,he,hcls⟩,hk⟩:=h₁
 obtain ⟨bm,N,nm,q,bs,hdct,sn,sub,ab,col,dd,k0,k1,k2,k3,k5,mN,hC,hN,hni,T⟩:=O.obj
 obtain ⟨hh,g,d,tk,os⟩:=s₁
 exact qT hC' hC he hcls (T.hasType hbase) hin (codeAny_handlers_suite_as hk)
end
theorem XW.keeps{h h':Heap}{C D:Addr}(b:XW h C D)(k:∀a o,h.get? a=some o→h'.get? a=some o):XW h' C D:=by
 obtain ⟨nm,q,N,bs,bm,hdct,sn,sub,ab,col,dd,k0,k1,k2,k3,k5,newId,hC,hin⟩:=b
 exact ⟨nm,q,N,bs,bm,hdct,sn,sub,ab,col,dd,k0,k1,k2,k3,k5,newId,k _ _ hC,hin⟩
section
variable {X:Cx}{pins:List (Addr × Obj)}{σ:St}{H:Hp}{s:Shared}
theorem Inv.ofWish{f:Value→Shared→Prop}(I:Inv (X.wish f) pins σ H s):Inv X pins σ H s:=⟨I.ok.unwish,I.os,I.bare,I.base,I.loc,I.cell,I.free,I.freeC,I.pin,I.hok,I.len⟩
noncomputable def uq(n:Nat)(D:Ends):Ends:={ nx:=fun σ' H'=>D.nx ((σ'.set n (some .non)).set n none) H',rt:=fun _ _=>False }
variable {k:Nat}{f:Addr}{fd:FuncData}{ps:List Str}{sp:Sp}{g x y n:Str}{p np p0 cpos spos hpos pos:Pos}{e₀:Expr}{es:List Expr}{t:TA}{b₀:Stmt}{suite:List Stmt}{i j:Nat}{Dc:Addr}{ts:TS}
end
end L2
namespace L2
open PySem PySem.Spec PyProof.Rows PySem.Calls
open PySem.W (Frag InstAt findObj plainGet plainGet_of kin_open kin_hooked class_get handed_on mroIn clsIn Looks subIn typeIn looks_typeIn looks_subIn isIn isi_call)
section
variable {prog:Program}{w:World}{A:Around}{E:Value→Shared→Prop}{s:Shared}{K:Frag}{e C D:Addr}{oe:Obj}{od:Option Obj}
theorem zN{M:Model}{h:Heap}(X:K.In h)(q:(clsIn K C).isSome=true):Looks M h (isType (.ref C)) true:=by
 unfold clsIn at q
 split at q
 ·rename_i ho
  intro A' Q' E' s' k z
  unfold isType loadHead
  exact wpAny_bind (wpAny_loadPart (k _ _ (X _ _ ho)) (wpAny_pure z))
 ·cases q
end
end L2
namespace L2
open PySem PySem.Spec PyProof.Rows PySem.Calls
open PySem.W Builtin Builtin.ObjectAttr Builtin.Getset_descriptor
section
variable {prog:Program}{w:World}{A:Around}{E:Value→Shared→Prop}{s:Shared}{K:Frag}{e C D:Addr}
noncomputable def jC (K:Frag) (C:Addr):Bool:=findIn K (.ref C) "__getattribute__" == some (some (.builtin "BaseException.__getattribute__")) && (findIn K (.ref C) "__getattr__" == some none && mroIn K C (.type "BaseException") == some true)
structure Cl3(K:Frag)(C:Addr):Prop where
 get:jC K C=true
 found:findIn K (.ref C) "__class__" = some (some (.builtin "object.__class__"))
 desc:specialIn K (.builtin "object.__class__") "__get__" = some (some (.builtin "getset_descriptor.__get__"))
 data:takesIn K (.builtin "object.__class__")=some true
 mro:mroIn K C (.type "object")=some true
 cls:(clsIn K C).isSome=true
theorem wm {M:Model} {h:Heap} (X:K.In h) {name:Str} {a g:Value} (ha:findIn K (.ref C) name=some (some a)) (hg:specialIn K a "__get__" = some (some g)) (hd:takesIn K a=some true):Looks M h (find (.ref e) (.ref C) name) (.bind g a):=by
 have L1:=looks_findIn (M:=M) X ha
 have L2:Looks M h (getOf (some a)) (some g):=looks_specialIn X hg
 have L3:=looks_takesIn (M:=M) X hd
 exact L1.andThen (L2.andThen ((show Looks M h (dataDescriptor? (some a) (some g)) (some (g,a)) from L3.andThen .now).andThen (Looks.tag .now)))
theorem Zba{name:Str}{tk:Tok}{fill expr:Bool}{Q:Value→Shared→Prop}(X:K.In s.heap)(T:Looks (model prog w) s.heap (typeOf (.ref e)) (.ref C))(G:jC K C=true)
  (h:wpAny (model prog w) A.in1 (Builtin.«object.__getattribute__» ⟨[.ref e,.str name tk],[]⟩)
   (fun fin s'=>match fin with | .done (.ret v)=>wpAny (model prog w) A (handedOut v) Q E s' | _=>False) (fun _ _=>False) s) :
  wpAny (model prog w) A (getAttrBy (.ref e) (.str name tk) fill expr) Q E s:=by
 unfold jC at G
 rw [Bool.and_eq_true,Bool.and_eq_true,beq_iff_eq,beq_iff_eq,beq_iff_eq] at G
 obtain ⟨g1,g2,g3⟩:=G
 have L1:=looks_findIn (M:=model prog w) X g1
 have L2:=looks_findIn (M:=model prog w) X g2
 have L3:Looks (model prog w) s.heap (isInstance (.ref e) (.type "BaseException")) true:=T.andThen (looks_mroIn X g3)
 have z2:(Value.builtin "BaseException.__getattribute__" == Value.builtin "object.__getattribute__")=false:=by decide +kernel
 have z1:¬(onTheHeap (Value.ref C) && Value.builtin "BaseException.__getattribute__" == Value.builtin "object.__getattribute__")=true:=by rw [z2];exact fun z=>nomatch z
 have z0:¬(expr && onTheHeap (Value.builtin "BaseException.__getattribute__"))=true:=by cases expr <;> exact fun z=>nomatch z
 obtain ⟨hh,g,dr,t,os⟩:=s
 unfold getAttrBy
 refine wpAny_holding (wpAny_bind (T.at (wpAny_bind (L1.at ?_))))
 show wpAny _ _ (if (onTheHeap (Value.ref C) && Value.builtin "BaseException.__getattribute__" == Value.builtin "object.__getattribute__")=true then _ else getAttrByItsOwn _ _ _ _ _ _) _ _ _
 rw [if_neg z1]
 unfold getAttrByItsOwn
 show wpAny _ _ (typeLookup (.ref C) "__getattr__" >>= _) _ _ _
 refine wpAny_bind (L2.at (wpAny_bind (wpAny_attempt (wpAny_holding ?_))))
 unfold callGetattribute
 rw [if_neg z0]
 unfold boundAndCalled
 rw [PySem.F.attr_ValueError.ga.bind]
 have hk:builtinKind "BaseException.__getattribute__" = some .slot:=by decide +kernel
 have hsp:splitId "BaseException.__getattribute__" = some ("BaseException","__getattribute__"):=by decide +kernel
 refine wpAny_bind (wpAny_pure (wpAny_call (codeAny_call_builtin PySem.F.attr_ValueError.ga.plain PySem.F.entry_bexc_ga ?_)))
 refine @check_slot (model prog w) _ _ ⟨hh,g,dr,t,os⟩ "BaseException.__getattribute__" "BaseException" "__getattribute__" (.ref e) [.str name tk] [] _ hk hsp L3 (PySem.F.args_bexc_ga _ _) ?_
 refine wpAny_mono h (fun fin s' z=>?_) fun _ _ z=>z.elim
 rcases fin with (_ | _ | _ | _) | _ <;> first | exact z | exact z.elim
theorem wq{name:Str}{tk:Tok}{R:Found}{Q:Fin→Shared→Prop}(T:Looks (model prog w) s.heap (typeOf (.ref e)) (.ref C))(L:Looks (model prog w) s.heap (find (.ref e) (.ref C) name) R)(hm:R≠.missing)
  (h:wpAny (model prog w) A (match R with | .value v=>ret v | .bind g a=>bindTo g a (.ref e) (.ref C) | .missing=>unsupported "") Q E s) :
  wpAny (model prog w) A (Builtin.«object.__getattribute__» ⟨[.ref e,.str name tk],[]⟩) Q E s:=by
 obtain ⟨hh,gg,d,t,os⟩:=s
 unfold Builtin.«object.__getattribute__»
 refine wpAny_bind (wpAny_pure (wpAny_bind (wpAny_pure (wpAny_bind (T.at (wpAny_bind (L.at ?_)))))))
 cases R with
 | value v=>exact h
 | bind g a=>exact h
 | missing=>exact absurd rfl hm
theorem Zcq {tp:Value} {R:Result→Shared→Prop} (X:K.In s.heap) (T:Looks (model prog w) s.heap (typeOf (.ref e)) (.ref C)) (hm:mroIn K C (.type "object")=some true)
  (h:R (.ok (.ret (.ref C))) s):codeAny (model prog w) A (.call (.builtin "getset_descriptor.__get__") ⟨[.builtin "object.__class__",.ref e,tp],[]⟩) R s:=by
 obtain ⟨h0,g,dr,t,os⟩:=s
 have L1:=looks_mroIn (M:=model prog w) X hm
 refine codeAny_call_builtin KF.slot_gs.plain KF.entry_gs (KF.slot_gs.check _ _ _ _ _ _ _ _ KF.type_class (KF.args_gs _ _ _) ?_)
 unfold Builtin.«getset_descriptor.__get__» descrGet
 rw [dga_obj]
 refine wpAny_bind (wpAny_pure ?_)
 unfold descrGetter descrCheckInstance descrNameAndClass isInstance
 simp only [KF.owner_class]
 repeat lk
 refine ⟨Code.quiet_builtin _ (by decide +kernel),codeAny_builtin KF.entry_class ?_⟩
 unfold Builtin.«object.__class__» shownTypeOf
 repeat lk
 exact h
theorem wt {Q:Option Value→Shared→Prop} (F:Cl3 K C) (X:K.In s.heap) (T:Looks (model prog w) s.heap (typeOf (.ref e)) (.ref C)) (h:Q (some (.ref C)) { s with toks:=s.toks + 1 }):wpAny (model prog w) A (getAttr? (.ref e) "__class__") Q E s:=by
 unfold getAttr? getAttrBy?
 refine wpAny_bind (wpAny_mkText (wpAny_bind (wpAny_attempt ?_)))
 refine Zba (s:={ s with toks:=s.toks + 1 }) X T F.get (wq (s:={ s with toks:=s.toks + 1 }) (R:=.bind (.builtin "getset_descriptor.__get__") (.builtin "object.__class__")) T (wm X F.found F.desc F.data) (fun z=>nomatch z) ?_)
 show wpAny _ _ (holding [Value.builtin "object.__class__"] (call (.builtin "getset_descriptor.__get__") [.builtin "object.__class__",.ref e,.ref C]) >>= ret) _ _ _
 refine wpAny_bind (wpAny_holding (wpAny_call (Zcq (s:={ s with toks:=s.toks + 1 }) X T F.mro ?_)))
 exact wpAny_pure (handed_on rfl (wpAny_pure h))
theorem wu{name:Str}{v:Value}{expr:Bool}{Q:Value→Shared→Prop}(G:jC K C=true)(X:K.In s.heap)(T:Looks (model prog w) s.heap (typeOf (.ref e)) (.ref C))(L:Looks (model prog w) s.heap (find (.ref e) (.ref C) name) (.value v))(hv:handedIn v=true)
  (h:Q v { s with toks:=s.toks + 1 }):wpAny (model prog w) A (getAttr (.ref e) name expr) Q E s:=by
 unfold getAttr
 refine wpAny_bind (wpAny_mkText ?_)
 exact Zba (s:={ s with toks:=s.toks + 1 }) X T G (wq (s:={ s with toks:=s.toks + 1 }) (R:=.value v) T L (fun z=>nomatch z) (wpAny_pure (handed_on hv h)))
end
end L2
namespace L2
open PySem PySem.Spec PyProof.Rows PySem.Calls
theorem GP{K:PySem.W.Frag}{C e:Addr}(F:Cl3 K C):PySem.W.KitX K (.ref e) (.ref C) (ExcOf C e) where
 ty:=fun M h _ ⟨o,h1,h2⟩=>h2 ▸ (PySem.W.Looks.ld h1).andThen .now
 it:=fun _ _ X _=>zN X F.cls
 ne:=fun h tp dd its n sl X htp=>by
  have z:=F.cls
  refine Bool.eq_false_iff.mpr fun q=>?_
  cases Value.ref.inj (beq_iff_eq.mp q)
  unfold PySem.W.clsIn at z
  split at z
  ·rename_i ho
   have z':=(X _ _ ho).symm.trans htp
   cases z'
  ·cases z
 ca:=fun {prog w A E Q s} X p k=>by
  obtain ⟨o,h1,h2⟩:=p
  exact wt F X (h2 ▸ (PySem.W.Looks.ld h1).andThen .now) k
theorem zP:∀{ds:List Addr} {us:List Value},Vals (ds.map V.ref) us→us=ds.map Value.ref
 | [],_,r=>by cases r;rfl
 | d::ds,_,r=>by
  cases r with
  | cons r1 r2=>rw [zP r2,show _=Value.ref d from r1];rfl
open PySem.W Builtin Builtin.ObjectAttr
noncomputable def xn:List Value→Bool
 | [.type a,.type b,.type c,.type d]=>a == "ValueError" && (b == "Exception" && (c == "BaseException" && d == "object"))
 | .ref _::r=>xn r
 | _=>false
theorem jD{l:List Value}{n:String}(e:xn (.type n::l)=true):Value.type n::l=Zcp:=by
 unfold xn at e
 split at e
 ·rename_i a b c d q
  rw [Bool.and_eq_true,Bool.and_eq_true,Bool.and_eq_true] at e
  rw [q,beq_iff_eq.mp e.1,beq_iff_eq.mp e.2.1,beq_iff_eq.mp e.2.2.1,beq_iff_eq.mp e.2.2.2]
 ·rename_i q
  cases q
 ·cases e
theorem zQ (self:Value):∀{l:List Value},xn l=true→refuseLoop self "__setattr__" l=pure ()∧l.contains (.type "object")=true∧l.isEmpty=false
 | .type n::l,e=>by rw [jD e];exact ⟨PySem.F.store_ValueError.passes self,by simp,rfl⟩
 | .ref c::r,e=>by
  obtain ⟨h1,h2,_⟩:=zQ self (l:=r) e
  exact ⟨by rw [refuseLoop_ref];exact h1,by rw [List.contains_cons,h2,Bool.or_true],rfl⟩
structure AtC(K:Frag)(C:Addr)(f:Str):Prop where
 over:((clsIn K C).any fun cd=>xn cd.mro && cd.hasDict)=true
 sa:findIn K (.ref C) "__setattr__" = some (some (.builtin "object.__setattr__"))
 get:jC K C=true
 no:findIn K (.ref C) f=some none
section
variable {prog:Program}{w:World}{A:Around}{E:Value→Shared→Prop}{s:Shared}{K:Frag}{x C:Addr}{name:Str}{v:Value}
theorem Zcr{ox:Obj}{od:Option Obj}{tk:Tok}{R:Result→Shared→Prop}(X:K.In s.heap)(I:InstAt s.heap x ox C od)(F:AtC K C name)
  (h:wpAny (model prog w) A.in1 (storeInOwnDict (.ref x) (.ref C) (.str name tk) name v false)
   (fun fin s'=>match fin with | .done f=>R (.ok f) s' | .again c'=>c'.quiet=true∧codeAny (model prog w) A c' R s') (fun e s'=>R (.error e) s') s) :
  codeAny (model prog w) A (.call (.builtin "object.__setattr__") ⟨[.ref x,.str name tk,v],[]⟩) R s:=by
 have SF:=PySem.F.store_object
 obtain ⟨cd,hc,hoo⟩:=any_some F.over
 rw [Bool.and_eq_true] at hoo
 obtain ⟨p1,p2,p3⟩:=zQ (.ref x) hoo.1
 have sub:Looks (model prog w) s.heap (isInstance (.ref x) (.type "object")) true:=I.type.andThen (looks_mroIn X (by unfold mroIn;rw [hc,Option.bind_some,if_neg (by rw [p3];decide),p2]))
 refine codeAny_call_builtin SF.slot.plain SF.entry (@check_slot (model prog w) _ _ s "object.__setattr__" "object" "__setattr__" (.ref x) [.str name tk,v] [] _ SF.kind SF.split sub (SF.args (.ref x) (.str name tk) v) ?_)
 have hm:Looks (model prog w) s.heap (mroOf (.ref C)) cd.mro:=(looks_clsIn X hc).andThen .now
 have L3:Looks (model prog w) s.heap (storeTaker? none) none:=.now
 rw [osa_eq,refuse_eq]
 refine wpAny_bind (wpAny_bind (I.type.here (wpAny_bind (hm.here ?_))))
 rw [p1]
 exact wpAny_pure (wpAny_bind (I.type.here (wpAny_bind ((looks_findIn X F.no).here (wpAny_bind (L3.here h))))))
theorem Zcs{arr:Array Value}{sl:Array (Option Value)}{Q:Unit→Shared→Prop}(X:K.In s.heap)(hx:s.heap.get? x=some ⟨.ref C,none,.fields arr,sl⟩)(F:AtC K C name)
  (h:∀h',h'.get? x=some ⟨.ref C,some s.heap.objs.size,.fields arr,sl⟩→h'.Ns1 s.heap.objs.size (fun y=>if y=name then some v else none) →
   (∀b o,b≠x→s.heap.get? b=some o→h'.get? b=some o)→Q () { s with heap:=h',toks:=s.toks + 2 }) :
  wpAny (model prog w) A (setAttr (.ref x) name v) Q E s:=by
 have I:InstAt s.heap x ⟨.ref C,none,.fields arr,sl⟩ C none:=⟨hx,rfl,rfl,True.intro⟩
 refine set_plain X I F.sa (Zcr (s:={ s with toks:=s.toks + 1 }) X I F ?_)
 obtain ⟨hh,g,dr,t,os⟩:=s
 obtain ⟨cd,hc,hoo⟩:=any_some F.over
 rw [Bool.and_eq_true] at hoo
 have hx1:(hh.push { cls:=.type "dict",data:=.dict #[] }).get? x=some ⟨.ref C,none,.fields arr,sl⟩:=Heap.get?_push_of_some _ hx
 have hxs:x≠hh.objs.size:=Nat.ne_of_lt (Heap.lt_size hx)
 refine wpAny_bind (wpAny_pure (wpAny_bind (wpAny_bind (wpAny_loadPart hx (wpAny_bind (Looks.here (s:=⟨hh,g,dr,t + 1,os⟩) (looks_clsIn X hc) ?_))))))
 rw [hoo.2]
 refine wpAny_bind (wpAny_alloc' (wpAny_bind (wpAny_update' hx1 (wpAny_pure ?_))))
 have hgd:((hh.push { cls:=.type "dict",data:=.dict #[] }).update x fun o=>{ cls:=o.cls,dict:=some hh.objs.size,data:=o.data,slots:=o.slots }).get? hh.objs.size=some { cls:=.type "dict",data:=.dict #[] } :=
  (Heap.get?_update_ne _ _ _ _ hxs.symm).trans (Heap.get?_push_at rfl rfl)
 have hnd:((hh.push { cls:=.type "dict",data:=.dict #[] }).update x fun o=>{ cls:=o.cls,dict:=some hh.objs.size,data:=o.data,slots:=o.slots }).Ns hh.objs.size (fun _=>none) :=
  ⟨_,#[],_,hgd,rfl,fun e he=>absurd he (by simp),fun _=>rfl⟩
 show wpAny _ _ (storeInDict hh.objs.size (.str name t) name v) _ _ _
 unfold storeInDict newKeyGuard
 refine wpAny_bind (wpAny_pure (wpAny_bind (wpAny_nsSet1 (Heap.Ns1.of_empty hnd) fun h' hn' hs=>?_)))
 obtain ⟨oD,esD,epD,hoD,hdD,hcD⟩:=hn'.count (Within.cons name v Within.nil)
 refine wpAny_bind (wpAny_lookBehind hoD (by rw [hdD];exact pastItsLine_dict (Nat.le_trans hcD (by rw [List.length_cons,List.length_nil,sizeLine_eq];lia))) ?_)
 refine wpAny_pure (h h' ?_ hn' fun b o hb q=>?_)
 ·exact (hs.2 x hxs).trans (Heap.get?_update_self _ hx1 rfl)
 ·exact (hs.2 b (Nat.ne_of_lt (Heap.lt_size q))).trans ((Heap.get?_update_ne _ _ _ _ hb).trans (Heap.get?_push_of_some _ q))
end
noncomputable def yU(C e d:Addr):Heap→Prop:=fun h=>∃arr sl,h.get? e=some ⟨.ref C,some d,.fields arr,sl⟩
theorem Zct{P:Program}{w:World}{H:Hp}{h:Heap}{C e d:Addr}(x:yU C e d h):Yg P w H h e (.ext (yU C e d)):=by
 obtain ⟨a,sl,q⟩:=x
 exact ⟨⟨a,sl,q⟩,⟨_,q⟩,fun h1 h2 ⟨a1,s1,q1⟩ k=>⟨a1,s1,k _ q1⟩⟩
section
variable {X:Cx}{pins:List (Addr × Obj)}{σ:St}{H:Hp}{s:Shared}{e C d:Addr}{f:Str}{v:V}{u:Value}{A:Around}{E:Value→Shared→Prop}
theorem Zcu{b:Bool}{fs:List (Str × V)}{Q:Value→Shared→Prop}(I:Inv X pins σ H s)(he:H e=some (.ext (yU C e d)))(hd:H d=some (.xd fs))(F:AtC X.K C f)(l:fs.lookup f=some v)
  (h:∀u s',Inv X pins σ H s'→RelV v u→Q u s'):wpAny (model X.prog X.w) A (getAttr (.ref e) f b) Q E s:=by
 obtain ⟨arr,sl,hx⟩:=(I.hok _ _ he).1
 obtain ⟨mA,hn,r⟩:=(show Yg X.prog X.w H s.heap d (.xd fs) from I.hok _ _ hd)
 obtain ⟨u,hu,ru⟩:=jo.some_of (v:=v) (o:=mA f) (by rw [←l];exact r f)
 obtain ⟨od,ho,hl⟩:=zp hn
 obtain ⟨cd,hc,hoo⟩:=any_some F.over
 rw [Bool.and_eq_true] at hoo
 have hh:hasDictIn X.K C=true:=by unfold hasDictIn;rw [hc];exact hoo.2
 have J:InstAt s.heap e ⟨.ref C,some d,.fields arr,sl⟩ C (some od):=⟨hx,rfl,rfl,ho⟩
 exact wu F.get I.kIn J.type (looks_find I.kIn J (findObj_own hh F.no rfl (by rw [hl,hu]))) (vU ru) (h u _ (I.tok _) ru)
end
noncomputable def tXget(K:Frag)(ta:TE)(f:Str):TE:=fun σ H Q=>ta σ H fun x H1=>∃e C d fs v,x=.ref e∧H1 e=some (.ext (yU C e d))∧H1 d=some (.xd fs)∧AtC K C f∧fs.lookup f=some v∧Q v H1
section
variable {X:Cx}{o value:Expr}{ta tv:TE}{f:Str}{pos pos':Pos}
theorem Zcv(ha:QE X o ta)(hb:attributeBase o f X.env (eval o X.env)=eval o X.env):QE X (.Attribute o f pos) (tXget X.K ta f):=by
 refine ⟨fun pins s σ H Q I h=>?_⟩
 refine Zb0 hb (thn (ha.out pins s σ H _ I h) fun u s1 ⟨x,H1,I1,rx,e,C,d,fs,v,ex,he,hd,F,l,q⟩=>?_)
 subst ex
 cases rx
 exact Zcu I1 he hd F l fun u' s2 I2 ru=>⟨v,H1,I2,ru,q⟩
end
end L2
namespace L2
open PySem PySem.Spec PyProof.Rows PySem.Calls
open PySem.W
noncomputable def yV(K:Frag)(C:Addr):Bool:=match K.lookup C with
 | some ⟨.type "type",_,.cls kd,sm⟩=>(match kd.mro,sm.toList with
  | .ref C'::tl,[_,_,_,_,some (.builtin n),_]=>C' == C && (n == "ValueError.__new__" && (!kd.hasDel && tailIn K Zcp tl))
  | _,_=>false)
 | _=>false
theorem xK {K:Frag} {h:Heap} {C:Addr} (X:K.In h) (q:yV K C=true):∃nm qn N bs tl hd sn sub ab col dd k0 k1 k2 k3 k5,h.get? C=some (excClassObj nm qn C N bs tl hd sn sub ab col dd k0 k1 k2 k3 k5 "ValueError.__new__")∧OwnTail h Zcp tl:=by
 unfold yV at q
 split at q
 ·rename_i dd kd sm ho
  split at q
  ·rename_i C' tl k0 k1 k2 k3 n k5 hm hs
   rw [Bool.and_eq_true,Bool.and_eq_true,Bool.and_eq_true,beq_iff_eq,beq_iff_eq,Bool.not_eq_true'] at q
   obtain ⟨rfl,rfl,hdel,ht⟩:=q
   obtain ⟨nm,bs,mro,ns,qn,hd,sn,sub,ab,col,del⟩:=kd
   cases hdel
   cases hm
   obtain ⟨l⟩:=sm
   cases hs
   exact ⟨nm,qn,ns,bs,tl,hd,sn,sub,ab,col,dd,k0,k1,k2,k3,k5,X _ _ ho,tail_of_in X ht⟩
  ·cases q
 ·cases q
section
variable {prog:Program}{w:World}{A:Around}{E:Value→Shared→Prop}{hh:Heap}{g:Array GenState}{dr:Drawn}{t:Nat}{os:OsState}{K:Frag}
variable {nm q:Str}{C N fI:Addr}{bs tl:List Value}{hdct:Bool}{sn:List Str}{sub:List Value}{ab:Bool}{col:Option Bool}{dd:Option Addr}{k0 k1 k2 k3 k5:Option Value}
theorem wx {rest:List Value} {Q:Fin→Shared→Prop} (X:K.In hh) (T:OwnTail hh Zcp tl) (hC:hh.get? C=some (excClassObj nm q C N bs tl hdct sn sub ab col dd k0 k1 k2 k3 k5 "ValueError.__new__"))
  (hi:findIn K (.ref C) "__init__" = some (some (.ref fI))) (hf:typeIn K (.ref fI)=some (.type "function")) (hr:rest.length≤sizeLine)
  (hq:∀h' e,Heap.MadeExcOf hh h' e (.ref C) rest→wpAny (model prog w) A (call (.ref fI) (.ref e::rest)) (fun r s'=>r=.none∧Q (.done (.ret (.ref e))) s') E ⟨h',g,dr,t,os⟩) :
  wpAny (model prog w) A (Builtin.«type.__call__» ⟨.ref C::rest,[]⟩) Q E ⟨hh,g,dr,t,os⟩:=by
 have Fn:=PySem.F.excBase_ValueError
 repeat (first | with_reducible refine wpAny_loadPart_at hC ?_ | with_reducible refine wpAny_madeBy_exc hC ?_ | wp_step)
 refine codeAny_call_builtin_code (Code.quiet_builtin _ Fn.quiet) (wpAny_check_new_subU Fn rfl T hC (codeAny_exc_new_subU Fn rfl Fn T hC ?_ hr))
 show wpAny _ _ _ _ _ _
 generalize hb:((hh.push { cls:=.type "tuple",data:=.seq rest.toArray }).push { cls:=.ref C,data:=.fields #[.ref hh.objs.size,.none,.none,.none,.bool false,.none] })=hN
 have keep:∀b o,hh.get? b=some o→hN.get? b=some o:=fun b o z=>by rw [←hb];exact Heap.get?_push_of_some _ (Heap.get?_push_of_some _ z)
 have there:hN.get? (hh.objs.size + 1)=some { cls:=.ref C,data:=.fields #[.ref hh.objs.size,.none,.none,.none,.bool false,.none] }:=by rw [←hb];heap_get
 have tup:hN.get? hh.objs.size=some { cls:=.type "tuple",data:=.seq rest.toArray }:=by rw [←hb];exact Heap.get?_push_of_some _ (Heap.get?_push_at rfl rfl)
 have hC1:=keep _ _ hC
 have X1:K.In hN:=X.keeps keep
 have isC:(Value.ref C::tl).contains (.ref C)=true:=by simp
 unfold isInstance
 repeat (first | with_reducible refine wpAny_loadPart_at there ?_ | (with_reducible refine wpAny_isSubtype_exc hC1 ?_;rw [isC]) | wp_step)
 refine (looks_findIn X1 hi).here (s:=⟨hN,g,dr,t,os⟩) ?_
 refine wpAny_holding (wpAny_bind ((bind_fn X1 _ hf).here (s:=⟨hN,g,dr,t,os⟩) ?_))
 refine wpAny_bind (wpAny_mono (hq hN (hh.objs.size + 1) ⟨keep,Heap.get?_none_of_le (Nat.le_succ _),hh.objs.size,there,Heap.get?_none_of_le (Nat.le_refl _),tup⟩) (fun r s' z=>?_) fun _ _ z=>z)
 obtain ⟨rfl,z⟩:=z
 wp_walk
 exact z
theorem wy {rest:List Value} {Q:Value→Shared→Prop} (X:K.In hh) (T:OwnTail hh Zcp tl) (hC:hh.get? C=some (excClassObj nm q C N bs tl hdct sn sub ab col dd k0 k1 k2 k3 k5 "ValueError.__new__"))
  (hi:findIn K (.ref C) "__init__" = some (some (.ref fI))) (hf:typeIn K (.ref fI)=some (.type "function")) (hr:rest.length≤sizeLine)
  (hq:∀h' e,Heap.MadeExcOf hh h' e (.ref C) rest→wpAny (model prog w) (A.under (.builtin "type.__call__" ⟨.ref C::rest,[]⟩)) (call (.ref fI) (.ref e::rest)) (fun r s'=>r=.none∧Q (.ref e) s') E ⟨h',g,dr,t,os⟩) :
  wpAny (model prog w) A (call (.ref C) rest) Q E ⟨hh,g,dr,t,os⟩:=by
 have z1:=tc_lookup
 have z2:=tc_bind (.ref C)
 have z3:(⟨hh,g,dr,t,os⟩:Shared).TypeIs (.ref C) "type" := ⟨_,hC,rfl⟩
 refine wpAny_call (codeAny_of_tree ?_)
 show wpAny _ _ (callAny (.ref C) _) _ _ _
 repeat (any_goals (first | assumption | with_reducible refine wpAny_loadPart_at hC ?_ | wp_step))
 exact ⟨rfl,codeAny_call_builtin_at (Code.quiet_builtin _ (by decide +kernel)) entry_typeCall (wpAny_check_type_call_sub hC (wx X T hC hi hf hr hq))⟩
end
end L2
namespace L2
open PySem PySem.Spec PyProof.Rows PySem.Calls
open PySem.W
theorem Inv.newly{X:Cx}{pins:List (Addr × Obj)}{σ:St}{H:Hp}{s:Shared}{h':Heap}{e:Addr}{o:HO}(hx:X.ex=[])(I:Inv X pins σ H s)(k:∀b u,s.heap.get? b=some u→h'.get? b=some u)(hn:s.heap.get? e=none)(ob:Yg X.prog X.w (upd H e o) h' e o) :
  H e=none∧Inv X pins σ (upd H e o) { s with heap:=h' }:=by
 have hHe:H e=none:=by
  cases q:H e with
  | none=>rfl
  | some u =>
   obtain ⟨o',ho'⟩:=(I.hok e u q).there
   rw [hn] at ho'
   cases ho'
 refine ⟨hHe,(I.kept (t':=s.toks) k).known hHe ?_ (fun z=>?_) (fun x c hc z=>?_) (fun p hp z=>?_) ob⟩
 ·cases q:X.s₀.heap.get? e with
  | none=>rfl
  | some o0 =>
   obtain ⟨o',ho'⟩:=I.base.there e o0 q (by rw [hx];exact fun z=>nomatch z)
   rw [hn] at ho'
   cases ho'
 ·obtain ⟨m,⟨oL,_,_,hoL,_⟩,_⟩:=I.loc
  rw [←z,hn] at hoL
  cases hoL
 ·obtain ⟨w',oc,hoc,_⟩:=I.cell x c hc
  rw [z,hn] at hoc
  cases hoc
 ·have:=(I.pin p hp).1
  rw [z,hn] at this
  cases this
structure MkX(K:Frag)(C f:Addr):Prop where
 cls:yV K C=true
 init:findIn K (.ref C) "__init__" = some (some (.ref f))
 fn:typeIn K (.ref f)=some (.type "function")
 kp:keepIn K (.ref C)=true
section
variable {X:Cx}{x:Str}{C f:Addr}{k:Nat}{fd:FuncData}{ps:List Str}{sp:Sp}{p pos:Pos}{e₀:Expr}{es:List Expr}{t:TA}
end
end L2
namespace L2
open PySem PySem.Spec PyProof.Rows PySem.Calls
open Builtin Builtin.Str
section
variable {X:Cx}{e b:Expr}{es:List Expr}{te tb:TE}{t:TA}
end
section
variable {X:Cx}{o:Expr}{to:TE}{y z:Str}{j1 j2 j3:Nat}{p1 p2 p3 apos cpos:Pos}
end
end L2
namespace L2
open PySem PySem.Spec PyProof.Rows PySem.Calls
open Builtin Builtin.Str
section
variable {X:Cx}{e:Expr}{ta:TE}{c:Str}{j:Nat}{p1 p2 pos:Pos}
end
section
variable {X:Cx}
end
end L2
namespace L2
open PySem PySem.Spec PyProof.Rows PySem.Calls
open PySem.W
noncomputable def xM(K:Frag)(C:Addr):Bool:=yV K C && (match K.lookup C with
 | some ⟨_,_,.cls kd,_⟩=>nsOkIn K kd.ns && nsIn K kd.ns "__init__" == some none
 | _=>false)
theorem J2{K:Frag}{h:Heap}{mg:Str→Option Value}{x:Str}{C:Addr}(X:K.In h)(m:mg x=some (.ref C))(q:xM K C=true):uo x C mg h:=by
 refine ⟨m,?_⟩
 unfold xM at q
 rw [Bool.and_eq_true] at q
 obtain ⟨q1,q2⟩:=q
 obtain ⟨nm,qn,N,bs,tl,hd,sn,sub,ab,col,dd,k0,k1,k2,k3,k5,hC,T⟩:=xK X q1
 split at q2
 ·rename_i c0 d0 kd s0 ho
  rw [Bool.and_eq_true,beq_iff_eq] at q2
  have e:=(X _ _ ho).symm.trans hC
  cases e
  exact ⟨tl,N,nm,qn,bs,hd,sn,sub,ab,col,dd,k0,k1,k2,k3,k5,_,hC,.of_isNs (isNs_of_in X q2.1),nsMap_none_of_in X q2.1 q2.2,T⟩
 ·cases q2
noncomputable def Wn(K:Frag)(C D:Addr):Bool:=yV K C && (match K.lookup C with
 | some ⟨_,_,.cls kd,_⟩=>kd.mro.contains (.ref D)
 | _=>false)
theorem Wq{K:Frag}{h:Heap}{C D:Addr}(X:K.In h)(q:Wn K C D=true):XW h C D:=by
 unfold Wn at q
 rw [Bool.and_eq_true] at q
 obtain ⟨q1,q2⟩:=q
 obtain ⟨nm,qn,N,bs,tl,hd,sn,sub,ab,col,dd,k0,k1,k2,k3,k5,hC,T⟩:=xK X q1
 split at q2
 ·rename_i c0 d0 kd s0 ho
  have e:=(X _ _ ho).symm.trans hC
  cases e
  exact ⟨nm,qn,N,bs,tl,hd,sn,sub,ab,col,dd,k0,k1,k2,k3,k5,_,hC,q2⟩
 ·cases q2
noncomputable def qU (K:Frag) (C:Addr):Bool:=jC K C && (findIn K (.ref C) "__class__" == some (some (.builtin "object.__class__")) && (specialIn K (.builtin "object.__class__") "__get__" == some (some (.builtin "getset_descriptor.__get__"))
 && (takesIn K (.builtin "object.__class__") == some true && (mroIn K C (.type "object") == some true && (clsIn K C).isSome))))
theorem Gw{K:Frag}{C:Addr}(q:qU K C=true):Cl3 K C:=by
 unfold qU at q
 rw [Bool.and_eq_true,Bool.and_eq_true,Bool.and_eq_true,Bool.and_eq_true,Bool.and_eq_true] at q
 exact ⟨q.1,beq_iff_eq.mp q.2.1,beq_iff_eq.mp q.2.2.1,beq_iff_eq.mp q.2.2.2.1,beq_iff_eq.mp q.2.2.2.2.1,q.2.2.2.2.2⟩
noncomputable def atIn (K:Frag) (C:Addr) (f:Str):Bool:=((clsIn K C).any fun cd=>xn cd.mro && cd.hasDict) && (findIn K (.ref C) "__setattr__" == some (some (.builtin "object.__setattr__")) && (jC K C && findIn K (.ref C) f == some none))
theorem at_of{K:Frag}{C:Addr}{f:Str}(q:atIn K C f=true):AtC K C f:=by
 unfold atIn at q
 rw [Bool.and_eq_true,Bool.and_eq_true,Bool.and_eq_true] at q
 exact ⟨q.1,beq_iff_eq.mp q.2.1,q.2.2.1,beq_iff_eq.mp q.2.2.2⟩
noncomputable def mkIn (K:Frag) (C f:Addr):Bool:=yV K C && (findIn K (.ref C) "__init__" == some (some (.ref f)) && (typeIn K (.ref f) == some (.type "function") && keepIn K (.ref C)))
theorem mk_of{K:Frag}{C f:Addr}(q:mkIn K C f=true):MkX K C f:=by
 unfold mkIn at q
 rw [Bool.and_eq_true,Bool.and_eq_true,Bool.and_eq_true] at q
 exact ⟨q.1,beq_iff_eq.mp q.2.1,beq_iff_eq.mp q.2.2.1,q.2.2.2⟩
noncomputable def Zcw:Stmt→List Stmt
 | .ClassDef _ _ _ b ..=>b
 | _=>[]
noncomputable def clsDef(s:Stmt)(i:Nat):Stmt:=(Zcw s).getD i (.Pass ⟨0,0,0,0⟩)
end L2
namespace L2
open PySem PySem.Spec PyProof.Rows PySem.Calls
theorem xN:bootBuiltins "ValueError" = some (.type "ValueError"):=by decide +kernel
open Builtin Builtin.Str
end L2
namespace L2
open PySem PySem.Spec PyProof.Rows PySem.Calls
noncomputable def Stb(φ:Obj→Prop):Prop:=∀o v,φ o→φ (Obj.mapFields (·.setIfInBounds 1 v) o)
noncomputable def TrX(h B:Heap)(e:Addr)(φ:Obj→Prop)(fl:Value):Prop :=
 ∃oe vs T oT ts,h.get? e=some oe∧φ oe∧oe.data=.fields vs∧vs[1]?=some (.ref T)∧B.get? T=none∧T≠e∧h.get? T=some oT∧oT.data=.fields ts∧ts[3]?=some fl
noncomputable def vx(B:Heap)(l:List Env)(e:Addr)(φ:Obj→Prop)(h:Heap):Prop:=B.StaysIn h∧B.get? e=none∧h.FunFrames B l∧TrX h B e φ .none
noncomputable def Zed(B:Heap)(l:List Env)(e:Addr)(φ:Obj→Prop)(L:Addr)(h:Heap):Prop:=B.StaysIn h∧B.get? e=none∧h.FunFrames B l∧TrX h B e φ (rawInt L)
theorem vx.there{B h:Heap}{l:List Env}{e:Addr}{φ:Obj→Prop}(x:vx B l e φ h):∃o,h.get? e=some o∧φ o:=by
 obtain ⟨_,_,_,o,_,_,_,_,h1,h2,_⟩:=x
 exact ⟨o,h1,h2⟩
theorem vx.old{B h:Heap}{l:List Env}{e:Addr}{φ:Obj→Prop}{cls a0:Value}(hφ:∀o,φ o→o.cls=cls∧∀vs,o.data=.fields vs→vs[0]?=some a0)(x:vx B l e φ h):Heap.FlyingW B l e cls a0 h:=by
 obtain ⟨x1,x2,x3,o,vs,T,oT,ts,h1,h2,h3,h4⟩:=x
 exact ⟨x1,x2,x3,o,vs,T,oT,ts,h1,⟨(hφ o h2).1,(hφ o h2).2 vs h3⟩,h3,h4⟩
section
variable {M:Model}{A:Around}{E:Value→Shared→Prop}{s:Shared}{B:Heap}{env:Env}{outer:List Env}{L e:Addr}{φ:Obj→Prop}{Q:Unit→Shared→Prop}
theorem Zbb{oe:Obj}{vs:Array Value}{head:Value}{hadNext:Bool}(st:Stb φ)(hfr:A.frames=some (env::outer))(hl:s.heap.FunFrames B (env::outer))(hf:env.frame=some L)(he:s.heap.get? e=some oe)(hφ:φ oe)(hkb:B.StaysIn s.heap)(hen:B.get? e=none)(hd:oe.data=.fields vs)(hsz:1 < vs.size)
  (h:∀h',B.StaysIn h'→h'.FunFrames B (env::outer)→TrX h' B e φ (rawInt L)→s.heap.UpToSlots h'→Q () { s with heap:=h' }) :
  wpAny M A (do let a ←frameOf env;let pl ←entryPlaceOf L hadNext;let b ←EntryCells.newEntry head a .none (rawInt L) .none pl;setField (.ref e) 1 b) Q E s:=by
 have out:e∉(env::outer).filterMap (·.frame):=fun z=>by
  obtain ⟨_,o,ho,nf⟩:=hl.mem z
  cases ho.symm.trans he
  exact nf vs hd
 refine wpAny_bind (wpAny_frameOf_fun hfr hl hf fun g1 sg=>wpAny_bind (wpAny_entryPlaceOf fun pl hpl=>?_))
 unfold EntryCells.newEntry newFields
 refine wpAny_bind (wpAny_newObj_type ?_ (hpl.sizeOk5 _ _ _ _ _))
 have e1:g1.get? e=some oe:=(sg.2.1 e out).trans he
 have k1:B.StaysIn g1:=fun b o z=>(sg.2.1 b fun y=>by rw [(hl.mem y).1] at z;cases z).trans (hkb b o z)
 generalize hT:({ cls:=.type "traceback",dict:=none,data:=.fields ([head,.ref L,.none,rawInt L,.none]++(if pl.isEmpty then List.replicate 6 Value.none else pl)).toArray }:Obj)=oT
 have e2:=Heap.get?_push_of_some (h:=g1) oT e1
 have ne:g1.objs.size≠e:=Nat.ne_of_gt (Heap.lt_size e1)
 have d3:=Obj.data_mapFields hd (·.setIfInBounds 1 (Value.ref g1.objs.size))
 have e3:=Heap.get?_update_self (Obj.mapFields (·.setIfInBounds 1 (Value.ref g1.objs.size))) e2 (Obj.isFreed_of_fields d3)
 have t3:((g1.push oT).update e (Obj.mapFields (·.setIfInBounds 1 (Value.ref g1.objs.size)))).get? g1.objs.size=some oT:=(Heap.get?_update_other _ _ (Ne.symm ne)).trans (Heap.get?_push_size g1 (by rw [←hT];rfl))
 have kk:∀b o,b≠e→g1.get? b=some o→((g1.push oT).update e (Obj.mapFields (·.setIfInBounds 1 (Value.ref g1.objs.size)))).get? b=some o:=fun b o n z=>by
  rw [Heap.get?_update_other _ _ (Ne.symm n)]
  exact Heap.get?_push_of_some _ z
 have nr:∀b o,s.heap.get? b=some o→(∀ws,o.data≠.fields ws)→b≠e:=fun b o z nf y=>by
  rw [y] at z
  cases z.symm.trans he
  exact nf vs hd
 refine wpAny_setField e2 hd hsz (h _ (fun b o z=>kk b o (fun y=>by rw [y,hen] at z;cases z) (k1 b o z)) (hl.of_keeps fun b o z nf=>?_) ?_ fun b o z nf=>?_)
 ·obtain ⟨sl,q⟩:=sg.2.2 b o z
  exact ⟨_,kk b _ (nr b o z nf) q,rfl⟩
 ·refine ⟨_,_,g1.objs.size,oT,_,e3,st _ _ hφ,d3,by simp [hsz],k1.fresh,ne,t3,by rw [←hT],?_⟩
  first | (simp;done) | (rcases hpl with rfl | ⟨_,_,_,_,_,_,_,rfl⟩ <;> simp)
 ·obtain ⟨sl,q⟩:=sg.2.2 b o z
  exact ⟨sl,kk b _ (nr b o z nf) q⟩
theorem jE{l:List Env}{fl:Value}(hkb:B.StaysIn s.heap)(hl:s.heap.FunFrames B l)(ht:TrX s.heap B e φ fl)
  (h:∀h',B.StaysIn h'→h'.FunFrames B l→TrX h' B e φ .none→s.heap.UpToSlots h'→Q () { s with heap:=h' }):wpAny M A (setFlight (.ref e) none) Q E s:=by
 obtain ⟨oe,vs,T,oT,ts,he,hφ,hd,h1,hnT,hTe,hT,hdT,h3⟩:=ht
 have z3:3 < ts.size:=(Array.getElem?_eq_some_iff.mp h3).1
 have ot:∀b,b≠T→(s.heap.update T (Obj.mapFields (·.setIfInBounds 3 ((none:Option Addr).elim Value.none fun f=>rawInt f)))).get? b=s.heap.get? b:=fun b n=>Heap.get?_update_other _ _ (Ne.symm n)
 have nr:∀b o,s.heap.get? b=some o→(∀ws,o.data≠.fields ws)→b≠T:=fun b o z nf y=>by
  rw [y] at z
  cases z.symm.trans hT
  exact nf ts hdT
 unfold setFlight
 refine wpAny_bind (wpAny_field he hd h1 ?_)
 rw [if_pos (by simp)]
 refine wpAny_setField hT hdT z3 (h _ (fun b o z=>(ot b fun y=>by rw [y,hnT] at z;cases z).trans (hkb b o z)) (hl.of_keeps fun b o z nf=>⟨o,(ot b (nr b o z nf)).trans z,rfl⟩) ?_ fun b o z nf=>⟨o.slots,(ot b (nr b o z nf)).trans z⟩)
 exact ⟨oe,vs,T,_,_,(ot e (Ne.symm hTe)).trans he,hφ,hd,h1,hnT,hTe,Heap.get?_update_self _ hT (Obj.isFreed_of_fields (Obj.data_mapFields hdT _)),Obj.data_mapFields hdT _,by simp [z3]⟩
theorem leaveX{oe:Obj}{vs:Array Value}(st:Stb φ)(hfr:A.frames=some (env::outer))(hl:s.heap.FunFrames B (env::outer))(hf:env.frame=some L)(he:s.heap.get? e=some oe)(hφ:φ oe)(hkb:B.StaysIn s.heap)(hen:B.get? e=none)(hd:oe.data=.fields vs)(h1:vs[1]?=some .none)
  (h:∀h',vx B outer e φ h'→s.heap.UpToSlots h'→Q () { s with heap:=h' }):wpAny M A (leaving env (.ref e)) Q E s:=by
 unfold leaving noteFrame
 simp only [hf]
 refine wpAny_bind (wpAny_bind (wpAny_field he hd h1 ?_))
 rw [if_neg (by decide)]
 refine Zbb st hfr hl hf he hφ hkb hen hd (Array.getElem?_eq_some_iff.mp h1).1 fun h1 a1 a2 a3 a4=>?_
 refine jE (s:={ s with heap:=h1 }) a1 a2 a3 fun h2 b1 b2 b3 b4=>h h2 ⟨b1,hen,?_,b3⟩ (a4.trans b4)
 obtain ⟨_,_,k⟩:=b2
 exact k
theorem Zee(st:Stb φ)(hfr:A.frames=some (env::outer))(hf:env.frame=some L)(hfl:vx B (env::outer) e φ s.heap)
  (h:∀h',Zed B (env::outer) e φ L h'→s.heap.UpToSlots h'→Q () { s with heap:=h' }):wpAny M A (noteFrame (.ref e) env) Q E s:=by
 obtain ⟨hkb,hen,hl,oe,vs,T,oT,ts,he,hφ,hd,h1,hnT,hTe,hT,hdT,h3⟩:=hfl
 unfold noteFrame
 simp only [hf]
 refine wpAny_bind (wpAny_field he hd h1 ?_)
 rw [if_pos (by simp)]
 refine wpAny_bind (wpAny_field hT hdT h3 ?_)
 rw [if_neg (by simp [rawInt])]
 refine wpAny_bind (wpAny_setField hT hdT (Array.getElem?_eq_some_iff.mp h3).1 ?_)
 have ot:∀b,b≠T→(s.heap.update T (Obj.mapFields (·.setIfInBounds 3 Value.none))).get? b=s.heap.get? b:=fun b n=>Heap.get?_update_other _ _ (Ne.symm n)
 have nr:∀b o,s.heap.get? b=some o→(∀ws,o.data≠.fields ws)→b≠T:=fun b o z nf y=>by
  rw [y] at z
  cases z.symm.trans hT
  exact nf ts hdT
 refine Zbb (s:={ s with heap:=s.heap.update T (Obj.mapFields (·.setIfInBounds 3 Value.none)) }) st hfr (hl.of_keeps fun b o z nf=>⟨o,(ot b (nr b o z nf)).trans z,rfl⟩) hf ((ot e (Ne.symm hTe)).trans he) hφ (fun b o z=>(ot b fun y=>by rw [y,hnT] at z;cases z).trans (hkb b o z)) hen hd (Array.getElem?_eq_some_iff.mp h1).1
  fun h' a1 a2 a3 a4=>h h' ⟨a1,hen,a2,a3⟩ fun b o z nf=>a4 b o ((ot b (nr b o z nf)).trans z) nf
theorem Zef{l:List Env}(hh:Zed B l e φ L s.heap)(h:∀h',vx B l e φ h'→s.heap.UpToSlots h'→Q () { s with heap:=h' }):wpAny M A (setFlight (.ref e) none) Q E s :=
 jE hh.1 hh.2.2.1 hh.2.2.2 fun h' k1 k2 k3 k4=>h h' ⟨k1,hh.2.1,k2,k3⟩ k4
theorem againX{l:List Env}(hh:vx B l e φ s.heap)(h:∀h',vx B l e φ h'→s.heap.UpToSlots h'→Q () { s with heap:=h' }):wpAny M A (setFlight (.ref e) none) Q E s :=
 jE hh.1 hh.2.2.1 hh.2.2.2 fun h' k1 k2 k3 k4=>h h' ⟨k1,hh.2.1,k2,k3⟩ k4
end
section
variable {prog:Program}{w:World}{A:Around}{E:Value→Shared→Prop}{s:Shared}{env:Env}{x:Sem Value}{Q:Flow→Shared→Prop}{C e1:Addr}{j:Nat}{p pos:Pos}
end
open PySem.W (hideAll of_hideAll hideAll_get hideAll_none funFrames_hide)
section
variable {X:Cx}{E:XK}
end
end L2
namespace L2
open PySem PySem.Spec PyProof.Rows PySem.Calls
section
variable {prog:Program}{w:World}{A:Around}{E:Value→Shared→Prop}{s:Shared}{env:Env}
end
section
variable {X:Cx}{E:XK}
end
section
variable {X:Cx}{E:XK}{k:Nat}{f:Addr}{fd:FuncData}{ps:List Str}{sp:Sp}{g y x2:Str}{p np np2 cpos cpos2 spos hpos pos p9 rpos:Pos}{j:Nat}{e₀ a₀:Expr}{es as:List Expr}{t t2:TA}{Dc C2:Addr}
end
section
variable {prog:Program}{w:World}{A:Around}{E:Value→Shared→Prop}{s:Shared}{a:Addr}{oa:Obj}{x:Value}{l:List Value}{na:Nat}{ts:List Str}
end
section
variable {X:Cx}{e:Expr}{ta:TE}{c:Str}{j:Nat}{p1 p2 pos:Pos}
end
open PySem.W
noncomputable def ur(C e:Addr)(arr:Array Value):Heap→Prop:=fun h=>h.get? e=some ⟨.ref C,none,.fields arr,#[]⟩
noncomputable def Zdm(C e d:Addr)(arr:Array Value):Heap→Prop:=fun h=>h.get? e=some ⟨.ref C,some d,.fields arr,#[]⟩
theorem Zcx{P:Program}{w:World}{H:Hp}{h:Heap}{C e:Addr}{arr:Array Value}(x:ur C e arr h):Yg P w H h e (.ext (ur C e arr)):=⟨x,⟨_,x⟩,fun h1 h2 q k=>k _ q⟩
theorem Zcy{P:Program}{w:World}{H:Hp}{h:Heap}{C e d:Addr}{arr:Array Value}(x:Zdm C e d arr h):Yg P w H h e (.ext (Zdm C e d arr)):=⟨x,⟨_,x⟩,fun h1 h2 q k=>k _ q⟩
section
variable {X:Cx}{pins:List (Addr × Obj)}{σ:St}{H:Hp}{s:Shared}{e C d:Addr}{f:Str}{v:V}{u:Value}{A:Around}{E:Value→Shared→Prop}{arr:Array Value}
theorem Zcz{Q:Unit→Shared→Prop}(I:Inv X pins σ H s)(he:H e=some (.ext (ur C e arr)))(F:AtC X.K C f)(rv:RelV v u)
  (h:∀s' d,H d=none→d≠e→Inv X pins σ (upd (upd H d (.xd [(f,v)])) e (.ext (Zdm C e d arr))) s'→Q () s'):wpAny (model X.prog X.w) A (setAttr (.ref e) f u) Q E s:=by
 have hx:s.heap.get? e=some ⟨.ref C,none,.fields arr,#[]⟩:=(I.hok _ _ he).1
 refine Zcs I.kIn hx F fun h' h1 h2 h3=>?_
 have hf:=I.hok.fresh (Nat.le_refl s.heap.objs.size)
 have ne:s.heap.objs.size≠e:=Nat.ne_of_gt (Heap.lt_size hx)
 obtain ⟨oD,es,ep,hoD,r⟩:=id h2
 have e1:(s.heap.push oD).get? s.heap.objs.size=some oD:=Heap.get?_push_at rfl (Heap.get?_some_iff.mp hoD).2
 refine h _ s.heap.objs.size hf ne ?_
 have I1:=I.laid (a:=s.heap.objs.size) (o:=.xd [(f,v)]) (h':=s.heap.push oD) (t':=s.toks) (fun b q z=>Heap.get?_push_of_some _ z) (Nat.le_refl _) ⟨_,⟨oD,es,ep,e1,r⟩,fun g=>by
  show jo (List.lookup g [(f,v)]) (if g=f then some u else none)
  rw [List.lookup_cons]
  by_cases z:g=f
  ·rw [z,if_pos rfl,beq_self_eq_true];exact rv
  ·rw [if_neg z,beq_false_of_ne z];exact True.intro⟩
 refine I1.write (x:=e) (e:=e) (by rw [Zj ne.symm,he];exact True.intro) (.inl rfl) (fun b q hb z=>?_) ⟨_,h1⟩ (Zcy h1)
 by_cases zb:b=s.heap.objs.size
 ·rw [zb] at z ⊢
  rw [e1] at z
  rw [←z]
  exact hoD
 ·exact h3 b q hb (by rw [←Heap.get?_push_ne _ _ _ zb];exact z)
end
noncomputable def sXsetG(K:Frag)(ta tv:TE)(f:Str):TS:=fun D σ H=>tv σ H fun y H1=>ta σ H1 fun x H2=>∃e C arr,x=.ref e∧H2 e=some (.ext (ur C e arr))∧AtC K C f ∧
 ∀d,H2 d=none→d≠e→D.nx σ (upd (upd H2 d (.xd [(f,y)])) e (.ext (Zdm C e d arr)))
theorem uv{X:Cx}{o value:Expr}{ta tv:TE}{f:Str}{pos pos':Pos}(ha:QE X o ta)(hv:QE X value tv)(hs:swapsWith value (some (.Attribute o f pos')) pos.line X.env=pure false):QS X (.Assign [.Attribute o f pos'] value pos) (sXsetG X.K ta tv f):=by
 refine ⟨fun pins s σ H D I h=>?_⟩
 refine plainObj_wpAny_Assign_Attribute (thn (hv.out pins s σ H _ I h) fun u s1 ⟨y,H1,I1,ry,q⟩=>thn (ha.out pins s1 σ H1 _ I1 q) fun ov s2 ⟨x,H2,I2,rx,e,C,arr,ex,he,F,q2⟩=>?_) hs
 subst ex
 cases rx
 exact Zcz I2 he F ry fun s3 d hd ne I3=>⟨σ,_,I3,q2 d hd ne⟩
theorem Inv.forget{X:Cx}{pins:List (Addr × Obj)}{σ:St}{H:Hp}{s:Shared}{e:Addr}{φ:Heap→Prop}(I:Inv X pins σ H s)(hx:H e=some (.ext φ)):Inv X pins σ (hide [e] H) s:=by
 have out:∀{b:Addr} {o:HO},H b=some o→(∀ψ,o≠.ext ψ)→hide [e] H b=some o:=fun {b o} hb hn=>by
  rw [ZF (fun z=>by cases List.mem_singleton.mp z;rw [hx] at hb;exact hn φ (Option.some.inj hb).symm)]
  exact hb
 have non:∀{b:Addr},H b=none→hide [e] H b=none:=fun {b} hb=>by
  unfold hide
  split
  ·rfl
  ·exact hb
 refine ⟨I.ok,I.os,I.bare,⟨I.base.keep,I.base.slot,fun b o q n x=>non (I.base.free b o q n x),I.base.there,fun b xs q=>out (I.base.tups b xs q) (fun _ z=>nomatch z),fun b o u q=>out (I.base.frzs b o u q) (fun _ z=>nomatch z),fun b ps q=>?_⟩,I.loc,I.cell,non I.free,fun x c h=>non (I.freeC x c h),fun p hp=>?_,fun a o ha=>?_,I.len⟩
 ·obtain ⟨more,z⟩:=I.base.tbls b ps q
  exact ⟨more,out z (fun _ z=>nomatch z)⟩
 ·obtain ⟨a1,a2,a3,a4,a5⟩:=I.pin p hp
  exact ⟨a1,non a2,a3,a4,a5⟩
 ·obtain ⟨n,h⟩:=of_hide ha
  exact (I.hok a o h).stay (fun b u _ q=>q) (fun b q=>out q (fun _ z=>nomatch z)) (fun b xs q=>out q (fun _ z=>nomatch z))
noncomputable def CXD(P:Program)(w:World):CXT:=fun outer H s E v s'=>∃e C d H',v=.ref e∧CXO P w outer H s (fun cls eo H2=>cls=.ref C∧eo=some e∧H2=H') v s'∧yU C e d s'.heap∧E (.ref C) (some e) (upd H' e (.ext (yU C e d)))
noncomputable def ExQ(C t d:Addr)(o:Obj):Prop:=∃vs sl,o=⟨.ref C,some d,.fields vs,sl⟩∧vs[0]?=some (.ref t)
theorem ExQ.stb{C t d:Addr}:Stb (ExQ C t d):=fun o v ⟨vs,sl,h1,h2⟩=>by
 subst h1
 exact ⟨_,sl,rfl,by rw [Array.getElem?_setIfInBounds_ne (by decide)];exact h2⟩
theorem ExQ.old{C t d:Addr}:∀o,ExQ C t d o→o.cls=.ref C∧∀vs,o.data=.fields vs→vs[0]?=some (.ref t):=fun o ⟨vs,sl,h1,h2⟩=>by
 subst h1
 exact ⟨rfl,fun ws z=>by cases z;exact h2⟩
theorem ExQ.is{C t d e:Addr}{h:Heap}(x:∃o,h.get? e=some o∧ExQ C t d o):yU C e d h:=by
 obtain ⟨o,h1,vs,sl,rfl,_⟩:=x
 exact ⟨vs,sl,h1⟩
theorem ym{B h:Heap}{l:List Env}{e C t d:Addr}(fl:Heap.FlyingW B l e (.ref C) (.ref t) h)(x:yU C e d h):vx B l e (ExQ C t d) h:=by
 obtain ⟨y1,y2,y3,oe,ws,T,oT,ts,z1,⟨z2,z3⟩,z4,z5⟩:=fl
 obtain ⟨arr,sl,c1⟩:=x
 have eo:oe=⟨.ref C,some d,.fields arr,sl⟩:=Option.some.inj (z1.symm.trans c1)
 subst eo
 cases z4
 exact ⟨y1,y2,y3,_,_,T,oT,ts,z1,⟨_,_,rfl,z3⟩,rfl,z5⟩
theorem uw{M:Model}{A:Around}{E:Value→Shared→Prop}{s:Shared}{B:Heap}{env:Env}{outer:List Env}{L e:Addr}{φ:Obj→Prop}{Q:Unit→Shared→Prop}(st:Stb φ)(hfr:A.frames=some (env::outer))(hf:env.frame=some L)(hfl:vx B (env::outer) e φ s.heap)
  (h:∀h',vx B outer e φ h'→s.heap.UpToSlots h'→Q () { s with heap:=h' }):wpAny M A (leaving env (.ref e)) Q E s:=by
 unfold leaving
 refine wpAny_bind (Zee st hfr hf hfl fun h1 held up1=>?_)
 refine Zef (s:={ s with heap:=h1 }) held fun h2 fly up2=>h h2 ?_ (up1.trans up2)
 obtain ⟨a1,a2,⟨_,_,a3⟩,a4⟩:=fly
 exact ⟨a1,a2,a3,a4⟩
structure FnD(X:Cx)(E:XK):Prop where
 xe:∀e s',wpAny (model X.prog X.w) X.A (leaving X.env e) (fun _ s''=>CXD X.prog X.w X.outer X.H₀ X.s₀ E e s'') (fun e' s''=>CXD X.prog X.w X.outer X.H₀ X.s₀ E e' s'') s'→X.xe e s'
 ex:X.ex=[]
 stk:X.stack=X.env::X.outer
 fr:X.env.frame=some X.env.locals
section
variable {X:Cx}{E:XK}
theorem FnD.passes(F:FnD X E):Passes (CXD X.prog X.w) X E:=by
 intro pins σ H s v s' I h
 obtain ⟨e,C,d,H',rfl,⟨e',t,C',args,H2,B,ev,os,bare,un,hok,fly,tup,cov,hHe,hse,ec,ee,eh⟩,hD,hE⟩:=h
 cases ev
 cases ec
 subst eh
 refine F.xe _ _ ?_
 have J:Inv X pins σ H2 s':=I.call' (ch:=[]) os un hok bare (fun b z=>absurd z (by simp))
 have hfr:X.A.frames=some (X.env::X.outer):=by rw [I.ok.frames,F.stk]
 rw [F.stk] at fly
 refine uw ExQ.stb hfr F.fr (ym fly hD) fun h' fly' up=>?_
 have se:X.s₀.heap.get? e=none:=by
  cases q:X.s₀.heap.get? e with
  | none=>rfl
  | some o =>
   obtain ⟨o',ho'⟩:=I.base.there e o q (by rw [F.ex];exact fun z=>nomatch z)
   rw [hse] at ho'
   cases ho'
 refine ⟨e,C,d,H2,rfl,?_,ExQ.is fly'.there,hE⟩
 refine wg (s:=s') (g':=s'.gens) (d':=s'.drawn) (t':=s'.toks) J F.ex F.stk F.fr J.bare (fun b o hb q hn=>cov b o hb ?_ hn) up (fly'.old ExQ.old) (tup.of_slots up) hHe se ⟨rfl,rfl,rfl⟩
 rcases q with ⟨o',ho'⟩ | q
 ·exact .inl (I.base.there b o' ho' (by rw [F.ex];exact fun z=>nomatch z))
 ·exact .inr q
theorem FnD.of{P:Program}{w:World}{K:PySem.W.Frag}{mg:Str→Option Value}{base:Heap}{N:List Str}{qual:Str}{scope:Scope}{f:Addr}{cd:Value}{A:Around}{outer:List Env}{s:Shared}{H:Hp}:FnD (vY (CXD P w) P w K mg base N qual scope f cd A outer s H E) E:=⟨fun _ _ h=>h,rfl,rfl,rfl⟩
end
theorem Fun.okD{P:Program}{w:World}{K:PySem.W.Frag}{mg:Str→Option Value}{base:Heap}{x qual:Str}{st:Stmt}{f:Addr}{fd:FuncData}{N ps:List Str}{k:Nat}{sp:Sp}(F:Fun K x qual st f fd)(S:Zw N ps (Zf st))(len:∀vs H Q E,sp vs H Q E→vs.length=ps.length)
  (hbody:∀(cdv:Value) (A:Around) (outer:List Env) (s:Shared) (H:Hp) (vs:List V) (Q:VK) (E:XK),Wi k (A.deeper (envOfC qual (Zf st) s.heap.objs.size f cdv))→sp vs H Q E →
   ∃t,PSs (vY (CXD P w) P w K mg base N qual (Zf st) f cdv A outer s H E) (Zu st) t∧t { nx:=fun _ H'=>Q .non H',rt:=Q } (start N vs) H):Z7 P w K mg base (CXD P w) (k + 1) f fd ps sp:=by
 obtain ⟨oc,od,kV,doc,pm,an,cdv,ct,osl,rfl,lk,hcd⟩:=F.ex
 exact Zb3 lk hcd S len fun A outer s H vs Q E hr hsp=>hbody cdv A outer s H vs Q E hr hsp
end L2
namespace L2
open PySem PySem.Spec PyProof.Rows PySem.Calls
open PySem.W (hideAll of_hideAll hideAll_get hideAll_none funFrames_hide)
section
variable {X:Cx}{E:XK}
theorem ux{φ:Obj→Prop}{C t:Addr}(st:Stb φ)(old:∀o,φ o→o.cls=.ref C∧∀vs,o.data=.fields vs→vs[0]?=some (.ref t))(hex:X.ex=[])(hstk:X.stack=X.env::X.outer)(hfr:X.env.frame=some X.env.locals)
  {pins:List (Addr × Obj)} {σ:St} {H:Hp} {s:Shared} {e:Addr} {o:Obj} {vs:Array Value} {args:List Value} (I:Inv X pins σ H s) (hHe:H e=none) (h0:X.s₀.heap.get? e=none) (he:s.heap.get? e=some o) (hφ:φ o) (hd:o.data=.fields vs) (h1:vs[1]?=some .none) (ht:s.heap.TupAt t args) (hE:E (.ref C) (some e) H) :
  wpAny (model X.prog X.w) X.A (leaving X.env (.ref e)) (fun _ s''=>CXO X.prog X.w X.outer X.H₀ X.s₀ E (.ref e) s''∧∃o',s''.heap.get? e=some o'∧φ o') (fun _ _=>False) s:=by
 have hf:X.A.frames=some (X.env::X.outer):=by rw [I.ok.frames,hstk]
 have hst:=I.stack
 rw [hstk] at hst
 have hk:(hideAll s.heap (e::frs X.stack)).StaysIn s.heap:=fun b o q=>of_hideAll _ q
 have fr:s.heap.FunFrames (hideAll s.heap (e::frs X.stack)) (X.env::X.outer):=funFrames_hide hst (by rw [hstk];exact fun e' h' a ha=>List.mem_cons_of_mem _ (Zco e' h' a ha))
 have fresh:(hideAll s.heap (e::frs X.stack)).get? e=none:=hideAll_none _ List.mem_cons_self
 refine leaveX st hf fr hfr he hφ hk fresh hd h1 fun h'' fly up=>⟨?_,fly.there⟩
 refine wg (s:=s) (g':=s.gens) (d':=s.drawn) (t':=s.toks) I hex hstk hfr I.bare (fun b o hb q hn=>hideAll_get _ hb fun z=>?_) up (fly.old old) (ht.of_slots up) hHe h0 hE
 rcases List.mem_cons.mp z with rfl | z
 ·rcases q with ⟨o',ho'⟩ | ⟨u,hu⟩
  ·rw [h0] at ho';cases ho'
  ·rw [hHe] at hu;cases hu
 ·exact hn z
end
section
variable {prog:Program}{w:World}{A:Around}{E:Value→Shared→Prop}{s:Shared}{env:Env}{x:Sem Value}{Q:Flow→Shared→Prop}{C:Addr}
theorem jF {nm q:Str} {N:Addr} {bs tl:List Value} {hdct:Bool} {sn:List Str} {sub:List Value} {ab:Bool} {col:Option Bool} {dd:Option Addr} {k0 k1 k2 k3 k5:Option Value} {newId:String} (hbase:tl.contains (.type "BaseException")=true) (hh:A.handled=none)
  (h:wpAny (model prog w) A x (fun v s₁=>∃e2 d t,v=.ref e2∧s₁.heap.get? C=some (excClassObj nm q C N bs tl hdct sn sub ab col dd k0 k1 k2 k3 k5 newId)∧s₁.heap.get? e2=some ⟨.ref C,some d,.fields #[.ref t,.none,.none,.none,.bool false,.none],#[]⟩∧E (.ref e2) s₁) E s) :
  wpAny (model prog w) A (raiseStmt env (some x) none) Q E s:=by
 have hcB:(Value.ref C::tl).contains (.type "BaseException")=true:=by rw [List.contains_cons,hbase,Bool.or_true]
 unfold raiseStmt
 refine wpAny_bind (wpAny_mono h (fun v s₁ h₁=>?_) fun _ _ z=>z)
 obtain ⟨e2,d,t,rfl,hC,he,hE⟩:=h₁
 obtain ⟨hp,g,dr,tk,os⟩:=s₁
 repeat (first | with_reducible refine wpAny_loadPart_at he ?_ | with_reducible refine wpAny_loadPart_at hC ?_ | (with_reducible refine wpAny_isSubtype_exc hC ?_;rw [hcB]) | wp_step)
 exact wpAny_raiseNew_none hh hE
end
noncomputable def Zc0(E:XK)(C:Addr)(sp:Sp)(t:TA):TS:=fun _ σ H=>t σ H fun vs H1=>vs.length≤sizeLine∧∀e arr,H1 e=none→sp (.ref e::vs) (upd H1 e (.ext (ur C e arr))) (fun v H2=>v=.non∧∃d,H2 e=some (.ext (Zdm C e d arr))∧E (.ref C) (some e) (upd (hide [e] H2) e (.ext (yU C e d)))) E0
section
variable {X:Cx}{E:XK}{x:Str}{C f:Addr}{k:Nat}{fd:FuncData}{ps:List Str}{sp:Sp}{np cpos pos:Pos}{e₀:Expr}{es:List Expr}{t:TA}
theorem wz(FX:FnD X E)(M:MkX X.K C f)(F:Z7 X.prog X.w X.K X.mg X.base CX0 k f fd ps sp)(hr:Wi (k + 1) X.A)(hg:Gl X x)(hm:X.mg x=some (.ref C))(hb:Binds X.K fd ps [])(hc:X.calm=true)(ha:QA X (e₀::es) t)
  (hdb:(x == ("__debug__" : Str))=false:=by decide) (he:starEach (e₀::es) X.env=(false,eval e₀ X.env)::starEach es X.env:=by rfl) (hpl:(backTo cpos (starEach es X.env)).any (·.1)=false:=by rfl) :
  QS X (.Raise (some (.Call (.Name x np) (e₀::es) [] cpos)) none pos) (Zc0 E C sp t):=by
 refine ⟨fun pins s σ H D I h=>?_⟩
 obtain ⟨nm,qn,N,bs,tl,hd,sn,sub,ab,col,dd,k0,k1,k2,k3,k5,hC,T⟩:=xK I.ok.mod.kin M.cls
 rw [arm_exec_Raise]
 refine wpAny_bind (wpAny_standAt ?_)
 show wpAny _ _ (raiseStmt X.env (some (do let v ←eval (.Call (.Name x np) (e₀::es) [] cpos) X.env;standAt pos;pure v)) none) _ _ _
 refine jF (C:=C) (nm:=nm) (q:=qn) (N:=N) (bs:=bs) (tl:=tl) (hdct:=hd) (sn:=sn) (sub:=sub) (ab:=ab) (col:=col) (dd:=dd) (k0:=k0) (k1:=k1) (k2:=k2) (k3:=k3) (k5:=k5) (newId := "ValueError.__new__") (T.hasType PySem.F.excBase_ValueError.hasBase) (I.ok.hd hc) ?_
 refine wpAny_bind (thn (Q:=fun v s₁=>∃e2 d t,v=.ref e2∧s₁.heap.get? C=some (excClassObj nm qn C N bs tl hd sn sub ab col dd k0 k1 k2 k3 k5 "ValueError.__new__")∧s₁.heap.get? e2=some ⟨.ref C,some d,.fields #[.ref t,.none,.none,.none,.bool false,.none],#[]⟩∧X.xe (.ref e2) s₁) ?_ fun v s₃ z=>wpAny_bind (wpAny_standAt (wpAny_pure z)))
 refine wpAny_Call_Name_kw (Jv I hg hm ?_ hdb)
 refine PySem.W.callWith_K (h₀:=X.base) I.ok.mod.kin M.kp (thn (ha.out cpos pins s σ H _ I h) fun us s1 ⟨vs,H1,I1,r,hl,q1⟩=>⟨I1.kIn,?_⟩) he hpl
 refine wy I1.kIn (T.keeps I1.bk) (I1.bk _ _ hC) M.init M.fn (by show us.length≤sizeLine;rw [←r.length];exact hl) fun h' e hmade=>?_
 obtain ⟨tt,ht,htn,htt⟩:=hmade.there
 obtain ⟨hHe,I2⟩:=I1.newly (e:=e) (o:=.ext (ur C e #[.ref tt,.none,.none,.none,.bool false,.none])) FX.ex hmade.keeps hmade.new (Zcx ht)
 have hq:=q1 e #[.ref tt,.none,.none,.none,.bool false,.none] hHe
 have r2:Vals (V.ref e::vs) (Value.ref e::us):=.cons rfl r
 have hl2:(Value.ref e::us).length=ps.length:=by rw [←r2.length];exact F.len _ _ _ _ hq
 have hb':=hb { s1 with heap:=h' } (Value.ref e::us) I2.kIn (by rw [List.append_nil];exact hl2)
 rw [List.append_nil] at hb'
 have htH:(upd H1 e (.ext (ur C e #[.ref tt,.none,.none,.none,.bool false,.none]))) tt=none:=by
  have ne:tt≠e:=fun z=>by
   rw [z,ht] at htt
   cases htt
  rw [Zj ne]
  cases z:H1 tt with
  | none=>rfl
  | some u =>
   obtain ⟨o,ho⟩:=(I1.hok tt u z).there
   rw [htn] at ho
   cases ho
 refine wpAny_call (codeAny_mono (F.run _ X.stack _ _ ⟨Value.ref e::us,[]⟩ (Value.ref e::us) _ _ E0 (hr.make C us []) (I2.env0.make C us []) hb' r2 hq) fun r s' hq'=>?_)
 cases r with
 | error e=>exact hq'.elim
 | ok fl =>
  cases fl with
  | ret u =>
   have un:=(show CE X.stack X.prog X.w _ _ _ u s' from hq')
   obtain ⟨v0,H0,os0,bare0,un0,_⟩:=id un
   obtain ⟨v,H',I3,rv,ev,d,hH,hE⟩:=I2.after hq'
   subst ev
   have hx:s'.heap.get? e=some ⟨.ref C,some d,.fields #[.ref tt,.none,.none,.none,.bool false,.none],#[]⟩:=(I3.hok _ _ hH).1
   refine ⟨rv,e,d,tt,rfl,I3.bk _ _ hC,hx,FX.xe _ _ ?_⟩
   have h0:X.s₀.heap.get? e=none:=by
    cases q:X.s₀.heap.get? e with
    | none=>rfl
    | some o =>
     obtain ⟨o',ho'⟩:=I1.base.there e o q (by rw [FX.ex];exact fun z=>nomatch z)
     rw [hmade.new] at ho'
     cases ho'
   have hts:s'.heap.TupAt tt us:=by
    obtain ⟨sl,z⟩:=un0.any htt htH (fun z=>nomatch z)
    exact ⟨_,_,z,rfl,rfl⟩
   refine wpAny_mono (ux (t:=tt) (φ:=ExQ C tt d) (E:=fun cls eo H2=>cls=.ref C∧eo=some e∧H2=hide [e] H') ExQ.stb ExQ.old FX.ex FX.stk FX.fr (I3.forget hH) (XO (List.mem_singleton.mpr rfl)) h0 hx ⟨_,_,rfl,rfl⟩ rfl rfl hts ⟨rfl,rfl,rfl⟩) (fun _ s'' z=>⟨e,C,d,_,rfl,z.1,ExQ.is z.2,hE⟩) fun _ _ z=>z.elim
  | next=>exact False.elim hq'
  | brk=>exact False.elim hq'
  | cont=>exact False.elim hq'
end
end L2
namespace L2
open PySem PySem.Spec PyProof.Rows PySem.Calls
noncomputable def tryED(base:Heap)(Dc:Addr)(n:Nat)(ts:TS)(D:Ends)(σ:St):XK:=fun cls eo H'=>∃C e,cls=.ref C∧eo=some e∧XW base C Dc∧ts (uq n D) (σ.set n (some (.ref e))) H'
noncomputable def sTryD(base:Heap)(Dc:Addr)(n:Nat)(sp:Sp)(t:TA)(ts:TS):TS:=fun D σ H=>t σ H fun vs H1=>sp vs H1 (fun _ H2=>D.nx σ H2) (tryED base Dc n ts D σ)
section
variable {X:Cx}{k:Nat}{f:Addr}{fd:FuncData}{ps:List Str}{sp:Sp}{g y n:Str}{p np cpos spos hpos pos:Pos}{e₀:Expr}{es:List Expr}{t:TA}{b₀:Stmt}{suite:List Stmt}{j:Nat}{Dc:Addr}{ts:TS}
theorem Zc1(hx:X.ex=[])(hstk:X.stack=X.env::X.outer)(hfr:X.env.frame=some X.env.locals)(F:Z7 X.prog X.w X.K X.mg X.base (CXD X.prog X.w) k f fd ps sp)(hr:Wi k X.A)(hg:Gl X g)(hm:X.mg g=some (.ref f))(hk:PySem.W.keepIn X.K (.ref f)=true)(hb:Binds X.K fd ps [])
  (ha:∀f',QA (X.wish f') (e₀::es) t) (hN:X.N.Nodup) (hj:X.N[j]?=some n) (hjn:X.env.scope.names.lookup n=some .local) (hgd:Gl X y) (O:uo y Dc X.mg X.base) (hs:∀e f',QSs (X.under e f') (b₀::suite) ts)
  (hdb:(g == ("__debug__" : Str))=false:=by decide) (he:starEach (e₀::es) X.env=(false,eval e₀ X.env)::starEach es X.env:=by rfl) (hpl:(backTo cpos (starEach es X.env)).any (·.1)=false:=by rfl) (hdd:(y == ("__debug__" : Str))=false:=by decide) :
  QS X (.Try [.Expr (.Call (.Name g p) (e₀::es) [] cpos) spos] [.ExceptHandler (some (.Name y np)) (some n) (b₀::suite) hpos] [] [] pos) (sTryD X.base Dc j sp t ts):=by
 refine ⟨fun pins s σ H D I h=>wpAny_Try_except (wpAny_execs_cons (wpAny_Expr_any ?_ I.quiet rfl))⟩
 generalize hf':(fun (e:Value) (s₁:Shared)=>wpAny (model X.prog X.w) X.A (noteFrame e X.env) (fun _ s₂=>wpAny (model X.prog X.w) X.A (setFlight e none) (fun _ s₃=>wpAny (model X.prog X.w) X.A (handleBy e X.env [.ExceptHandler (some (.Name y np)) (some n) (b₀::suite) hpos]) (SP X pins D) X.xe s₃) X.xe s₂) X.xe s₁)=f'
 refine thn (Q:=EP X pins σ fun v H2=>D.nx σ H2) ?_ fun v s1 ⟨z,H1,I1,r1,q1⟩=>wpAny_execs_nil (wpAny_execs_nil ⟨_,H1,I1,q1⟩)
 refine wpAny_Call_Name_kw (Jv I hg hm ?_ hdb)
 refine PySem.W.callWith_K (h₀:=X.base) I.ok.mod.kin hk (thn ((ha f').out cpos pins s σ H _ (I.wish f') h) fun us s1 ⟨vs,H1,J1,r,q⟩=>⟨J1.ofWish.kIn,?_⟩) he hpl
 have I1:Inv X pins σ H1 s1:=J1.ofWish
 have hl:us.length=ps.length:=by rw [←r.length];exact F.len _ _ _ _ q
 have hb':=hb s1 us I1.kIn (by rw [List.append_nil];exact hl)
 rw [List.append_nil] at hb'
 refine wpAny_call (codeAny_mono (F.run X.A X.stack s1 H1 ⟨us,[]⟩ us vs _ _ hr I1.env0 hb' r q) fun r s' hq=>?_)
 cases r with
 | ok fl =>
  cases fl with
  | ret u=>exact I1.after hq
  | next=>exact False.elim hq
  | brk=>exact False.elim hq
  | cont=>exact False.elim hq
 | error v =>
  subst hf'
  obtain ⟨e,C,d,H9,rfl,⟨e',t0,C',args,H',B,ev,os,bare,un,hok,fly,tup,cov,hHe,hse,ec,ee,eh⟩,hD,C2,e2,ec2,ee2,below,hts⟩:=hq
  cases ev
  cases ec
  subst eh
  cases ec2
  cases ee2
  have hfm:X.A.frames=some (X.env::X.outer):=by rw [I.ok.frames,hstk]
  have fly0:=fly
  rw [hstk] at fly0
  refine Zee ExQ.stb hfm hfr (ym fly0 hD) fun h4 held4 up4=>?_
  refine Zef (s:={ s' with heap:=h4 }) held4 fun h5 fly5 up5=>?_
  have I5:=yl I1 os bare un hok cov fly5.1 (up4.trans up5)
  have th5:∃oe,h5.get? e=some oe∧oe.cls=.ref C:=let ⟨o,a1,a2⟩:=fly5.there;⟨o,a1,(ExQ.old o a2).1⟩
  refine xJ (C:=C) (D:=Dc) (x:=y) (bmB:=Zcp) (newId := "ValueError.__new__") (mg:=X.mg) rfl rfl rfl (Jv (X:=X.under e X.xe) (I5.under e X.xe) hgd O.bound ⟨rfl,O.keeps I5.bk,below.keeps I5.bk,th5,?_⟩ hdd)
  refine againX (s:={ s' with heap:=h5 }) fly5 fun h6 fly6 up6=>?_
  have I6:=yl I1 os bare un hok cov fly6.1 ((up4.trans up5).trans up6)
  have h0:X.s₀.heap.get? e=none:=by
   cases q:X.s₀.heap.get? e with
   | none=>rfl
   | some o =>
    obtain ⟨o',ho'⟩:=I1.base.there e o q (by rw [hx];exact fun z=>nomatch z)
    rw [hse] at ho'
    cases ho'
  have I7:=I6.known (o:=.ext (yU C e d)) hHe h0 (fun z=>by
    obtain ⟨m,⟨oL,_,_,hoL,_⟩,_⟩:=I1.loc
    rw [←z,hse] at hoL
    cases hoL) (fun x c hc z=>by
    obtain ⟨w',oc,hoc,_⟩:=I1.cell x c hc
    rw [z,hse] at hoc
    cases hoc) (fun p hp z=>by
    have:=(I1.pin p hp).1
    rw [z,hse] at this
    cases this) (Zct (ExQ.is fly6.there))
  refine J6 (v:=.ref e) I7 hN hj (.inl hjn) rfl (fun s8 I8=>?_) (.inr hjn)
  refine wpAny_mono ((hs e _).out pins s8 _ _ _ (I8.under e _) hts) (fun fl s9 q9=>?_) (fun _ _ z=>z)
  cases fl with
  | next =>
   obtain ⟨σ9,H9,J9,q9⟩:=q9
   exact wk (J9.outof I.ok) hN hj hjn fun s10 I10=>⟨_,H9,I10,q9⟩
  | ret u =>
   obtain ⟨_,_,_,_,_,q9⟩:=q9
   exact q9.elim
  | brk =>
   obtain ⟨_,_,_,q9⟩:=q9
   exact q9.elim
  | cont =>
   obtain ⟨_,_,_,q9⟩:=q9
   exact q9.elim
end
theorem w4{X:Cx}:Passes (CXD X.prog X.w) X E0:=fun _ _ _ _ _ _ _ h=>by
 obtain ⟨_,_,_,_,_,_,_,z⟩:=h
 exact z.elim
theorem qh{K:PySem.W.Frag}{C e d:Addr}(F:Cl3 K C):PySem.W.KitX K (.ref e) (.ref C) (yU C e d) where
 ty:=fun M h X ⟨arr,sl,q⟩=>(GP F).ty M h X ⟨_,q,rfl⟩
 it:=fun M h X ⟨arr,sl,q⟩=>(GP (e:=e) F).it M h X ⟨_,q,rfl⟩
 ne:=(GP (e:=e) F).ne
 ca:=fun X ⟨arr,sl,q⟩ k=>(GP F).ca X ⟨_,q,rfl⟩ k
noncomputable def rIsD(K:PySem.W.Frag):List V→Hp→VK→Prop:=fun xs H Q=>∃x c C d b,xs=[.ref x,c]∧H x=some (.ext (yU C x d))∧Cl3 K C ∧
 ((∃T,c=.ty T∧PySem.W.kitOne K (.ref C) (.type T)=some b)∨(∃D,c=.ref D∧PySem.W.kitOne K (.ref C) (.ref D)=some b)∨(∃(tp:Addr) (ds:List Addr),c=.ref tp∧H tp=some (.tup (ds.map V.ref))∧PySem.W.kitAny K (.ref C) (ds.map Value.ref)=some b))∧Q (.bl b) H
theorem xO {X:Cx}:XR X (.builtin "isinstance") (rIsD X.K):=by
 intro pins s σ H xs us Q I r h
 obtain ⟨x,c,C,d,b,rfl,hh,F,hc,q⟩:=h
 obtain ⟨u,w',rfl,rx,rt⟩:=vals2 r
 cases rx
 have fin:∀tk,EP X pins σ Q (.bool b) { s with toks:=tk }:=fun tk=>⟨.bl b,H,I.tok tk,rfl,q⟩
 obtain ⟨T,rfl,e⟩ | ⟨D,rfl,e⟩ | ⟨tp,ds,rfl,ht,e⟩:=hc
 ·cases rt
  exact PySem.W.kia_one (qh F) I.kIn (I.hok _ _ hh).1 e (fun z=>nomatch z) fin
 ·cases rt
  exact PySem.W.kia_one (qh F) I.kIn (I.hok _ _ hh).1 e (fun z=>nomatch z) fin
 ·cases rt
  obtain ⟨_,its,ri,o,ho,hcl,n,hd⟩:=(show Yg X.prog X.w H s.heap tp (.tup _) from I.hok _ _ ht)
  cases zP ri
  obtain ⟨oc,od,odat,osl⟩:=o
  cases hcl
  cases hd
  exact PySem.W.kia_tup (qh F) I.kIn (I.hok _ _ hh).1 ho e (fun z=>nomatch z) fin
theorem Fun.okCD{P:Program}{w:World}{K:PySem.W.Frag}{mg:Str→Option Value}{base:Heap}{x qual:Str}{st:Stmt}{f:Addr}{fd:FuncData}{N ps:List Str}{k:Nat}{sp:Sp}(F:Fun K x qual st f fd)(S:Zw N ps (Zf st))(len:∀vs H Q E,sp vs H Q E→vs.length=ps.length)
  (hbody:∀(A:Around) (outer:List Env) (s:Shared) (H:Hp) (vs:List V) (Q:VK) (E:XK),Wi k (A.deeper (envOfC qual (Zf st) s.heap.objs.size f fd.code))→sp vs H Q E →
   ∃t,PSs (vY (CXD P w) P w K mg base N qual (Zf st) f fd.code A outer s H E) (Zu st) t∧t { nx:=fun _ H'=>Q .non H',rt:=Q } (start N vs) H):Z7 P w K mg base (CXD P w) (k + 1) f fd ps sp:=by
 obtain ⟨oc,od,kV,doc,pm,an,cdv,ct,osl,rfl,lk,hcd⟩:=F.ex
 exact Zb3 lk hcd S len fun A outer s H vs Q E hr hsp=>hbody A outer s H vs Q E hr hsp
section
variable {X:Cx}
inductive zR(x:V)(vs:List V)(H:Hp)(Q:VK):Prop
 | mk (l:Addr) (xs:List V) (y z:V) (j:Nat):(x=.ref l)→(vs=[y])→(H l=some (.lst xs))→(YC y=true)→(xs.all YC=true)→(xs.length≤1000000)→(xs[j]?=some z)→(eqV z y=true)→((∀i z',i < j→xs[i]?=some z'→eqV z' y=false))→(Q (.int (j:Int)) H)→zR x vs H Q
noncomputable def Zc2  : V→List V→Hp→VK→Prop:=fun x vs H Q=>zR x vs H Q
theorem zS:MtM X "list.index" Zc2:=by
 intro pins s σ H x vs v us Q I rx rv h
 obtain ⟨l,xs,y,z,j,rfl,rfl,hH,fy,fx,hlen,hj,hit,hno,q⟩:=h
 cases rx
 obtain ⟨u,rfl,ru⟩:=rv.one
 obtain ⟨_,its,n,r,hl,e⟩:=I.lstM hH
 have hjl:j < xs.length:=(List.getElem?_eq_some_iff.mp hj).1
 have at_:∀(i:Nat) (hi:i < its.toArray.size),∃z',xs[i]?=some z'∧eqU y its.toArray[i]=eqV z' y:=fun i hi=>by
  have hi2:i < xs.length:=by rw [hl];simpa using hi
  obtain ⟨w',hw',rw'⟩:=r.get (i:=i) (x:=xs[i]) (List.getElem?_eq_getElem hi2)
  have e2:its.toArray[i]=w':=by
   have:=(List.getElem?_eq_some_iff.mp hw').2
   simpa using this
  refine ⟨xs[i],List.getElem?_eq_getElem hi2,?_⟩
  rw [e2]
  exact kr rw' (List.all_eq_true.mp fx _ (List.getElem_mem hi2))
 have hj2:j < its.toArray.size:=by rw [List.size_toArray,←hl];exact hjl
 refine call_meets PySem.F.slot_list_index ⟨_,e,rfl⟩ PySem.F.entry_list_index (PySem.F.args_list_index_2 _ _) (SeqAt.list_indexAt l its.toArray n none #[] u (eqU y) j hj2 (by lia) ?_ (fun m hm hlt=>?_)) ⟨e,fun w hw=>WU ru fy r fx w (by simpa using hw),⟨.int (j:Int),H,I.tok _,⟨_,rfl⟩,q⟩⟩
 ·obtain ⟨z',h1,h2⟩:=at_ j hj2
  rw [hj] at h1
  cases h1
  rw [h2]
  exact hit
 ·obtain ⟨z',h1,h2⟩:=at_ m hm
  rw [h2]
  exact hno m z' hlt h1
end
end L2
namespace L2
open PySem
theorem ZC{G0:Prop}(h:∀G:Prop,(G0→G)→G):G0:=h G0 fun z=>z
theorem JG{t u:TS}{D:Ends}{σ:St}{H:Hp}(J:St→Hp→Prop)(h1:∀(N:St→Hp→Prop) (r:VK) (b c:St→Hp→Prop),(∀σ H,J σ H→N σ H)→t { nx:=N,rt:=r,bk:=b,ct:=c } σ H)(h2:∀σ H,J σ H→u D σ H):ZT t u D σ H:=h1 _ _ _ _ h2
theorem uy{t u:TS}{D:Ends}{r:VK}{b c:St→Hp→Prop}{σ:St}{H:Hp}(J:St→Hp→Prop)(h1:∀(N:St→Hp→Prop) (r:VK) (b c:St→Hp→Prop),(∀σ H,J σ H→N σ H)→t { nx:=N,rt:=r,bk:=b,ct:=c } σ H)(h2:∀σ H,J σ H→u D σ H):({ nx:=ZT t u D,rt:=r,bk:=b,ct:=c }:Ends).nx σ H:=h1 _ _ _ _ h2
theorem WW{te:TE}{i:Nat}{u:TS}{D:Ends}{σ:St}{H:Hp}(h:∀N:V→Hp→Prop,(∀v H,u D (σ.set i (some v)) H→N v H)→te σ H N):ZT (Zbs te (Jw i)) u D σ H:=h _ fun _ _ z=>z
theorem uz{te:TE}{i:Nat}{D:Ends}{σ:St}{H:Hp}(h:∀N:V→Hp→Prop,(∀v H,D.nx (σ.set i (some v)) H→N v H)→te σ H N):Zbs te (Jw i) D σ H:=h _ fun _ _ z=>z
theorem jG{α:Type}{P:List α→Prop}(h:∀a,P [a]):∀us:List α,us.length=1→P us
 | [a],_=>h a
theorem yW{α:Type}{P:List α→Prop}(h:∀a b,P [a,b]):∀us:List α,us.length=2→P us
 | [a,b],_=>h a b
theorem Zbc{α:Type}{P:List α→Prop}(h:∀a b c,P [a,b,c]):∀us:List α,us.length=3→P us
 | [a,b,c],_=>h a b c
theorem Zdn{α:Type}{P:List α→Prop}(h:∀a b c d,P [a,b,c,d]):∀us:List α,us.length=4→P us
 | [a,b,c,d],_=>h a b c d
theorem xo{lo:Int}{n:Nat}{g:TG}{tb:TS}{D:Ends}{σ:St}{H:Hp}(Pv:Nat→St→Hp→Prop)(h0:Pv 0 σ H)
  (hs:∀i σ H,i < n→Pv i σ H→∀(N b:St→Hp→Prop) (r:VK),(∀σ H,Pv (i + 1) σ H→N σ H)→g (.int (lo + i)) σ H fun σ2 H2=>tb { nx:=N,rt:=r,bk:=b,ct:=N } σ2 H2) (hd:∀σ H,Pv n σ H→D.nx σ H) :
  ∃W:Nat→Nat→St→Hp→Prop,(∃m,W 0 m σ H)∧∀i m σ H,W i m σ H →
   ((Itr lo n).stop i H∧D.nx σ H)∨((Itr lo n).go i H∧∃N:St→Hp→Prop,(∀σ' H',N σ' H'→∃m',m' < m∧W (i + 1) m' σ' H')∧∀x H',(Itr lo n).yld i H x H'→g x σ H' fun σ2 H2=>tb { D with nx:=N,ct:=N,bk:=D.nx } σ2 H2) :=
 YV Pv h0 (fun i σ H hi p=>hs i σ H hi p _ _ _ fun _ _ z=>z) hd
theorem xp{lo:Int}{n:Nat}{g:TG}{tb:TS}{D:Ends}{σ:St}{H:Hp}(Pv:Nat→St→Hp→Prop)(h0:Pv 0 σ H)
  (hs:∀i σ H,i < n→Pv i σ H→∀(N b:St→Hp→Prop) (r:VK),(∀σ H,Pv (i + 1) σ H→N σ H)→(∀v H,D.rt v H→r v H)→g (.int (lo + i)) σ H fun σ2 H2=>tb { nx:=N,rt:=r,bk:=b,ct:=N } σ2 H2) (hd:∀σ H,Pv n σ H→D.nx σ H) :
  ∃W:Nat→Nat→St→Hp→Prop,(∃m,W 0 m σ H)∧∀i m σ H,W i m σ H →
   ((Itr lo n).stop i H∧D.nx σ H)∨((Itr lo n).go i H∧∃N:St→Hp→Prop,(∀σ' H',N σ' H'→∃m',m' < m∧W (i + 1) m' σ' H')∧∀x H',(Itr lo n).yld i H x H'→g x σ H' fun σ2 H2=>tb { D with nx:=N,ct:=N,bk:=D.nx } σ2 H2) :=
 YV Pv h0 (fun i σ H hi p=>hs i σ H hi p _ _ _ (fun _ _ z=>z) fun _ _ z=>z) hd
theorem ex_cut{A B:(St→Hp→Prop)→Prop}(J:St→Hp→Prop)(h1:A J)(h2:∀N,(∀σ H,J σ H→N σ H)→B N):∃N,A N∧B N:=⟨J,h1,h2 J fun _ _ z=>z⟩
theorem walk_X{q:Program}{loose:List Str}{XP:(Str→Option Value)→Heap→Prop}{K:Params→PySem.W.Frag}{as:List Addr}{n t:Nat}{r:PySem.W.RowW}{d:DefRec}{kwd:List (Str × Expr)}{run:Value→List Value→Sem Value}
  (e:∀P,as=(K P).map (·.1)) (W:PySem.W.WalkO q loose XP (PySem.W.InK K) r d kwd run):PySem.W.WalkX q loose XP (PySem.W.X.obsZ as) (PySem.W.X.valZ K n t) r d kwd run :=
 fun w s₀ s₁ mg mb G y a o pm cd doc dV kV e1 e2 e3 e4 e5 e6 args vals as L p l R W' nn =>
  W w s₀ s₁ mg mb G (PySem.W.InK.keeps w _ _ (PySem.W.X.z_facts e y).2.1 L.keeps) a o pm cd doc dV kV e1 e2 e3 e4 e5 e6 args vals as p l R W' nn
noncomputable def noT(K:PySem.W.Frag):PySem.W.Frag:=K.filter fun p=>match p.2.cls,p.2.data with
 | .none,.fields _=>false
 | _,_=>true
theorem noT_ok(K:PySem.W.Frag):PySem.W.noTabs (noT K)=true:=by
 unfold PySem.W.noTabs noT
 rw [List.all_eq_true]
 intro p hp
 exact (List.mem_filter.mp hp).2
noncomputable def nodB:List Nat→Bool
 | []=>true
 | a::r=>r.all (fun b=>!(Nat.beq a b)) && nodB r
theorem lookup_mem{a:Addr}{o:Obj}:∀{K:PySem.W.Frag},K.lookup a=some o→(a,o)∈K
 | (b,u)::r,h=>by
  rw [List.lookup_cons] at h
  by_cases e:(a == b)=true
  ·rw [e] at h
   cases h
   rw [eq_of_beq e]
   exact List.mem_cons_self
  ·rw [Bool.eq_false_iff.mpr e] at h
   exact List.mem_cons_of_mem _ (lookup_mem h)
theorem mem_lookup{a:Addr}{o:Obj}:∀{K:PySem.W.Frag},nodB (K.map (·.1))=true→(a,o)∈K→K.lookup a=some o
 | (b,u)::r,hn,h=>by
  rw [List.lookup_cons]
  rw [List.map_cons] at hn
  have hn':=Bool.and_eq_true_iff.mp hn
  rcases List.mem_cons.mp h with e | e
  ·cases e
   rw [beq_self_eq_true]
  ·have hb:(a == b)=false:=by
    rw [beq_eq_false_iff_ne]
    intro z
    have:=List.all_eq_true.mp hn'.1 a (List.mem_map_of_mem e)
    rw [z,show Nat.beq b b=true from Nat.beq_refl b] at this
    cases this
   rw [hb]
   exact mem_lookup hn'.2 e
theorem in_noT{K:PySem.W.Frag}{h:Heap}(hn:nodB (K.map (·.1))=true)(X:K.In h):(noT K).In h:=fun a o e =>
 X a o (mem_lookup hn (List.mem_filter.mp (lookup_mem e)).1)
theorem ns_tr{K:PySem.W.Frag}{m:Addr}{x:Str}{r:Option (Option Value)}(e:PySem.W.nsIn (noT K) m x=PySem.W.nsIn K m x)(h:PySem.W.nsIn K m x=r):PySem.W.nsIn (noT K) m x=r:=e.trans h
theorem fi_tr{K:PySem.W.Frag}{m:Value}{x:Str}{r:Option (Option Value)}(e:PySem.W.findIn (noT K) m x=PySem.W.findIn K m x)(h:PySem.W.findIn K m x=r):PySem.W.findIn (noT K) m x=r:=e.trans h
theorem lk_tr{K:PySem.W.Frag}{a:Addr}{r:Option Obj}(e:(noT K).lookup a=K.lookup a)(h:K.lookup a=r):(noT K).lookup a=r:=e.trans h
theorem cd_tr{K:PySem.W.Frag}{c:Value}{x:Str}(e:PySem.W.codeIn (noT K) c x=PySem.W.codeIn K c x)(h:PySem.W.codeIn K c x=true):PySem.W.codeIn (noT K) c x=true:=e.trans h
theorem kp_tr{K:PySem.W.Frag}{c:Value}(e:PySem.W.keepIn (noT K) c=PySem.W.keepIn K c)(h:PySem.W.keepIn K c=true):PySem.W.keepIn (noT K) c=true:=e.trans h
theorem cxK{CX:CXT}{P:Program}{w:World}{K:PySem.W.Frag}{mg:Str→Option Value}{base:Heap}{N:List Str}{qual:Str}{scope:Scope}{f:Addr}{cd:Value}{A:Around}{outer:List Env}{s:Shared}{H:Hp}{E:XK}:(vY CX P w K mg base N qual scope f cd A outer s H E).nox.K=K:=rfl
theorem cxK2{CX:CXT}{P:Program}{w:World}{K:PySem.W.Frag}{mg:Str→Option Value}{base:Heap}{N:List Str}{qual:Str}{scope:Scope}{f:Addr}{cd:Value}{A:Around}{outer:List Env}{s:Shared}{H:Hp}{E:XK}:(vY CX P w K mg base N qual scope f cd A outer s H E).K=K:=rfl
theorem let2{s1 s2:TS}{D:Ends}{σ:St}{H:Hp}(h:let U1:=s2;ZT s1 U1 D σ H):ZT s1 s2 D σ H:=h
theorem let3{s1 s2 s3:TS}{D:Ends}{σ:St}{H:Hp}(h:let U2:=s3;let U1:=ZT s2 U2;ZT s1 U1 D σ H):ZT s1 (ZT s2 s3) D σ H:=h
theorem let4{s1 s2 s3 s4:TS}{D:Ends}{σ:St}{H:Hp}(h:let U3:=s4;let U2:=ZT s3 U3;let U1:=ZT s2 U2;ZT s1 U1 D σ H):ZT s1 (ZT s2 (ZT s3 s4)) D σ H:=h
theorem let5{s1 s2 s3 s4 s5:TS}{D:Ends}{σ:St}{H:Hp}(h:let U4:=s5;let U3:=ZT s4 U4;let U2:=ZT s3 U3;let U1:=ZT s2 U2;ZT s1 U1 D σ H):ZT s1 (ZT s2 (ZT s3 (ZT s4 s5))) D σ H:=h
theorem let6{s1 s2 s3 s4 s5 s6:TS}{D:Ends}{σ:St}{H:Hp}(h:let U5:=s6;let U4:=ZT s5 U5;let U3:=ZT s4 U4;let U2:=ZT s3 U3;let U1:=ZT s2 U2;ZT s1 U1 D σ H):ZT s1 (ZT s2 (ZT s3 (ZT s4 (ZT s5 s6)))) D σ H:=h
theorem let11{s1 s2 s3 s4 s5 s6 s7 s8 s9 s10 s11:TS}{D:Ends}{σ:St}{H:Hp}(h:let U10:=s11;let U9:=ZT s10 U10;let U8:=ZT s9 U9;let U7:=ZT s8 U8;let U6:=ZT s7 U7;let U5:=ZT s6 U6;let U4:=ZT s5 U5;let U3:=ZT s4 U4;let U2:=ZT s3 U3;let U1:=ZT s2 U2;ZT s1 U1 D σ H):ZT s1 (ZT s2 (ZT s3 (ZT s4 (ZT s5 (ZT s6 (ZT s7 (ZT s8 (ZT s9 (ZT s10 s11))))))))) D σ H:=h
theorem let12{s1 s2 s3 s4 s5 s6 s7 s8 s9 s10 s11 s12:TS}{D:Ends}{σ:St}{H:Hp}(h:let U11:=s12;let U10:=ZT s11 U11;let U9:=ZT s10 U10;let U8:=ZT s9 U9;let U7:=ZT s8 U8;let U6:=ZT s7 U7;let U5:=ZT s6 U6;let U4:=ZT s5 U5;let U3:=ZT s4 U4;let U2:=ZT s3 U3;let U1:=ZT s2 U2;ZT s1 U1 D σ H):ZT s1 (ZT s2 (ZT s3 (ZT s4 (ZT s5 (ZT s6 (ZT s7 (ZT s8 (ZT s9 (ZT s10 (ZT s11 s12)))))))))) D σ H:=h
end L2
namespace ZpT
open PySem PySem.Spec PyProof.Rows
noncomputable abbrev XC (h:Heap) (T:Addr) (a b c:Value):Prop:=h.get? T=some { cls:=.type "tuple",data:=.seq #[a,b,c] }
structure Ap3(z TI TO i1 i2 i3:Addr):Prop where
 TIz:TI≠z
 TOz:TO≠z
 i1z:i1≠z
 i2z:i2≠z
 i3z:i3≠z
 TITO:TI≠TO
 TIi1:TI≠i1
 TIi2:TI≠i2
 TIi3:TI≠i3
 TOi1:TO≠i1
 TOi2:TO≠i2
 TOi3:TO≠i3
 i12:i1≠i2
 i13:i1≠i3
 i23:i2≠i3
structure Of3(z TO i1 i2 i3 l:Addr):Prop where
 z:l≠z
 o:l≠TO
 i:l≠i1
 j:l≠i2
 m:l≠i3
structure St3(z TI TO i1 i2 i3 l1 l2 l3:Addr)(k:Nat)(h:Heap):Prop where
 z:∃f0 fb,h.get? z=some (zO f0 fb TI TO)∧F0 f0
 I:XC h TI (.ref i1) (.ref i2) (.ref i3)
 O:∃a b c,XC h TO a b c
 n1:ZM false h i1 l1 k
 n2:ZM false h i2 l2 k
 n3:ZM false h i3 l3 k
section
variable {prog:Program}{w:World}{A:Around}{E:Value→Shared→Prop}{s:Shared}
theorem xP{T:Addr}{a b c x:Value}{k:Nat}{Q:Unit→Shared→Prop}(hT:XC s.heap T a b c)
  (h:∀h',h'.get? T=some { cls:=.type "tuple",data:=.seq ((#[a,b,c]:Array Value).setIfInBounds k x) }→Heap.SameBut T s.heap h'→Q () { s with heap:=h' }):wpAny (model prog w) A (updateSeq T (·.setIfInBounds k x)) Q E s:=by
 refine wpAny_updateSeq hT rfl (h _ ?_ (Heap.SameBut.update ..))
 rw [Heap.get?_update_self _ hT rfl]
 simp [Obj.mapSeq]
theorem item3{z TI TO i1 i2 i3 l1 l2 l3:Addr}{k:Nat}{xs ys zs:Array Value}{x y v:Value}{Q:Value→Shared→Prop}(D:Ap3 z TI TO i1 i2 i3)(D1:Of3 z TO i1 i2 i3 l1)(D2:Of3 z TO i1 i2 i3 l2)(D3:Of3 z TO i1 i2 i3 l3)
  (S:St3 z TI TO i1 i2 i3 l1 l2 l3 k s.heap) (q1:SeqAt false s.heap l1 xs) (q2:SeqAt false s.heap l2 ys) (q3:SeqAt false s.heap l3 zs) (hx:xs[k]?=some x) (hy:ys[k]?=some y) (hv:zs[k]?=some v)
  (hQ:∀h',St3 z TI TO i1 i2 i3 l1 l2 l3 (k + 1) h'→XC h' s.heap.objs.size x y v →
   (∀c o,c≠z→c≠TO→c≠i1→c≠i2→c≠i3→s.heap.get? c=some o→h'.get? c=some o)→Q (.ref s.heap.objs.size) { s with heap:=h' }) :
  wpAny (model prog w) A (Builtin.«zip.__next__» ⟨[.ref z],[]⟩) (fun fin s'=>∃v,fin=.done (.ret v)∧Q v s') E s:=by
 obtain ⟨⟨f0,fb,hz,hf⟩,hTI,⟨a,b,c0,hTO⟩,n1,n2,n3⟩:=S
 show wpAny _ _ (field (.ref z) 2 >>= _) _ _ _
 refine wpAny_bind (wpAny_field hz rfl (x:=.bool false) rfl ?_)
 show wpAny _ _ (field (.ref z) 3 >>= _) _ _ _
 refine wpAny_bind (wpAny_field hz rfl (x:=.ref TI) rfl ?_)
 refine wpAny_bind (wpAny_seqItems hTI rfl ?_)
 show wpAny _ _ (Builtin.SmallTypes.ownedTupleIsFree (.ref z) >>= _) _ _ _
 refine wpAny_bind (xI hz hf fun r h0 fb' hz0 hs0=>?_)
 have hz0':h0.get? z=some (zO f0 fb' TI TO):=hz0
 have hTO0:XC h0 TO a b c0:=hs0.extBut _ _ D.TOz hTO
 have n10:ZM false h0 i1 l1 k:=n1.mv fun o e=>hs0.extBut _ _ D.i1z e
 have n20:ZM false h0 i2 l2 k:=n2.mv fun o e=>hs0.extBut _ _ D.i2z e
 have n30:ZM false h0 i3 l3 k:=n3.mv fun o e=>hs0.extBut _ _ D.i3z e
 have q10:SeqAt false h0 l1 xs:=q1.mv fun o e=>hs0.extBut _ _ D1.z e
 have q20:SeqAt false h0 l2 ys:=q2.mv fun o e=>hs0.extBut _ _ D2.z e
 have q30:SeqAt false h0 l3 zs:=q3.mv fun o e=>hs0.extBut _ _ D3.z e
 cases r with
 | true =>
  simp only [if_true]
  refine wpAny_bind (wpAny_rule ?_)
  refine wpAny_bind (wpAny_field hz0 rfl (x:=.ref TO) rfl ?_)
  refine wpAny_bind (wpAny_setField_rec hz0 (by simp) fun h₁ hz₁ hs₁=>?_)
  replace hz₁:h₁.get? z=some (zO .ellipsis fb' TI TO):=hz₁
  refine wpAny_bind ?_
  simp only [List.zipIdx_cons,List.zipIdx_nil,List.forIn_cons,List.forIn_nil]
  refine wpAny_bind (wpAny_bind (wpAny_onRaise ?_))
  show wpAny _ _ (Builtin.SmallTypes.nextOf (.ref i1) >>= _) _ _ _
  refine wpAny_bind (Xd (n10.mv fun o e=>hs₁.extBut _ _ D.i1z e) (q10.mv fun o e=>hs₁.extBut _ _ D1.z e) hx fun h₂ h1₂ hs₂=>wpAny_pure ?_)
  have hTO₂:XC h₂ TO a b c0:=hs₂.extBut _ _ D.TOi1 (hs₁.extBut _ _ D.TOz hTO0)
  refine wpAny_bind (wpAny_seqItems hTO₂ rfl ?_)
  refine wpAny_bind (xP hTO₂ fun h₃ hTO₃ hs₃=>?_)
  replace hTO₃:XC h₃ TO x b c0:=hTO₃
  refine wpAny_bind (wpAny_letGo (wpAny_pure ?_))
  refine wpAny_bind (wpAny_bind (wpAny_onRaise ?_))
  show wpAny _ _ (Builtin.SmallTypes.nextOf (.ref i2) >>= _) _ _ _
  refine wpAny_bind (Xd (n20.mv fun o e=>hs₃.extBut _ _ D.TOi2.symm (hs₂.extBut _ _ D.i12.symm (hs₁.extBut _ _ D.i2z e))) (q20.mv fun o e=>hs₃.extBut _ _ D2.o (hs₂.extBut _ _ D2.i (hs₁.extBut _ _ D2.z e))) hy fun h₄ h2₄ hs₄=>wpAny_pure ?_)
  have hTO₄:XC h₄ TO x b c0:=hs₄.extBut _ _ D.TOi2 hTO₃
  refine wpAny_bind (wpAny_seqItems hTO₄ rfl ?_)
  refine wpAny_bind (xP hTO₄ fun h₅ hTO₅ hs₅=>?_)
  replace hTO₅:XC h₅ TO x y c0:=hTO₅
  refine wpAny_bind (wpAny_letGo (wpAny_pure ?_))
  have r5:∀c o,c≠z→c≠TO→c≠i1→c≠i2→h0.get? c=some o→h₅.get? c=some o:=fun c o c1 c2 c3 c4 e=>hs₅.extBut _ _ c2 (hs₄.extBut _ _ c4 (hs₃.extBut _ _ c2 (hs₂.extBut _ _ c3 (hs₁.extBut _ _ c1 e))))
  refine wpAny_bind (wpAny_bind (wpAny_onRaise ?_))
  show wpAny _ _ (Builtin.SmallTypes.nextOf (.ref i3) >>= _) _ _ _
  refine wpAny_bind (Xd (n30.mv fun o e=>r5 _ _ D.i3z D.TOi3.symm D.i13.symm D.i23.symm e) (q30.mv fun o e=>r5 _ _ D3.z D3.o D3.i D3.j e) hv fun h₆ h3₆ hs₆=>wpAny_pure ?_)
  have hTO₆:XC h₆ TO x y c0:=hs₆.extBut _ _ D.TOi3 hTO₅
  refine wpAny_bind (wpAny_seqItems hTO₆ rfl ?_)
  refine wpAny_bind (xP hTO₆ fun h₇ hTO₇ hs₇=>?_)
  replace hTO₇:XC h₇ TO x y v:=hTO₇
  refine wpAny_bind (wpAny_letGo (wpAny_pure (wpAny_pure ?_)))
  refine wpAny_bind (wpAny_seqItems hTO₇ rfl ?_)
  refine wpAny_bind (wpAny_newTuple ?_)
  have hsz:h₇.objs.size=s.heap.objs.size:=by rw [hs₇.1,hs₆.1,hs₅.1,hs₄.1,hs₃.1,hs₂.1,hs₁.1];exact hs0.1
  have r7:∀c o,c≠TO→c≠i3→h₅.get? c=some o→h₇.get? c=some o:=fun c o c2 c5 e=>hs₇.extBut _ _ c2 (hs₆.extBut _ _ c5 e)
  have hz₅:h₅.get? z=some (zO .ellipsis fb' TI TO):=hs₅.extBut _ _ D.TOz.symm (hs₄.extBut _ _ D.i2z.symm (hs₃.extBut _ _ D.TOz.symm (hs₂.extBut _ _ D.i1z.symm hz₁)))
  have hz₇:h₇.get? z=some (zO .ellipsis fb' TI TO):=r7 _ _ D.TOz.symm D.i3z.symm hz₅
  have hk₇:∀c o,c≠z→c≠TO→c≠i1→c≠i2→c≠i3→s.heap.get? c=some o→h₇.get? c=some o:=fun c o c1 c2 c3 c4 c5 e=>r7 c o c2 c5 (r5 c o c1 c2 c3 c4 (hs0.extBut _ _ c1 e))
  have h1₇:ZM false h₇ i1 l1 (k + 1):=h1₂.mv fun o e=>r7 _ _ D.TOi1.symm D.i13 (hs₅.extBut _ _ D.TOi1.symm (hs₄.extBut _ _ D.i12 (hs₃.extBut _ _ D.TOi1.symm e)))
  have h2₇:ZM false h₇ i2 l2 (k + 1):=h2₄.mv fun o e=>r7 _ _ D.TOi2.symm D.i23 (hs₅.extBut _ _ D.TOi2.symm e)
  have h3₇:ZM false h₇ i3 l3 (k + 1):=h3₆.mv fun o e=>hs₇.extBut _ _ D.TOi3.symm e
  have hzlt:z < h₇.objs.size:=Heap.lt_size hz₇
  show wpAny _ _ (Builtin.SmallTypes.ownedTupleHandOut (.ref z) (.ref h₇.objs.size) >>= _) _ _ _
  refine wpAny_bind ?_
  unfold Builtin.SmallTypes.ownedTupleHandOut
  have hz₈:(h₇.push { cls:=.type "tuple",data:=.seq #[x,y,v] }).get? z=some (zO .ellipsis fb' TI TO):=Heap.get?_push_of_some _ hz₇
  refine wpAny_bind (wpAny_setField_rec hz₈ (by simp) fun h₉ hz₉ hs₉=>?_)
  replace hz₉:h₉.get? z=some (zO (rawInt h₇.objs.size) fb' TI TO):=hz₉
  refine wpAny_setField_rec hz₉ (by simp) fun hA hzA hsA=>?_
  replace hzA:hA.get? z=some (zO (rawInt h₇.objs.size) false TI TO):=hzA
  have up:∀c o,c≠z→h₇.get? c=some o→hA.get? c=some o:=fun c o c1 e=>hsA.extBut _ _ c1 (hs₉.extBut _ _ c1 (Heap.get?_push_of_some _ e))
  have hTA:XC hA h₇.objs.size x y v:=hsA.extBut _ _ (Nat.ne_of_gt hzlt) (hs₉.extBut _ _ (Nat.ne_of_gt hzlt) (Heap.get?_push_size _ rfl))
  rw [hsz] at hzA hTA
  refine wpAny_pure ⟨_,rfl,?_⟩
  show Q (.ref h₇.objs.size) _
  rw [hsz]
  exact hQ hA ⟨⟨_,_,hzA,.inr ⟨_,rfl⟩⟩,up _ _ D.TIz (hk₇ _ _ D.TIz D.TITO D.TIi1 D.TIi2 D.TIi3 hTI),⟨_,_,_,up _ _ D.TOz hTO₇⟩,h1₇.mv fun o e=>up _ o D.i1z e,h2₇.mv fun o e=>up _ o D.i2z e,h3₇.mv fun o e=>up _ o D.i3z e⟩ hTA fun c o c1 c2 c3 c4 c5 e=>up c o c1 (hk₇ c o c1 c2 c3 c4 c5 e)
 | false =>
  simp only [Bool.false_eq_true,if_false]
  refine wpAny_bind ?_
  simp only [←Array.forIn_toList,List.forIn_cons,List.forIn_nil]
  refine wpAny_bind (wpAny_bind (wpAny_holding ?_))
  show wpAny _ _ (Builtin.SmallTypes.nextOf (.ref i1) >>= _) _ _ _
  refine wpAny_bind (Xd n10 q10 hx fun h₂ h1₂ hs₂=>wpAny_pure (wpAny_pure ?_))
  refine wpAny_bind (wpAny_bind (wpAny_holding ?_))
  show wpAny _ _ (Builtin.SmallTypes.nextOf (.ref i2) >>= _) _ _ _
  refine wpAny_bind (Xd (n20.mv fun o e=>hs₂.extBut _ _ D.i12.symm e) (q20.mv fun o e=>hs₂.extBut _ _ D2.i e) hy fun h₃ h2₃ hs₃=>wpAny_pure (wpAny_pure ?_))
  refine wpAny_bind (wpAny_bind (wpAny_holding ?_))
  show wpAny _ _ (Builtin.SmallTypes.nextOf (.ref i3) >>= _) _ _ _
  refine wpAny_bind (Xd (n30.mv fun o e=>hs₃.extBut _ _ D.i23.symm (hs₂.extBut _ _ D.i13.symm e)) (q30.mv fun o e=>hs₃.extBut _ _ D3.j (hs₂.extBut _ _ D3.i e)) hv fun h₄ h3₄ hs₄=>wpAny_pure (wpAny_pure (wpAny_pure ?_)))
  refine wpAny_bind (wpAny_newTuple (hsz:=(show 3≤sizeLine by decide)) (wpAny_pure ⟨_,rfl,?_⟩))
  have hsz:h₄.objs.size=s.heap.objs.size:=by rw [hs₄.1,hs₃.1,hs₂.1];exact hs0.1
  have hk₄:∀c o,c≠z→c≠i1→c≠i2→c≠i3→s.heap.get? c=some o→h₄.get? c=some o:=fun c o c1 c3 c4 c5 e=>hs₄.extBut _ _ c5 (hs₃.extBut _ _ c4 (hs₂.extBut _ _ c3 (hs0.extBut _ _ c1 e)))
  have zz:h₄.get? z=some (zO f0 fb' TI TO):=hs₄.extBut _ _ D.i3z.symm (hs₃.extBut _ _ D.i2z.symm (hs₂.extBut _ _ D.i1z.symm hz0'))
  have hT:XC (h₄.push { cls:=.type "tuple",data:=.seq #[x,y,v] }) h₄.objs.size x y v:=Heap.get?_push_size _ rfl
  show Q (.ref h₄.objs.size) { s with heap:=h₄.push { cls:=.type "tuple",data:=.seq #[x,y,v] } }
  rw [hsz] at hT ⊢
  have up:∀c o,h₄.get? c=some o→(h₄.push { cls:=.type "tuple",data:=.seq #[x,y,v] }).get? c=some o:=fun c o e=>Heap.get?_push_of_some _ e
  exact hQ _ ⟨⟨_,_,up _ _ zz,hf⟩,up _ _ (hk₄ _ _ D.TIz D.TIi1 D.TIi2 D.TIi3 hTI),⟨_,_,_,up _ _ (hk₄ _ _ D.TOz D.TOi1 D.TOi2 D.TOi3 hTO)⟩,h1₂.mv fun o e=>up _ _ (hs₄.extBut _ _ D.i13 (hs₃.extBut _ _ D.i12 e)),h2₃.mv fun o e=>up _ _ (hs₄.extBut _ _ D.i23 e),h3₄.mv fun o e=>up _ _ e⟩ hT fun c o c1 c2 c3 c4 c5 e=>up c o (hk₄ c o c1 c3 c4 c5 e)
theorem fin3{z TI TO i1 i2 i3 l1 l2 l3:Addr}{k:Nat}{xs:Array Value}{Q:Fin→Shared→Prop}(hh:A.handled=none)(D:Ap3 z TI TO i1 i2 i3)(D1:Of3 z TO i1 i2 i3 l1)
  (S:St3 z TI TO i1 i2 i3 l1 l2 l3 k s.heap) (q1:SeqAt false s.heap l1 xs) (hx:xs[k]?=none)
  (hE:∀h' e,(∀c o,c≠z→c≠TO→c≠i1→c≠i2→c≠i3→s.heap.get? c=some o→h'.get? c=some o)→(∃o,h'.get? e=some o∧o.cls=.type "StopIteration")→E (.ref e) { s with heap:=h' }) :
  wpAny (model prog w) A (Builtin.«zip.__next__» ⟨[.ref z],[]⟩) Q E s:=by
 obtain ⟨⟨f0,fb,hz,hf⟩,hTI,⟨a,b,c0,hTO⟩,n1,n2,n3⟩:=S
 show wpAny _ _ (field (.ref z) 2 >>= _) _ _ _
 refine wpAny_bind (wpAny_field hz rfl (x:=.bool false) rfl ?_)
 show wpAny _ _ (field (.ref z) 3 >>= _) _ _ _
 refine wpAny_bind (wpAny_field hz rfl (x:=.ref TI) rfl ?_)
 refine wpAny_bind (wpAny_seqItems hTI rfl ?_)
 show wpAny _ _ (Builtin.SmallTypes.ownedTupleIsFree (.ref z) >>= _) _ _ _
 refine wpAny_bind (xI hz hf fun r h0 fb' hz0 hs0=>?_)
 have hz0':h0.get? z=some (zO f0 fb' TI TO):=hz0
 have n10:ZM false h0 i1 l1 k:=n1.mv fun o e=>hs0.extBut _ _ D.i1z e
 have q10:SeqAt false h0 l1 xs:=q1.mv fun o e=>hs0.extBut _ _ D1.z e
 cases r with
 | true =>
  simp only [if_true]
  refine wpAny_bind (wpAny_rule ?_)
  refine wpAny_bind (wpAny_field hz0 rfl (x:=.ref TO) rfl ?_)
  refine wpAny_bind (wpAny_setField_rec hz0 (by simp) fun h₁ hz₁ hs₁=>?_)
  replace hz₁:h₁.get? z=some (zO .ellipsis fb' TI TO):=hz₁
  refine wpAny_bind ?_
  simp only [List.zipIdx_cons,List.zipIdx_nil,List.forIn_cons,List.forIn_nil]
  refine wpAny_bind (wpAny_bind (wpAny_onRaise ?_))
  show wpAny _ _ (Builtin.SmallTypes.nextOf (.ref i1) >>= _) _ _ _
  refine wpAny_bind (xm hh (n10.mv fun o e=>hs₁.extBut _ _ D.i1z e) (q10.mv fun o e=>hs₁.extBut _ _ D1.z e) hx fun h₂ e hs₂ he=>?_)
  obtain ⟨oe,hoe,hce⟩:=he
  have hz₂:h₂.get? z=some (zO .ellipsis fb' TI TO):=hs₂ _ _ D.i1z.symm hz₁
  have hez:e≠z:=fun x=>by subst x;rw [hz₂] at hoe;cases hoe;simp [zO] at hce
  exact wpAny_setField_rec hz₂ (by simp) fun h₃ _ hs₃=>hE h₃ e (fun c o c1 _ c3 _ _ x=>hs₃.extBut _ _ c1 (hs₂ _ _ c3 (hs₁.extBut _ _ c1 (hs0.extBut _ _ c1 x)))) ⟨oe,hs₃.extBut _ _ hez hoe,hce⟩
 | false =>
  simp only [Bool.false_eq_true,if_false]
  refine wpAny_bind ?_
  simp only [←Array.forIn_toList,List.forIn_cons,List.forIn_nil]
  refine wpAny_bind (wpAny_bind (wpAny_holding ?_))
  show wpAny _ _ (Builtin.SmallTypes.nextOf (.ref i1) >>= _) _ _ _
  exact wpAny_bind (xm hh n10 q10 hx fun h₂ e hs₂ he=>hE h₂ e (fun c o c1 _ c3 _ _ x=>hs₂ _ _ c3 (hs0.extBut _ _ c1 x)) he)
end
end ZpT
namespace L2
open PySem PySem.Spec PyProof.Rows
structure Thr(scope:Scope)(x x2 x3:Str)(ys:List Str):Prop where
 own:scope.names.lookup x2=some .local
 own3:scope.names.lookup x3=some .local
 nd:(x::x2::x3::ys).Nodup
noncomputable def yX(is:List Nat)(σ:St)(v w u:Option V):St:=v::w::u::is.map fun i=>(σ[i]?).getD none
noncomputable def Zbd(K:PySem.W.Frag)(is:List Nat)(tc:TT)(te:TE)(σ:St)(Q:VK)(J:It)(H1:Hp):Prop:=∃W:Nat→Nat→List V→Hp→Prop,(∃m,W 0 m [] H1)∧∀i m zs H,W i m zs H →
 (J.stop i H∧zs.length≤sizeLine∧∀p,H p=none→Q (.ref p) (upd H p (.lst zs))) ∨
 (J.go i H∧zs.length≤sizeLine∧∀x H',J.yld i H x H'→∃a v1 v2 v3,x=.ref a∧SqT K H' a [v1,v2,v3]∧tc (yX is σ (some v1) (some v2) (some v3)) H' fun b H2=>if b=true then te (yX is σ (some v1) (some v2) (some v3)) H2 fun y H3=>∃m',m' < m∧W (i + 1) m' (zs++[y]) H3 else ∃m',m' < m∧W (i + 1) m' zs H2)
noncomputable def tComp3(K:PySem.W.Frag)(wi:TI)(is:List Nat)(tc:TT)(te:TE):TE:=fun σ H Q=>wi σ H (Zbd K is tc te σ Q)
section
variable {X:Cx}{S scope:Scope}{N:List Str}{x x2 x3:Str}{ys:List Str}{is:List Nat}{pins:List (Addr × Obj)}{σ:St}{H₂:Hp}{s₂:Shared}{fp:List Addr}{elt iter:Expr}{px px2 px3 pp pos:Pos}{pq:Nat}{ifs:List Expr}{tc:TT}{te:TE}{wi:TI}
theorem jH(K:ZW S scope N x ys is)(K2:Thr scope x x2 x3 ys)(hX:X.env.scope=S)(I:Inv X pins σ H₂ s₂){C:Addr}(hC:s₂.heap.objs.size≤C)(hfp:∀b∈fp,Gm X pins H₂ b)(hlt:∀b∈fp,b < s₂.heap.objs.size):(cxC X (x::x2::x3::ys) scope C s₂ H₂ fp).Ok where
 mod:=I.ok.mod
 kind:=K.kind
 glob:=I.ok.glob
 blt:=I.ok.blt
 above:=hC
 inj:=fun y z c h1 h2=>I.ok.inj y z c (K.cl hX I.ok y c h1) (K.cl hX I.ok z c h2)
 has:=fun y hy=>Xj (XA (env:=X.env) K.cell hy)
 cab:=fun y c h=>by cases h
 hd:=I.ok.hd
 frames:=I.ok.frames
 stk:=.inl rfl
 exf:=fun b hb=>⟨fun e=>absurd (Nat.lt_of_lt_of_le (hlt b hb) (Nat.le_trans hC (Nat.le_of_eq (Eq.symm e)))) (Nat.lt_irrefl _),fun y c h=>(hfp b hb).2.2.2.2.1 y c (K.cl hX I.ok y c h)⟩
 bs:=I.bs
 bsz:=Nat.le_trans I.ok.bsz I.sz
 noex:=fun b o e hb=>by
  rcases (hfp b hb).2.2.2.1 with z | z
  ·exact I.ok.noex b o e z
  ·exact absurd (Nat.lt_of_lt_of_le (Heap.lt_size e) (Nat.le_trans I.ok.bsz z)) (Nat.lt_irrefl _)
 exfs:=fun b hb z=>by
  rcases List.mem_cons.mp (I.stkSub b z) with e | e
  ·exact (hfp b hb).2.1 e
  ·exact (hfp b hb).2.2.1 e
 funs:=I.stack
 frf:=I.stkFree
theorem uA(K:ZW S scope N x ys is)(K2:Thr scope x x2 x3 ys)(hX:X.env.scope=S)(hN:X.N=N)(hk:S.kind=.function)(I:Inv X pins σ H₂ s₂){C D:Addr}{h₁:Heap}{tk:Nat}{oD:Obj}(hC:s₂.heap.objs.size≤C)(hD:s₂.heap.objs.size≤D)(hDC:D≠C)
    (hfp:∀b∈fp,Gm X pins H₂ b) (hlt:∀b∈fp,b < s₂.heap.objs.size) (old:∀b o,s₂.heap.get? b=some o→h₁.get? b=some o) (hn:h₁.Ns C fun _=>none) (hacc:h₁.get? D=some oD) (hod:∀v,oD.data≠.cell v) :
    Inv (cxC X (x::x2::x3::ys) scope C s₂ H₂ fp) [(D,oD)] (yX is σ none none none) H₂ { s₂ with heap:=h₁,toks:=tk }:=by
  have ok:=jH K K2 hX I hC hfp hlt
  refine ⟨ok,rfl,I.bare,Un.kept old,⟨_,hn,fun i y v h1 h2 h3=>?_⟩,fun y c h=>?_,I.hok.fresh hC,fun y c h=>I.freeC y c (K.cl hX I.ok y c h),fun p hp=>?_,I.hok.kept old,?_⟩
  · cases i with
    | zero =>
      have h2':some (none:Option V)=some (some v):=h2
      cases h2'
    | succ i =>
     cases i with
     | zero =>
      have h2':some (none:Option V)=some (some v):=h2
      cases h2'
     | succ i =>
     cases i with
     | zero =>
      have h2':some (none:Option V)=some (some v):=h2
      cases h2'
     | succ i =>
      have h1':ys[i]?=some y:=h1
      have h2':(is.map fun i=>(σ[i]?).getD none)[i]?=some (some v):=h2
      rw [List.getElem?_map] at h2'
      cases hj:is[i]? with
      | none=>rw [hj] at h2';cases h2'
      | some j =>
        rw [hj] at h2'
        have h2'':(σ[j]?).getD none=some v:=Option.some.inj h2'
        have hσ:σ[j]?=some (some v):=by
          cases q:σ[j]? with
          | none=>rw [q] at h2'';cases h2''
          | some z=>rw [q] at h2'';exact congrArg some h2''
        have hz:(y,j)∈ys.zip is:=by
          obtain ⟨a1,e1⟩:=List.getElem?_eq_some_iff.mp h1'
          obtain ⟨a2,e2⟩:=List.getElem?_eq_some_iff.mp hj
          rw [←e1,←e2,←List.getElem_zip (h:=by rw [List.length_zip];lia)]
          exact List.getElem_mem _
        obtain ⟨v1,v2⟩:=K.vis _ hz
        have kc:X.env.kindOf y=some .cell∨X.env.kindOf y=some .free:=by show X.env.scope.names.lookup y=_∨X.env.scope.names.lookup y=_;rw [hX];exact K.free _ (GL v2) rfl
        obtain ⟨m,hm,hl⟩:=I.loc
        obtain ⟨u,r,l⟩:=hl j y v (by rw [hN];exact v1) hσ (.inr kc)
        refine ⟨u,r,.inr ?_⟩
        rcases l with ⟨l1,_⟩ | ⟨_,c,l2,l3⟩
        · rcases kc with kc | kc <;> rw [kc] at l1 <;> cases l1
        · obtain ⟨c',hc'⟩:=Xj (cells:=X.env.cells) (acc:=[]) v2
          have e:c'=c:=by have:=K.cl hX I.ok y c' hc';rw [l2] at this;exact (Option.some.inj this).symm
          subst e
          refine ⟨kc.imp (X9 (scope:=scope) (by rw [hX];exact hk) v2) (Xk v2),c',hc',?_⟩
          obtain ⟨o,ho,hd⟩:=l3
          exact ⟨o,old _ _ ho,hd⟩
  · obtain ⟨v,o,ho,hd⟩:=I.cell y c (K.cl hX I.ok y c h)
    exact ⟨v,o,old _ _ ho,hd⟩
  · have e:p=(D,oD):=by simpa [cxC] using hp
    subst e
    refine ⟨hacc,I.hok.fresh hD,hDC,fun z=>?_,hod⟩
    obtain ⟨_,o,ho,_⟩:=ok.funs.mem z
    exact absurd (Nat.lt_of_lt_of_le (Heap.lt_size ho) hD) (Nat.lt_irrefl _)
  · show (yX is σ none none none).length=(x::x2::x3::ys).length
    unfold yX
    rw [List.length_cons,List.length_cons,List.length_cons,List.length_map,List.length_cons,List.length_cons,List.length_cons,K.len]
theorem jI{J:It}{it:Addr}{tn:Nat→Heap→Prop}{Q:VK}{RR:Value→Addr→Result→Shared→Prop}{E:Value→Shared→Prop}(K:ZW S scope N x ys is)(K2:Thr scope x x2 x3 ys)(hX:X.env.scope=S)(hN:X.N=N)(hk:S.kind=.function)(hc:X.calm=true)
  (hf:∀C s₂ H₂ ex,QF (cxC X (x::x2::x3::ys) scope C s₂ H₂ ex) ifs tc) (he:∀C s₂ H₂ ex,QE (cxC X (x::x2::x3::ys) scope C s₂ H₂ ex) elt te)
  (I:Inv X pins σ H₂ s₂) (T:Turn X.prog X.w X.K (.Tuple [.Name x px,.Name x2 px2,.Name x3 px3] pq pp) J fp it tn) (st:tn 0 s₂.heap) (hfp:∀b∈fp,Gm X pins H₂ b)
  {W:Nat→Nat→List V→Hp→Prop} {m0:Nat} (w0:W 0 m0 [] H₂)
  (turn:∀i m zs H,W i m zs H→(J.stop i H∧zs.length≤sizeLine∧∀p,H p=none→Q (.ref p) (upd H p (.lst zs))) ∨
   (J.go i H∧zs.length≤sizeLine∧∀x H',J.yld i H x H'→∃a v1 v2 v3,x=.ref a∧SqT X.K H' a [v1,v2,v3]∧tc (yX is σ (some v1) (some v2) (some v3)) H' fun b H2=>if b=true then te (yX is σ (some v1) (some v2) (some v3)) H2 fun y H3=>∃m',m' < m∧W (i + 1) m' (zs++[y]) H3 else ∃m',m' < m∧W (i + 1) m' zs H2))
  (fin:∀D C s' H' m',Inv X pins σ H' s'→Gm X pins H' C→s'.heap.Ns C m'→Q (.ref D) H'→RR (.ref D) C (.ok .next) s') :
  wpAny (model X.prog X.w) X.A (newList []) (fun acc s₃=>wpAny (model X.prog X.w) X.A (newFunctionEnv scope X.env.globals (qc X.env.cells scope.names []) [] X.env.qual none .none (some X.env)) (fun cenv s₄ =>
   codeAny (model X.prog X.w) X.A (.compStart (.ListComp elt [⟨(.Tuple [.Name x px,.Name x2 px2,.Name x3 px3] pq pp),iter,ifs,0⟩] scope pos) 0 (.ref it) acc { cenv with scope:=relabel scope X.env }) (RR acc cenv.locals) s₄) E s₃) E s₂:=by
 refine wpAny_newObj_type (wpAny_newFunctionEnv K.cell (by intro y hy;simp at hy) (fun h₁ hns₁ hsb₁=>?_) K.kind)
 dsimp only at hns₁ hsb₁ ⊢
 generalize hH2:s₂.heap.push { cls:=.type "list",dict:=none,data:=.seq ([]:List Value).toArray }=H2 at hns₁ hsb₁ ⊢
 have hCs:H2.objs.size=s₂.heap.objs.size + 1:=by rw [←hH2,Heap.size_push]
 have hDC:s₂.heap.objs.size≠H2.objs.size:=by rw [hCs];exact Nat.ne_of_lt (Nat.lt_succ_self _)
 have hC:s₂.heap.objs.size≤H2.objs.size:=by rw [hCs];exact Nat.le_succ _
 have hlt:∀b∈fp,b < s₂.heap.objs.size:=fun b hb=>by obtain ⟨o,e,_⟩:=T.obj 0 _ st b hb;exact Heap.lt_size e
 have old:∀b o,s₂.heap.get? b=some o→h₁.get? b=some o:=fun b o e=>hsb₁.extBut b o (by rw [hCs];exact Nat.ne_of_lt (Nat.lt_succ_of_lt (Heap.lt_size e))) (Heap.get?_push_of_some _ (hH2 ▸ Heap.get?_push_of_some _ e))
 have hacc:h₁.get? s₂.heap.objs.size=some { cls:=.type "list",data:=.seq ([]:List Value).toArray 0 }:=hsb₁.extBut _ _ hDC (Heap.get?_push_of_some _ (hH2 ▸ Heap.get?_push_size _ rfl))
 have st₁:tn 0 h₁:=T.keep _ _ _ st fun b _ o e=>old b o e
 have fpC:∀{H':Hp} {pl:List (Addr × Obj)},(∀p∈pl,∀b∈fp,p.1≠b)→(∀b∈fp,H' b=none)→∀b∈fp,Gm (cxC X (x::x2::x3::ys) scope H2.objs.size s₂ H₂ fp) pl H' b:=fun {H' pl} hpl hn b hb=>by
  have ok:=jH K K2 hX I hC hfp hlt
  exact ⟨hn b hb,(ok.exf b hb).1,ok.exfs b hb,.inl hb,(ok.exf b hb).2,fun p hp=>hpl p hp b hb⟩
 have Dfp:∀(o:Obj),∀p∈[(s₂.heap.objs.size,o)],∀b∈fp,p.1≠b:=fun o p hp b hb e=>by
  have e1:p=(s₂.heap.objs.size,o):=by simpa using hp
  subst e1
  exact absurd (hlt b hb) (by rw [←e];exact Nat.lt_irrefl _)
 have loop:∀s₃:Shared,s₃={ s₂ with heap:=h₁,toks:=s₂.toks + ([]:List (Str × Value)).length } →
   codeAny (model X.prog X.w) X.A (.compLoop (.ListComp elt [⟨(.Tuple [.Name x px,.Name x2 px2,.Name x3 px3] pq pp),iter,ifs,0⟩] scope pos) 0 (.ref it) (.ref s₂.heap.objs.size) (compEnvC scope (qc X.env.cells scope.names []) H2.objs.size X.env))
    (RR (.ref s₂.heap.objs.size) H2.objs.size) s₃:=by
  rintro s₃ rfl
  have I0:=uA K K2 hX hN hk I (tk:=s₂.toks + ([]:List (Str × Value)).length) hC (Nat.le_refl _) hDC hfp hlt old hns₁ hacc (fun v z=>by cases z)
  refine qe (fun n s'=>∃(i:Nat) (w1 w2 w9:Option V) (zs:List V) (its:List Value) (k:Nat) (H':Hp),Inv (cxC X (x::x2::x3::ys) scope H2.objs.size s₂ H₂ fp) [(s₂.heap.objs.size,{ cls:=.type "list",data:=.seq its.toArray k })] (yX is σ w1 w2 w9) H' s' ∧
   Vals zs its∧tn i s'.heap∧(∀b∈fp,H' b=none)∧W i n zs H') ?_ m0 ⟨0,none,none,none,[],[],0,H₂,I0,.nil,st₁,fun b hb=>(hfp b hb).1,w0⟩
  rintro n s3 ⟨i,w1,w2,w9,zs,its,k,H3,I3,rv,st3,fr3,w3⟩
  have hD3:=I3.pin _ (List.mem_append_right _ (List.mem_singleton.mpr rfl))
  rcases turn i n zs H3 w3 with ⟨stop,hz,q⟩ | ⟨go,hz,step⟩
  ·refine thn (T.done (cxC X (x::x2::x3::ys) scope H2.objs.size s₂ H₂ fp) rfl rfl rfl hc i _ s3 _ H3 _ I3 (fpC (Dfp _) fr3) st3 stop) fun r s4 ⟨hr,I4⟩=>?_
   subst hr
   have hD4:=I4.pin _ (List.mem_append_right _ (List.mem_singleton.mpr rfl))
   have I5:=jy I I4 (Nat.le_refl _) hD4.2.1 hfp hz rv hD4.1
   obtain ⟨m',hm',_⟩:=I4.loc
   refine fin _ _ s4 _ m' I5 ?_ hm' (q _ hD4.2.1)
   refine I.fpOk hC ?_
   rw [Zj (Ne.symm hDC)]
   exact I4.free
  ·refine thn (T.item (cxC X (x::x2::x3::ys) scope H2.objs.size s₂ H₂ fp) rfl rfl rfl hc i _ s3 _ H3 _ I3 (fpC (Dfp _) fr3) st3 go) fun r s4 ⟨u,hr,h4⟩=>?_
   subst hr
   refine thn h4 fun _ s5 ⟨xv,H5,I5,r5,y5,st5,fr5⟩=>?_
   have I5':=I5.pinned (fpC (Dfp _) fr5) (T.obj _ _ st5)
   have pg:PG (cxC X (x::x2::x3::ys) scope H2.objs.size s₂ H₂ fp) (.Tuple [.Name x px,.Name x2 px2,.Name x3 px3] pq pp) (gTup X.K 3 (yE (Jw 0) (yE (Jw 1) (yE (Jw 2) gNil)))):=Zai hc (J7 (Jx K2.nd rfl (.inl (lookup_relabel_local K.own)) (.inr (lookup_relabel_local K.own))) (J7 (Jx K2.nd rfl (.inl (lookup_relabel_local K2.own)) (.inr (lookup_relabel_local K2.own))) (J7 (Jx K2.nd rfl (.inl (lookup_relabel_local K2.own3)) (.inr (lookup_relabel_local K2.own3))) vI)))
   obtain ⟨av,v1,v2,v3,exv,sq5,stp⟩:=step xv H5 y5
   subst exv
   refine thn (pg _ s5 _ H5 (.ref av) u (fun σ2 H2=>σ2=yX is σ (some v1) (some v2) (some v3)∧H2=H5) I5' r5 ⟨av,[v1,v2,v3],rfl,sq5,rfl,_,_,rfl,_,_,rfl,_,_,rfl,rfl,rfl,rfl⟩) fun _ s6 ⟨σ6,H6,I6,e6,e6'⟩=>?_
   subst e6
   subst e6'
   have back:∀{s7:Shared} {H7:Hp},Inv (cxC X (x::x2::x3::ys) scope H2.objs.size s₂ H₂ fp) ([(s₂.heap.objs.size,{ cls:=.type "list",data:=.seq its.toArray k })]++GW fp s5.heap) (yX is σ (some v1) (some v2) (some v3)) H7 s7 →
     tn (i + 1) s7.heap∧(∀b∈fp,H7 b=none)∧s7.heap.get? s₂.heap.objs.size=some { cls:=.type "list",data:=.seq its.toArray k }∧H7 s₂.heap.objs.size=none:=fun {s7 H7} I7=>by
    refine ⟨T.keep _ _ _ st5 fun b hb o e=>(I7.pin (b,o) (List.mem_append_right _ (List.mem_append_right _ (Y5 hb e)))).1,fun b hb=>?_,?_,?_⟩
    ·obtain ⟨o,e,d⟩:=T.obj _ _ st5 b hb
     exact (I7.pin (b,o) (List.mem_append_right _ (List.mem_append_right _ (Y5 hb e)))).2.1
    ·exact (I7.pin (s₂.heap.objs.size,{ cls:=.type "list",data:=.seq its.toArray k }) (List.mem_append_right _ (List.mem_append_left _ (List.mem_singleton.mpr rfl)))).1
    ·exact (I7.pin (s₂.heap.objs.size,{ cls:=.type "list",data:=.seq its.toArray k }) (List.mem_append_right _ (List.mem_append_left _ (List.mem_singleton.mpr rfl)))).2.1
   refine thn ((hf _ _ _ _).out _ s6 _ H6 _ I6 stp) fun b s7 ⟨H7,I7,q7⟩=>?_
   cases b with
   | false =>
    have q7':∃m',m' < n∧W (i + 1) m' zs H7:=by simpa using q7
    obtain ⟨m',hm',w7⟩:=q7'
    obtain ⟨b1,b2,b3,b4⟩:=back I7
    rw [if_neg Bool.false_ne_true]
    exact ⟨m',hm',i + 1,some v1,some v2,some v3,zs,its,k,H7,I7.unpinned,rv,b1,b2,w7⟩
   | true =>
    rw [if_pos rfl]
    have q7':=q7
    rw [if_pos rfl] at q7'
    refine thn ((he _ _ _ _).out _ s7 _ H7 _ I7 q7') fun yv s8 ⟨y,H8,I8,r8,m',hm',w8⟩=>?_
    obtain ⟨b1,b2,b3,b4⟩:=back I8
    refine append_at b3 (fun h9 sb9 e9=>?_) (by rw [List.size_toArray,←rv.length];exact hz)
    have ok:=jH K K2 hX I hC hfp hlt
    have I8':Inv (cxC X (x::x2::x3::ys) scope H2.objs.size s₂ H₂ fp) [] (yX is σ (some v1) (some v2) (some v3)) H8 s8:=I8.pins_of fun p hp=>by cases hp
    have I9:Inv (cxC X (x::x2::x3::ys) scope H2.objs.size s₂ H₂ fp) [] (yX is σ (some v1) (some v2) (some v3)) H8 { s8 with heap:=h9 }:=I8'.turned (t':=s8.toks) (it:=s₂.heap.objs.size) (fun b o hb e=>(sb9.2 b hb).trans e) b4 hDC (.inr (Nat.le_refl _))
     (fun y c h z=>by
      obtain ⟨v,o,ho,_⟩:=I.cell y c (K.cl hX I.ok y c h)
      have:=Heap.lt_size ho
      rw [z] at this
      exact Nat.lt_irrefl _ this) (fun p hp=>by cases hp)
    refine ⟨m',hm',i + 1,some v1,some v2,some v3,zs++[y],its++[yv],k + 1,H8,?_,rv.append (.cons r8 .nil),T.keep _ _ _ b1 fun b hb o e=>(sb9.2 b fun z=>absurd (hlt b hb) (by rw [z];exact Nat.lt_irrefl _)).trans e,b2,w8⟩
    refine I9.pins_of fun p hp=>?_
    have e1:p=(s₂.heap.objs.size,{ cls:=.type "list",data:=.seq (its++[yv]).toArray (k + 1) }):=by simpa using hp
    subst e1
    refine ⟨by rw [e9,List.push_toArray],b4,hDC,fun z=>?_,fun v z=>by cases z⟩
    obtain ⟨_,o,ho,_⟩:=ok.funs.mem z
    exact absurd (Heap.lt_size ho) (Nat.lt_irrefl _)
 exact codeAny_compStart_list (loop _ rfl) (T.self _ 0 _ _ _ st₁ (loop _ rfl))
theorem uB(K:ZW S scope N x ys is)(K2:Thr scope x x2 x3 ys)(hi:QI X (.Tuple [.Name x px,.Name x2 px2,.Name x3 px3] pq pp) iter wi)(hf:∀C s₂ H₂ ex,QF (cxC X (x::x2::x3::ys) scope C s₂ H₂ ex) ifs tc)(he:∀C s₂ H₂ ex,QE (cxC X (x::x2::x3::ys) scope C s₂ H₂ ex) elt te)
  (hc:X.calm=true:=by rfl) (hX:X.env.scope=S:=by rfl) (hN:X.N=N:=by rfl) (hk:S.kind=.function:=by rfl) (hs:∀v,foldedSetIterable iter X.env v=pure v:=by intro _;rfl) :
  QE X (.ListComp elt [⟨(.Tuple [.Name x px,.Name x2 px2,.Name x3 px3] pq pp),iter,ifs,0⟩] scope pos) (tComp3 X.K wi is tc te):=by
 refine ⟨fun pins s σ H Q I h=>?_⟩
 rw [eval_ListComp]
 refine wpAny_comprehension_free (use:=none) rfl hs (XT (K.cellOf' hX I.ok)) K.kind K.names (thn (hi.out pins s σ H _ I h) fun v s1 h1=>thn h1 fun itv s2 h2=>?_)
 obtain ⟨it,fp,tn,J,H2,rfl,I2,T,st2,f2,W,⟨m0,w0⟩,turn⟩:=h2
 refine jI (RR:=fun acc C=>compPost (model X.prog X.w) X.A X.xe none (EP X pins σ Q) acc C) K K2 hX hN hk hc hf he I2 T st2 f2 w0 turn ?_
 intro D C s' H' m' I' fC hm' q
 obtain ⟨f0,f1,f3,f4,f5,f6⟩:=fC
 exact ⟨m',hm',fun h' hs'=>⟨.ref D,H',I'.turned (t':=s'.toks) (fun b o hb e=>(hs'.2 b hb).trans e) f0 f1 f4 f5 f6,rfl,q⟩⟩
end
end L2
namespace ZpT
open PySem PySem.Spec PyProof.Rows
noncomputable def ht3(h:Heap)(l1 l2 l3:Addr):Heap:=(hz2 false false h l1 l2).push (itO false l3)
noncomputable def ht4 (h:Heap) (l1 l2 l3:Addr):Heap:=(ht3 h l1 l2 l3).push { cls:=.type "tuple",data:=.seq #[.ref h.objs.size,.ref (hz1 false h l1).objs.size,.ref (hz2 false false h l1 l2).objs.size] }
noncomputable def ht5 (h:Heap) (l1 l2 l3:Addr):Heap:=(ht4 h l1 l2 l3).push { cls:=.type "tuple",data:=.seq #[.none,.none,.none] }
noncomputable def ht6(h:Heap)(l1 l2 l3:Addr):Heap:=(ht5 h l1 l2 l3).push (zO .none false (ht3 h l1 l2 l3).objs.size (ht4 h l1 l2 l3).objs.size)
theorem qV (a b c:Value):checkTypeCall "zip" ⟨[a,b,c],[]⟩=pure ():=by kernel_rfl
theorem xQ (a b c:Value):checkBuiltinCall "zip.__new__" ⟨[.type "zip",a,b,c],[]⟩=pure ():=by kernel_rfl
theorem JH (a b c d:Value):argsOk "object.__init__" ⟨[a,b,c,d],[]⟩:=by
 unfold argsOk;rw [signature?_of (id := "object.__init__") (n:=['_','_','t','i','n','i','_','_']) (o:=['t','c','e','j','b','o']) (by kernel_rfl) F.owner_object];kernel_rfl
theorem yY(l1 l2 l3:Addr)(xs ys zs:Array Value) :
  Meets (Builtin.«zip.__new__» ⟨[.type "zip",.ref l1,.ref l2,.ref l3],[]⟩) (fun _ R s=>SeqAt false s.heap l1 xs∧SeqAt false s.heap l2 ys∧SeqAt false s.heap l3 zs ∧
   R (.ok (.ret (.ref (ht5 s.heap l1 l2 l3).objs.size))) { s with heap:=ht6 s.heap l1 l2 l3 }) :=
 .of_wp fun prog w A R s h=>by
  obtain ⟨hp,g,d,tk,os⟩:=s;obtain ⟨hl1,hl2,hl3,h⟩:=h
  have hsub:=sub_zip
  have hL1:SeqAt false (Shared.heap ⟨hp,g,d,tk,os⟩) l1 xs:=hl1
  have hL2:SeqAt false (Shared.heap ⟨hp.push (itO false l1),g,d,tk,os⟩) l2 ys:=hl2.mv fun o e=>Heap.get?_push_of_some _ e
  have hL3:SeqAt false (Shared.heap ⟨(hp.push (itO false l1)).push (itO false l2),g,d,tk,os⟩) l3 zs:=hl3.mv fun o e=>Heap.get?_push_of_some _ (Heap.get?_push_of_some _ e)
  wp_walk using WD hL1,WD hL2,WD hL3
  exact ⟨_,rfl,h⟩
section
variable {prog:Program}{w:World}{A:Around}{E:Value→Shared→Prop}{s:Shared}
theorem next_item3{z TI TO i1 i2 i3 l1 l2 l3:Addr}{k:Nat}{xs ys zs:Array Value}{x y v:Value}{Q:Option Value→Shared→Prop}(D:Ap3 z TI TO i1 i2 i3)(D1:Of3 z TO i1 i2 i3 l1)(D2:Of3 z TO i1 i2 i3 l2)(D3:Of3 z TO i1 i2 i3 l3)
  (S:St3 z TI TO i1 i2 i3 l1 l2 l3 k s.heap) (q1:SeqAt false s.heap l1 xs) (q2:SeqAt false s.heap l2 ys) (q3:SeqAt false s.heap l3 zs) (hx:xs[k]?=some x) (hy:ys[k]?=some y) (hv:zs[k]?=some v)
  (hQ:∀h',St3 z TI TO i1 i2 i3 l1 l2 l3 (k + 1) h'→XC h' s.heap.objs.size x y v →
   (∀c o,c≠z→c≠TO→c≠i1→c≠i2→c≠i3→s.heap.get? c=some o→h'.get? c=some o)→Q (some (.ref s.heap.objs.size)) { s with heap:=h' }) :
  wpAny (model prog w) A (pyNext (.ref z)) Q E s:=by
 obtain ⟨f0,fb,hz,hf⟩:=S.z
 have hT:s.TypeIs (.ref z) "zip" := ⟨_,hz,rfl⟩
 unfold pyNext
 exact wpAny_bind (wpAny_attempt (wpAny_callSpecial?_slot (name:=Str.ofString "__next__") hT F.slot_zip_next
  (wpAny_call_entry F.slot_zip_next hT F.entry_zip_next (item3 D D1 D2 D3 S q1 q2 q3 hx hy hv fun h' a1 a2 a3=>wpAny_pure (hQ h' a1 a2 a3)) (F.args_zip_next_1 _))))
theorem next_end3{z TI TO i1 i2 i3 l1 l2 l3:Addr}{k:Nat}{xs:Array Value}{Q:Option Value→Shared→Prop}(hh:A.handled=none)(D:Ap3 z TI TO i1 i2 i3)(D1:Of3 z TO i1 i2 i3 l1)
  (S:St3 z TI TO i1 i2 i3 l1 l2 l3 k s.heap) (q1:SeqAt false s.heap l1 xs) (hx:xs[k]?=none)
  (hQ:∀h',(∀c o,c≠z→c≠TO→c≠i1→c≠i2→c≠i3→s.heap.get? c=some o→h'.get? c=some o)→Q none { s with heap:=h' }) :
  wpAny (model prog w) A (pyNext (.ref z)) Q E s:=by
 obtain ⟨f0,fb,hz,hf⟩:=id S.z
 have hT:s.TypeIs (.ref z) "zip" := ⟨_,hz,rfl⟩
 unfold pyNext
 refine wpAny_bind (wpAny_attempt (wpAny_callSpecial?_slot (name:=Str.ofString "__next__") hT F.slot_zip_next (wpAny_call_entry F.slot_zip_next hT F.entry_zip_next ?_ (F.args_zip_next_1 _))))
 refine fin3 hh D D1 S q1 hx fun h' e hk he=>?_
 obtain ⟨o,ho,hc⟩:=he
 exact wpAny_bind (wpAny_isInstance (T := "StopIteration") (b:=true) ⟨o,ho,hc⟩ isSubtype_stop (wpAny_pure (hQ _ hk)))
theorem call_new3{l1 l2 l3:Addr}{xs ys zs:Array Value}{Q:Value→Shared→Prop}(hl1:SeqAt false s.heap l1 xs)(hl2:SeqAt false s.heap l2 ys)(hl3:SeqAt false s.heap l3 zs)
  (h:∀h',St3 (s.heap.objs.size + 5) (s.heap.objs.size + 3) (s.heap.objs.size + 4) s.heap.objs.size (s.heap.objs.size + 1) (s.heap.objs.size + 2) l1 l2 l3 0 h'→(∀c o,s.heap.get? c=some o→h'.get? c=some o)→Q (.ref (s.heap.objs.size + 5)) { s with heap:=h' }) :
  wpAny (model prog w) A (call (.type "zip") [.ref l1,.ref l2,.ref l3]) Q E s:=by
 refine callType_new F.called_zip (by decide) (qV _ _ _) (xQ _ _ _) (fun obj=>JH obj _ _ _) F.entry_zip_new (yY l1 l2 l3 xs ys zs) ⟨hl1,hl2,hl3,?_⟩
 have z1:(hz1 false s.heap l1).objs.size=s.heap.objs.size + 1:=Heap.size_push ..
 have z2:(hz2 false false s.heap l1 l2).objs.size=s.heap.objs.size + 2:=by unfold hz2;rw [Heap.size_push,z1]
 have z3:(ht3 s.heap l1 l2 l3).objs.size=s.heap.objs.size + 3:=by unfold ht3;rw [Heap.size_push,z2]
 have z4:(ht4 s.heap l1 l2 l3).objs.size=s.heap.objs.size + 4:=by unfold ht4;rw [Heap.size_push,z3]
 have z5:(ht5 s.heap l1 l2 l3).objs.size=s.heap.objs.size + 5:=by unfold ht5;rw [Heap.size_push,z4]
 have g6:(ht6 s.heap l1 l2 l3).get? (ht5 s.heap l1 l2 l3).objs.size=some (zO .none false (ht3 s.heap l1 l2 l3).objs.size (ht4 s.heap l1 l2 l3).objs.size):=Heap.get?_push_size _ rfl
 have g5:(ht6 s.heap l1 l2 l3).get? (ht4 s.heap l1 l2 l3).objs.size=some { cls:=.type "tuple",data:=.seq #[.none,.none,.none] }:=Heap.get?_push_of_some _ (Heap.get?_push_size _ rfl)
 have g4:(ht6 s.heap l1 l2 l3).get? (ht3 s.heap l1 l2 l3).objs.size=some { cls:=.type "tuple",data:=.seq #[.ref s.heap.objs.size,.ref (hz1 false s.heap l1).objs.size,.ref (hz2 false false s.heap l1 l2).objs.size] }:=Heap.get?_push_of_some _ (Heap.get?_push_of_some _ (Heap.get?_push_size _ rfl))
 have g3:(ht6 s.heap l1 l2 l3).get? (hz2 false false s.heap l1 l2).objs.size=some (itO false l3):=Heap.get?_push_of_some _ (Heap.get?_push_of_some _ (Heap.get?_push_of_some _ (Heap.get?_push_size _ rfl)))
 have g2:(ht6 s.heap l1 l2 l3).get? (hz1 false s.heap l1).objs.size=some (itO false l2):=Heap.get?_push_of_some _ (Heap.get?_push_of_some _ (Heap.get?_push_of_some _ (Heap.get?_push_of_some _ (Heap.get?_push_size _ rfl))))
 have g1:(ht6 s.heap l1 l2 l3).get? s.heap.objs.size=some (itO false l1):=Heap.get?_push_of_some _ (Heap.get?_push_of_some _ (Heap.get?_push_of_some _ (Heap.get?_push_of_some _ (Heap.get?_push_of_some _ (Heap.get?_push_size _ rfl)))))
 show _∧_
 rw [z3,z4,z5] at g6
 rw [z4] at g5
 rw [z1,z2,z3] at g4
 rw [z2] at g3
 rw [z1] at g2
 rw [z5]
 exact ⟨⟨_,g6,rfl⟩,h _ ⟨⟨_,_,g6,.inl rfl⟩,g4,⟨_,_,_,g5⟩,JF g1,JF g2,JF g3⟩ fun c o x =>
  Heap.get?_push_of_some _ (Heap.get?_push_of_some _ (Heap.get?_push_of_some _ (Heap.get?_push_of_some _ (Heap.get?_push_of_some _ (Heap.get?_push_of_some _ x)))))⟩
theorem St3.other{z TI TO i1 i2 i3 l1 l2 l3:Addr}{k:Nat}{h h':Heap}(D:Ap3 z TI TO i1 i2 i3)(S:St3 z TI TO i1 i2 i3 l1 l2 l3 k h){f0:Value}{fb:Bool}(hz:h'.get? z=some (zO f0 fb TI TO))(hf:F0 f0)(hs:Heap.SameBut z h h'):St3 z TI TO i1 i2 i3 l1 l2 l3 k h' :=
 ⟨⟨f0,fb,hz,hf⟩,hs.extBut _ _ D.TIz S.I,(let ⟨a,b,c,e⟩:=S.O;⟨a,b,c,hs.extBut _ _ D.TOz e⟩),S.n1.mv fun o e=>hs.extBut _ _ D.i1z e,S.n2.mv fun o e=>hs.extBut _ _ D.i2z e,S.n3.mv fun o e=>hs.extBut _ _ D.i3z e⟩
theorem go_any3{z TI TO i1 i2 i3 l1 l2 l3 T:Addr}{k:Nat}{tg:Expr}{Q:Unit→Shared→Prop}(D:Ap3 z TI TO i1 i2 i3)(S:St3 z TI TO i1 i2 i3 l1 l2 l3 k s.heap)
  (h:∀h',St3 z TI TO i1 i2 i3 l1 l2 l3 k h'→Heap.SameBut z s.heap h'→Q () { s with heap:=h' }):wpAny (model prog w) A (letOwnedTupleGo tg (.ref z) (.ref T)) Q E s:=by
 have q0:Q () s:=h s.heap S ⟨rfl,fun _ _=>rfl⟩
 obtain ⟨f0,fb,hz,hf⟩:=id S.z
 have tup:wpAny (model prog w) A (do
   let o ←load z
   match o.cls,o.data with
   | .type n,.fields vs =>
    if ["enumerate","zip","dict_itemiterator","dict_reverseitemiterator","odict_iterator","itertools.zip_longest","itertools.pairwise"].contains n && vs[0]? == some (rawInt T) then
     rule "for.unpacks-the-owned-tuple"
     updateField z 0 .none
   | _,_=>pure ()) Q E s:=by
  refine wpAny_bind (wpAny_load hz ?_)
  show wpAny _ _ (if (["enumerate","zip","dict_itemiterator","dict_reverseitemiterator","odict_iterator","itertools.zip_longest","itertools.pairwise"].contains "zip" && (#[f0,.bool fb,.bool false,.ref TI,.ref TO]:Array Value)[0]? == some (rawInt T))=true then _ else _) Q E s
  split
  ·refine wpAny_bind (wpAny_rule ?_)
   show wpAny _ _ (setField (.ref z) 0 .none) Q E s
   exact wpAny_setField_rec hz (by simp) fun h' hz' hs'=>h h' (S.other D (f0:=.none) hz' (.inl rfl) hs') hs'
  ·exact wpAny_pure q0
 unfold letOwnedTupleGo
 cases tg <;> first
  | exact tup
  | exact wpAny_pure q0
end
end ZpT
namespace L2
open PySem PySem.Spec PyProof.Rows
open ZpT (St3 Ap3 Of3 SeqAt ZM)
noncomputable def Itz3(K:PySem.W.Frag)(a1 a2 a3:Addr):It :=
  ⟨fun i H=>∃xs ys vs x y v,SqL K H a1 xs∧SqL K H a2 ys∧SqL K H a3 vs∧xs[i]?=some x∧ys[i]?=some y∧vs[i]?=some v,
   fun i H v H'=>∃p,H p=none∧v=.ref p∧∀xs ys vs x y v,SqL K H a1 xs→SqL K H a2 ys→SqL K H a3 vs→xs[i]?=some x→ys[i]?=some y→vs[i]?=some v→H'=upd H p (.tup [x,y,v]),
   fun i H=>∃xs,SqL K H a1 xs∧xs.length≤i⟩
theorem Inv.sqL{X:Cx}{pins:List (Addr × Obj)}{σ:L2.St}{H:Hp}{s:Shared}{a:Addr}{xs:List V}(I:Inv X pins σ H s)(h:SqL X.K H a xs):∃its:List Value,Vals xs its∧SeqAt false s.heap a its.toArray∧xs.length≤sizeLine:=by
 obtain ⟨its,rv,p,hz⟩:=I.list h
 obtain ⟨o,n,e,hc,_,hd⟩:=p
 exact ⟨its,rv,(show s.heap.IsList a its.toArray from ⟨o,e,hc,n,hd⟩),hz⟩
theorem w5{P:Program}{w:World}{K:PySem.W.Frag}{tg:Expr}{z TI TO i1 i2 i3 a1 a2 a3:Addr}(D:Ap3 z TI TO i1 i2 i3)(D1:Of3 z TO i1 i2 i3 a1)(D2:Of3 z TO i1 i2 i3 a2)(D3:Of3 z TO i1 i2 i3 a3) :
  Turn P w K tg (Itz3 K a1 a2 a3) [z,TI,TO,i1,i2,i3] z (fun i h=>ZpT.St3 z TI TO i1 i2 i3 a1 a2 a3 i h) where
 mem:=by simp
 obj:=fun i h st b hb=>by
  obtain ⟨⟨f0,fb,hz,hf⟩,hTI,⟨x,y,v,hTO⟩,n1,n2,n3⟩:=st
  simp only [List.mem_cons,List.not_mem_nil,or_false] at hb
  rcases hb with rfl | rfl | rfl | rfl | rfl | rfl
  ·exact ⟨_,hz,fun v q=>by
    have q':Data.fields _=Data.cell v:=q
    cases q'⟩
  ·exact ⟨_,hTI,fun v q=>by
    have q':Data.seq _ _=Data.cell v:=q
    cases q'⟩
  ·exact ⟨_,hTO,fun v q=>by
    have q':Data.seq _ _=Data.cell v:=q
    cases q'⟩
  ·exact n1.ob
  ·exact n2.ob
  ·exact n3.ob
 keep:=fun i h h' st k=>by
  obtain ⟨⟨f0,fb,hz,hf⟩,hTI,⟨x,y,v,hTO⟩,n1,n2,n3⟩:=st
  exact ⟨⟨f0,fb,k z (by simp) _ hz,hf⟩,k TI (by simp) _ hTI,⟨x,y,v,k TO (by simp) _ hTO⟩,n1.mv fun o e=>k i1 (by simp) o e,n2.mv fun o e=>k i2 (by simp) o e,n3.mv fun o e=>k i3 (by simp) o e⟩
 item:=by
  intro X hP hw hK hc i pins s σ H E I hf st hg
  subst hP hw hK
  obtain ⟨xs,ys,vs,x,y,v,q1,q2,q3,hx,hy,hv⟩:=hg
  obtain ⟨its1,r1,p1,z1⟩:=I.sqL q1
  obtain ⟨its2,r2,p2,z2⟩:=I.sqL q2
  obtain ⟨its3,r3,p3,z3⟩:=I.sqL q3
  obtain ⟨u1,hu1,ru1⟩:=r1.get hx
  obtain ⟨u2,hu2,ru2⟩:=r2.get hy
  obtain ⟨u3,hu3,ru3⟩:=r3.get hv
  have olt:∀b∈[z,TI,TO,i1,i2,i3],b < s.heap.objs.size:=fun b hb=>by
   obtain ⟨⟨f0,fb,hz,hf⟩,hTI,⟨x,y,v,hTO⟩,n1,n2,n3⟩:=st
   simp only [List.mem_cons,List.not_mem_nil,or_false] at hb
   rcases hb with rfl | rfl | rfl | rfl | rfl | rfl
   ·exact Heap.lt_size hz
   ·exact Heap.lt_size hTI
   ·exact Heap.lt_size hTO
   ·obtain ⟨o,ho,_⟩:=n1.ob
    exact Heap.lt_size ho
   ·obtain ⟨o,ho,_⟩:=n2.ob
    exact Heap.lt_size ho
   ·obtain ⟨o,ho,_⟩:=n3.ob
    exact Heap.lt_size ho
  refine ZpT.next_item3 D D1 D2 D3 st p1 p2 p3 (x:=u1) (y:=u2) (v:=u3) (by simpa using hu1) (by simpa using hu2) (by simpa using hu3) fun h' st' hT hk=>?_
  refine ⟨_,rfl,ZpT.go_any3 (s:={ s with heap:=h' }) D st' fun h2 st2 hs2=>?_⟩
  have hs2':Heap.SameBut z h' h2:=hs2
  have I1:Inv X pins σ (upd H s.heap.objs.size (.tup [x,y,v])) { s with heap:=s.heap.push { cls:=.type "tuple",data:=.seq #[u1,u2,u3] },toks:=s.toks } :=
   I.laid (fun b o y=>Heap.get?_push_of_some _ y) (Nat.le_refl _) ⟨by show 3≤sizeLine;decide,[u1,u2,u3],.cons ru1 (.cons ru2 (.cons ru3 .nil)),IsTup.new _ _⟩
  have fp':∀b∈[z,TI,TO,i1,i2,i3],Gm X pins (upd H s.heap.objs.size (.tup [x,y,v])) b:=fun b hb=>by
   obtain ⟨a0,ar⟩:=hf b hb
   exact ⟨by rw [Zj (Nat.ne_of_lt (olt b hb))];exact a0,ar⟩
  have I2:Inv X pins σ (upd H s.heap.objs.size (.tup [x,y,v])) { s with heap:=h2,toks:=s.toks }:=by
   refine WV (s:={ s with heap:=s.heap.push { cls:=.type "tuple",data:=.seq #[u1,u2,u3] },toks:=s.toks }) I1 fp' fun b o hb q=>?_
   have hbz:b≠z:=fun e=>hb (by simp [e])
   rcases Heap.get?_push_cases q with ⟨rfl,rfl⟩ | q
   ·exact (hs2'.2 _ hbz).trans hT
   ·exact (hs2'.2 b hbz).trans (hk b o hbz (fun e=>hb (by simp [e])) (fun e=>hb (by simp [e])) (fun e=>hb (by simp [e])) (fun e=>hb (by simp [e])) q)
  refine ⟨.ref s.heap.objs.size,_,I2,rfl,⟨_,I.hok.fresh (Nat.le_refl _),rfl,fun xs' ys' vs' x' y' v' q1' q2' q3' hx' hy' hv'=>?_⟩,st2,fun b hb=>(fp' b hb).1⟩
  rw [I.list_inj q1' q1,hx] at hx'
  rw [I.list_inj q2' q2,hy] at hy'
  rw [I.list_inj q3' q3,hv] at hv'
  cases hx'
  cases hy'
  cases hv'
  rfl
 done:=by
  intro X hP hw hK hc i pins s σ H E I hf st hg
  subst hP hw hK
  obtain ⟨xs,q1,hx⟩:=hg
  obtain ⟨its1,r1,p1,z1⟩:=I.sqL q1
  have e1:=r1.length
  refine ZpT.next_end3 (I.ok.hd hc) D D1 st p1 (by simp;lia) fun h' hk=>⟨rfl,?_⟩
  exact WV (t':=s.toks) I hf fun b o hb q=>hk b o (fun e=>hb (by simp [e])) (fun e=>hb (by simp [e])) (fun e=>hb (by simp [e])) (fun e=>hb (by simp [e])) (fun e=>hb (by simp [e])) q
 self:=fun _ _ _ _ _ st h=>let ⟨_,_,hz,_⟩:=st.z;ZpT.iter_self hz h
noncomputable def zfp3(n:Nat):List Addr:=[n + 5,n + 3,n + 4,n,n + 1,n + 2]
theorem zap3(n:Nat):Ap3 (n + 5) (n + 3) (n + 4) n (n + 1) (n + 2):=by constructor <;> (show @Ne Nat _ _;lia)
theorem zof3{n l:Nat}(h:l < n):Of3 (n + 5) (n + 4) n (n + 1) (n + 2) l:=by constructor <;> (show @Ne Nat _ _;lia)
section
variable {X:Cx}{e1 e2 e3:Expr}{t:TA}{p pos:Pos}
theorem yZ{a b c:V}{us:List Value}(h:Vals [a,b,c] us):∃u v x,us=[u,v,x]∧RelV a u∧RelV b v∧RelV c x:=by
 cases h with
 | cons r h=>cases h with
  | cons r2 h=>cases h with
   | cons r3 h=>cases h;exact ⟨_,_,_,rfl,r,r2,r3⟩
inductive w6(K:PySem.W.Frag)(R:It→Hp→Prop)(vs:List V)(H1:Hp):Prop
 | mk (a1 a2 a3 xs ys zs):(vs=[.ref a1,.ref a2,.ref a3])→(SqL K H1 a1 xs)→(SqL K H1 a2 ys)→(SqL K H1 a3 zs)→(R (Itz3 K a1 a2 a3) H1)→w6 K R vs H1
noncomputable def iZip3(K:PySem.W.Frag)(t:TA):TI:=fun σ H R=>t σ H fun vs H1=>w6 K R vs H1
theorem Zc3 {tg:Expr} (hg:Gl X "zip") (hm:X.mg "zip" = none) (ha:QA X [e1,e2,e3] t) (hp:[e1,e2,e3].all Yp=true:=by rfl):QI X tg (.Call (.Name "zip" p) [e1,e2,e3] [] pos) (iZip3 X.K t):=by
 refine ⟨fun pins s σ H R I h=>?_⟩
 rw [List.all_cons,Bool.and_eq_true] at hp
 refine wpAny_Call_Name_kw (GV I hg hm Za8 ?_)
 refine PyProof.Rows.callWith_type1 (thn (ha.out pos pins s σ H _ I h) fun us s1 ⟨vs,H1,I1,r1,q1⟩=>?_) (Zz hp.1) (Xx hp.2)
 obtain ⟨a1,a2,a3,xs,ys,zs,rfl,q1,q2,q3,r⟩:=q1
 obtain ⟨u1,u2,u3,rfl,ru1,ru2,ru3⟩:=yZ r1
 cases ru1
 cases ru2
 cases ru3
 obtain ⟨its1,v1,p1,z1⟩:=I1.sqL q1
 obtain ⟨its2,v2,p2,z2⟩:=I1.sqL q2
 obtain ⟨its3,v3,p3,z3⟩:=I1.sqL q3
 refine ZpT.call_new3 p1 p2 p3 fun h' st hk=>?_
 have hf:∀b∈zfp3 s1.heap.objs.size,Gm X pins H1 b:=fun b hb=>by
  have hle:s1.heap.objs.size≤b:=by
   simp only [zfp3,List.mem_cons,List.not_mem_nil,or_false] at hb
   rcases hb with rfl | rfl | rfl | rfl | rfl | rfl
   ·exact Nat.le_add_right _ _
   ·exact Nat.le_add_right _ _
   ·exact Nat.le_add_right _ _
   ·exact Nat.le_refl _
   ·exact Nat.le_add_right _ _
   ·exact Nat.le_add_right _ _
  exact I1.fpOk hle (I1.hok.fresh hle)
 obtain ⟨f0,fb,hz,_⟩:=id st.z
 exact ZpT.iter_self hz ⟨s1.heap.objs.size + 5,zfp3 s1.heap.objs.size,_,_,H1,rfl,I1.kept (t':=s1.toks) hk,w5 (zap3 _) (zof3 (zM p1)) (zof3 (zM p2)) (zof3 (zM p3)),st,hf,r⟩
end
end L2
namespace L2
open PySem PySem.Spec PyProof.Rows
theorem WX{H:Hp}{a:Addr}{o:HO}(h:H a=none):ZU H (upd H a o):=fun b o' e=>by
 rw [Zj (fun z=>by rw [z,h] at e;cases e)]
 exact e
theorem vc{K:PySem.W.Frag}{a1 a2:Addr}{xs ys:List V}{is:List Nat}{te:TE}{σ:St}{H:Hp}{Q:VK}(f:Nat→V)(q1:H a1=some (.lst xs))(q2:H a2=some (.lst ys))(hl:ys.length=xs.length)(hz:xs.length≤sizeLine)
  (hs:∀i x y H' (R:VK),xs[i]?=some x→ys[i]?=some y→ZU H H'→(∀H2,ZU H' H2→R (f i) H2)→te (yT is σ (some x) (some y)) H' R)
  (hd:∀p H',H p=none→H' p=some (.lst ((List.range xs.length).map f))→ZU H H'→Q (.ref p) H') :
  Za9 K is kF te σ Q (Itz K false false a1 a2) H:=by
 refine ⟨fun i m zs H'=>m=xs.length - i∧i≤xs.length∧zs=(List.range i).map f∧ZU H H',⟨xs.length,by simp,Nat.zero_le _,rfl,ZU.refl _⟩,?_⟩
 rintro i m zs H' ⟨rfl,hi,rfl,s⟩
 have e1:=s _ _ q1
 have e2:=s _ _ q2
 have hzl:((List.range i).map f).length≤sizeLine:=by rw [List.length_map,List.length_range];lia
 by_cases hlt:i < xs.length
 ·have h1:xs[i]?=some xs[i]:=List.getElem?_eq_getElem hlt
  have h2:ys[i]?=some ys[i]:=List.getElem?_eq_getElem (by lia)
  refine .inr ⟨⟨xs,ys,_,_,SqL.of e1,SqL.of e2,h1,h2⟩,hzl,fun x H2 y=>?_⟩
  obtain ⟨c,hc,rfl,e⟩:=y
  rw [e xs ys _ _ (SqL.of e1) (SqL.of e2) h1 h2]
  refine ⟨c,_,_,rfl,SqT.of Zb,?_⟩
  unfold kF
  dsimp only
  rw [if_pos rfl]
  refine hs i _ _ _ _ h1 h2 (s.trans (WX hc)) fun H3 s3=>⟨xs.length - (i + 1),by lia,rfl,hlt,?_,(s.trans (WX hc)).trans s3⟩
  rw [List.range_succ,List.map_append]
  rfl
 ·have e:i=xs.length:=by lia
  subst e
  exact .inl ⟨⟨xs,ys,SqL.of e1,SqL.of e2,by lia⟩,hzl,fun p hp=>hd p _ (s.free hp) Zb (s.trans (WX hp))⟩
theorem vd{K:PySem.W.Frag}{a1 a2 a3:Addr}{xs ys vs:List V}{is:List Nat}{te:TE}{σ:St}{H:Hp}{Q:VK}(f:Nat→V)(q1:H a1=some (.lst xs))(q2:H a2=some (.lst ys))(q3:H a3=some (.lst vs))(hl:ys.length=xs.length)(hl3:vs.length=xs.length)(hz:xs.length≤sizeLine)
  (hs:∀i x y v H' (R:VK),xs[i]?=some x→ys[i]?=some y→vs[i]?=some v→ZU H H'→(∀H2,ZU H' H2→R (f i) H2)→te (yX is σ (some x) (some y) (some v)) H' R)
  (hd:∀p H',H p=none→H' p=some (.lst ((List.range xs.length).map f))→ZU H H'→Q (.ref p) H') :
  Zbd K is kF te σ Q (Itz3 K a1 a2 a3) H:=by
 refine ⟨fun i m zs H'=>m=xs.length - i∧i≤xs.length∧zs=(List.range i).map f∧ZU H H',⟨xs.length,by simp,Nat.zero_le _,rfl,ZU.refl _⟩,?_⟩
 rintro i m zs H' ⟨rfl,hi,rfl,s⟩
 have e1:=s _ _ q1
 have e2:=s _ _ q2
 have e3:=s _ _ q3
 have hzl:((List.range i).map f).length≤sizeLine:=by rw [List.length_map,List.length_range];lia
 by_cases hlt:i < xs.length
 ·have h1:xs[i]?=some xs[i]:=List.getElem?_eq_getElem hlt
  have h2:ys[i]?=some ys[i]:=List.getElem?_eq_getElem (by lia)
  have h3:vs[i]?=some vs[i]:=List.getElem?_eq_getElem (by lia)
  refine .inr ⟨⟨xs,ys,vs,_,_,_,SqL.of e1,SqL.of e2,SqL.of e3,h1,h2,h3⟩,hzl,fun x H2 y=>?_⟩
  obtain ⟨c,hc,rfl,e⟩:=y
  rw [e xs ys vs _ _ _ (SqL.of e1) (SqL.of e2) (SqL.of e3) h1 h2 h3]
  refine ⟨c,_,_,_,rfl,SqT.of Zb,?_⟩
  unfold kF
  dsimp only
  rw [if_pos rfl]
  refine hs i _ _ _ _ _ h1 h2 h3 (s.trans (WX hc)) fun H3 s3=>⟨xs.length - (i + 1),by lia,rfl,hlt,?_,(s.trans (WX hc)).trans s3⟩
  rw [List.range_succ,List.map_append]
  rfl
 ·have e:i=xs.length:=by lia
  subst e
  exact .inl ⟨⟨xs,SqL.of e1,by lia⟩,hzl,fun p hp=>hd p _ (s.free hp) Zb (s.trans (WX hp))⟩
noncomputable def ltI:List Int→List Int→Bool
 | x::xs,y::ys=>if x=y then ltI xs ys else decide (x < y)
 | _,_=>false
theorem Jf:entryFor table "list.__eq__.loop" = some Builtin.«list.__eq__.loop»:=entryFor_of_tree (by kernel_rfl)
theorem YS:plainId "list.__eq__.loop" = true:=by decide +kernel
section
variable {prog:Program}{w:World}{A:Around}{s:Shared}
theorem XD{A:Around}{E:Value→Shared→Prop}{l:Addr}{o:Obj}{its:Array Value}{n:Nat}{Q:Array Value→Shared→Prop}(h:s.heap.get? l=some o)(d:o.data=.seq its n)(q:Q its s):wpAny (model prog w) A (Builtin.List.listItems (.ref l)) Q E s:=by
 unfold Builtin.List.listItems
 exact wpAny_bind (wpAny_seqItems h d (wpAny_pure q))
theorem Zc4{R:Result→Shared→Prop}{l b:Addr}{o1 o2:Obj}{xs ys:List Int}{its its2:Array Value}{n1 n2:Nat}(h1:s.heap.get? l=some o1)(d1:o1.data=.seq its n1)(h2:s.heap.get? b=some o2)(d2:o2.data=.seq its2 n2)
  (g1:∀(j:Nat) (x:Int),xs[j]?=some x→∃t,its[j]?=some (Value.int x t)) (g2:∀(j:Nat) (x:Int),ys[j]?=some x→∃t,its2[j]?=some (Value.int x t)) (z1:its.size=xs.length) (z2:its2.size=ys.length) (hl:xs.length=ys.length) :
  ∀k i,xs.length - i=k→i≤xs.length→R (.ok (.ret (.bool (ltI (xs.drop i) (ys.drop i))))) s→codeAny (model prog w) A (.builtin "list.__eq__.loop" ⟨[.ref l,.ref b,rawInt (i:Int),rawInt 0],[]⟩) R s:=by
 intro k
 induction k with
 | zero =>
  intro i hk hi hR
  have e:i=xs.length:=by lia
  subst e
  refine codeAny_builtin Jf ?_
  rw [Around.under_plainId YS _]
  show wpAny _ A.in1 (Builtin.List.listItems (.ref l) >>= _) _ _ s
  refine wpAny_bind (XD h1 d1 (wpAny_bind (XD h2 d2 ?_)))
  have e1:its[((xs.length:Nat):Int).toNat]?=none:=by rw [Int.toNat_natCast];simp [z1]
  rw [e1]
  dsimp only
  refine wpAny_bind (XD h1 d1 (wpAny_bind (XD h2 d2 (wpAny_pure ?_))))
  rw [List.drop_length] at hR
  rw [z1,z2,hl]
  have e2:Value.bool (decide (ys.length < ys.length))=Value.bool false:=by rw [decide_eq_false (Nat.lt_irrefl _)]
  show R (.ok (.ret (Value.bool (decide (ys.length < ys.length))))) s
  rw [e2]
  exact hR
 | succ k ih =>
  intro i hk hi hR
  have hi1:i < xs.length:=by lia
  have hi2:i < ys.length:=by lia
  obtain ⟨t1,e1⟩:=g1 i _ (List.getElem?_eq_getElem hi1)
  obtain ⟨t2,e2⟩:=g2 i _ (List.getElem?_eq_getElem hi2)
  rw [List.drop_eq_getElem_cons hi1,List.drop_eq_getElem_cons hi2] at hR
  refine codeAny_builtin Jf ?_
  rw [Around.under_plainId YS _]
  show wpAny _ A.in1 (Builtin.List.listItems (.ref l) >>= _) _ _ s
  refine wpAny_bind (XD h1 d1 (wpAny_bind (XD h2 d2 ?_)))
  have e1':its[((i:Nat):Int).toNat]?=some (.int xs[i] t1):=by rw [Int.toNat_natCast];exact e1
  have e2':its2[((i:Nat):Int).toNat]?=some (.int ys[i] t2):=by rw [Int.toNat_natCast];exact e2
  rw [e1',e2']
  dsimp only
  refine wpAny_bind (SeqAt.EqAt.int_int xs[i] t1 ys[i] t2 prog w _ _ ?_)
  by_cases hxy:xs[i]=ys[i]
  ·have hb:(xs[i] == ys[i])=true:=by rw [hxy];exact beq_self_eq_true _
   rw [hb,if_pos rfl]
   refine wpAny_pure ⟨plainId_quiet YS _,?_⟩
   have hR':R (.ok (.ret (.bool (ltI (xs.drop (i + 1)) (ys.drop (i + 1)))))) s:=by
    have e:ltI (xs[i]::xs.drop (i + 1)) (ys[i]::ys.drop (i + 1))=ltI (xs.drop (i + 1)) (ys.drop (i + 1)):=if_pos hxy
    rw [e] at hR
    exact hR
   have:=ih (i + 1) (by lia) hi1 hR'
   rw [show ((i + 1:Nat):Int)=(i:Int) + 1 by lia] at this
   exact this
  ·have hb:(xs[i] == ys[i])=false:=beq_eq_false_iff_ne.mpr hxy
   rw [hb,if_neg (by decide)]
   refine wpAny_bind (XD h1 d1 (wpAny_bind (XD h2 d2 ?_)))
   rw [e1',e2']
   dsimp only
   refine wpAny_bind ?_
   show wpAny _ _ (compareOp .Lt (.int xs[i] t1) (.int ys[i] t2)) _ _ s
   refine lt_int (wpAny_pure ?_)
   have e:ltI (xs[i]::xs.drop (i + 1)) (ys[i]::ys.drop (i + 1))=decide (xs[i] < ys[i]):=if_neg hxy
   rw [e] at hR
   exact hR
theorem uC (l b:Addr) (o1 o2:Obj) (xs ys:List Int) (its its2:Array Value) (n1 n2:Nat):Meets (Builtin.«list.__lt__» ⟨[.ref l,.ref b],[]⟩) (fun A R s=>s.heap.get? l=some o1∧o1.data=.seq its n1∧s.heap.get? b=some o2∧o2.data=.seq its2 n2∧o2.cls=.type "list" ∧
  (∀(j:Nat) (x:Int),xs[j]?=some x→∃t,its[j]?=some (Value.int x t))∧(∀(j:Nat) (x:Int),ys[j]?=some x→∃t,its2[j]?=some (Value.int x t))∧its.size=xs.length∧its2.size=ys.length∧xs.length=ys.length∧R (.ok (.ret (.bool (ltI xs ys)))) s):=by
 intro prog w A R s ⟨h1,d1,h2,d2,c2,g1,g2,z1,z2,hl,hR⟩
 unfold Builtin.«list.__lt__»
 refine wpAny_bind (wpAny_of_eq (a:=(Value.ref l,[Value.ref b])) rfl ?_)
 try dsimp only
 refine wpAny_bind (wpAny_isInstance (T := "list") (b:=true) ⟨o2,h2,c2⟩ (by rw [isSubtype_type];kernel_rfl) ?_)
 simp only [Bool.not_true,Bool.false_eq_true,if_false]
 have he:((CmpOp.Lt == CmpOp.Eq) || (CmpOp.Lt == CmpOp.NotEq))=false:=by decide
 rw [he]
 simp only [Bool.false_eq_true,if_false]
 refine wpAny_pure ⟨plainId_quiet YS _,?_⟩
 exact Zc4 h1 d1 h2 d2 g1 g2 z1 z2 hl _ 0 rfl (Nat.zero_le _) hR
end
section
variable {X:Cx}
inductive Zbe(x:V)(y:V)(H:Hp)(Q:VK):Prop
 | mk (a c xs ys):(x=.ref a)→(y=.ref c)→(H a=some (.lst (xs.map V.int)))→(H c=some (.lst (ys.map V.int)))→(xs.length=ys.length)→(Q (.bl (ltI xs ys)) H)→Zbe x y H Q
noncomputable def rLtL  : R2:=fun x y H Q=>Zbe x y H Q
theorem wA{xs:List Int}{its:List Value}(r:Vals (xs.map V.int) its):∀(j:Nat) (x:Int),xs[j]?=some x→∃t,its.toArray[j]?=some (Value.int x t):=by
 intro j x hx
 obtain ⟨u,hu,ru⟩:=r.get (i:=j) (x:=.int x) (by rw [List.getElem?_map,hx];rfl)
 obtain ⟨t,rfl⟩:=ru
 exact ⟨t,by rw [List.getElem?_toArray];exact hu⟩
theorem wB(hu:X.A.units < cLine):OpR X (compareOp .Lt) rLtL:=by
 intro pins s σ H x y v u Q I rx ry h
 obtain ⟨a,c,xs,ys,rfl,rfl,ha,hc,hl,q⟩:=h
 cases rx
 cases ry
 obtain ⟨_,its,n,r,hl1,e⟩:=I.lstM ha
 obtain ⟨_,its2,n2,r2,hl2,e2⟩:=I.lstM hc
 rw [List.length_map] at hl1 hl2
 show wpAny _ _ (richCompare .Lt (.ref a) (.ref c)) _ _ s
 refine richCompare_meets_room (T := "list") ⟨_,e,rfl⟩ ⟨_,e2,rfl⟩ F.slot_list_lt F.entry_list_lt (F.args_list_lt_2 _ _) (uC a c _ _ xs ys its.toArray its2.toArray n n2) ⟨e,rfl,e2,rfl,rfl,wA r,wA r2,by rw [List.size_toArray,hl1],by rw [List.size_toArray,hl2],hl,?_⟩ hu
 exact ⟨fun z=>Value.noConfusion z,ZE I q rfl⟩
end
end L2
namespace Lw
open PySem L2
noncomputable def top(i:Nat):Stmt:=PySem.Challenge.pw_everywidth_k11_holds.main.body.getD i (.Pass ⟨0,0,0,0⟩)
noncomputable abbrev Xm:Stmt:=top 1
noncomputable abbrev Yx:Stmt:=top 17
noncomputable abbrev ZX:Stmt:=top 18
noncomputable abbrev Yy:Stmt:=top 19
noncomputable abbrev ZY:Stmt:=top 20
noncomputable abbrev Yr:Stmt:=top 22
noncomputable abbrev Yi:Stmt:=top 30
noncomputable abbrev Yj:Stmt:=top 31
noncomputable abbrev WY:Stmt:=top 36
noncomputable abbrev ZL:Stmt:=top 37
noncomputable abbrev Xn:Stmt:=top 39
noncomputable abbrev Xo:Stmt:=top 40
noncomputable abbrev YH:Stmt:=top 41
noncomputable abbrev Xp:Stmt:=top 43
noncomputable abbrev Xq:Stmt:=top 50
noncomputable abbrev YI:Stmt:=top 51
noncomputable abbrev Y7:Stmt:=top 52
noncomputable abbrev ZD:Stmt:=top 53
noncomputable abbrev YJ:Stmt:=top 58
noncomputable abbrev Yz:Stmt:=clsDef (top 10) 0
noncomputable abbrev Xr:Stmt:=top 21
noncomputable abbrev XX:Stmt:=top 23
noncomputable abbrev Y8:Stmt:=top 29
noncomputable abbrev ZZ:Stmt:=top 35
noncomputable abbrev YK:Stmt:=top 42
noncomputable abbrev Ys:Stmt:=top 44
noncomputable abbrev Xs:Stmt:=top 45
noncomputable abbrev Xt:Stmt:=top 48
noncomputable abbrev Y9:Stmt:=top 54
noncomputable abbrev YA:Stmt:=top 57
noncomputable abbrev Yd:Stmt:=top 26
noncomputable abbrev ZQ:Stmt:=top 27
noncomputable abbrev Yk:Stmt:=top 34
noncomputable abbrev XY:Stmt:=top 46
noncomputable abbrev YL:Stmt:=top 55
noncomputable abbrev Xu:Stmt:=top 47
noncomputable abbrev YM:Stmt:=top 59
noncomputable abbrev YN:Stmt:=top 49
noncomputable abbrev WZ:Stmt:=top 25
noncomputable abbrev J3:Stmt:=top 33
noncomputable abbrev Y0:Stmt:=top 60
noncomputable abbrev Yt:Stmt:=top 61
noncomputable abbrev xR:Stmt:=top 62
noncomputable def xq:Pos:=⟨94,25,94,84⟩
noncomputable def xr:Str:=(("holds" : Str) ++ ".<locals>.") ++ "<lambda>"
theorem Zc{H:Hp}{p:Addr}{o:HO}(h:H p=none):ZU H (upd H p o):=fun b u e=>by rw [Zj (Zl e h)];exact e
noncomputable def Off(d c:Addr)(H H':Hp):Prop:=∀b o,H b=some o→b≠d→b≠c→H' b=some o
theorem Off.refl(d c:Addr)(H:Hp):Off d c H H:=fun _ _ h _ _=>h
theorem Off.trans{d c:Addr}{H H1 H2:Hp}(x:Off d c H H1)(y:Off d c H1 H2):Off d c H H2:=fun b o h h1 h2=>y b o (x b o h h1 h2) h1 h2
theorem ZO{H H':Hp}(d c:Addr)(x:ZU H H'):Off d c H H':=fun b o h _ _=>x b o h
theorem uD{d c:Addr}{H:Hp}{o:HO}:Off d c H (upd H d o):=fun b u e h1 _=>by rw [Zj h1];exact e
theorem uE{d c:Addr}{H:Hp}{o:HO}:Off d c H (upd H c o):=fun b u e _ h2=>by rw [Zj h2];exact e
structure Z0(H:Hp)(d c:Addr):Prop where
 ex:∃(n:Int) (cs:List Int),H d=some (.lst [.ref c,.int n])∧H c=some (.lst (cs.map V.int))∧1≤cs.length∧cs.length≤64
theorem Z0.ne{H:Hp}{d c:Addr}(D:Z0 H d c):d≠c:=by
 obtain ⟨n,cs,hd,hc,_,_⟩:=D.ex
 refine ZK hd hc ?_
 intro z
 injection z with z
 cases cs with
 | nil=>cases z
 | cons x r =>
  rw [List.map_cons] at z
  injection z with z1 _
  cases z1
theorem Z0.same{H H':Hp}{d c:Addr}(D:Z0 H d c)(s:ZU H H'):Z0 H' d c:=by
 obtain ⟨n,cs,hd,hc,h1,h2⟩:=D.ex
 exact ⟨n,cs,s _ _ hd,s _ _ hc,h1,h2⟩
theorem wC{w:Nat}(h:w≤60):(2:Int) ^ w < 2 ^ 64:=by
 have h1:(2:Nat) ^ w≤2 ^ 60:=Nat.pow_le_pow_right (by decide) h
 have h2:((2:Int) ^ w)=(((2:Nat) ^ w:Nat):Int):=by rw [Int.natCast_pow];rfl
 rw [h2]
 lia
theorem JI(w:Nat):(0:Int) < 2 ^ w:=by
 have h2:((2:Int) ^ w)=(((2:Nat) ^ w:Nat):Int):=by rw [Int.natCast_pow];rfl
 have:=Nat.two_pow_pos w
 rw [h2]
 lia
theorem pow_succ'(w:Nat):(2:Int) ^ (w + 1)=2 ^ w * 2:=Int.pow_succ 2 w
noncomputable def Zm(w:Nat)(r:Int):List Int:=(List.range w).map fun i=>r / 2 ^ i % 2
theorem Ja(w:Nat)(r:Int):Zm (w + 1) r=Zm w r++[r / 2 ^ w % 2]:=by
 unfold Zm
 rw [List.range_succ,List.map_append]
 rfl
theorem XZ(w:Nat)(r:Int):(Zm w r).length=w:=by
 unfold Zm
 rw [List.length_map,List.length_range]
theorem uF(r:Int)(i:Nat):r / 2 ^ i / 2=r / 2 ^ (i + 1):=by
 rw [pow_succ',Int.ediv_ediv_of_nonneg (Int.le_of_lt (JI i))]
theorem zT(w:Nat)(r:Int)(i:Nat)(h:i < w):((Zm w r).map V.int)[i]?=some (V.int (r / 2 ^ i % 2)):=by
 unfold Zm
 rw [List.getElem?_map,List.getElem?_map,List.getElem?_range h]
 rfl
theorem wD{t u:TS}{D:Ends}{r:VK}{b c:St→Hp→Prop}{σ:St}{H:Hp}(J:St→Hp→Prop)(h1:∀N:St→Hp→Prop,(∀σ H,J σ H→N σ H)→t { D with nx:=N } σ H)(h2:∀σ H,J σ H→u D σ H):({ nx:=ZT t u D,rt:=r,bk:=b,ct:=c }:Ends).nx σ H:=h1 _ h2
theorem YT{i:Nat}{v:V}{σ:St}{H:Hp}{Q:St→Hp→Prop}(h:Q (σ.set i (some v)) H):Jw i v σ H Q:=h
theorem xS{α:Type}{P:α→Prop}{l:List α}{y:α}(h:∀x∈l,P x)(hy:P y):∀x∈l++[y],P x:=by
 intro x hx
 rcases List.mem_append.mp hx with z | z
 ·exact h x z
 ·rw [List.mem_singleton.mp z]
  exact hy
theorem GQ{H H2:Hp}{p:Addr}{o:HO}(s:ZU H H2)(hp:H p=none):ZU H (upd H2 p o):=fun b u e=>by
 rw [Zj (Zl e hp)]
 exact s b u e
theorem Wr{ns:List Int}{z:Int}(j:Nat)(hz:z=(j:Int))(hj:j < ns.length):atI (ns.map V.int) z=some (.int (ns.getD j 0)):=by
 subst hz
 refine Yo ?_
 rw [List.getElem?_map,List.getElem?_eq_getElem hj,List.getD_eq_getElem?_getD,List.getElem?_eq_getElem hj]
 rfl
theorem wF{z:Str}{i:Int}(n:Nat)(hn:z.cps.toList.length=n)(h0:0≤i)(h1:i < (n:Int)):∃c,c∈z.cps.toList∧atI z.cps.toList i=some c:=by
 obtain ⟨j,rfl⟩:∃j:Nat,i=(j:Int):=⟨i.toNat,by lia⟩
 have hj:j < z.cps.toList.length:=by lia
 exact ⟨z.cps.toList[j],List.getElem_mem hj,Yo (List.getElem?_eq_getElem hj)⟩
theorem xT{ys:List Str}{i:Int}(h0:0≤i)(h1:i < (ys.length:Int)):∃y,y∈ys∧atI (ys.map V.str) i=some (.str y):=by
 obtain ⟨j,rfl⟩:∃j:Nat,i=(j:Int):=⟨i.toNat,by lia⟩
 have hj:j < ys.length:=by lia
 refine ⟨ys[j],List.getElem_mem hj,Yo ?_⟩
 rw [List.getElem?_map,List.getElem?_eq_getElem hj]
 rfl
noncomputable def fI(g:Int→V):V→V
 | .int x=>g x
 | v=>v
theorem map_fI(g:Int→V)(ns:List Int):(ns.map V.int).map (fI g)=ns.map g:=by
 rw [List.map_map]
 rfl
theorem Xy(a b:Str):(a++b).cps.toList=a.cps.toList++b.cps.toList:=by
 rw [PySem.Str.cps_append,Array.toList_append]
theorem len_signs(a:Str):a.length=a.cps.toList.length:=by
 unfold Str.length
 rw [Array.length_toList]
theorem xU{x:Str}{j:Nat}(h:j≤x.length):(Txt.slice x none (some (j:Int))).cps.toList=x.cps.toList.take j:=by
 have e:=beq_iff_eq.mp (PyProof.Rows.slice_closes_to (x:=x) (j:=(j:Int)) ⟨by lia,by rw [←len_signs];lia⟩)
 rw [e]
 simp
theorem xt{x:Str}{i:Nat}(h:i≤x.length):(Txt.slice x (some (i:Int)) none).cps.toList=x.cps.toList.drop i:=by
 rw [PyProof.Rows.slice_from_eq (b:=(x.length:Int)) (by lia) (by lia) rfl]
 simp only [Int.toNat_natCast]
 rw [List.take_of_length_le (by rw [List.length_drop,←len_signs];lia)]
theorem ve(sep:Str)(hs:sep.cps=#[]):∀ys:List Str,(Txt.join sep ys).cps.toList=(ys.map (·.cps.toList)).flatten:=by
 intro ys
 show (Builtin.Str.glued sep ys).cps.toList=_
 rw [StrLaws.glued_eq_join]
 induction ys with
 | nil=>rfl
 | cons x r ih =>
  cases r with
  | nil =>
   show x.cps.toList=_
   simp
  | cons y r =>
   show (x++sep++Str.join sep (y::r)).cps.toList=_
   rw [Xy,Xy,ih,hs]
   simp
theorem wG{ys:List Str}{P:Nat→Prop}(h:∀y∈ys,∃c,y=⟨#[c]⟩∧P c):(ys.map (·.cps.toList)).flatten.length=ys.length∧(∀c∈(ys.map (·.cps.toList)).flatten,P c)∧(ys.map (·.length)).sum=ys.length:=by
 induction ys with
 | nil=>exact ⟨rfl,fun c h=>absurd h (List.not_mem_nil),rfl⟩
 | cons y r ih =>
  obtain ⟨c,rfl,hc⟩:=h _ List.mem_cons_self
  obtain ⟨h1,h2,h3⟩:=ih fun z hz=>h z (List.mem_cons_of_mem _ hz)
  refine ⟨?_,?_,?_⟩
  ·rw [List.map_cons,List.flatten_cons,List.length_append,h1]
   show 1 + r.length=r.length + 1
   lia
  ·intro d hd
   rw [List.map_cons,List.flatten_cons] at hd
   rcases List.mem_append.mp hd with z | z
   ·have:d=c:=by simpa using z
    rw [this]
    exact hc
   ·exact h2 d z
  ·rw [List.map_cons,List.sum_cons,h3]
   show 1 + r.length=r.length + 1
   lia
noncomputable def G9:Str := "abcdefghijklmnopqrstuvwxyz"
noncomputable def Low(c:Nat):Prop:=c∈G9.cps.toList
noncomputable instance (c:Nat):Decidable (Low c):=inferInstanceAs (Decidable (c∈_))
noncomputable def Ye:List Str:=["not","neg","twice","low","and","or","odd","add","sub","pick","same","under","beneath","sign","nought","both","either","so","never","yes"]
noncomputable def NmL(y:Str):Prop:=(1≤y.length∧y.length≤8)∧∀c∈y.cps.toList,Low c
noncomputable instance (y:Str):Decidable (NmL y):=inferInstanceAs (Decidable (_∧_))
structure NmS(y:Str):Prop where
 l:NmL y
 k:y∉Ye
theorem Zc5:G9.cps.toList.length=26:=by decide +kernel
theorem GR:G9.length≤sizeLine:=by decide +kernel
theorem uG:∀y∈Ye,(1≤y.length∧y.length≤7)∧∀c∈y.cps.toList,Low c:=by decide +kernel
theorem yn{i:Int}(h0:0≤i)(h1:i < 26):∃c,Low c∧atI G9.cps.toList i=some c:=by
 obtain ⟨c,hc,e⟩:=wF (z:=G9) (i:=i) 26 Zc5 h0 h1
 exact ⟨c,hc,e⟩
theorem wH:∀c∈G9.cps.toList,∃i rest,Builtin.Str.occurrences G9 ⟨#[c]⟩ 0 G9.length 1=i::rest:=by
 have h:∀c∈G9.cps.toList,(Builtin.Str.occurrences G9 ⟨#[c]⟩ 0 G9.length 1).isEmpty=false:=by decide +kernel
 intro c hc
 have:=h c hc
 cases e:Builtin.Str.occurrences G9 ⟨#[c]⟩ 0 G9.length 1 with
 | nil=>rw [e] at this;cases this
 | cons i r=>exact ⟨i,r,rfl⟩
theorem qi(c:Nat):(⟨#[c]⟩:Str).length=1:=rfl
theorem vf{x:Str}(h:1≤x.length):Txt.slice x none (some (-1))=Txt.slice x none (some ((x.length - 1:Nat):Int)):=by
 unfold Txt.slice
 have e:Builtin.Str.strSliceIndices none (some (-1)) 1 x.length=Builtin.Str.strSliceIndices none (some ((x.length - 1:Nat):Int)) 1 x.length:=by
  unfold Builtin.Str.strSliceIndices
  have h1:((-1:Int) < 0):=by decide
  have h2:¬(((x.length - 1:Nat):Int) < 0):=by lia
  have h3:(-1:Int) + (x.length:Int)=((x.length - 1:Nat):Int):=by lia
  simp only [h1,h2,if_true,if_false,h3]
 rw [e]
theorem vg{B:Str}{j:Nat}{d:Nat}(hj:j < B.length){c:Nat}(hc:c∈(Txt.slice B none (some (j:Int))++⟨#[d]⟩++Txt.slice B (some ((j:Int) + 1)) none).cps.toList):c∈B.cps.toList∨c=d:=by
 rw [Xy,Xy,xU (by lia),show ((j:Int) + 1)=((j + 1:Nat):Int) by lia,xt (by lia)] at hc
 rcases List.mem_append.mp hc with z | z
 ·rcases List.mem_append.mp z with z | z
  ·exact .inl (List.mem_of_mem_take z)
  ·exact .inr (by simpa using z)
 ·exact .inl (List.mem_of_mem_drop z)
theorem vh{B:Str}{j:Nat}{d:Nat}(hj:j < B.length):(Txt.slice B none (some (j:Int))++⟨#[d]⟩++Txt.slice B (some ((j:Int) + 1)) none).length=B.length:=by
 rw [len_signs,Xy,Xy,xU (by lia),show ((j:Int) + 1)=((j + 1:Nat):Int) by lia,xt (by lia)]
 simp only [List.length_append,List.length_take,List.length_drop,←len_signs]
 show min j B.length + 1 + (B.length - (j + 1))=B.length
 lia
theorem NmL.cut{y:Str}(h:NmL y)(h8:y.length=8):NmL (Txt.slice y none (some (-1))):=by
 rw [vf (by lia)]
 have e:=xU (x:=y) (j:=y.length - 1) (by lia)
 refine ⟨?_,fun c hc=>h.2 c (by rw [e] at hc;exact List.mem_of_mem_take hc)⟩
 rw [len_signs,e,List.length_take,←len_signs]
 lia
theorem NmL.more{y:Str}(h:NmL y)(h7:y.length≤7){c:Nat}(hc:Low c):NmL (y++⟨#[c]⟩):=by
 have h1:=h.1
 refine ⟨by rw [Str.length_append,qi];lia,fun d hd=>?_⟩
 rw [Xy] at hd
 rcases List.mem_append.mp hd with z | z
 ·exact h.2 d z
 ·have:d=c:=by simpa using z
  rw [this]
  exact hc
theorem Y2(y:Str):∀ys:List Str,inV (.str y) (ys.map V.str)=decide (y∈ys)
 | []=>rfl
 | z::r=>by
  have e:inV (.str y) ((z::r).map V.str)=((z == y) || inV (.str y) (r.map V.str)):=rfl
  rw [e,Y2 y r]
  by_cases h:z=y
  ·rw [h,beq_self_eq_true,Bool.true_or]
   exact (decide_eq_true List.mem_cons_self).symm
  ·rw [beq_eq_false_iff_ne.mpr h,Bool.false_or]
   by_cases m:y∈r
   ·rw [decide_eq_true m,decide_eq_true (List.mem_cons_of_mem _ m)]
   ·rw [decide_eq_false m,decide_eq_false (fun z=>(List.mem_cons.mp z).elim (fun q=>h q.symm) m)]
theorem YY(ys:List Str):(ys.map V.str).all YC=true:=by
 rw [List.all_map]
 exact List.all_eq_true.mpr fun _ _=>rfl
noncomputable def JJ:List Str:=["qa","rb","sc","td"]
theorem yo:∀y∈JJ,NmL y∧y∉Ye:=by decide +kernel
theorem vi{ys:List Str}(h:ys.length≤2):∃y r,JJ.filter (fun y=>!decide (y∈ys))=y::r∧y∈JJ∧y∉ys:=by
 cases e:JJ.filter (fun y=>!decide (y∈ys)) with
 | cons y r =>
  have hm:y∈JJ.filter (fun y=>!decide (y∈ys)):=by rw [e];exact List.mem_cons_self
  rw [List.mem_filter] at hm
  exact ⟨y,r,rfl,hm.1,by simpa using hm.2⟩
 | nil =>
  exfalso
  have all:∀y∈JJ,y∈ys:=fun y hy=>by
   have:=List.filter_eq_nil_iff.mp e y hy
   simpa using this
  have h1:=all "qa" (by decide +kernel)
  have h2:=all "rb" (by decide +kernel)
  have h3:=all "sc" (by decide +kernel)
  have n1:("qa" : Str) ≠ "rb" := by decide +kernel
  have n2:("qa" : Str) ≠ "sc" := by decide +kernel
  have n3:("rb" : Str) ≠ "sc" := by decide +kernel
  match ys,h with
  | [],_=>cases h1
  | [a],_ =>
   simp only [List.mem_cons,List.not_mem_nil,or_false] at h1 h2
   exact n1 (h1.trans h2.symm)
  | [a,b],_ =>
   simp only [List.mem_cons,List.not_mem_nil,or_false] at h1 h2 h3
   rcases h1 with h1 | h1 <;> rcases h2 with h2 | h2 <;> rcases h3 with h3 | h3 <;> first
    | exact n1 (h1.trans h2.symm)
    | exact n2 (h1.trans h3.symm)
    | exact n3 (h2.trans h3.symm)
structure Nms(ys:List Str):Prop where
 l1:1≤ys.length
 l3:ys.length≤3
 nd:ys.Nodup
 ok:∀y∈ys,NmS y
theorem YO{H:Hp}{d c p:Addr}(D:Z0 H d c)(hp:H p=none):p≠d∧p≠c:=by
 obtain ⟨n,cs,hd,hc,_⟩:=D.ex
 exact ⟨(fun e=>by rw [←e,hp] at hd;cases hd),(fun e=>by rw [←e,hp] at hc;cases hc)⟩
theorem jJ{d c p:Addr}{H H2:Hp}{o:HO}(h:Off d c H H2)(hp:H p=none):Off d c H (upd H2 p o):=fun b u e h1 h2=>by
 rw [Zj (Zl e hp)]
 exact h b u e h1 h2
theorem XE{d c p:Addr}{H:Hp}{o:HO}(D:Z0 H d c)(h:p≠d∧p≠c):Z0 (upd H p o) d c:=by
 obtain ⟨n,cs,hd,hc,h1,h2⟩:=D.ex
 exact ⟨n,cs,by rw [Zj h.1.symm];exact hd,by rw [Zj h.2.symm];exact hc,h1,h2⟩
theorem Zc6{c:TT}{tb:TS}{D:Ends}{σ:St}{H:Hp}(Pv:St→Hp→Prop)(μ:St→Hp→Nat)(h0:Pv σ H)
  (hs:∀σ H,Pv σ H→c σ H fun b H1=>if b=true then ∃N:St→Hp→Prop,(∀σ' H',N σ' H'→∃m',m' < μ σ H∧m'=μ σ' H'∧Pv σ' H')∧tb { D with nx:=N,ct:=N,bk:=D.nx } σ H1 else D.nx σ H1):vJ c tb D σ H:=by
 refine ⟨fun m σ H=>m=μ σ H∧Pv σ H,⟨_,rfl,h0⟩,?_⟩
 rintro m σ H ⟨rfl,p⟩
 exact hs σ H p
noncomputable def Off3(d c hv:Addr)(H H':Hp):Prop:=∀b o,H b=some o→b≠d→b≠c→b≠hv→H' b=some o
theorem YQ{d c hv:Addr}{H H1 H2:Hp}(x:Off3 d c hv H H1)(y:Off d c H1 H2):Off3 d c hv H H2:=fun b o h h1 h2 h3=>y b o (x b o h h1 h2 h3) h1 h2
theorem yp{d c hv p:Addr}{H H2:Hp}{o:HO}(h:Off3 d c hv H H2)(hp:H p=none):Off3 d c hv H (upd H2 p o):=fun b u e h1 h2 h3=>by
 rw [Zj (Zl e hp)]
 exact h b u e h1 h2 h3
theorem Zc7{d c hv:Addr}{H H2:Hp}{o:HO}(h:Off3 d c hv H H2):Off3 d c hv H (upd H2 hv o):=fun b u e h1 h2 h3=>by
 rw [Zj h3]
 exact h b u e h1 h2 h3
theorem Xz{H:Hp}{d c p:Addr}{ys:List Str}(D:Z0 H d c)(hp:H p=some (.lst (ys.map V.str)))(h1:1≤ys.length):p≠d∧p≠c:=by
 obtain ⟨n,cs,hd,hc,c1,_⟩:=D.ex
 match ys,h1 with
 | y::r,_ =>
  constructor
  ·refine ZK hp hd ?_
   intro z
   injection z with z
   rw [List.map_cons] at z
   injection z with z _
   cases z
  ·refine ZK hp hc ?_
   intro z
   injection z with z
   match cs,c1 with
   | q::cs,_ =>
    rw [List.map_cons,List.map_cons] at z
    injection z with z _
    cases z
theorem yq{H:Hp}{d c p:Addr}{n:Int}(D:Z0 H d c)(hp:H p=some (.lst [.int n]))(hne:p≠c):p≠d∧p≠c:=by
 obtain ⟨m,cs,hd,hc,c1,_⟩:=D.ex
 exact ⟨ZK hp hd (by intro z;injection z with z;injection z with z _;cases z),hne⟩
noncomputable def xu(ys:List Str)(v:V):Prop:=(∃y∈ys,v=.str y)∨∃z:Int,v=.int z∧0≤z∧z < 1000
noncomputable def sumT:List (Str × Nat):=[("not",1),("neg",1),("twice",1),("low",1),("and",2),("or",2),("odd",2),("add",2),("sub",2),("pick",3)]
noncomputable def qj:List Str:=sumT.map (·.1)
noncomputable def ZN(y:Str):Nat:=((sumT.find? fun p=>decide (p.1=y)).map (·.2)).getD 0
noncomputable def Wx:V→Nat
 | .str y=>ZN y
 | _=>0
noncomputable def X0(ys:List Str)(v:V):Prop:=(∃y,v=.str y∧y∈qj)∨xu ys v
theorem xu.word{ys:List Str}{v:V}(h:xu ys v):X0 ys v:=.inr h
theorem GS:∀y∈qj,y∈Ye:=by decide +kernel
theorem Gs{y:Str}(h:y∉Ye):ZN y=0:=by
 unfold ZN
 have e:sumT.find? (fun p=>decide (p.1=y))=none:=by
  rw [List.find?_eq_none]
  intro p hp hq
  exact h (GS y (by rw [←of_decide_eq_true hq];exact List.mem_map_of_mem hp))
 rw [e]
 rfl
theorem xu.parts{ys:List Str}{v:V}(h:xu ys v)(N:Nms ys):Wx v=0:=by
 rcases h with ⟨y,hy,rfl⟩ | ⟨z,rfl,_⟩
 ·exact Gs (N.ok y hy).k
 ·rfl
inductive Pre:Nat→List V→Nat→Prop
 | nil {d:Nat}:Pre d [] d
 | cons {d e:Nat} {w:V} {r:List V}:0 < d→Pre (d - 1 + Wx w) r e→Pre d (w::r) e
theorem Pre.snoc{d e:Nat}{ws:List V}{w:V}(h:Pre d ws e)(he:0 < e):Pre d (ws++[w]) (e - 1 + Wx w):=by
 induction h with
 | nil=>exact .cons he .nil
 | cons hd _ ih=>exact .cons hd (ih he)
structure Zeg(ys:List Str)(ws:List V):Prop where
 pre:Pre 1 ws 0
 ok:∀w∈ws,X0 ys w
noncomputable def JK:List Str:=["pick","and","or","odd","add","sub","not","neg","twice","low",""]
noncomputable def xV:List Int:=[3,2,2,2,2,2,1,1,1,1,99]
noncomputable def wI:List Str:=["add","sub","neg","twice","low"]
theorem wJ {j:Nat} (hj:j < 11):atI (JK.map V.str) (j:Int)=some (.str (JK.getD j "")):=by
 refine Yo ?_
 rw [List.getElem?_map,List.getElem?_eq_getElem (show j < JK.length from hj),List.getD_eq_getElem?_getD,List.getElem?_eq_getElem (show j < JK.length from hj)]
 rfl
theorem wK{j:Nat}(hj:j < 11):atI (xV.map V.int) (j:Int)=some (.int (xV.getD j 0)):=Wr j rfl hj
theorem wL:∀j,j < 11→(JK.getD j "" = "" ∧ xV.getD j 0=99)∨∃m3:Nat,xV.getD j 0=(m3:Int)∧Wx (.str (JK.getD j ""))=m3∧JK.getD j "" ∈ qj∧m3≤3:=by
 have h:∀j,j < 11→(JK.getD j "" = "" ∧ xV.getD j 0=99)∨(xV.getD j 0=((ZN (JK.getD j ""):Nat):Int)∧JK.getD j "" ∈ qj∧ZN (JK.getD j "")≤3):=by decide +kernel
 intro j hj
 rcases h j hj with z | ⟨h1,h2,h3⟩
 ·exact .inl z
 ·exact .inr ⟨_,h1,rfl,h2,h3⟩
noncomputable def T1:List (Str × Int):=[("not",1),("neg",1),("twice",1),("low",1),("and",2),("or",2),("odd",2),("add",2),("sub",2),("pick",3)]
noncomputable def T2:List (Str × Int):=[("same",2),("under",2),("beneath",2),("sign",1),("nought",1)]
noncomputable def T3:List (Str × Int):=[("both",2),("either",2),("so",2),("never",1),("yes",0)]
noncomputable def Z9:List Str:=["same","under","beneath","sign","nought","both","either","so","never","yes"]
theorem Zbf(l:List (Str × Int))(y:Str):(Yw (kvsOf l) (.inr y)).isSome=decide (y∈l.map (·.1)):=by
 induction l with
 | nil=>rfl
 | cons p r ih =>
  by_cases h:p.1=y
  ·have e:Yw (kvsOf (p::r)) (.inr y)=some (.int p.2):=Yn (p:=((Sum.inr p.1:Key),V.int p.2)) (by rw [h])
   rw [e,List.map_cons,decide_eq_true (by rw [h];exact List.mem_cons_self)]
   rfl
  ·have e:Yw (kvsOf (p::r)) (.inr y)=Yw (kvsOf r) (.inr y):=Yc (p:=((Sum.inr p.1:Key),V.int p.2)) (fun z=>h (Sum.inr.inj z))
   rw [e,ih,List.map_cons]
   by_cases m:y∈r.map (·.1)
   ·rw [decide_eq_true m,decide_eq_true (List.mem_cons_of_mem _ m)]
   ·rw [decide_eq_false m,decide_eq_false (fun z=>(List.mem_cons.mp z).elim (fun q=>h q.symm) m)]
noncomputable def Ws:List (Str × Int)→Key→Int
 | [],_=>0
 | p::r,k=>if (Sum.inr p.1:Key)=k then p.2 else Ws r k
theorem kget(l:List (Str × Int))(k:Key):(Yw (kvsOf l) k).getD (.int 0)=.int (Ws l k):=by
 induction l with
 | nil=>rfl
 | cons p r ih =>
  unfold Ws
  by_cases h:(Sum.inr p.1:Key)=k
  ·have e:Yw (kvsOf (p::r)) k=some (.int p.2):=Yn (p:=((Sum.inr p.1:Key),V.int p.2)) h
   rw [e,if_pos h]
   rfl
  ·have e:Yw (kvsOf (p::r)) k=Yw (kvsOf r) k:=Yc (p:=((Sum.inr p.1:Key),V.int p.2)) h
   rw [e,ih,if_neg h]
theorem xW(l:List (Str × Int))(i:Int):Ws l (.inl i)=0:=by
 induction l with
 | nil=>rfl
 | cons p r ih =>
  unfold Ws
  rw [if_neg (fun z=>nomatch z),ih]
theorem qk{l:List (Str × Int)}{y:Str}(h:y∉l.map (·.1)):Ws l (.inr y)=0:=by
 induction l with
 | nil=>rfl
 | cons p r ih =>
  unfold Ws
  rw [List.map_cons] at h
  rw [if_neg (fun z=>h (by rw [←Sum.inr.inj z];exact List.mem_cons_self)),ih (fun z=>h (List.mem_cons_of_mem _ z))]
noncomputable def XF(k:Key):Int:=Ws T1 k + Ws T2 k + Ws T3 k
theorem tw1:T1.map (·.1)=qj:=by decide +kernel
theorem jK:∀y,y∈Ye↔y∈qj∨y∈Z9:=by
 intro y
 have e:Ye=qj++Z9:=by decide +kernel
 rw [e,List.mem_append]
theorem xX:(∀y∈T1.map (·.1),y∈Ye)∧(∀y∈T2.map (·.1),y∈Ye)∧∀y∈T3.map (·.1),y∈Ye:=by decide +kernel
noncomputable def keyOf:V→Key
 | .int i=>.inl i
 | .str y=>.inr y
 | _=>.inl 0
theorem Zc8(x:Str)(c:Nat):(!(Builtin.Str.occurrences x ⟨#[c]⟩ 0 x.length 1).isEmpty)=decide (c∈x.cps.toList):=by
 have h:=PyProof.Rows.in_closes (x:=x) (c:=c) rfl rfl
 rw [beq_iff_eq] at h
 rw [h]
 by_cases m:c∈x.cps.toList
 ·rw [decide_eq_true m,decide_eq_true ((PyProof.Rows.countIn_signs c _).mpr m)]
 ·rw [decide_eq_false m,decide_eq_false (fun z=>m ((PyProof.Rows.countIn_signs c _).mp z))]
noncomputable def xw(y sg:Str):Prop:=y.cps.toList≠[]∧∀c∈y.cps.toList,c∈sg.cps.toList
noncomputable instance (y sg:Str):Decidable (xw y sg):=inferInstanceAs (Decidable (_∧_))
theorem all_bs(l:List Nat)(p:Nat→Bool):(l.map p).all id=decide (∀c∈l,p c=true):=by
 rw [Bool.eq_iff_iff,List.all_eq_true,decide_eq_true_iff]
 constructor
 ·intro h c hc
  exact h _ (List.mem_map_of_mem hc)
 ·intro h b hb
  obtain ⟨c,hc,rfl⟩:=List.mem_map.mp hb
  exact h c hc
theorem ql {y:Str}:y.cps.toList=[]↔y=("" : Str):=by
 constructor
 ·intro h
  obtain ⟨a⟩:=y
  have:a=#[]:=by
   apply Array.toList_inj.mp
   simpa using h
  subst this
  decide +kernel
 ·rintro rfl
  decide +kernel
theorem uH:∀y∈qj,32∉y.cps.toList∧y.length≤5:=by decide +kernel
noncomputable def nmB:V→Bool
 | .str y=>decide (y∉Ye∧NmL y)
 | _=>false
noncomputable def strV:V→Str
 | .str y=>y
 | _ => ""
noncomputable def wM(w:V):Prop:=(∃y,w=.str y∧y.length≤1000)∨∃z,w=.int z
noncomputable def zU(ys:List Str)(w:V):Prop:=X0 ys w∨∃y,w=.str y∧y∈Z9
theorem vj:∀y∈Z9,32∉y.cps.toList∧y.length≤8:=by decide +kernel
theorem Zc9{ys:List Str}(N:Nms ys){w:V}(h:X0 ys w):wM w:=by
 rcases h with ⟨y,rfl,hy⟩ | ⟨y,hy,rfl⟩ | ⟨z,rfl,_⟩
 ·have:=(uH y hy).2
  exact .inl ⟨y,rfl,by lia⟩
 ·have:=(N.ok y hy).l.1.2
  exact .inl ⟨y,rfl,by lia⟩
 ·exact .inr ⟨z,rfl⟩
theorem uI{ys:List Str}(N:Nms ys){w:V}(h:zU ys w):wM w:=by
 rcases h with h | ⟨y,rfl,hy⟩
 ·exact Zc9 N h
 ·have:=(vj y hy).2
  exact .inl ⟨y,rfl,by lia⟩
theorem Wa:∀y∈Z9,y∈Ye:=by decide +kernel
noncomputable def WB(ys:List Str):Bool→V→Prop
 | true,w=>∃y,w=.str y∧y∈Z9
 | false,w=>X0 ys w
theorem WB.cw{ys:List Str}{b:Bool}{w:V}(h:WB ys b w):zU ys w:=by
 cases b with
 | true=>exact .inr h
 | false=>exact .inl h
noncomputable def GA(w:V):Nat:=(Ws T1 (keyOf w) + Ws T2 (keyOf w)).toNat
noncomputable def vy(w:V):Nat:=(Ws T3 (keyOf w)).toNat
noncomputable def nextK(w:V):List Bool:=List.replicate (GA w) false++List.replicate (vy w) true
inductive Jg(ys:List Str):List Bool→List V→List Bool→Prop
 | nil {ls:List Bool}:Jg ys ls [] ls
 | cons {ls e:List Bool} {b:Bool} {w:V} {r:List V}:WB ys b w→Jg ys (ls++nextK w) r e→Jg ys (ls++[b]) (w::r) e
theorem Jg.app{ys:List Str}{a b c:List Bool}{u v:List V}(h:Jg ys a u b)(g:Jg ys b v c):Jg ys a (u++v) c:=by
 induction h with
 | nil=>exact g
 | cons hw _ ih=>exact .cons hw (ih g)
theorem Jg.under{ys:List Str}{a b:List Bool}{u:List V}(p:List Bool)(h:Jg ys a u b):Jg ys (p++a) u (p++b):=by
 induction h with
 | nil=>exact .nil
 | cons hw _ ih =>
  rw [←List.append_assoc] at ih ⊢
  exact .cons hw ih
theorem Jg.words{ys:List Str}{a b:List Bool}{u:List V}(h:Jg ys a u b):∀w∈u,zU ys w:=by
 induction h with
 | nil=>exact fun _ h=>nomatch h
 | cons hw _ ih =>
  intro x hx
  rcases List.mem_cons.mp hx with rfl | hx
  ·exact hw.cw
  ·exact ih x hx
theorem jL{l:List (Str × Int)}(h:∀p∈l,0≤p.2∧p.2≤3)(k:Key):0≤Ws l k∧Ws l k≤3:=by
 induction l with
 | nil=>exact ⟨Int.le_refl _,(by decide:(0:Int)≤3)⟩
 | cons p r ih =>
  unfold Ws
  split
  ·exact h p List.mem_cons_self
  ·exact ih fun q hq=>h q (List.mem_cons_of_mem _ hq)
theorem uJ(k:Key):0≤Ws T1 k∧Ws T1 k≤3:=jL (by decide +kernel) k
theorem uK(k:Key):0≤Ws T2 k∧Ws T2 k≤3:=jL (by decide +kernel) k
theorem Zeh(k:Key):0≤Ws T3 k∧Ws T3 k≤3:=jL (by decide +kernel) k
theorem uL:∀y∈qj,GA (.str y)=ZN y∧vy (.str y)=0:=by decide +kernel
theorem JL{ys:List Str}(N:Nms ys){w:V}(h:X0 ys w):nextK w=List.replicate (Wx w) false:=by
 have hh:GA w=Wx w∧vy w=0:=by
  rcases h with ⟨y,rfl,hy⟩ | ⟨y,hy,rfl⟩ | ⟨z,rfl,_⟩
  ·exact uL y hy
  ·have hk:=(N.ok y hy).k
   have e1:=qk fun z=>hk (xX.1 y z)
   have e2:=qk fun z=>hk (xX.2.1 y z)
   have e3:=qk fun z=>hk (xX.2.2 y z)
   constructor
   ·show (Ws T1 (.inr y) + Ws T2 (.inr y)).toNat=ZN y
    rw [Gs hk,e1,e2]
    rfl
   ·show (Ws T3 (.inr y)).toNat=0
    rw [e3]
    rfl
  ·constructor
   ·show (Ws T1 (.inl z) + Ws T2 (.inl z)).toNat=0
    rw [xW,xW]
    rfl
   ·show (Ws T3 (.inl z)).toNat=0
    rw [xW]
    rfl
 unfold nextK
 rw [hh.1,hh.2,List.replicate_zero,List.append_nil]
theorem zV{ys:List Str}{w:V}(h:zU ys w):w=kV (keyOf w):=by
 rcases h with (⟨y,rfl,hy⟩ | ⟨y,hy,rfl⟩ | ⟨z,rfl,_⟩) | ⟨y,rfl,hy⟩ <;> rfl
theorem uM{ys:List Str}(N:Nms ys){d e:Nat}{ws:List V}(h:Pre d ws e)(ok:∀w∈ws,X0 ys w):Jg ys (List.replicate d false) ws (List.replicate e false):=by
 induction h with
 | nil=>exact .nil
 | @cons d e w r hd _ ih =>
  have hw:=ok w List.mem_cons_self
  have e1:List.replicate d false=List.replicate (d - 1) false++[false]:=by
   rw [←List.replicate_succ',Nat.sub_add_cancel hd]
  rw [e1]
  refine .cons (b:=false) hw ?_
  rw [JL N hw,List.replicate_append_replicate]
  exact ih fun x hx=>ok x (List.mem_cons_of_mem _ hx)
theorem Zeg.preK{ys:List Str}{ws:List V}(W:Zeg ys ws)(N:Nms ys):Jg ys [false] ws []:=uM N W.pre W.ok
noncomputable def ClaimW(ys:List Str)(ws:List V):Prop:=Jg ys [true] ws []
theorem Jg.ne{ys:List Str}{a:List Bool}{ws:List V}(h:Jg ys a ws [])(ha:a≠[]):ws≠[]:=by
 intro e
 subst e
 cases h
 exact ha rfl
theorem ClaimW.ne{ys:List Str}{ws:List V}(h:ClaimW ys ws):ws≠[]:=Jg.ne h (by simp)
theorem cw_one{ys:List Str}{y:Str}(hy:y∈Z9):Jg ys [true] [.str y] (nextK (.str y)):=Jg.cons (ls:=[]) (b:=true) ⟨y,rfl,hy⟩ .nil
noncomputable def xY:List Str:=["same","under","beneath","sign","nought","yes"]
noncomputable def xZ:List Int:=[2,2,2,1,1,0]
theorem wN:∀j,j < 6→xY.getD j "" ∈ Z9∧(0≤xZ.getD j 0∧xZ.getD j 0≤2)∧nextK (.str (xY.getD j ""))=List.replicate (xZ.getD j 0).toNat false:=by decide +kernel
noncomputable def wO:List Str:=["both","either","so"]
theorem zW:∀y∈wO,y∈Z9∧nextK (.str y)=[true,true]:=by decide +kernel
theorem xx:("never" : Str)∈Z9∧nextK (.str "never")=[true]:=by decide +kernel
theorem yr:("yes" : Str)∈Z9∧nextK (.str "yes")=[]:=by decide +kernel
theorem ClaimW.never {ys:List Str} {ws:List V} (h:ClaimW ys ws):ClaimW ys (.str "never" :: ws):=by
 refine Jg.cons (ls:=[]) (b:=true) ⟨_,rfl,xx.1⟩ ?_
 rw [xx.2]
 exact h
theorem ClaimW.yes {ys:List Str}:ClaimW ys [.str "yes"]:=by
 have:=cw_one (ys:=ys) yr.1
 rw [yr.2] at this
 exact this
theorem ClaimW.join{ys:List Str}{y:Str}(hy:y∈wO){us vs:List V}(h:ClaimW ys us)(g:ClaimW ys vs):ClaimW ys (.str y::(us++vs)):=by
 refine Jg.cons (ls:=[]) (b:=true) ⟨_,rfl,(zW y hy).1⟩ ?_
 rw [(zW y hy).2]
 exact (Jg.under [true] h).app g
theorem tup_ne{H:Hp}{d c t:Addr}{ws:List V}(D:Z0 H d c)(h:H t=some (.tup ws)):t≠d∧t≠c:=by
 obtain ⟨n,cs,hd,hc,_⟩:=D.ex
 exact ⟨ZK h hd (fun z=>nomatch z),ZK h hc (fun z=>nomatch z)⟩
theorem Y4{H H':Hp}{d c t:Addr}{ws:List V}(D:Z0 H d c)(h:H t=some (.tup ws))(o:Off d c H H'):H' t=some (.tup ws):=o _ _ h (tup_ne D h).1 (tup_ne D h).2
structure Dr(d c p hv:Addr)(ys:List Str)(H0 H:Hp):Prop where
 D:Z0 H d c
 p:H p=some (.lst (ys.map V.str))
 h:∃n:Int,H hv=some (.lst [.int n])
 o:Off3 d c hv H0 H
theorem Dr.tup{d c p hv:Addr}{ys:List Str}{H0 H H':Hp}(R:Dr d c p hv ys H0 H){t:Addr}{ws:List V}(h:H t=some (.tup ws))(R':Off3 d c hv H H'):H' t=some (.tup ws):=by
 obtain ⟨n,hn⟩:=R.h
 exact R' _ _ h (tup_ne R.D h).1 (tup_ne R.D h).2 (ZK h hn (fun z=>nomatch z))
theorem jM{H:Hp}{p hv:Addr}{ys:List Str}{n:Int}(h1:1≤ys.length)(hp:H p=some (.lst (ys.map V.str)))(hh:H hv=some (.lst [.int n])):p≠hv:=ZK hp hh (by
 intro z
 injection z with z
 match ys,h1 with
 | y::r,_ =>
  rw [List.map_cons] at z
  injection z with z _
  cases z)
theorem Dr.same{d c p hv:Addr}{ys:List Str}{H0 H H':Hp}(R:Dr d c p hv ys H0 H)(s:ZU H H'):Dr d c p hv ys H0 H':=by
 obtain ⟨n,hn⟩:=R.h
 exact ⟨R.D.same s,s _ _ R.p,⟨n,s _ _ hn⟩,YQ R.o (ZO d c s)⟩
theorem Dr.off{d c p hv:Addr}{ys:List Str}{H0 H H':Hp}(N:Nms ys)(hvc:hv≠c)(R:Dr d c p hv ys H0 H)(D':Z0 H' d c)(s:Off d c H H'):Dr d c p hv ys H0 H':=by
 obtain ⟨n,hn⟩:=R.h
 have pn:=Xz R.D R.p N.l1
 have hvn:=yq R.D hn hvc
 exact ⟨D',s _ _ R.p pn.1 pn.2,⟨n,s _ _ hn hvn.1 hvn.2⟩,YQ R.o s⟩
theorem uN{d c hv:Addr}{H H1 H2:Hp}(x:Off3 d c hv H H1)(y:Off3 d c hv H1 H2):Off3 d c hv H H2:=fun b o h h1 h2 h3=>y b o (x b o h h1 h2 h3) h1 h2 h3
theorem Dr.off3{d c p hv:Addr}{ys:List Str}{H0 H H':Hp}(N:Nms ys)(R:Dr d c p hv ys H0 H)(D':Z0 H' d c)(h':∃n:Int,H' hv=some (.lst [.int n]))(s:Off3 d c hv H H'):Dr d c p hv ys H0 H':=by
 obtain ⟨n,hn⟩:=R.h
 have pn:=Xz R.D R.p N.l1
 exact ⟨D',s _ _ R.p pn.1 pn.2 (jM N.l1 R.p hn),h',uN R.o s⟩
theorem Y1{K:PySem.W.Frag}{H:Hp}{a b:Addr}{xs ys:List V}{Q:VK}(ha:H a=some (.tup xs))(hb:H b=some (.tup ys))(hx:xs≠[])(hy:ys≠[])(hl:xs.length + ys.length≤1000)
  (k:∀t H',H' t=some (.tup (xs++ys))→ZU H H'→Q (.ref t) H'):Zd3 K (.ref a) (.ref b) H Q :=
 ⟨a,b,xs,ys,rfl,rfl,SqT.of ha,SqT.of hb,hx,Nat.le_of_lt (Zt hl),(fun z=>absurd z hy),fun _ p hp=>k p _ Zb (Zc hp)⟩
theorem Zeg.ne'{ys:List Str}{ws:List V}(h:Zeg ys ws):ws≠[]:=by
 intro e
 have:=h.pre
 rw [e] at this
 cases this
theorem Dr.self{d c p hv:Addr}{ys:List Str}{H0 H:Hp}(R:Dr d c p hv ys H0 H):Dr d c p hv ys H H:=⟨R.D,R.p,R.h,fun _ _ e _ _ _=>e⟩
noncomputable def npw(w:V):Nat:=(XF (keyOf w)).toNat
theorem qm(k:Key):0≤XF k∧XF k≤9:=by
 have h1:=uJ k
 have h2:=uK k
 have h3:=Zeh k
 unfold XF
 lia
theorem Jb(w:V):(nextK w).length=npw w:=by
 have h1:=uJ (keyOf w)
 have h2:=uK (keyOf w)
 have h3:=Zeh (keyOf w)
 unfold nextK npw GA vy XF
 rw [List.length_append,List.length_replicate,List.length_replicate]
 lia
theorem wQ{stk:List V}{i:Nat}(h:i < stk.length):(stk.drop i).reverse=(stk.drop (i + 1)).reverse++[stk[i]]:=by
 rw [List.drop_eq_getElem_cons h,List.reverse_cons]
theorem Wb(l:List V)(y:V):(l++[y])[(l++[y]).length - 1]?=some y:=by
 rw [List.length_append,show ([y]:List V).length=1 from rfl,Nat.add_sub_cancel,List.getElem?_append_right (Nat.le_refl _),Nat.sub_self]
 rfl
theorem Zbg{ws:List V}{i:Nat}{x:V}(h:ws.reverse[i]?=some x):i < ws.length∧ws[ws.length - 1 - i]?=some x:=by
 have hi:i < ws.length:=by
  have:=(List.getElem?_eq_some_iff.mp h).1
  rw [List.length_reverse] at this
  exact this
 refine ⟨hi,?_⟩
 rw [List.getElem?_reverse hi] at h
 exact h
noncomputable def LsAt(ys:List Str)(ws:List V)(ls:Nat→List Bool):Prop:=ls ws.length=[]∧∀i x,ws[i]?=some x→∃l0 b,ls i=l0++[b]∧WB ys b x∧ls (i + 1)=l0++nextK x
theorem Jg.at{ys:List Str}{a e:List Bool}{ws:List V}(h:Jg ys a ws e)(he:e=[]):∃ls,LsAt ys ws ls∧ls 0=a:=by
 induction h with
 | @nil ls =>
  subst he
  exact ⟨fun _=>[],⟨rfl,fun i x hx=>by simp at hx⟩,rfl⟩
 | @cons l0 e b w r hw _ ih =>
  obtain ⟨ls,⟨h1,h2⟩,h0⟩:=ih he
  refine ⟨fun i=>match i with | 0=>l0++[b] | i + 1=>ls i,⟨h1,fun i x hx=>?_⟩,rfl⟩
  cases i with
  | zero =>
   have:w=x:=by simpa using hx
   subst this
   exact ⟨l0,b,rfl,hw,h0⟩
  | succ i=>exact h2 i x (by simpa using hx)
noncomputable def iV:V→Int
 | .int a=>a
 | _=>0
noncomputable def bV:V→Bool
 | .bl b=>b
 | _=>false
noncomputable def oneV (y:Str) (a:Int):Int:=if y = "not" then Builtin.bitNot a else if y = "neg" then -a else if y = "twice" then a + a else Builtin.bitAnd a (-a)
noncomputable def Zei (y:Str) (a b:Int):Int:=if y = "and" then Builtin.bitAnd a b else if y = "or" then Builtin.bitOr a b else if y = "odd" then Builtin.bitXor a b else if y = "add" then a + b else a - b
noncomputable def wwv(ρ:Str→Int):V→List Int→Int
 | .int z,_=>z
 | .str y,[]=>ρ y
 | .str y,[a]=>oneV y a
 | .str y,[a,b]=>Zei y a b
 | .str _,a::b::c::_=>Builtin.bitOr (Builtin.bitAnd a b) (Builtin.bitAnd (Builtin.bitNot a) c)
 | _,_=>0
noncomputable def sgn(m a:Int):Int:=if a * 2≥m then a - m else a
noncomputable def qo(m:Int)(y:Str)(xs:List Int):Bool :=
 if y = "nought" then decide (xs.getD 0 0=0) else if y = "sign" then decide (sgn m (xs.getD 0 0) < 0) else if y = "same" then decide (xs.getD 0 0=xs.getD 1 0)
 else if y = "under" then decide (xs.getD 0 0 < xs.getD 1 0) else decide (sgn m (xs.getD 0 0) < sgn m (xs.getD 1 0))
noncomputable def wR(y:Str)(bs:List Bool):Bool :=
 if y = "yes" then true else if y = "never" then !(bs.getD 0 false) else if y = "both" then bs.getD 0 false && bs.getD 1 false else if y = "either" then bs.getD 0 false || bs.getD 1 false else bs.getD 1 false || !(bs.getD 0 false)
noncomputable def cvV(m:Int)(ρ:Str→Int)(w:V)(xs:List V):V :=
 match w with
 | .str y=>if y∈Z9 then (if 0 < GA w then .bl (qo m y (xs.map iV)) else .bl (wR y (xs.map bV))) else .int (wwv ρ w (xs.map iV) % m)
 | _=>.int (wwv ρ w (xs.map iV) % m)
noncomputable def wU(m:Int)(ρ:Str→Int)(ws:List V)(stk:List V):List V:=ws.foldr (fun w s=>cvV m ρ w (s.take (npw w))::s.drop (npw w)) stk
theorem JM(m:Int)(ρ:Str→Int)(w:V)(r stk:List V):wU m ρ (w::r) stk=cvV m ρ w ((wU m ρ r stk).take (npw w))::(wU m ρ r stk).drop (npw w):=rfl
noncomputable def clK:Key→Bool
 | .inr y=>decide (y∈Z9)
 | .inl _=>false
inductive Zej(kvs:List (Key × V))(ρ:Str→Int):V→List V→Prop
 | sum {x:V} {is:List Int}:clK (keyOf x)=false→x=kV (keyOf x)→((∃z,x=.int z)∨∃y,x=.str y∧is.length≤3∧(is=[]→Yw kvs (.inr y)=some (.int (ρ y))))→Zej kvs ρ x (is.map V.int)
 | rel {y:Str} {is:List Int}:y∈Z9→0 < GA (.str y)→1≤is.length→(y ≠ "nought" → y ≠ "sign" → 2≤is.length)→Zej kvs ρ (.str y) (is.map V.int)
 | clm {y:Str} {bs:List Bool}:y∈Z9→GA (.str y)=0→(y ≠ "yes" → 1≤bs.length)→(y ≠ "yes" → y ≠ "never" → 2≤bs.length)→Zej kvs ρ (.str y) (bs.map V.bl)
theorem wV(is:List Int):(is.map V.int).map iV=is:=by
 rw [List.map_map]
 exact (List.map_congr_left fun b _=>rfl).trans (List.map_id _)
theorem map_bV(bs:List Bool):(bs.map V.bl).map bV=bs:=by
 rw [List.map_map]
 exact (List.map_congr_left fun b _=>rfl).trans (List.map_id _)
theorem cv_sum(m:Int)(ρ:Str→Int){x:V}{is:List Int}(h:clK (keyOf x)=false)(hk:x=kV (keyOf x)):cvV m ρ x (is.map V.int)=.int (wwv ρ x is % m):=by
 have e:=wV is
 cases x with
 | str y =>
  show (if y∈Z9 then _ else _)=_
  rw [if_neg (of_decide_eq_false h),e]
 | int z =>
  show V.int (wwv ρ (.int z) ((is.map V.int).map iV) % m)=_
  rw [e]
 | _=>cases hk
theorem Zbh(m:Int)(ρ:Str→Int){y:Str}{is:List Int}(hy:y∈Z9)(hn:0 < GA (.str y)):cvV m ρ (.str y) (is.map V.int)=.bl (qo m y is):=by
 show (if y∈Z9 then (if 0 < GA (.str y) then _ else _) else _)=_
 rw [if_pos hy,if_pos hn,wV]
theorem Zbi(m:Int)(ρ:Str→Int){y:Str}{bs:List Bool}(hy:y∈Z9)(hn:GA (.str y)=0):cvV m ρ (.str y) (bs.map V.bl)=.bl (wR y bs):=by
 show (if y∈Z9 then (if 0 < GA (.str y) then _ else _) else _)=_
 rw [if_pos hy,if_neg (by lia),map_bV]
noncomputable def Ty(m:Int):Bool→V→Prop
 | false,v=>∃a:Int,v=.int a∧0≤a∧a < m
 | true,v=>∃b:Bool,v=.bl b
inductive TyS(m:Int):List Bool→List V→Prop
 | nil:TyS m [] []
 | cons {b:Bool} {v:V} {bs:List Bool} {vs:List V}:Ty m b v→TyS m bs vs→TyS m (b::bs) (v::vs)
theorem TyS.len{m:Int}{bs:List Bool}{vs:List V}(h:TyS m bs vs):vs.length=bs.length:=by
 induction h with
 | nil=>rfl
 | cons _ _ ih=>rw [List.length_cons,List.length_cons,ih]
theorem TyS.split{m:Int}:∀{as bs:List Bool} {vs:List V},TyS m (as++bs) vs→TyS m as (vs.take as.length)∧TyS m bs (vs.drop as.length)
 | [],_,_,h=>⟨.nil,h⟩
 | a::as,bs,_,.cons hv t=>by
  obtain ⟨h1,h2⟩:=TyS.split (as:=as) t
  exact ⟨.cons hv h1,h2⟩
theorem Zek{m:Int}(hm:0 < m)(ρ:Str→Int){ys:List Str}{b:Bool}{w:V}(hw:WB ys b w)(N:Nms ys)(xs:List V):Ty m b (cvV m ρ w xs):=by
 cases b with
 | true =>
  obtain ⟨y,rfl,hy⟩:=hw
  show Ty m true (if y∈Z9 then _ else _)
  rw [if_pos hy]
  split
  ·exact ⟨_,rfl⟩
  ·exact ⟨_,rfl⟩
 | false =>
  have e:cvV m ρ w xs=.int (wwv ρ w (xs.map iV) % m):=by
   rcases hw with ⟨y,rfl,hy⟩ | ⟨y,hy,rfl⟩ | ⟨z,rfl,_⟩
   ·show (if y∈Z9 then _ else _)=_
    have:y∉Z9:=by
     have h:∀y∈qj,y∉Z9:=by decide +kernel
     exact h y hy
    rw [if_neg this]
   ·show (if y∈Z9 then _ else _)=_
    rw [if_neg fun z=>(N.ok y hy).k (Wa y z)]
   ·rfl
  rw [e]
  exact ⟨_,rfl,Int.emod_nonneg _ (by lia),Int.emod_lt_of_pos _ hm⟩
theorem sum_cv(m:Int)(ρ:Str→Int){ys:List Str}{w:V}(hw:X0 ys w)(N:Nms ys)(xs:List V):cvV m ρ w xs=.int (wwv ρ w (xs.map iV) % m):=by
 rcases hw with ⟨y,rfl,hy⟩ | ⟨y,hy,rfl⟩ | ⟨z,rfl,_⟩
 ·show (if y∈Z9 then _ else _)=_
  have:y∉Z9:=by
   have h:∀y∈qj,y∉Z9:=by decide +kernel
   exact h y hy
  rw [if_neg this]
 ·show (if y∈Z9 then _ else _)=_
  rw [if_neg fun z=>(N.ok y hy).k (Wa y z)]
 ·rfl
theorem run_ty{m:Int}(hm:0 < m)(ρ:Str→Int){ys:List Str}(N:Nms ys){a e:List Bool}{ws:List V}(h:Jg ys a ws e){stk:List V}(hs:TyS m e.reverse stk):TyS m a.reverse (wU m ρ ws stk)∧∀rest,wU m ρ ws (stk++rest)=wU m ρ ws stk++rest:=by
 induction h with
 | nil=>exact ⟨hs,fun _=>rfl⟩
 | @cons l0 e b w r hw _ ih =>
  obtain ⟨i1,i2⟩:=ih hs
  rw [List.reverse_append] at i1
  have sp:=i1.split
  rw [List.length_reverse,Jb] at sp
  have hle:npw w≤(wU m ρ r stk).length:=by
   rw [i1.len,List.length_append,List.length_reverse,Jb]
   lia
  refine ⟨?_,fun rest=>?_⟩
  ·rw [List.reverse_append,JM]
   exact .cons (Zek hm ρ hw N _) sp.2
  ·rw [JM,i2,JM,List.take_append_of_le_length hle,List.drop_append_of_le_length hle]
   rfl
noncomputable def Zdo(m:Int)(ρ:Str→Int)(ws:List V):V:=(wU m ρ ws []).headD .non
theorem wW{m:Int}(hm:0 < m)(ρ:Str→Int){ys:List Str}(N:Nms ys){b:Bool}{ws:List V}(h:Jg ys [b] ws []):Ty m b (Zdo m ρ ws)∧∀stk,wU m ρ ws stk=Zdo m ρ ws::stk:=by
 obtain ⟨h1,h2⟩:=run_ty hm ρ N h (stk:=[]) .nil
 have h3:=h2
 unfold Zdo
 generalize wU m ρ ws []=r at *
 cases h1 with
 | cons hv t =>
  cases t
  exact ⟨hv,fun stk=>h2 stk⟩
structure Tb(H:Hp)(pw:Addr):Prop where
 w:XU H pw xq xr
noncomputable def Zda(pw:Addr)(H H':Hp):Prop:=∀b o,H b=some o→b≠pw→H' b=some o
theorem ZU.offT{pw:Addr}{H H1:Hp}(a:ZU H H1):Zda pw H H1:=fun c o e _=>a c o e
theorem Tb.same{pw:Addr}{H H1:Hp}(a:Tb H pw)(s:ZU H H1):Tb H1 pw:=⟨a.w.same s⟩
theorem Tb.keep{pw:Addr}{H H':Hp}(T:Tb H pw)(a:Zda pw H H'){b:Addr}{u:HO}(h:H b=some u)(hu:∀ps,u≠.tbl ps):H' b=some u:=by
 obtain ⟨ps,e1⟩:=T.w.ex
 exact a b u h (ZK h e1 (hu ps))
theorem Tb.tup{pw:Addr}{H H':Hp}(T:Tb H pw)(a:Zda pw H H'){b:Addr}{xs:List V}(h:H b=some (.tup xs)):H' b=some (.tup xs):=T.keep a h (fun _ z=>nomatch z)
theorem Tb.lst{pw:Addr}{H H':Hp}(T:Tb H pw)(a:Zda pw H H'){b:Addr}{xs:List V}(h:H b=some (.lst xs)):H' b=some (.lst xs):=T.keep a h (fun _ z=>nomatch z)
theorem Tb.dK{pw:Addr}{H H':Hp}(T:Tb H pw)(a:Zda pw H H'){b:Addr}{kvs:List (Key × V)}(h:H b=some (.dK kvs)):H' b=some (.dK kvs):=T.keep a h (fun _ z=>nomatch z)
theorem XU.off{H H':Hp}{d c P:Addr}{pos:Pos}{qual:Str}(h:XU H P pos qual)(D:Z0 H d c)(o:Off d c H H'):XU H' P pos qual:=by
 obtain ⟨n,cs,hd,hc,_⟩:=D.ex
 rcases h with h | ⟨c',oc,h1,h2,h3⟩
 ·exact .inl (o _ _ h (ZK h hd (fun z=>nomatch z)) (ZK h hc (fun z=>nomatch z)))
 ·exact .inr ⟨c',oc,o _ _ h1 (ZK h1 hd (fun z=>nomatch z)) (ZK h1 hc (fun z=>nomatch z)),o _ _ h2 (ZK h2 hd (fun z=>nomatch z)) (ZK h2 hc (fun z=>nomatch z)),h3⟩
theorem Tb.off{H H':Hp}{d c pw:Addr}(T:Tb H pw)(D:Z0 H d c)(o:Off d c H H'):Tb H' pw:=⟨XU.off T.w D o⟩
theorem XU.put{H:Hp}{p P:Addr}{kvs:List (Key × V)}{o':HO}{pos:Pos}{qual:Str}(h:XU H P pos qual)(e:H p=some (.dK kvs)):XU (upd H p o') P pos qual:=by
 rcases h with h | ⟨c',oc,h1,h2,h3⟩
 ·exact .inl (by rw [Zj (ZK h e (fun z=>nomatch z))];exact h)
 ·exact .inr ⟨c',oc,by rw [Zj (ZK h1 e (fun z=>nomatch z))];exact h1,by rw [Zj (ZK h2 e (fun z=>nomatch z))];exact h2,h3⟩
theorem Tb.put{H:Hp}{p pw:Addr}{kvs:List (Key × V)}{o':HO}(T:Tb H pw)(e:H p=some (.dK kvs)):Tb (upd H p o') pw:=⟨XU.put T.w e⟩
noncomputable def jN(kvs:List (Key × V))(ys:List Str)(ws:List V)(ρ:Str→Int):Prop:=∀y∈ys,V.str y∈ws→Yw kvs (.inr y)=some (.int (ρ y))
noncomputable def vk(kvs:List (Key × V))(ys:List Str)(ρ:Str→Int):Prop:=∀y∈ys,Yw kvs (.inr y)=some (.int (ρ y))
theorem TyS.ints{m:Int}:∀{n:Nat} {xs:List V},TyS m (List.replicate n false) xs→∃is:List Int,xs=is.map V.int∧is.length=n
 | 0,_,.nil=>⟨[],rfl,rfl⟩
 | n + 1,_,.cons ⟨a,e,_⟩ t=>by
  obtain ⟨is,rfl,hl⟩:=TyS.ints (n:=n) t
  exact ⟨a::is,by rw [e];rfl,by rw [List.length_cons,hl]⟩
theorem TyS.bls{m:Int}:∀{n:Nat} {xs:List V},TyS m (List.replicate n true) xs→∃bs:List Bool,xs=bs.map V.bl∧bs.length=n
 | 0,_,.nil=>⟨[],rfl,rfl⟩
 | n + 1,_,.cons ⟨a,e⟩ t=>by
  obtain ⟨is,rfl,hl⟩:=TyS.bls (n:=n) t
  exact ⟨a::is,by rw [e];rfl,by rw [List.length_cons,hl]⟩
theorem zX:∀y∈Z9,(0 < GA (.str y)∧vy (.str y)=0∧1≤GA (.str y)∧((y ≠ "nought" ∧ y ≠ "sign")→2≤GA (.str y)))∨(GA (.str y)=0∧(y ≠ "yes" → 1≤vy (.str y))∧((y ≠ "yes" ∧ y ≠ "never")→2≤vy (.str y))):=by decide +kernel
theorem Gu:∀y∈qj,ZN y≤3∧1≤ZN y:=by decide +kernel
noncomputable def wX(m:Int)(ρ:Str→Int)(ws:List V)(ls:Nat→List Bool)(i:Nat)(stk:List V):Prop:=stk=wU m ρ (ws.drop i) []∧TyS m (ls i).reverse stk
theorem yt{m:Int}(hm:0 < m){ρ:Str→Int}{ys:List Str}(N:Nms ys){ws:List V}{ls:Nat→List Bool}(L:LsAt ys ws ls){i:Nat}{x:V}{stk:List V}(hx:ws[i]?=some x)(hI:wX m ρ ws ls (i + 1) stk) :
  npw x≤stk.length∧wX m ρ ws ls i (cvV m ρ x (stk.take (npw x))::stk.drop (npw x))∧∃b,WB ys b x∧TyS m (nextK x).reverse (stk.take (npw x)):=by
 obtain ⟨l0,b,e1,hw,e2⟩:=L.2 i x hx
 obtain ⟨hr,ht⟩:=hI
 rw [e2,List.reverse_append] at ht
 have sp:=ht.split
 rw [List.length_reverse,Jb] at sp
 have hle:npw x≤stk.length:=by
  rw [ht.len,List.length_append,List.length_reverse,Jb]
  lia
 have hi:i < ws.length:=(List.getElem?_eq_some_iff.mp hx).1
 refine ⟨hle,⟨?_,?_⟩,b,hw,sp.1⟩
 ·have ed:ws.drop i=x::ws.drop (i + 1):=by
   rw [List.drop_eq_getElem_cons hi]
   congr 1
   exact (List.getElem?_eq_some_iff.mp hx).2
  rw [ed,JM,←hr]
 ·rw [e1,List.reverse_append]
  exact .cons (Zek hm ρ hw N _) sp.2
theorem wY{ys:List Str}{ws:List V}{x:V}(N:Nms ys)(hw:X0 ys x)(hm:x∈ws){is:List Int}(hl:is.length=Wx x){kvs:List (Key × V)}{ρ:Str→Int}(hv:jN kvs ys ws ρ):(∃z,x=.int z)∨∃y,x=.str y∧is.length≤3∧(is=[]→Yw kvs (.inr y)=some (.int (ρ y))):=by
 rcases hw with ⟨y,rfl,hy⟩ | ⟨y,hy,rfl⟩ | ⟨z,rfl,_⟩
 ·have h3:=Gu y hy
  have hl':is.length=ZN y:=hl
  exact .inr ⟨y,rfl,by lia,fun e=>by rw [e] at hl';have:(0:Nat)=ZN y:=hl';lia⟩
 ·have hl':is.length=ZN y:=hl
  rw [Gs (N.ok y hy).k] at hl'
  exact .inr ⟨y,rfl,by lia,fun _=>hv y hy hm⟩
 ·exact .inl ⟨z,rfl⟩
noncomputable def Z5(kvs:List (Key × V)):List V→Option Str
 | []=>none
 | .str y::r=>if nmB (.str y)=true∧(Yw kvs (.inr y)).isSome=false then some y else Z5 kvs r
 | _::r=>Z5 kvs r
theorem Zdb{kvs:List (Key × V)}{ws:List V}(h:Z5 kvs ws=none):∀y,V.str y∈ws→nmB (.str y)=true→(Yw kvs (.inr y)).isSome=true:=by
 induction ws with
 | nil=>exact fun y hy=>nomatch hy
 | cons w r ih =>
  intro y hy hb
  cases w with
  | str z =>
   unfold Z5 at h
   split at h
   ·cases h
   ·rename_i hn
    rcases List.mem_cons.mp hy with e | hy
    ·injection e with e
     subst e
     cases hv:(Yw kvs (.inr y)).isSome with
     | true=>rfl
     | false=>exact absurd ⟨hb,hv⟩ hn
    ·exact ih h y hy hb
  | _ =>
   rcases List.mem_cons.mp hy with e | hy
   ·cases e
   ·exact ih h y hy hb
theorem qp{kvs:List (Key × V)}:∀(ws:List V) (i:Nat),(∀j x,j < i→ws[j]?=some x→∀y,x=.str y→¬(nmB (.str y)=true∧(Yw kvs (.inr y)).isSome=false))→Z5 kvs ws=Z5 kvs (ws.drop i)
 | [],i,_=>by simp
 | w::r,0,_=>rfl
 | w::r,i + 1,h=>by
  have ih:=qp r i fun j x hj hx y e=>h (j + 1) x (by lia) (by simpa using hx) y e
  rw [List.drop_succ_cons,←ih]
  cases w with
  | str z =>
   show (if nmB (.str z)=true∧(Yw kvs (.inr z)).isSome=false then some z else Z5 kvs r)=_
   rw [if_neg (h 0 (.str z) (by lia) rfl z rfl)]
  | _=>rfl
noncomputable def Told (C:Addr) (y:Str) (H:Hp) (E:XK):Prop:=∀e d H',ZU H H'→H' e=some (.ext (yU C e d))→H' d=some (.xd [("word",.str y)])→E (.ref C) (some e) H'
theorem uO{K:PySem.W.Frag}{C:Addr}:PySem.W.kitOne K (.ref C) (.ref C)=some true:=by
 unfold PySem.W.kitOne
 rw [if_pos (beq_self_eq_true _)]
noncomputable def cAt(xs ys:List Int)(c:Int):Nat→Int
 | 0=>c
 | i + 1=>(xs.getD i 0 + ys.getD i 0 + cAt xs ys c i) / 2
noncomputable def uP(xs ys:List Int)(c:Int)(w:Nat):List Int:=(List.range w).map fun i=>(xs.getD i 0 + ys.getD i 0 + cAt xs ys c i) % 2
theorem wZ(xs ys:List Int)(c:Int)(w:Nat):uP xs ys c (w + 1)=uP xs ys c w++[(xs.getD w 0 + ys.getD w 0 + cAt xs ys c w) % 2]:=by
 unfold uP
 rw [List.range_succ,List.map_append]
 rfl
theorem uQ(xs ys:List Int)(c:Int)(w:Nat):(uP xs ys c w).length=w:=by
 unfold uP
 rw [List.length_map,List.length_range]
noncomputable def yu:List Int→Nat
 | []=>0
 | x::xs=>if x=1 then 0 else yu xs + 1
theorem qq:∀(xs:List Int) (i:Nat) (z:Int),i < yu xs→xs[i]?=some z→z≠1
 | [],i,z,h,_=>absurd h (Nat.not_lt_zero _)
 | x::xs,i,z,h,e=>by
  unfold yu at h
  split at h
  ·exact absurd h (Nat.not_lt_zero _)
  ·rename_i hx
   cases i with
   | zero =>
    rw [List.getElem?_cons_zero] at e
    cases e
    exact hx
   | succ i =>
    rw [List.getElem?_cons_succ] at e
    exact qq xs i z (by lia) e
theorem gb:∀xs:List Int,(1:Int)∈xs→xs[yu xs]?=some 1
 | x::xs,h=>by
  unfold yu
  split
  ·rename_i hx
   rw [hx]
   rfl
  ·rename_i hx
   rw [List.getElem?_cons_succ]
   refine gb xs ?_
   rcases List.mem_cons.mp h with e | e
   ·exact absurd e.symm hx
   ·exact e
theorem yw:∀xs:List Int,(1:Int)∉xs→yu xs=xs.length
 | [],_=>rfl
 | x::xs,h=>by
  unfold yu
  rw [if_neg fun e=>h (by rw [e];exact List.mem_cons_self),yw xs fun e=>h (List.mem_cons_of_mem _ e)]
  rfl
theorem zc{z:Int}{xs:List Int}:inV (.int z) (xs.map V.int)=true↔z∈xs:=by
 unfold inV
 rw [List.any_map,List.any_eq_true]
 constructor
 ·rintro ⟨x,hx,e⟩
  have:(x == z)=true:=e
  rw [←beq_iff_eq.mp this]
  exact hx
 ·intro h
  exact ⟨z,h,beq_self_eq_true z⟩
noncomputable def Zdp(xs:List Int):List Int:=(List.replicate xs.length 0).set (yu xs) 1
theorem yx(n:Nat)(z:Int):(List.replicate n [V.int z]).flatten=(List.replicate n z).map V.int:=by
 induction n with
 | zero=>rfl
 | succ n ih=>rw [List.replicate_succ,List.flatten_cons,ih,List.replicate_succ];rfl
theorem WE(xs:List Int):(xs.map V.int).all YC=true:=by
 rw [List.all_eq_true]
 intro v hv
 obtain ⟨x,_,rfl⟩:=List.mem_map.mp hv
 rfl
theorem Zel(m n:Nat):(m &&& n) / 2=m / 2 &&& n / 2∧(m &&& n) % 2=m % 2 * (n % 2):=by
 refine ⟨Nat.and_div_two_pow (n:=1),?_⟩
 have h:=Nat.and_mod_two_pow (a:=m) (b:=n) (n:=1)
 rw [Nat.pow_one] at h
 rw [h]
 rcases Nat.mod_two_eq_zero_or_one m with e | e <;> rcases Nat.mod_two_eq_zero_or_one n with f | f <;> rw [e,f] <;> rfl
theorem n_or(m n:Nat):(m ||| n) / 2=m / 2 ||| n / 2∧(m ||| n) % 2=m % 2 + n % 2 - m % 2 * (n % 2):=by
 refine ⟨Nat.or_div_two_pow (n:=1),?_⟩
 have h:=Nat.or_mod_two_pow (a:=m) (b:=n) (n:=1)
 rw [Nat.pow_one] at h
 rw [h]
 rcases Nat.mod_two_eq_zero_or_one m with e | e <;> rcases Nat.mod_two_eq_zero_or_one n with f | f <;> rw [e,f] <;> rfl
theorem Zem(m n:Nat):Builtin.bitAnd m n=((m &&& n:Nat):Int):=by
 unfold Builtin.bitAnd
 rw [decide_eq_true (Int.natCast_nonneg m),decide_eq_true (Int.natCast_nonneg n)]
 rfl
theorem yy(n:Nat):¬(0:Int)≤-(n:Int) - 1:=by lia
theorem yz(n:Nat):(Builtin.bitNot (-(n:Int) - 1)).toNat=n:=by
 unfold Builtin.bitNot
 lia
theorem Zen(m n:Nat):Builtin.bitAnd m (-(n:Int) - 1)=(m:Int) - ((m &&& n:Nat):Int):=by
 unfold Builtin.bitAnd
 rw [decide_eq_true (Int.natCast_nonneg m),decide_eq_false (yy n)]
 try dsimp only
 rw [yz]
 rfl
theorem Zeo(m n:Nat):Builtin.bitAnd (-(m:Int) - 1) n=(n:Int) - ((n &&& m:Nat):Int):=by
 unfold Builtin.bitAnd
 rw [decide_eq_true (Int.natCast_nonneg n),decide_eq_false (yy m)]
 try dsimp only
 rw [yz]
 rfl
theorem Zep(m n:Nat):Builtin.bitAnd (-(m:Int) - 1) (-(n:Int) - 1)=-((m ||| n:Nat):Int) - 1:=by
 unfold Builtin.bitAnd
 rw [decide_eq_false (yy n),decide_eq_false (yy m)]
 try dsimp only
 rw [yz,yz]
 rfl
theorem y0(a:Int):(∃m:Nat,a=m)∨∃m:Nat,a=-(m:Int) - 1:=by
 by_cases h:0≤a
 ·exact .inl ⟨a.toNat,by lia⟩
 ·exact .inr ⟨(-a - 1).toNat,by lia⟩
theorem WG(a:Int):a % 2=0∨a % 2=1:=by lia
theorem sub2(m A:Int)(h:A % 2=0∨m % 2=1):(m - A) / 2=m / 2 - A / 2∧(m - A) % 2=m % 2 - A % 2:=by lia
theorem cast2(m:Nat):(m:Int) / 2=((m / 2:Nat):Int)∧(m:Int) % 2=((m % 2:Nat):Int):=⟨rfl,rfl⟩
theorem gy(x:Int):(-x - 1) / 2=-(x / 2) - 1∧(-x - 1) % 2=1 - x % 2:=by lia
theorem Zeq(m n:Nat):(((m &&& n:Nat):Int)) / 2=((m / 2 &&& n / 2:Nat):Int)∧(((m &&& n:Nat):Int)) % 2=(m:Int) % 2 * ((n:Int) % 2):=by
 rw [(cast2 _).1,(cast2 _).2,(Zel m n).1,(Zel m n).2,Int.natCast_mul]
 exact ⟨rfl,rfl⟩
theorem take2(m n:Nat):((m:Int) - ((m &&& n:Nat):Int)) / 2=((m / 2:Nat):Int) - ((m / 2 &&& n / 2:Nat):Int)∧((m:Int) - ((m &&& n:Nat):Int)) % 2=(m:Int) % 2 * (1 - (n:Int) % 2):=by
 have l:=Zeq m n
 have h:((m &&& n:Nat):Int) % 2=0∨(m:Int) % 2=1:=by
  rcases WG (m:Int) with e | e
  ·rw [l.2,e,Int.zero_mul]
   exact .inl rfl
  ·exact .inr e
 have z:=sub2 _ _ h
 rw [z.1,z.2,l.1,l.2]
 refine ⟨rfl,?_⟩
 rcases WG (m:Int) with e | e <;> rcases WG (n:Int) with f | f <;> rw [e,f] <;> rfl
theorem vz(a b:Int):Builtin.bitAnd a b / 2=Builtin.bitAnd (a / 2) (b / 2)∧Builtin.bitAnd a b % 2=a % 2 * (b % 2):=by
 rcases y0 a with ⟨m,rfl⟩ | ⟨m,rfl⟩ <;> rcases y0 b with ⟨n,rfl⟩ | ⟨n,rfl⟩
 ·rw [(cast2 m).1,(cast2 n).1,Zem,Zem]
  exact Zeq m n
 ·rw [(cast2 m).1,(gy _).1,(gy _).2,(cast2 n).1,Zen,Zen]
  exact take2 m n
 ·rw [(cast2 n).1,(gy _).1,(gy _).2,(cast2 m).1,Zeo,Zeo,Int.mul_comm]
  exact take2 n m
 ·rw [(gy (m:Int)).1,(gy (m:Int)).2,(gy (n:Int)).1,(gy (n:Int)).2,(cast2 m).1,(cast2 n).1,Zep,Zep,(gy _).1,(gy _).2,(cast2 _).1,(cast2 _).2,(n_or m n).1,(n_or m n).2]
  refine ⟨rfl,?_⟩
  rw [(cast2 m).2,(cast2 n).2]
  rcases Nat.mod_two_eq_zero_or_one m with e | e <;> rcases Nat.mod_two_eq_zero_or_one n with f | f <;> rw [e,f] <;> rfl
theorem v5(a:Int):Builtin.bitNot a / 2=Builtin.bitNot (a / 2)∧Builtin.bitNot a % 2=1 - a % 2:=by
 unfold Builtin.bitNot
 lia
theorem or2(a b:Int):Builtin.bitOr a b / 2=Builtin.bitOr (a / 2) (b / 2)∧Builtin.bitOr a b % 2=1 - (1 - a % 2) * (1 - b % 2):=by
 unfold Builtin.bitOr
 have h:=vz (Builtin.bitNot a) (Builtin.bitNot b)
 rw [(v5 a).1,(v5 b).1,(v5 a).2,(v5 b).2] at h
 rw [(v5 _).1,(v5 _).2,h.1,h.2]
 exact ⟨rfl,rfl⟩
theorem xor2(a b:Int):Builtin.bitXor a b / 2=Builtin.bitXor (a / 2) (b / 2)∧Builtin.bitXor a b % 2=(a % 2 + b % 2) % 2:=by
 unfold Builtin.bitXor
 have h:=vz a b
 have g:=or2 a b
 have q:Builtin.bitAnd a b % 2=0∨Builtin.bitOr a b % 2=1:=by
  rw [h.2,g.2]
  rcases WG a with e | e <;> rcases WG b with f | f <;> rw [e,f] <;> decide
 have z:=sub2 _ _ q
 rw [z.1,z.2,h.1,h.2,g.1,g.2]
 refine ⟨rfl,?_⟩
 rcases WG a with e | e <;> rcases WG b with f | f <;> rw [e,f] <;> rfl
theorem Z2(w:Nat)(n:Int):Zm (w + 1) n=n % 2::Zm w (n / 2):=by
 unfold Zm
 rw [List.range_succ_eq_map,List.map_cons,List.map_map,Int.pow_zero,Int.ediv_one]
 congr 1
 refine List.map_congr_left fun i _=>?_
 show n / 2 ^ (i + 1) % 2=n / 2 / 2 ^ i % 2
 rw [Int.pow_succ,Int.mul_comm,Int.ediv_ediv_of_nonneg (by decide:(0:Int)≤2)]
theorem JN(w:Nat)(n:Int):Zm w (n % 2 ^ w)=Zm w n:=by
 induction w generalizing n with
 | zero=>rfl
 | succ w ih =>
  rw [Z2,Z2,←ih (n / 2)]
  have e1:n % 2 ^ (w + 1) % 2=n % 2:=by
   rw [Int.emod_emod_of_dvd]
   exact ⟨2 ^ w,by rw [Int.pow_succ,Int.mul_comm]⟩
  have e2:n % 2 ^ (w + 1) / 2=n / 2 % 2 ^ w:=by
   have hp:(0:Int) < 2 ^ w:=Int.pow_pos (by decide)
   have h1:=Int.emod_add_mul_ediv n 2
   have h2:=Int.emod_add_mul_ediv (n / 2) (2 ^ w)
   have h3:=Int.emod_nonneg (n / 2) (Int.ne_of_gt hp)
   have h4:=Int.emod_lt_of_pos (n / 2) hp
   have e:n % 2 ^ (w + 1)=n % 2 + 2 * (n / 2 % 2 ^ w):=by
    have:n=n % 2 + 2 * (n / 2 % 2 ^ w) + 2 ^ (w + 1) * (n / 2 / 2 ^ w):=by
     rw [Int.pow_succ]
     have:(2:Int) ^ w * 2 * (n / 2 / 2 ^ w)=2 * (2 ^ w * (n / 2 / 2 ^ w)):=by
      rw [Int.mul_comm ((2:Int) ^ w) 2,Int.mul_assoc]
     lia
    conv=>lhs;rw [this]
    rw [Int.add_mul_emod_self_left]
    refine Int.emod_eq_of_lt (by lia) ?_
    rw [Int.pow_succ]
    lia
   rw [e]
   lia
  rw [e1,e2]
theorem qr(w:Nat):Zm w 0=List.replicate w 0:=by
 induction w with
 | zero=>rfl
 | succ w ih=>rw [Z2,List.replicate_succ];congr 1
theorem zd(w:Nat)(n:Int):(Zm w n).map (fun x=>1 - x)=Zm w (Builtin.bitNot n):=by
 induction w generalizing n with
 | zero=>rfl
 | succ w ih=>rw [Z2,Z2,List.map_cons,ih,(v5 n).1,(v5 n).2]
theorem ze(w:Nat)(f:Int→Int→Int)(g:Int→Int→Int)(h:∀a b,g a b / 2=g (a / 2) (b / 2)∧g a b % 2=f (a % 2) (b % 2))(a b:Int):List.zipWith f (Zm w a) (Zm w b)=Zm w (g a b):=by
 induction w generalizing a b with
 | zero=>rfl
 | succ w ih=>rw [Z2,Z2,Z2,List.zipWith_cons_cons,ih,(h a b).1,(h a b).2]
theorem uR(w:Nat)(a b:Int):List.zipWith (fun x y=>if x + y=2 then 1 else 0) (Zm w a) (Zm w b)=Zm w (Builtin.bitAnd a b):=by
 refine ze w _ _ (fun a b=>⟨(vz a b).1,?_⟩) a b
 rw [(vz a b).2]
 rcases WG a with e | e <;> rcases WG b with f | f <;> rw [e,f] <;> rfl
theorem Zdc(w:Nat)(a b:Int):List.zipWith (fun x y=>if 0 < x + y then 1 else 0) (Zm w a) (Zm w b)=Zm w (Builtin.bitOr a b):=by
 refine ze w _ _ (fun a b=>⟨(or2 a b).1,?_⟩) a b
 rw [(or2 a b).2]
 rcases WG a with e | e <;> rcases WG b with f | f <;> rw [e,f] <;> rfl
theorem uS(w:Nat)(a b:Int):List.zipWith (fun x y=>(x + y) % 2) (Zm w a) (Zm w b)=Zm w (Builtin.bitXor a b) :=
 ze w _ _ (fun a b=>xor2 a b) a b
theorem Zer(a b c:Int):Builtin.bitOr (Builtin.bitAnd a b) (Builtin.bitAnd (Builtin.bitNot a) c) / 2=Builtin.bitOr (Builtin.bitAnd (a / 2) (b / 2)) (Builtin.bitAnd (Builtin.bitNot (a / 2)) (c / 2)) ∧
  Builtin.bitOr (Builtin.bitAnd a b) (Builtin.bitAnd (Builtin.bitNot a) c) % 2=if a % 2=1 then b % 2 else c % 2:=by
 refine ⟨by rw [(or2 _ _).1,(vz _ _).1,(vz _ _).1,(v5 _).1],?_⟩
 rw [(or2 _ _).2,(vz _ _).2,(vz _ _).2,(v5 _).2]
 rcases WG a with e | e <;> rcases WG b with f | f <;> rcases WG c with g | g <;> rw [e,f,g] <;> rfl
theorem gc(w:Nat)(a b c:Int):(List.range w).map (fun i=>if (Zm w a).getD i 0=1 then (Zm w b).getD i 0 else (Zm w c).getD i 0)=Zm w (Builtin.bitOr (Builtin.bitAnd a b) (Builtin.bitAnd (Builtin.bitNot a) c)):=by
 induction w generalizing a b c with
 | zero=>rfl
 | succ w ih =>
  rw [Z2 w (Builtin.bitOr _ _),(Zer a b c).1,(Zer a b c).2,←ih,List.range_succ_eq_map,List.map_cons,List.map_map]
  congr 1
  ·rw [Z2,Z2,Z2]
   rfl
  ·refine List.map_congr_left fun i _=>?_
   rw [Z2,Z2,Z2]
   rfl
theorem YZ(w:Nat)(n:Int):(Zm w n).length=w:=by
 unfold Zm
 rw [List.length_map,List.length_range]
theorem bits_getD(w:Nat)(n:Int)(i:Nat)(h:i < w):(Zm w n).getD i 0=n / 2 ^ i % 2:=by
 unfold Zm
 rw [List.getD_eq_getElem?_getD,List.getElem?_map,List.getElem?_range h]
 rfl
theorem y4(w:Nat)(x y c:Int):∀i,i≤w→(x + y + c) / 2 ^ i=x / 2 ^ i + y / 2 ^ i + cAt (Zm w x) (Zm w y) c i
 | 0,_=>by simp [cAt]
 | i + 1,h=>by
  have ih:=y4 w x y c i (by lia)
  have d:∀z:Int,z / 2 ^ (i + 1)=z / 2 ^ i / 2:=fun z=>by
   rw [Int.pow_succ,Int.ediv_ediv_of_nonneg (Int.le_of_lt (Int.pow_pos (by decide)))]
  unfold cAt
  rw [d,d,d,ih,bits_getD w x i (by lia),bits_getD w y i (by lia)]
  lia
theorem bits_add(w:Nat)(x y c:Int):uP (Zm w x) (Zm w y) c w=Zm w (x + y + c):=by
 unfold uP
 have e:Zm w (x + y + c)=(List.range w).map fun i=>(x + y + c) / 2 ^ i % 2:=rfl
 rw [e]
 refine List.map_congr_left fun i hi=>?_
 have hi:=List.mem_range.mp hi
 rw [y4 w x y c i (by lia),bits_getD w x i hi,bits_getD w y i hi]
 lia
theorem vm(w:Nat)(x:Int):0::Zm w x=Zm (w + 1) (x + x):=by
 rw [Z2,show (x + x) % 2=0 by lia,show (x + x) / 2=x by lia]
theorem vn(w:Nat)(x:Int):(Zm (w + 1) x).take w=Zm w x:=by
 unfold Zm
 rw [List.range_succ,List.map_append,List.take_left' (by rw [List.length_map,List.length_range])]
theorem uT(w:Nat)(a:Int):Zm w (Builtin.bitAnd a (Builtin.bitNot a))=List.replicate w 0:=by
 induction w generalizing a with
 | zero=>rfl
 | succ w ih =>
  rw [Z2,(vz _ _).1,(v5 a).1,ih,(vz _ _).2,(v5 a).2,List.replicate_succ]
  congr 1
  rcases WG a with e | e <;> rw [e] <;> rfl
theorem uU(w:Nat)(a:Int):Zdp (Zm w a)=Zm w (Builtin.bitAnd a (-a)):=by
 induction w generalizing a with
 | zero=>rfl
 | succ w ih =>
  rw [Z2 w (Builtin.bitAnd _ _),(vz _ _).1,(vz _ _).2,Z2]
  rcases WG a with e | e
  ·rw [e,show -a / 2=-(a / 2) by lia,←ih]
   unfold Zdp
   rw [show yu (0::Zm w (a / 2))=yu (Zm w (a / 2)) + 1 from rfl,List.length_cons,List.replicate_succ,List.set_cons_succ,Int.zero_mul]
  ·rw [e,show -a / 2=Builtin.bitNot (a / 2) by unfold Builtin.bitNot;lia,uT,show -a % 2=1 by lia]
   unfold Zdp
   rw [show yu (1::Zm w (a / 2))=0 from rfl,List.length_cons,List.replicate_succ,List.set_cons_zero,YZ]
   rfl
theorem zY(w:Nat)(n:Int):(Zm w n).foldr (fun b t=>2 * t + b) 0=n % 2 ^ w:=by
 induction w generalizing n with
 | zero=>rw [Int.pow_zero,Int.emod_one];rfl
 | succ w ih =>
  rw [Z2,List.foldr_cons,ih]
  have hp:(0:Int) < 2 ^ w:=Int.pow_pos (by decide)
  have h1:=Int.emod_add_mul_ediv n 2
  have h2:=Int.emod_add_mul_ediv (n / 2) (2 ^ w)
  have h3:=Int.emod_nonneg (n / 2) (Int.ne_of_gt hp)
  have h4:=Int.emod_lt_of_pos (n / 2) hp
  have:n=2 * (n / 2 % 2 ^ w) + n % 2 + 2 ^ (w + 1) * (n / 2 / 2 ^ w):=by
   rw [Int.pow_succ]
   have:(2:Int) ^ w * 2 * (n / 2 / 2 ^ w)=2 * (2 ^ w * (n / 2 / 2 ^ w)):=by
    rw [Int.mul_comm ((2:Int) ^ w) 2,Int.mul_assoc]
   lia
  conv=>rhs;rw [this]
  rw [Int.add_mul_emod_self_left]
  refine (Int.emod_eq_of_lt (by lia) ?_).symm
  rw [Int.pow_succ]
  lia
inductive Xf(H:Hp)(W:Nat):List Addr→List Int→Prop
 | nil:Xf H W [] []
 | cons {a:Addr} {as:List Addr} {n:Int} {is:List Int}:H a=some (.lst ((Zm W n).map V.int))→Xf H W as is→Xf H W (a::as) (n::is)
theorem Xf.same{H H':Hp}{W:Nat}{as:List Addr}{is:List Int}(h:Xf H W as is)(s:∀b xs,b∈as→H b=some (.lst xs)→H' b=some (.lst xs)):Xf H' W as is:=by
 induction h with
 | nil=>exact .nil
 | cons e _ ih=>exact .cons (s _ _ List.mem_cons_self e) (ih fun b o hb=>s b o (List.mem_cons_of_mem _ hb))
theorem Xf.len{H:Hp}{W:Nat}{as:List Addr}{is:List Int}(h:Xf H W as is):as.length=is.length:=by
 induction h with
 | nil=>rfl
 | cons _ _ ih=>rw [List.length_cons,List.length_cons,ih]
theorem Xf.mem{H:Hp}{W:Nat}{as:List Addr}{is:List Int}(h:Xf H W as is):∀a∈as,∃n,H a=some (.lst ((Zm W n).map V.int)):=by
 induction h with
 | nil=>exact fun a ha=>nomatch ha
 | cons e _ ih =>
  intro a ha
  rcases List.mem_cons.mp ha with rfl | ha
  ·exact ⟨_,e⟩
  ·exact ih a ha
theorem vo:∀y∈qj,y ≠ "not" → y ≠ "neg" → y ≠ "twice" → y ≠ "low" → 2≤ZN y:=by decide +kernel
theorem gh:∀y∈qj,y∈(["not","neg","twice","low","add","sub","pick"]:List Str)∨y∈(["and","or","odd"]:List Str):=by decide +kernel
theorem y6 (y:Str) (hy:y∈qj) (h1:y ≠ "not") (h2:y ≠ "neg") (h3:y ≠ "twice") (h4:y ≠ "low") (h5:y ≠ "add") (h6:y ≠ "sub") (h7:y ≠ "pick"):y = "and" ∨ y = "or" ∨ y = "odd" := by
 rcases gh y hy with h | h
 ·simp only [List.mem_cons,List.not_mem_nil,or_false] at h
  rcases h with h | h | h | h | h | h | h <;> contradiction
 ·simpa only [List.mem_cons,List.not_mem_nil,or_false] using h
theorem three_parts (y:Str) (h:y = "and" ∨ y = "or" ∨ y = "odd"):ZN y=2:=by
 rcases h with rfl | rfl | rfl <;> decide +kernel
theorem zf(w:Nat)(n:Int):gH ((Zm (w + 1) n).map V.int) none (some (-1))=(Zm w n).map V.int:=by
 unfold gH
 have e:HT.sIx ((Zm (w + 1) n).map V.int).length 0 none=0:=rfl
 have e2:HT.sIx ((Zm (w + 1) n).map V.int).length ((Zm (w + 1) n).map V.int).length (some (-1))=w:=by
  rw [List.length_map,XZ]
  simp only [HT.sIx,show (-1:Int) < 0 by decide,if_true]
  lia
 rw [e,e2,List.drop_zero,Nat.sub_zero,←List.map_take,vn]
theorem WH{w:Nat}{n:Int}{i:Nat}{x:V}(h:((Zm w n).map V.int)[i]?=some x):i < w∧x=.int ((Zm w n).getD i 0)∧((Zm w n).getD i 0=0∨(Zm w n).getD i 0=1):=by
 have hi:=(List.getElem?_eq_some_iff.mp h).1
 rw [List.length_map,XZ] at hi
 rw [zT w n i hi] at h
 cases h
 rw [bits_getD w n i hi]
 exact ⟨hi,rfl,WG _⟩
noncomputable def tri:Nat→Int→Int→Int
 | 0,a,b=>if a + b=2 then 1 else 0
 | 1,a,b=>if 0 < a + b then 1 else 0
 | _,a,b=>(a + b) % 2
theorem qt(w:Nat)(f:Int→Int→Int):∀(a b:Int),(List.range w).map (fun i=>f ((Zm w a).getD i 0) ((Zm w b).getD i 0))=List.zipWith f (Zm w a) (Zm w b):=by
 induction w with
 | zero=>intros;rfl
 | succ w ih =>
  intro a b
  rw [Z2,Z2,List.zipWith_cons_cons,←ih,List.range_succ_eq_map,List.map_cons,List.map_map]
  rfl
theorem uV (y:Str) (h:y = "and" ∨ y = "or" ∨ y = "odd"):∃j:Nat,j < 3∧([.str "and",.str "or",.str "odd"]:List V)[j]?=some (.str y)∧(∀i z',i < j→([.str "and",.str "or",.str "odd"]:List V)[i]?=some z'→eqV z' (.str y)=false) ∧
  ∀W n m,(List.range W).map (fun i=>tri j ((Zm W n).getD i 0) ((Zm W m).getD i 0))=Zm W (Zei y n m):=by
 rcases h with rfl | rfl | rfl
 ·exact ⟨0,by decide,rfl,fun i z' hi=>absurd hi (Nat.not_lt_zero _),fun W n m=>(qt W (tri 0) n m).trans (uR W n m)⟩
 ·refine ⟨1,by decide,rfl,fun i z' hi e=>?_,fun W n m=>(qt W (tri 1) n m).trans (Zdc W n m)⟩
  match i,hi with
  | 0,_=>cases e;decide +kernel
 ·refine ⟨2,by decide,rfl,fun i z' hi e=>?_,fun W n m=>(qt W (tri 2) n m).trans (uS W n m)⟩
  match i,hi with
  | 0,_=>cases e;decide +kernel
  | 1,_=>cases e;decide +kernel
theorem Zdd(y:Str):eqV (.str y) (.str y)=true:=beq_self_eq_true _
theorem Zde:∀y∈qj,(1 + (if inV (.str y) [.str "and",.str "or",.str "odd",.str "add",.str "sub",.str "pick"]=true then 1 else 0) + (if decide (V.str y=V.str "pick")=true then 1 else 0):Int)=(ZN y:Int):=by decide +kernel
theorem Zdf(a b:Int):atI [V.int (if decide (V.int (a + b)=V.int 2)=true then 1 else 0),V.int (if decide (0 < a + b)=true then 1 else 0),V.int ((a + b) % 2)] ((0:Nat):Int)=some (V.int (tri 0 a b)):=by
 refine Yo (j:=0) ?_
 show some (V.int _)=some (V.int (if a + b=2 then 1 else 0))
 by_cases h:a + b=2
 ·rw [if_pos h,if_pos (decide_eq_true (by rw [h]))]
 ·rw [if_neg h,if_neg (fun z=>h (by injection of_decide_eq_true z))]
theorem Zdg(a b:Int):atI [V.int (if decide (V.int (a + b)=V.int 2)=true then 1 else 0),V.int (if decide (0 < a + b)=true then 1 else 0),V.int ((a + b) % 2)] ((1:Nat):Int)=some (V.int (tri 1 a b)):=by
 refine Yo (j:=1) ?_
 show some (V.int _)=some (V.int (if 0 < a + b then 1 else 0))
 by_cases h:0 < a + b
 ·rw [if_pos h,if_pos (decide_eq_true h)]
 ·rw [if_neg h,if_neg (fun z=>h (of_decide_eq_true z))]
theorem Zdh(a b:Int):atI [V.int (if decide (V.int (a + b)=V.int 2)=true then 1 else 0),V.int (if decide (0 < a + b)=true then 1 else 0),V.int ((a + b) % 2)] ((2:Nat):Int)=some (V.int (tri 2 a b)) :=
 Yo (j:=2) rfl
theorem uW{kvs:List (Key × V)}{k:Key}{v:V}(h:∀p∈kvs,YC p.2=true)(hv:YC v=true):∀p∈putK kvs k v,YC p.2=true:=by
 intro p hp
 unfold putK at hp
 split at hp
 ·obtain ⟨q,hq,rfl⟩:=List.mem_map.mp hp
  split
  ·exact hv
  ·exact h q hq
 ·rcases List.mem_append.mp hp with z | z
  ·exact h p z
  ·rw [List.mem_singleton.mp z]
   exact hv
noncomputable def OffD(d c pw:Addr)(H H':Hp):Prop:=∀b o,H b=some o→b≠d→b≠c→b≠pw→H' b=some o
structure Rt(d c p tw pw:Addr)(ys:List Str)(ws:List V)(H0 H:Hp):Prop where
 D:Z0 H d c
 hp:H p=some (.lst (ys.map V.str))
 ht:H tw=some (.tup ws)
 B:Tb H pw
 pn:p≠d∧p≠c
 o:OffD d c pw H0 H
theorem Rt.off{d c p tw pw:Addr}{ys:List Str}{ws:List V}{H0 H H':Hp}(R:Rt d c p tw pw ys ws H0 H)(o:Off d c H H')(D':Z0 H' d c):Rt d c p tw pw ys ws H0 H':=by
 obtain ⟨n,cs,hd,hc,_⟩:=R.D.ex
 exact ⟨D',o _ _ R.hp R.pn.1 R.pn.2,o _ _ R.ht (ZK R.ht hd (fun z=>nomatch z)) (ZK R.ht hc (fun z=>nomatch z)),R.B.off R.D o,R.pn,fun b o' e h1 h2 h3=>o _ _ (R.o b o' e h1 h2 h3) h1 h2⟩
theorem Rt.offT{d c p tw pw:Addr}{ys:List Str}{ws:List V}{H0 H H':Hp}(R:Rt d c p tw pw ys ws H0 H)(o:Zda pw H H')(B':Tb H' pw):Rt d c p tw pw ys ws H0 H':=by
 obtain ⟨n,cs,hd,hc,l1,l2⟩:=R.D.ex
 exact ⟨⟨n,cs,R.B.lst o hd,R.B.lst o hc,l1,l2⟩,R.B.lst o R.hp,R.B.tup o R.ht,B',R.pn,fun b o' e h1 h2 h3=>o _ _ (R.o b o' e h1 h2 h3) h3⟩
theorem Rt.same{d c p tw pw:Addr}{ys:List Str}{ws:List V}{H0 H H':Hp}(R:Rt d c p tw pw ys ws H0 H)(s:ZU H H'):Rt d c p tw pw ys ws H0 H':=R.offT (ZU.offT s) (R.B.same s)
theorem Rt.dK{d c p tw pw b:Addr}{ys:List Str}{ws:List V}{H0 H H':Hp}{kvs:List (Key × V)}(R:Rt d c p tw pw ys ws H0 H)(o:Off d c H H')(e:H b=some (.dK kvs)):H' b=some (.dK kvs):=by
 obtain ⟨n,cs,hd,hc,_⟩:=R.D.ex
 exact o _ _ e (ZK e hd (fun z=>nomatch z)) (ZK e hc (fun z=>nomatch z))
theorem gi{kvs:List (Key × V)}:∀{ws:List V},(∀y,V.str y∈ws→nmB (.str y)=true→(Yw kvs (.inr y)).isSome=true)→Z5 kvs ws=none
 | [],_=>rfl
 | w::r,h=>by
  have ih:=gi (kvs:=kvs) (ws:=r) fun y hy=>h y (List.mem_cons_of_mem _ hy)
  cases w with
  | str z =>
   unfold Z5
   rw [if_neg fun q=>by rw [h z List.mem_cons_self q.1] at q;cases q.2]
   exact ih
  | _=>exact ih
theorem vk.inn{kvs:List (Key × V)}{ys:List Str}{ρ:Str→Int}(h:vk kvs ys ρ)(ws:List V):jN kvs ys ws ρ:=fun y hy _=>h y hy
theorem uX{H H':Hp}{d c q:Addr}(o:Off d c H H')(D:Z0 H' d c)(h:H' q=none):H q=none:=by
 obtain ⟨n,cs,hd,hc,_⟩:=D.ex
 cases e:H q with
 | none=>rfl
 | some u =>
  rw [o q u e (fun z=>by rw [z,hd] at h;cases h) (fun z=>by rw [z,hc] at h;cases h)] at h
  cases h
theorem Rt.put{d c p tw pw b:Addr}{ys:List Str}{ws:List V}{H0 H:Hp}{kvs:List (Key × V)}{o':HO}(R:Rt d c p tw pw ys ws H0 H)(h0:H0 b=none)(e:H b=some (.dK kvs)):Rt d c p tw pw ys ws H0 (upd H b o'):=by
 obtain ⟨n,cs,hd,hc,_⟩:=R.D.ex
 refine ⟨XE R.D ⟨ZK e hd (fun z=>nomatch z),ZK e hc (fun z=>nomatch z)⟩,?_,?_,R.B.put e,R.pn,fun a o e0 h1 h2 h3=>?_⟩
 ·rw [Zj (ZK R.hp e (fun z=>nomatch z))]
  exact R.hp
 ·rw [Zj (ZK R.ht e (fun z=>nomatch z))]
  exact R.ht
 ·rw [Zj (Zl e0 h0)]
  exact R.o a o e0 h1 h2 h3
theorem gj{H H':Hp}{d c:Addr}{ps:List (Str × V)}{rs:List V}(h:Xc H ps rs)(D:Z0 H d c)(o:Off d c H H'):Xc H' ps rs:=by
 obtain ⟨n,cs,hd,hc,_⟩:=D.ex
 exact Paired.mapP h fun _ _ ⟨a,e,q⟩=>⟨a,e,o _ _ q (ZK q hd (fun z=>nomatch z)) (ZK q hc (fun z=>nomatch z))⟩
theorem uY(f:Str→V):∀{ys:List Str} {y:Str},y∉ys→Yw (zo (ys.map fun y=>(y,f y))) (.inr y)=none:=by
 intro ys y hy
 have h:∀n,n≤ys.length→Yw (zo ((ys.take n).map fun y=>(y,f y))) (.inr y)=none:=by
  intro n
  induction n with
  | zero=>intro _;rfl
  | succ n ih =>
   intro hn
   have e:=take_snoc (List.getElem?_eq_getElem (show n < ys.length by lia))
   rw [e,List.map_append]
   show Yw (zo (_++[_])) _=_
   have hne:¬(Sum.inr y:Key)=Sum.inr ys[n]:=fun z=>hy (by rw [show y=ys[n] from Sum.inr.inj z];exact List.getElem_mem _)
   rw [zL,GO,if_neg hne]
   exact ih (by lia)
 have:=h ys.length (Nat.le_refl _)
 rw [List.take_length] at this
 exact this
noncomputable def Wc(kvs:List (Key × V))(ys:List Str)(x:V):Bool:=inV x (ys.map V.str) && !(Yw kvs (keyOf x)).isSome
theorem gk(xs:List V):jq xs []=xs.isEmpty:=by cases xs <;> rfl
theorem GU{x:V}{ys:List Str}(h:inV x (ys.map V.str)=true):∃y∈ys,x=.str y:=by
 cases x with
 | str z =>
  rw [Y2] at h
  exact ⟨z,of_decide_eq_true h,rfl⟩
 | _ =>
  exfalso
  unfold inV at h
  rw [List.any_eq_true] at h
  obtain ⟨v,hv,e⟩:=h
  obtain ⟨y,_,rfl⟩:=List.mem_map.mp hv
  exact absurd e (fun z=>nomatch (show false=true from z))
theorem y7{kvs:List (Key × V)}{ys:List Str}{ws:List V}{x:V}(h:x∈ws.filter (Wc kvs ys)):∃y,x=.str y:=by
 have h:=(List.mem_filter.mp h).2
 unfold Wc at h
 rw [Bool.and_eq_true] at h
 obtain ⟨y,_,e⟩:=GU h.1
 exact ⟨y,e⟩
theorem Zes{ys:List Str}(N:Nms ys){y:Str}(hy:y∈ys):nmB (.str y)=true:=decide_eq_true ⟨(N.ok y hy).2,(N.ok y hy).1⟩
theorem Zet{H:Hp}{pw b:Addr}{u:HO}(T:Tb H pw)(h:H b=some u)(hu:∀ps,u≠.tbl ps):b≠pw:=by
 obtain ⟨ps,e⟩:=T.w.ex
 exact ZK h e (hu ps)
theorem gm{ys:List Str}{ws:List V}{kvs:List (Key × V)}{ρ:Str→Int}(W:∀w∈ws,zU ys w)(h:jN kvs ys ws ρ):∀y,V.str y∈ws→nmB (.str y)=true→(Yw kvs (.inr y)).isSome=true:=by
 intro y hy hb
 have hb':=(of_decide_eq_true hb:_∧_)
 rcases W _ hy with (⟨z,e,hz⟩ | ⟨z,hz,e⟩ | ⟨z,e,_⟩) | ⟨z,e,hz⟩
 ·injection e with e
  subst e
  exact absurd (GS _ hz) hb'.1
 ·injection e with e
  subst e
  rw [h _ hz hy]
  rfl
 ·cases e
 ·injection e with e
  subst e
  exact absurd (Wa _ hz) hb'.1
theorem xy{kvs:List (Key × V)}{ys:List Str}{ws:List V}{ρ:Str→Int}(ok:∀x∈ws,zU ys x)(hv:vk kvs ys ρ):Z5 kvs ws=none:=gi (gm ok (hv.inn ws))
theorem qu{kvs:List (Key × V)}{ys:List Str}(N:Nms ys):∀{ws:List V},(∀x∈ws,zU ys x)→Z5 kvs ws=match ws.filter (Wc kvs ys) with | []=>none | x::_=>some (strV x)
 | [],_=>rfl
 | w::r,ok=>by
  have ih:=qu (kvs:=kvs) N (ws:=r) fun x hx=>ok x (List.mem_cons_of_mem _ hx)
  have kp:∀y,y∈Ye→Z5 kvs (V.str y::r)=match (V.str y::r).filter (Wc kvs ys) with | []=>none | x::_=>some (strV x):=fun y hk=>by
   have e1:¬Wc kvs ys (.str y)=true:=fun z=>by
    unfold Wc at z
    rw [Y2,Bool.and_eq_true] at z
    exact (N.ok y (of_decide_eq_true z.1)).2 hk
   rw [List.filter_cons_of_neg e1,←ih]
   exact if_neg fun z=>(of_decide_eq_true z.1).1 hk
  rcases ok w List.mem_cons_self with (⟨y,rfl,hy⟩ | ⟨y,hy,rfl⟩ | ⟨z,rfl,_,_⟩) | ⟨y,rfl,hy⟩
  ·exact kp y (GS y hy)
  ·have e2:Wc kvs ys (.str y)=!(Yw kvs (.inr y)).isSome:=by
    unfold Wc
    rw [Y2,decide_eq_true hy]
    rfl
   cases q:(Yw kvs (.inr y)).isSome with
   | true =>
    rw [List.filter_cons_of_neg (by rw [e2,q];decide),←ih]
    exact if_neg fun z=>by rw [q] at z;cases z.2
   | false =>
    rw [List.filter_cons_of_pos (by rw [e2,q];rfl)]
    exact if_pos ⟨Zes N hy,q⟩
  ·have e1:¬Wc kvs ys (.int z)=true:=fun q=>by
    unfold Wc at q
    rw [Bool.and_eq_true] at q
    obtain ⟨y,_,e⟩:=GU q.1
    cases e
   rw [List.filter_cons_of_neg e1,←ih]
   rfl
  ·exact kp y (Wa y hy)
theorem vp{kvs:List (Key × V)}{ys:List Str}{ws:List V}:(ws.filter (Wc kvs ys)).all YC=true:=by
 rw [List.all_eq_true]
 intro x hx
 obtain ⟨y,rfl⟩:=y7 hx
 rfl
theorem cv_ok1{m:Int}{ys:List Str}{ws:List V}{b:Bool}{x:V}(N:Nms ys)(hw:WB ys b x)(hm:x∈ws){kvs:List (Key × V)}{ρ:Str→Int}(hv:jN kvs ys ws ρ){xs:List V}(ht:TyS m (nextK x).reverse xs):Zej kvs ρ x xs:=by
 cases b with
 | true =>
  obtain ⟨y,rfl,hy⟩:=hw
  unfold nextK at ht
  rw [List.reverse_append,List.reverse_replicate,List.reverse_replicate] at ht
  rcases zX y hy with ⟨h1,h2,h3,h4⟩ | ⟨h1,h2,h3⟩
  ·rw [h2,List.replicate_zero,List.nil_append] at ht
   obtain ⟨is,rfl,hl⟩:=ht.ints
   exact .rel hy h1 (by lia) (fun a b=>by rw [hl];exact h4 ⟨a,b⟩)
  ·rw [h1,List.replicate_zero,List.append_nil] at ht
   obtain ⟨bs,rfl,hl⟩:=ht.bls
   exact .clm hy h1 (fun a=>by rw [hl];exact h2 a) (fun a b=>by rw [hl];exact h3 ⟨a,b⟩)
 | false =>
  have hk:=zV (Or.inl hw:zU ys x)
  have hc:clK (keyOf x)=false:=by
   rcases hw with ⟨y,rfl,hy⟩ | ⟨y,hy,rfl⟩ | ⟨z,rfl,_⟩
   ·have h:∀y∈qj,y∉Z9:=by decide +kernel
    exact decide_eq_false (h y hy)
   ·exact decide_eq_false fun z=>(N.ok y hy).k (Wa y z)
   ·rfl
  rw [JL N hw,List.reverse_replicate] at ht
  obtain ⟨is,rfl,hl⟩:=ht.ints
  exact .sum hc hk (wY N hw hm hl hv)
theorem qw(w:Nat)(a:Int)(h0:0≤a)(h1:a < 2 ^ (w + 1)):(a / 2 ^ w % 2=0∧a=a % 2 ^ w∧a < 2 ^ w)∨(a / 2 ^ w % 2=1∧a=2 ^ w + a % 2 ^ w∧2 ^ w≤a):=by
 have hp:(0:Int) < 2 ^ w:=Int.pow_pos (by decide)
 have e:=Int.emod_add_mul_ediv a (2 ^ w)
 have m0:=Int.emod_nonneg a (Int.ne_of_gt hp)
 have m1:=Int.emod_lt_of_pos a hp
 rw [Int.pow_succ] at h1
 have q0:0≤a / 2 ^ w:=Int.ediv_nonneg h0 (Int.le_of_lt hp)
 have q2:a / 2 ^ w < 2:=Int.ediv_lt_of_lt_mul hp (by rw [Int.mul_comm];exact h1)
 have hq:a / 2 ^ w=0∨a / 2 ^ w=1:=by lia
 rcases hq with h | h
 ·rw [h,Int.mul_zero] at e
  rw [h]
  exact .inl ⟨rfl,by lia,by lia⟩
 ·rw [h,Int.mul_one] at e
  rw [h]
  exact .inr ⟨rfl,by lia,by lia⟩
theorem y8(x y:Int)(xs ys:List Int):ltI (x::xs) (y::ys)=if x=y then ltI xs ys else decide (x < y):=rfl
theorem gp(w:Nat):∀(a b:Int),0≤a→a < 2 ^ w→0≤b→b < 2 ^ w→ltI (Zm w a).reverse (Zm w b).reverse=decide (a < b):=by
 induction w with
 | zero =>
  intro a b a0 a1 b0 b1
  rw [Int.pow_zero] at a1 b1
  rw [decide_eq_false (by lia)]
  rfl
 | succ w ih =>
  intro a b a0 a1 b0 b1
  have hp:(0:Int) < 2 ^ w:=Int.pow_pos (by decide)
  have ma0:=Int.emod_nonneg a (Int.ne_of_gt hp)
  have ma1:=Int.emod_lt_of_pos a hp
  have mb0:=Int.emod_nonneg b (Int.ne_of_gt hp)
  have mb1:=Int.emod_lt_of_pos b hp
  have r:=ih (a % 2 ^ w) (b % 2 ^ w) ma0 ma1 mb0 mb1
  rw [JN,JN] at r
  rw [Ja,Ja,List.reverse_append,List.reverse_append]
  show ltI ((a / 2 ^ w % 2)::(Zm w a).reverse) ((b / 2 ^ w % 2)::(Zm w b).reverse)=_
  rw [y8,r]
  rcases qw w a a0 a1 with ⟨e1,e2,e3⟩ | ⟨e1,e2,e3⟩ <;> rcases qw w b b0 b1 with ⟨f1,f2,f3⟩ | ⟨f1,f2,f3⟩ <;> rw [e1,f1]
  ·rw [if_pos rfl]
   exact decide_eq_decide.mpr (by lia)
  ·rw [if_neg (by decide)]
   exact decide_eq_decide.mpr (by lia)
  ·rw [if_neg (by decide)]
   exact decide_eq_decide.mpr (by lia)
  ·rw [if_pos rfl]
   exact decide_eq_decide.mpr (by lia)
theorem uZ(w:Nat)(a b:Int)(a0:0≤a)(a1:a < 2 ^ (w + 1))(b0:0≤b)(b1:b < 2 ^ (w + 1)):ltI ((1 - a / 2 ^ w % 2)::(Zm w a).reverse) ((1 - b / 2 ^ w % 2)::(Zm w b).reverse)=decide (sgn (2 ^ (w + 1)) a < sgn (2 ^ (w + 1)) b):=by
 have hp:(0:Int) < 2 ^ w:=Int.pow_pos (by decide)
 have ma0:=Int.emod_nonneg a (Int.ne_of_gt hp)
 have ma1:=Int.emod_lt_of_pos a hp
 have mb0:=Int.emod_nonneg b (Int.ne_of_gt hp)
 have mb1:=Int.emod_lt_of_pos b hp
 have r:=gp w (a % 2 ^ w) (b % 2 ^ w) ma0 ma1 mb0 mb1
 rw [JN,JN] at r
 rw [y8,r]
 have e2w:(2:Int) ^ (w + 1)=2 ^ w * 2:=Int.pow_succ ..
 unfold sgn
 rcases qw w a a0 a1 with ⟨e1,e2,e3⟩ | ⟨e1,e2,e3⟩ <;> rcases qw w b b0 b1 with ⟨f1,f2,f3⟩ | ⟨f1,f2,f3⟩ <;> rw [e1,f1,e2w]
 ·rw [if_pos rfl,if_neg (by lia),if_neg (by lia)]
  exact decide_eq_decide.mpr (by lia)
 ·rw [if_neg (by decide),if_neg (by lia),if_pos (by lia)]
  exact decide_eq_decide.mpr (by lia)
 ·rw [if_neg (by decide),if_pos (by lia),if_neg (by lia)]
  exact decide_eq_decide.mpr (by lia)
 ·rw [if_pos rfl,if_pos (by lia),if_pos (by lia)]
  exact decide_eq_decide.mpr (by lia)
theorem gq(w:Nat)(a:Int)(a0:0≤a)(a1:a < 2 ^ (w + 1)):decide (V.int (a / 2 ^ w % 2)=V.int 1)=decide (sgn (2 ^ (w + 1)) a < 0):=by
 have e2w:(2:Int) ^ (w + 1)=2 ^ w * 2:=Int.pow_succ ..
 unfold sgn
 rcases qw w a a0 a1 with ⟨e1,e2,e3⟩ | ⟨e1,e2,e3⟩ <;> rw [e1,e2w]
 ·rw [if_neg (by lia),decide_eq_false (fun z=>by injection z with z;exact absurd z (by decide)),decide_eq_false (by lia)]
 ·rw [if_pos (by lia),decide_eq_true rfl,decide_eq_true (by lia)]
theorem zZ(w:Nat)(a b:Int)(a0:0≤a)(a1:a < 2 ^ w)(b0:0≤b)(b1:b < 2 ^ w)(h:Zm w a=Zm w b):a=b:=by
 have h1:=zY w a
 have h2:=zY w b
 rw [h,h2,Int.emod_eq_of_lt b0 b1,Int.emod_eq_of_lt a0 a1] at h1
 exact h1.symm
theorem ja:∀(xs ys:List Int),jq (xs.map V.int) (ys.map V.int)=decide (xs=ys)
 | [],[]=>rfl
 | [],_::_=>rfl
 | _::_,[]=>rfl
 | x::xs,y::ys=>by
  show (x == y && jq (xs.map V.int) (ys.map V.int))=_
  rw [ja xs ys]
  by_cases h:x=y
  ·subst h
   rw [beq_self_eq_true,Bool.true_and]
   exact decide_eq_decide.mpr ⟨fun e=>by rw [e],fun e=>(List.cons.inj e).2⟩
  ·rw [beq_eq_false_iff_ne.mpr h,Bool.false_and]
   exact (decide_eq_false fun e=>h (List.cons.inj e).1).symm
theorem jO(w:Nat)(a:Int)(a0:0≤a)(a1:a < 2 ^ w):(!inV (.int 1) ((Zm w a).map V.int))=decide (a=0):=by
 by_cases h:a=0
 ·rw [decide_eq_true h,h,qr]
  cases q:inV (.int 1) ((List.replicate w (0:Int)).map V.int) with
  | false=>rfl
  | true =>
   have:=List.eq_of_mem_replicate (zc.mp q)
   cases this
 ·rw [decide_eq_false h]
  cases q:inV (.int 1) ((Zm w a).map V.int) with
  | true=>rfl
  | false =>
   exfalso
   have hz:∀b∈Zm w a,b=0:=fun b hb=>by
    unfold Zm at hb
    obtain ⟨i,hi,rfl⟩:=List.mem_map.mp hb
    have h2:a / 2 ^ i % 2=0∨a / 2 ^ i % 2=1:=by lia
    rcases h2 with h2 | h2
    ·exact h2
    ·have:inV (.int 1) ((Zm w a).map V.int)=true:=zc.mpr (by rw [←h2];exact hb)
     rw [q] at this
     cases this
   have e:Zm w a=Zm w 0:=by
    rw [qr]
    refine List.eq_replicate_iff.mpr ⟨YZ w a,hz⟩
   exact h (zZ w a 0 a0 a1 (by decide) (Int.pow_pos (by decide)) e)
inductive Yu(H:Hp)(W:Nat):List V→List V→Prop
 | nil:Yu H W [] []
 | row {a:Addr} {n:Int} {zs ns:List V}:H a=some (.lst ((Zm W n).map V.int))→Yu H W zs ns→Yu H W (.ref a::zs) (.int n::ns)
 | tru {b:Bool} {zs ns:List V}:Yu H W zs ns→Yu H W (.bl b::zs) (.bl b::ns)
theorem Yu.len{H:Hp}{W:Nat}{zs ns:List V}(h:Yu H W zs ns):zs.length=ns.length:=by
 induction h with
 | nil=>rfl
 | row _ _ ih=>rw [List.length_cons,List.length_cons,ih]
 | tru _ ih=>rw [List.length_cons,List.length_cons,ih]
theorem Yu.same{H H':Hp}{W:Nat}{zs ns:List V}(h:Yu H W zs ns)(s:∀b n,H b=some (.lst ((Zm W n).map V.int))→H' b=some (.lst ((Zm W n).map V.int))):Yu H' W zs ns:=by
 induction h with
 | nil=>exact .nil
 | row e _ ih=>exact .row (s _ _ e) ih
 | tru _ ih=>exact .tru ih
theorem Yu.ints{H:Hp}{W:Nat}:∀{zs:List V} {is:List Int} {ns:List V},Yu H W zs (is.map V.int++ns)→∃ras zs',zs=ras.map V.ref++zs'∧Xf H W ras is∧Yu H W zs' ns
 | zs,[],ns,h=>⟨[],zs,rfl,.nil,h⟩
 | _,i::is,ns,h=>by
  cases h with
  | row e h =>
   obtain ⟨ras,zs',rfl,R,P⟩:=Yu.ints h
   exact ⟨_::ras,zs',rfl,.cons e R,P⟩
theorem Yu.bls{H:Hp}{W:Nat}:∀{zs:List V} {bs:List Bool} {ns:List V},Yu H W zs (bs.map V.bl++ns)→∃zs',zs=bs.map V.bl++zs'∧Yu H W zs' ns
 | zs,[],ns,h=>⟨zs,rfl,h⟩
 | _,b::bs,ns,h=>by
  cases h with
  | tru h =>
   obtain ⟨zs',rfl,P⟩:=Yu.bls h
   exact ⟨zs',rfl,P⟩
theorem Yu.noint{H:Hp}{W:Nat}{zs ns:List V}(h:Yu H W zs ns):∀v∈zs,∀z:Int,v≠.int z:=by
 induction h with
 | nil=>exact fun v hv=>nomatch hv
 | row _ _ ih =>
  intro v hv z e
  rcases List.mem_cons.mp hv with rfl | hv
  ·cases e
  ·exact ih v hv z e
 | tru _ ih =>
  intro v hv z e
  rcases List.mem_cons.mp hv with rfl | hv
  ·cases e
  ·exact ih v hv z e
theorem qx{H:Hp}{W:Nat}{st b:Addr}{n:Int}{zs:List V}(W1:1≤W)(h:H st=some (.lst zs.reverse))(hz:∀v∈zs,∀z:Int,v≠.int z)(e:H b=some (.lst ((Zm W n).map V.int))):b≠st:=by
 intro z
 rw [z,h] at e
 injection e with e
 injection e with e
 have h0:=congrArg (fun l=>l[0]?) e
 rw [zT W n 0 (by lia)] at h0
 exact hz _ (List.mem_reverse.mp (List.mem_of_getElem? h0)) _ rfl
theorem TyS.intsB{m:Int}:∀{n:Nat} {xs:List V},TyS m (List.replicate n false) xs→∃is:List Int,xs=is.map V.int∧is.length=n∧∀i∈is,0≤i∧i < m
 | 0,_,.nil=>⟨[],rfl,rfl,fun i h=>nomatch h⟩
 | n + 1,_,.cons h t=>by
  obtain ⟨a,rfl,h0,h1⟩:=h
  obtain ⟨is,rfl,hl,hb⟩:=TyS.intsB t
  refine ⟨a::is,rfl,by rw [List.length_cons,hl],fun i hi=>?_⟩
  rcases List.mem_cons.mp hi with rfl | hi
  ·exact ⟨h0,h1⟩
  ·exact hb i hi
theorem y9:gH (Ye.map V.str) (some 10) none=(Ye.drop 10).map V.str:=by rfl
theorem gr:∀y∈Z9,y∈Ye.drop 10:=by decide +kernel
theorem Zdi:∀y∈qj,y∉Ye.drop 10:=by decide +kernel
theorem Zdj(z:Int)(ys:List Str):inV (.int z) (ys.map V.str)=false:=by
 cases q:inV (.int z) (ys.map V.str) with
 | false=>rfl
 | true =>
  obtain ⟨y,_,e⟩:=GU q
  cases e
theorem Zaa{ys:List Str}{x:V}(N:Nms ys)(h:X0 ys x):inV x ((Ye.drop 10).map V.str)=false∧YC x=true:=by
 rcases h with ⟨y,rfl,hy⟩ | ⟨y,hy,rfl⟩ | ⟨z,rfl,_⟩
 ·rw [Y2]
  exact ⟨decide_eq_false (Zdi y hy),rfl⟩
 ·rw [Y2]
  exact ⟨decide_eq_false fun z=>(N.ok y hy).2 (List.mem_of_mem_drop z),rfl⟩
 ·exact ⟨Zdj _ _,rfl⟩
set_option genInjectivity false in
set_option genSizeOfSpec false in
structure Adr where
 a_words_at:Addr
 f_words_at:FuncData
 a_is_sum_word:Addr
 f_is_sum_word:FuncData
 a_is_claim_word:Addr
 f_is_claim_word:FuncData
 a_sums_behind:Addr
 f_sums_behind:FuncData
 a_claims_behind:Addr
 f_claims_behind:FuncData
 a_is_made_of:Addr
 f_is_made_of:FuncData
 a_worth_of_one:Addr
 f_worth_of_one:FuncData
 a_worth_of_two:Addr
 f_worth_of_two:FuncData
 a_signed:Addr
 f_signed:FuncData
 a_truth_of_claims:Addr
 f_truth_of_claims:FuncData
 a_law_deck:Addr
 f_law_deck:FuncData
 a_law_take:Addr
 f_law_take:FuncData
 a_law_power:Addr
 f_law_power:FuncData
 a_law_kept:Addr
 f_law_kept:FuncData
 a_law_bits:Addr
 f_law_bits:FuncData
 a_law_added:Addr
 f_law_added:FuncData
 a_law_lowest:Addr
 f_law_lowest:FuncData
 a_law_turned_bits:Addr
 f_law_turned_bits:FuncData
 a_law_truth:Addr
 f_law_truth:FuncData
 a_NoName_init:Addr
 f_NoName_init:FuncData
 a_parts_of:Addr
 f_parts_of:FuncData
 a_is_name:Addr
 f_is_name:FuncData
 a_word_worth:Addr
 f_word_worth:FuncData
 a_truth_of_sums:Addr
 f_truth_of_sums:FuncData
 a_law_width:Addr
 f_law_width:FuncData
 a_law_names:Addr
 f_law_names:FuncData
 a_law_leaf:Addr
 f_law_leaf:FuncData
 a_law_join:Addr
 f_law_join:FuncData
 a_law_made:Addr
 f_law_made:FuncData
 a_law_values:Addr
 f_law_values:FuncData
 a_parts_taken:Addr
 f_parts_taken:FuncData
 a_refuse_lacking:Addr
 f_refuse_lacking:FuncData
 a_told_of_word:Addr
 f_told_of_word:FuncData
 a_law_sum:Addr
 f_law_sum:FuncData
 a_law_rows:Addr
 f_law_rows:FuncData
 a_law_atom:Addr
 f_law_atom:FuncData
 a_law_holds:Addr
 f_law_holds:FuncData
 a_law_claim:Addr
 f_law_claim:FuncData
 a_folded:Addr
 f_folded:FuncData
 a_holds:Addr
 f_holds:FuncData
 a_law_refused:Addr
 f_law_refused:FuncData
 a_law_right:Addr
 f_law_right:FuncData
 a_law:Addr
 f_law:FuncData
 c_holds:Addr
 p_holds:Addr
 x_WidthError:Addr
 x_NoSum:Addr
 x_NoClaim:Addr
 x_NoWords:Addr
 x_NoTurning:Addr
 x_NoShorter:Addr
 x_NoAsk:Addr
 x_NoName:Addr
 g_SUM_PARTS:Addr
 g_SUMS_IN_CLAIM:Addr
 g_CLAIMS_IN_CLAIM:Addr
 k_LETTERS:Tok
 k_LONGEST_NAME:Tok
structure Kg(K:PySem.W.Frag)(w:World)(mg:Str→Option Value)(x:Str)(a:Addr)(l:List (Str × Int)):Prop where
 m:mg x=some (.ref a)
 d:KD K w a l
structure Df(K:PySem.W.Frag)(mg:Str→Option Value)(x:Str)(st:Stmt)(ps:List Str)(f:Addr)(fd:FuncData):Prop where
 F:Fun K x x st f fd
 m:mg x=some (.ref f)
 b:Binds K fd ps []
structure Di(K:PySem.W.Frag)(q:Str)(st:Stmt)(ps:List Str)(f:Addr)(fd:FuncData):Prop where
 F:Fun K "__init__" q st f fd
 b:Binds K fd ps []
set_option genInjectivity false in
set_option genSizeOfSpec false in
structure Txt(K:PySem.W.Frag)(w:World)(mg:Str→Option Value)(t:Adr):Prop where
 g_SUM_PARTS:Kg K w mg "SUM_PARTS" t.g_SUM_PARTS [("not",1),("neg",1),("twice",1),("low",1),("and",2),("or",2),("odd",2),("add",2),("sub",2),("pick",3)]
 g_SUMS_IN_CLAIM:Kg K w mg "SUMS_IN_CLAIM" t.g_SUMS_IN_CLAIM [("same",2),("under",2),("beneath",2),("sign",1),("nought",1)]
 g_CLAIMS_IN_CLAIM:Kg K w mg "CLAIMS_IN_CLAIM" t.g_CLAIMS_IN_CLAIM [("both",2),("either",2),("so",2),("never",1),("yes",0)]
 g_LETTERS:mg "LETTERS" = some (.str "abcdefghijklmnopqrstuvwxyz" t.k_LETTERS)
 g_LONGEST_NAME:mg "LONGEST_NAME" = some (.int 8 t.k_LONGEST_NAME)
 d_words_at:Df K mg "words_at" Xm ["width"] t.a_words_at t.f_words_at
 d_is_sum_word:Df K mg "is_sum_word" Yx ["text"] t.a_is_sum_word t.f_is_sum_word
 d_is_claim_word:Df K mg "is_claim_word" ZX ["text"] t.a_is_claim_word t.f_is_claim_word
 d_sums_behind:Df K mg "sums_behind" Yy ["word"] t.a_sums_behind t.f_sums_behind
 d_claims_behind:Df K mg "claims_behind" ZY ["word"] t.a_claims_behind t.f_claims_behind
 d_is_made_of:Df K mg "is_made_of" Yr ["text","signs"] t.a_is_made_of t.f_is_made_of
 d_worth_of_one:Df K mg "worth_of_one" Yi ["word","part"] t.a_worth_of_one t.f_worth_of_one
 d_worth_of_two:Df K mg "worth_of_two" Yj ["word","one","other"] t.a_worth_of_two t.f_worth_of_two
 d_signed:Df K mg "signed" WY ["word","many"] t.a_signed t.f_signed
 d_truth_of_claims:Df K mg "truth_of_claims" ZL ["word","truths"] t.a_truth_of_claims t.f_truth_of_claims
 d_law_deck:Df K mg "_law_deck" Xn ["script"] t.a_law_deck t.f_law_deck
 d_law_take:Df K mg "_law_take" Xo ["deck","many"] t.a_law_take t.f_law_take
 d_law_power:Df K mg "_law_power" YH ["width"] t.a_law_power t.f_law_power
 d_law_kept:Df K mg "_law_kept" Xp [] t.a_law_kept t.f_law_kept
 d_law_bits:Df K mg "_law_bits" Xq ["number","width"] t.a_law_bits t.f_law_bits
 d_law_added:Df K mg "_law_added" YI ["one","other","carry"] t.a_law_added t.f_law_added
 d_law_lowest:Df K mg "_law_lowest" Y7 ["one"] t.a_law_lowest t.f_law_lowest
 d_law_turned_bits:Df K mg "_law_turned_bits" ZD ["one"] t.a_law_turned_bits t.f_law_turned_bits
 d_law_truth:Df K mg "_law_truth" YJ ["word","pile"] t.a_law_truth t.f_law_truth
 d_NoName_init:Di K "NoName.__init__" Yz ["self","word"] t.a_NoName_init t.f_NoName_init
 d_parts_of:Df K mg "parts_of" Xr ["word"] t.a_parts_of t.f_parts_of
 d_is_name:Df K mg "is_name" XX ["text"] t.a_is_name t.f_is_name
 d_word_worth:Df K mg "word_worth" Y8 ["word","parts","values"] t.a_word_worth t.f_word_worth
 d_truth_of_sums:Df K mg "truth_of_sums" ZZ ["word","worths","many"] t.a_truth_of_sums t.f_truth_of_sums
 d_law_width:Df K mg "_law_width" YK ["deck"] t.a_law_width t.f_law_width
 d_law_names:Df K mg "_law_names" Ys ["deck"] t.a_law_names t.f_law_names
 d_law_leaf:Df K mg "_law_leaf" Xs ["deck","names"] t.a_law_leaf t.f_law_leaf
 d_law_join:Df K mg "_law_join" Xt ["deck"] t.a_law_join t.f_law_join
 d_law_made:Df K mg "_law_made" Y9 ["word","sums_in"] t.a_law_made t.f_law_made
 d_law_values:Df K mg "_law_values" YA ["deck","names","width"] t.a_law_values t.f_law_values
 d_parts_taken:Df K mg "parts_taken" Yd ["stack","word"] t.a_parts_taken t.f_parts_taken
 d_refuse_lacking:Df K mg "refuse_lacking" ZQ ["words","values"] t.a_refuse_lacking t.f_refuse_lacking
 d_told_of_word:Df K mg "told_of_word" Yk ["word","parts","many","values"] t.a_told_of_word t.f_told_of_word
 d_law_sum:Df K mg "_law_sum" XY ["deck","names","most","heavy"] t.a_law_sum t.f_law_sum
 d_law_rows:Df K mg "_law_rows" YL ["word","pile","width","values"] t.a_law_rows t.f_law_rows
 d_law_atom:Df K mg "_law_atom" Xu ["deck","names","heavy","most"] t.a_law_atom t.f_law_atom
 d_law_holds:Df K mg "_law_holds" YM ["claim","width","values"] t.a_law_holds t.f_law_holds
 d_law_claim:Df K mg "_law_claim" YN ["deck","names","heavy"] t.a_law_claim t.f_law_claim
 d_folded:Df K mg "folded" WZ ["words","told_of"] t.a_folded t.f_folded
 d_holds:Df K mg "holds" J3 ["claim","width","values"] t.a_holds t.f_holds
 d_law_refused:Df K mg "_law_refused" Y0 ["claim","width","values","name"] t.a_law_refused t.f_law_refused
 d_law_right:Df K mg "_law_right" Yt ["deck","names","claim","width"] t.a_law_right t.f_law_right
 d_law:Df K mg "law" xR ["script"] t.a_law t.f_law
 k_holds:t.f_holds.code=.ref t.c_holds
 z_ValueError:mg "ValueError" = none
 z_all:mg "all" = none
 z_bool:mg "bool" = none
 z_dict:mg "dict" = none
 z_int:mg "int" = none
 z_isinstance:mg "isinstance" = none
 z_len:mg "len" = none
 z_range:mg "range" = none
 z_reversed:mg "reversed" = none
 z_str:mg "str" = none
 z_sum:mg "sum" = none
 z_tuple:mg "tuple" = none
 z_zip:mg "zip" = none
set_option genInjectivity false in
set_option genSizeOfSpec false in
structure Xcl(K:PySem.W.Frag)(mg:Str→Option Value)(base:Heap)(t:Adr):Prop where
 m_WidthError:mg "WidthError" = some (.ref t.x_WidthError)
 m_NoSum:mg "NoSum" = some (.ref t.x_NoSum)
 m_NoClaim:mg "NoClaim" = some (.ref t.x_NoClaim)
 m_NoWords:mg "NoWords" = some (.ref t.x_NoWords)
 m_NoTurning:mg "NoTurning" = some (.ref t.x_NoTurning)
 m_NoShorter:mg "NoShorter" = some (.ref t.x_NoShorter)
 m_NoAsk:mg "NoAsk" = some (.ref t.x_NoAsk)
 m_NoName:mg "NoName" = some (.ref t.x_NoName)
 o_WidthError:uo "WidthError" t.x_WidthError mg base
 kp_WidthError:PySem.W.keepIn K (.ref t.x_WidthError)=true
 o_NoSum:uo "NoSum" t.x_NoSum mg base
 kp_NoSum:PySem.W.keepIn K (.ref t.x_NoSum)=true
 o_NoClaim:uo "NoClaim" t.x_NoClaim mg base
 kp_NoClaim:PySem.W.keepIn K (.ref t.x_NoClaim)=true
 o_NoWords:uo "NoWords" t.x_NoWords mg base
 kp_NoWords:PySem.W.keepIn K (.ref t.x_NoWords)=true
 o_NoTurning:uo "NoTurning" t.x_NoTurning mg base
 kp_NoTurning:PySem.W.keepIn K (.ref t.x_NoTurning)=true
 o_NoShorter:uo "NoShorter" t.x_NoShorter mg base
 kp_NoShorter:PySem.W.keepIn K (.ref t.x_NoShorter)=true
 o_NoAsk:uo "NoAsk" t.x_NoAsk mg base
 kp_NoAsk:PySem.W.keepIn K (.ref t.x_NoAsk)=true
 b_NoSum:XW base t.x_NoSum t.x_WidthError
 b_NoClaim:XW base t.x_NoClaim t.x_WidthError
 b_NoWords:XW base t.x_NoWords t.x_WidthError
 b_NoTurning:XW base t.x_NoTurning t.x_WidthError
 b_NoShorter:XW base t.x_NoShorter t.x_WidthError
 b_NoAsk:XW base t.x_NoAsk t.x_WidthError
 b_NoName:XW base t.x_NoName t.x_WidthError
 c_WidthError:Cl3 K t.x_WidthError
 c_NoSum:Cl3 K t.x_NoSum
 c_NoClaim:Cl3 K t.x_NoClaim
 c_NoWords:Cl3 K t.x_NoWords
 c_NoTurning:Cl3 K t.x_NoTurning
 c_NoShorter:Cl3 K t.x_NoShorter
 c_NoAsk:Cl3 K t.x_NoAsk
 c_NoName:Cl3 K t.x_NoName
 mk_NoName:MkX K t.x_NoName t.a_NoName_init
 at_NoName:AtC K t.x_NoName "word"
 q_not:PySem.W.kitAny K (.ref t.x_NoName) [.ref t.x_NoAsk,.ref t.x_NoClaim,.ref t.x_NoShorter,.ref t.x_NoSum,.ref t.x_NoTurning,.ref t.x_NoWords]=some false
 q_val:PySem.W.kitOne K (.ref t.x_NoName) (.type "ValueError")=some true
set_option genInjectivity false in
set_option genSizeOfSpec false in
structure Tbs(mg:Str→Option Value)(base:Heap)(t:Adr):Prop where
 c_holds:PySem.W.CodeHd base t.c_holds t.p_holds
 B:qR mg base
theorem Wt:Zw ["width","many","bit_number"] ["width"] (Zf Xm):=⟨rfl,rfl,rfl,by decide +kernel,rfl,by decide +kernel,by decide +kernel⟩
theorem qW:Zw ["text"] ["text"] (Zf Yx):=⟨rfl,rfl,rfl,by decide +kernel,rfl,by decide +kernel,by decide +kernel⟩
theorem GB:Zw ["text"] ["text"] (Zf ZX):=⟨rfl,rfl,rfl,by decide +kernel,rfl,by decide +kernel,by decide +kernel⟩
theorem qX:Zw ["word"] ["word"] (Zf Yy):=⟨rfl,rfl,rfl,by decide +kernel,rfl,by decide +kernel,by decide +kernel⟩
theorem GC:Zw ["word"] ["word"] (Zf ZY):=⟨rfl,rfl,rfl,by decide +kernel,rfl,by decide +kernel,by decide +kernel⟩
theorem zg:Zw ["text","signs"] ["text","signs"] (Zf Yr):=⟨rfl,rfl,rfl,by decide +kernel,rfl,by decide +kernel,by decide +kernel⟩
theorem qy:Zw ["word","part"] ["word","part"] (Zf Yi):=⟨rfl,rfl,rfl,by decide +kernel,rfl,by decide +kernel,by decide +kernel⟩
theorem qz:Zw ["word","one","other"] ["word","one","other"] (Zf Yj):=⟨rfl,rfl,rfl,by decide +kernel,rfl,by decide +kernel,by decide +kernel⟩
theorem gs:Zw ["word","many"] ["word","many"] (Zf WY):=⟨rfl,rfl,rfl,by decide +kernel,rfl,by decide +kernel,by decide +kernel⟩
theorem JO:Zw ["word","truths"] ["word","truths"] (Zf ZL):=⟨rfl,rfl,rfl,by decide +kernel,rfl,by decide +kernel,by decide +kernel⟩
theorem X2:Zw ["script","cells","k","mixed"] ["script"] (Zf Xn):=⟨rfl,rfl,rfl,by decide +kernel,rfl,by decide +kernel,by decide +kernel⟩
theorem J4:Zw ["deck","many","at","cell"] ["deck","many"] (Zf Xo):=⟨rfl,rfl,rfl,by decide +kernel,rfl,by decide +kernel,by decide +kernel⟩
theorem XG:Zw ["width","number","k"] ["width"] (Zf YH):=⟨rfl,rfl,rfl,by decide +kernel,rfl,by decide +kernel,by decide +kernel⟩
theorem q8:Zw ["some"] [] (Zf Xp):=⟨rfl,rfl,rfl,by decide +kernel,rfl,by decide +kernel,by decide +kernel⟩
theorem Wu:Zw ["number","width","found","k"] ["number","width"] (Zf Xq):=⟨rfl,rfl,rfl,by decide +kernel,rfl,by decide +kernel,by decide +kernel⟩
theorem Xa:Zw ["one","other","carry","found","k","whole"] ["one","other","carry"] (Zf YI):=⟨rfl,rfl,rfl,by decide +kernel,rfl,by decide +kernel,by decide +kernel⟩
theorem JP:Zw ["one","found"] ["one"] (Zf Y7):=⟨rfl,rfl,rfl,by decide +kernel,rfl,by decide +kernel,by decide +kernel⟩
theorem JQ:Zw ["one"] ["one"] (Zf ZD):=⟨rfl,rfl,rfl,by decide +kernel,rfl,by decide +kernel,by decide +kernel⟩
theorem WI:Zw ["word","pile","one","other"] ["word","pile"] (Zf YJ):=⟨rfl,rfl,rfl,by decide +kernel,rfl,by decide +kernel,by decide +kernel⟩
theorem qY:Zw ["self","word"] ["self","word"] (Zf Yz):=⟨rfl,rfl,rfl,by decide +kernel,rfl,by decide +kernel,by decide +kernel⟩
theorem jP:Zw ["word"] ["word"] (Zf Xr):=⟨rfl,rfl,rfl,by decide +kernel,rfl,by decide +kernel,by decide +kernel⟩
theorem vq:Zw ["text"] ["text"] (Zf XX):=⟨rfl,rfl,rfl,by decide +kernel,rfl,by decide +kernel,by decide +kernel⟩
theorem zh:Zw ["word","parts","values"] ["word","parts","values"] (Zf Y8):=⟨rfl,rfl,rfl,by decide +kernel,rfl,by decide +kernel,by decide +kernel⟩
theorem GD:Zw ["word","worths","many"] ["word","worths","many"] (Zf ZZ):=⟨rfl,rfl,rfl,by decide +kernel,rfl,by decide +kernel,by decide +kernel⟩
theorem jb:Zw ["deck"] ["deck"] (Zf YK):=⟨rfl,rfl,rfl,by decide +kernel,rfl,by decide +kernel,by decide +kernel⟩
theorem ZH:Zw ["deck","letters","base","at","names","k","place","name"] ["deck"] (Zf Ys):=⟨rfl,rfl,rfl,by decide +kernel,rfl,by decide +kernel,by decide +kernel⟩
theorem qA:Zw ["deck","names","kind"] ["deck","names"] (Zf Xs):=⟨rfl,rfl,rfl,by decide +kernel,rfl,by decide +kernel,by decide +kernel⟩
theorem jQ:Zw ["deck"] ["deck"] (Zf Xt):=⟨rfl,rfl,rfl,by decide +kernel,rfl,by decide +kernel,by decide +kernel⟩
theorem X3:Zw ["word","sums_in","one","nought","other","at"] ["word","sums_in"] (Zf Y9):=⟨rfl,rfl,rfl,by decide +kernel,rfl,by decide +kernel,by decide +kernel⟩
theorem YE:Zw ["deck","names","width","values","full","name","some"] ["deck","names","width"] (Zf YA):=⟨rfl,rfl,rfl,by decide +kernel,rfl,by decide +kernel,by decide +kernel⟩
theorem qZ:Zw ["stack","word"] ["stack","word"] (Zf Yd):=⟨rfl,rfl,rfl,by decide +kernel,rfl,by decide +kernel,by decide +kernel⟩
theorem Wd:Zw ["words","values","word"] ["words","values"] (Zf ZQ):=⟨rfl,rfl,rfl,by decide +kernel,rfl,by decide +kernel,by decide +kernel⟩
theorem qB:Zw ["word","parts","many","values"] ["word","parts","many","values"] (Zf Yk):=⟨rfl,rfl,rfl,by decide +kernel,rfl,by decide +kernel,by decide +kernel⟩
theorem Yl:Zw ["deck","names","most","heavy","words","due","room","kind","word","many"] ["deck","names","most","heavy"] (Zf XY):=⟨rfl,rfl,rfl,by decide +kernel,rfl,by decide +kernel,by decide +kernel⟩
theorem qC:Zw ["word","pile","width","values","many"] ["word","pile","width","values"] (Zf YL):=⟨rfl,rfl,rfl,by decide +kernel,rfl,by decide +kernel,by decide +kernel⟩
theorem X4:Zw ["deck","names","heavy","most","kind","found","k"] ["deck","names","heavy","most"] (Zf Xu):=⟨rfl,rfl,rfl,by decide +kernel,rfl,by decide +kernel,by decide +kernel⟩
theorem WJ:Zw ["claim","width","values","pile","word"] ["claim","width","values"] (Zf YM):=⟨rfl,rfl,rfl,by decide +kernel,rfl,by decide +kernel,by decide +kernel⟩
theorem Z6:Zw ["deck","names","heavy","joins","most","claim","k","other","way","word"] ["deck","names","heavy"] (Zf YN):=⟨rfl,rfl,rfl,by decide +kernel,rfl,by decide +kernel,by decide +kernel⟩
theorem JR:Zw ["words","told_of","stack","word","parts"] ["words","told_of"] (Zf WZ):=⟨rfl,rfl,rfl,by decide +kernel,rfl,by decide +kernel,by decide +kernel⟩
theorem yA:Zw ["claim","width","values","many"] ["claim","width","values"] (Zf J3):=⟨rfl,rfl,rfl,by decide +kernel,rfl,by decide +kernel,by decide +kernel⟩
theorem YU:Zw ["claim","width","values","name","caught","e"] ["claim","width","values","name"] (Zf Y0):=⟨rfl,rfl,rfl,by decide +kernel,rfl,by decide +kernel,by decide +kernel⟩
theorem Yv:Zw ["deck","names","claim","width","values","due","handed","found","fewer","lacking"] ["deck","names","claim","width"] (Zf Yt):=⟨rfl,rfl,rfl,by decide +kernel,rfl,by decide +kernel,by decide +kernel⟩
theorem x4:Zw ["script","deck","names","j","claim","k"] ["script"] (Zf xR):=⟨rfl,rfl,rfl,by decide +kernel,rfl,by decide +kernel,by decide +kernel⟩
section
variable {P:Program}{w:World}{K:PySem.W.Frag}{mg:Str→Option Value}{base:Heap}{t:Adr}
inductive JS(vs:List V)(H:Hp)(Q:VK):Prop
 | mk (w:Nat):(vs=[.int w])→(w≤1000)→(Q (.int (2 ^ w)) H)→JS vs H Q
noncomputable def qD(K:PySem.W.Frag):Sp:=fun vs H Q _=>JS vs H Q
theorem jR (T:Txt K w mg t) (TB:Tbs mg base t) (XB:Xcl K mg base t):Z7 P w K mg base CX0 1 t.a_words_at t.f_words_at ["width"] (qD K):=by
 refine T.d_words_at.F.ok Wt (fun vs H Q E h=>?_) (fun cdv A outer s H vs Q E hr h=>?_)
 ·obtain ⟨w,rfl,hw,k⟩:=h
  rfl
 ·obtain ⟨w,rfl,hw,k⟩:=h
  have hu:=ZR hr
  refine ⟨_,@QSs.out _ _ _ (Za (Zr (i:=1) Wt.nd rfl (Or.inl rfl) Ze)
    (Za (X8 PassesOwn.never rfl (ZV rfl T.z_range (Zi (qv 0) Zd)) (YD (i:=2) Wt.nd rfl (Or.inl rfl))
    (Zg (Zr (i:=1) Wt.nd rfl (Or.inl rfl) (Zv Xb (qv 1) Ze))))
    (Zg (Zn (qv 1))))),?_⟩
  clear hu hr
  try dsimp only [L2.cxK,L2.cxK2]
  refine L2.let3 ?_
  intro U2 U1
  refine ⟨_,rfl,(w:Int),rfl,by lia,by lia,YV (fun i σ H2=>∃v,σ=[some (.int w),some (.int (2 ^ i)),v]∧H2=H) ⟨none,rfl,rfl⟩ ?_ ?_⟩
  ·rintro i σ H2 hi hz_
   refine ZC fun Gz hGz=>?_
   obtain ⟨v,rfl,rfl⟩:=hz_
   refine hGz ?_
   clear hGz Gz
   refine ⟨_,rfl,_,_,rfl,rfl,.inr (.inr ⟨by decide,by decide⟩),some (.int (0 + (i:Int))),?_,rfl⟩
   rw [pow_succ']
   rfl
  ·rintro σ H2 hz_
   refine ZC fun Gz hGz=>?_
   obtain ⟨v,rfl,rfl⟩:=hz_
   refine hGz ?_
   clear hGz Gz
   refine ⟨_,rfl,?_⟩
   rw [Int.toNat_natCast]
   exact k
inductive Wy(vs:List V)(H:Hp)(Q:VK):Prop
 | mk (y:Str):(vs=[.str y])→(Q (.bl (decide (y∈qj))) H)→Wy vs H Q
noncomputable def Jh(K:PySem.W.Frag):Sp:=fun vs H Q _=>Wy vs H Q
theorem xa (T:Txt K w mg t) (TB:Tbs mg base t) (XB:Xcl K mg base t):Z7 P w K mg base CX0 1 t.a_is_sum_word t.f_is_sum_word ["text"] (Jh K):=by
 refine T.d_is_sum_word.F.ok qW (fun vs H Q E h=>?_) (fun cdv A outer s H vs Q E hr h=>?_)
 ·obtain ⟨y,rfl,k⟩:=h
  rfl
 ·obtain ⟨y,rfl,k⟩:=h
  have hu:=ZR hr
  refine ⟨_,@QSs.out _ _ _ (Zg (Zn (ZJ j7 (qv 0) (Y3 (v:=.ref t.g_SUM_PARTS) rfl T.g_SUM_PARTS.m rfl) (by with_unfolding_all rfl)))),?_⟩
  clear hu hr
  try dsimp only [L2.cxK,L2.cxK2]
  refine ⟨_,rfl,t.g_SUM_PARTS,T1,.inr y,rfl,T.g_SUM_PARTS.d,rfl,?_⟩
  rw [Zbf,tw1]
  exact k
inductive XH(vs:List V)(H:Hp)(Q:VK):Prop
 | mk (k:Key):(vs=[kV k])→(Q (.bl (clK k)) H)→XH vs H Q
noncomputable def Xe(K:PySem.W.Frag):Sp:=fun vs H Q _=>XH vs H Q
theorem gu(l:List (Str × Int))(k:Key):(Yw (kvsOf l) k).isSome=(match k with | .inr y=>decide (y∈l.map (·.1)) | .inl _=>false):=by
 cases k with
 | inr y=>exact Zbf l y
 | inl z =>
  induction l with
  | nil=>rfl
  | cons p r ih =>
   have e:Yw (kvsOf (p::r)) (.inl z)=Yw (kvsOf r) (.inl z):=Yc (p:=((Sum.inr p.1:Key),V.int p.2)) (fun z=>nomatch z)
   rw [e,ih]
theorem Zab(k:Key):clK k=((Yw (kvsOf T2) k).isSome || (Yw (kvsOf T3) k).isSome):=by
 rw [gu,gu]
 cases k with
 | inl z=>rfl
 | inr y =>
  show decide (y∈Z9)=(decide (y∈T2.map (·.1)) || decide (y∈T3.map (·.1)))
  have e:Z9=T2.map (·.1)++T3.map (·.1):=by decide +kernel
  rw [e]
  by_cases h1:y∈T2.map (·.1)
  ·rw [decide_eq_true h1,decide_eq_true (List.mem_append_left _ h1)]
   rfl
  ·by_cases h2:y∈T3.map (·.1)
   ·rw [decide_eq_true h2,decide_eq_true (List.mem_append_right _ h2),Bool.or_true]
   ·rw [decide_eq_false h1,decide_eq_false h2,decide_eq_false (fun z=>(List.mem_append.mp z).elim h1 h2)]
    rfl
theorem Wz (T:Txt K w mg t) (TB:Tbs mg base t) (XB:Xcl K mg base t):Z7 P w K mg base CX0 1 t.a_is_claim_word t.f_is_claim_word ["text"] (Xe K):=by
 refine T.d_is_claim_word.F.ok GB (fun vs H Q E h=>?_) (fun cdv A outer s H vs Q E hr h=>?_)
 ·obtain ⟨kk,rfl,k⟩:=h
  rfl
 ·obtain ⟨kk,rfl,k⟩:=h
  have hu:=ZR hr
  refine ⟨_,@QSs.out _ _ _ (Zg (Zn (gM (ZJ j7 (qv 0) (Y3 (v:=.ref t.g_SUMS_IN_CLAIM) rfl T.g_SUMS_IN_CLAIM.m rfl) (by with_unfolding_all rfl)) (JA (ZJ j7 (qv 0) (Y3 (v:=.ref t.g_CLAIMS_IN_CLAIM) rfl T.g_CLAIMS_IN_CLAIM.m rfl) (by with_unfolding_all rfl)))))),?_⟩
  clear hu hr
  try dsimp only [L2.cxK,L2.cxK2]
  rw [Zab] at k
  refine ⟨_,rfl,t.g_SUMS_IN_CLAIM,T2,kk,rfl,T.g_SUMS_IN_CLAIM.d,rfl,_,rfl,?_⟩
  cases h:(Yw (kvsOf T2) kk).isSome with
  | true =>
   rw [h] at k
   exact YB k
  | false =>
   rw [h] at k
   exact Yh ⟨_,rfl,t.g_CLAIMS_IN_CLAIM,T3,kk,rfl,T.g_CLAIMS_IN_CLAIM.d,rfl,k⟩
inductive W3(vs:List V)(H:Hp)(Q:VK):Prop
 | mk (k:Key):(vs=[kV k])→(Q (.int (Ws T1 k + Ws T2 k)) H)→W3 vs H Q
noncomputable def XQ(K:PySem.W.Frag):Sp:=fun vs H Q _=>W3 vs H Q
theorem Ji (T:Txt K w mg t) (TB:Tbs mg base t) (XB:Xcl K mg base t):Z7 P w K mg base CX0 1 t.a_sums_behind t.f_sums_behind ["word"] (XQ K):=by
 refine T.d_sums_behind.F.ok qX (fun vs H Q E h=>?_) (fun cdv A outer s H vs Q E hr h=>?_)
 ·obtain ⟨kk,rfl,k⟩:=h
  rfl
 ·obtain ⟨kk,rfl,k⟩:=h
  have hu:=ZR hr
  refine ⟨_,@QSs.out _ _ _ (Zg (Zn (Zv Ym (j8 (Y3 (v:=.ref t.g_SUM_PARTS) rfl T.g_SUM_PARTS.m rfl) (qv 0) Ze) (j8 (Y3 (v:=.ref t.g_SUMS_IN_CLAIM) rfl T.g_SUMS_IN_CLAIM.m rfl) (qv 0) Ze)))),?_⟩
  clear hu hr
  try dsimp only [L2.cxK,L2.cxK2]
  refine ⟨t.g_SUM_PARTS,T1,rfl,T.g_SUM_PARTS.d,_,rfl,kk,rfl,t.g_SUMS_IN_CLAIM,T2,rfl,T.g_SUMS_IN_CLAIM.d,_,rfl,kk,rfl,?_⟩
  rw [kget,kget]
  exact ⟨_,_,rfl,rfl,k⟩
inductive XI(vs:List V)(H:Hp)(Q:VK):Prop
 | mk (k:Key):(vs=[kV k])→(Q (.int (Ws T3 k)) H)→XI vs H Q
noncomputable def W4(K:PySem.W.Frag):Sp:=fun vs H Q _=>XI vs H Q
theorem GF (T:Txt K w mg t) (TB:Tbs mg base t) (XB:Xcl K mg base t):Z7 P w K mg base CX0 1 t.a_claims_behind t.f_claims_behind ["word"] (W4 K):=by
 refine T.d_claims_behind.F.ok GC (fun vs H Q E h=>?_) (fun cdv A outer s H vs Q E hr h=>?_)
 ·obtain ⟨kk,rfl,k⟩:=h
  rfl
 ·obtain ⟨kk,rfl,k⟩:=h
  have hu:=ZR hr
  refine ⟨_,@QSs.out _ _ _ (Zg (Zn (j8 (Y3 (v:=.ref t.g_CLAIMS_IN_CLAIM) rfl T.g_CLAIMS_IN_CLAIM.m rfl) (qv 0) Ze))),?_⟩
  clear hu hr
  try dsimp only [L2.cxK,L2.cxK2]
  refine ⟨t.g_CLAIMS_IN_CLAIM,T3,rfl,T.g_CLAIMS_IN_CLAIM.d,_,rfl,kk,rfl,?_⟩
  rw [kget]
  exact k
inductive WK(vs:List V)(H:Hp)(Q:VK):Prop
 | mk (y sg:Str):(vs=[.str y,.str sg])→(y.length≤100000)→(∀H',ZU H H'→Q (.bl (decide (xw y sg))) H')→WK vs H Q
noncomputable def JT(K:PySem.W.Frag):Sp:=fun vs H Q _=>WK vs H Q
theorem zi (T:Txt K w mg t) (TB:Tbs mg base t) (XB:Xcl K mg base t):Z7 P w K mg base CX0 1 t.a_is_made_of t.f_is_made_of ["text","signs"] (JT K):=by
 refine T.d_is_made_of.F.ok zg (fun vs H Q E h=>?_) (fun cdv A outer s H vs Q E hr h=>?_)
 ·obtain ⟨y,sg,rfl,hl,k⟩:=h
  rfl
 ·obtain ⟨y,sg,rfl,hl,k⟩:=h
  have hu:=ZR hr
  refine ⟨_,@QSs.out _ _ _ (Zg (Zn (xh (ZJ Zbw (qv 0) Zk (Zs _)) (JA (Z1 (kN rfl) (by rfl) T.z_all bt_all (Zi (J0 (⟨by rfl,by decide +kernel,by decide +kernel,by rfl,by decide +kernel,by decide +kernel,by rfl,by decide +kernel⟩:ZW (Zf Yr) _ ["text","signs"] "sign" ["signs"] [1]) (qi_str (qv 0)) (fun _ _ _ _=>qd) (fun _ _ _ _=>(ZJ vS (qv 0) (qv 1) (by with_unfolding_all rfl)))) Zd)))))),?_⟩
  clear hu hr
  try dsimp only [L2.cxK,L2.cxK2]
  refine ⟨_,rfl,rfl,_,rfl,?_⟩
  by_cases hy:y.cps.toList=[]
  ·have e:=ql.mp hy
   subst e
   rw [decide_eq_true (rfl:V.str ("" : Str)=V.str ("" : Str))]
   refine Yh ?_
   have e2:decide (xw ("" : Str) sg)=false:=decide_eq_false fun z=>z.1 (ql.mpr rfl)
   have:=k H (ZU.refl H)
   rw [e2] at this
   exact this
  have hne:¬V.str y=V.str ("" : Str):=fun z=>hy (ql.mpr (by injection z))
  rw [decide_eq_false hne]
  refine YB ?_
  refine ⟨_,rfl,y,rfl,gZ (fun c=>.bl (decide (c∈sg.cps.toList))) (Nat.le_trans (show y.length≤100000 from hl) (by decide)) (fun c _ R hR=>?_) (fun l hl2=>?_)⟩
  ·refine ⟨_,rfl,_,rfl,_,_,rfl,rfl,?_⟩
   rw [Zc8]
   exact hR
  have e1:(y.cps.toList.map fun c=>V.bl (decide (c∈sg.cps.toList)))=(y.cps.toList.map fun c=>decide (c∈sg.cps.toList)).map V.bl:=by rw [List.map_map];rfl
  rw [e1]
  refine ⟨l,_,rfl,SqL.of Zb,?_⟩
  rw [all_bs]
  have e2:decide (xw y sg)=decide (∀c∈y.cps.toList,decide (c∈sg.cps.toList)=true):=by
   rw [Bool.eq_iff_iff,decide_eq_true_iff,decide_eq_true_iff]
   constructor
   ·intro z c hc
    exact decide_eq_true (z.2 c hc)
   ·intro z
    exact ⟨hy,fun c hc=>of_decide_eq_true (z c hc)⟩
  rw [←e2]
  exact k _ (Zc hl2)
inductive We(vs:List V)(H:Hp)(Q:VK):Prop
 | mk (y:Str) (a:Int):(vs=[.str y,.int a])→(Q (.int (oneV y a)) H)→We vs H Q
noncomputable def WL(K:PySem.W.Frag):Sp:=fun vs H Q _=>We vs H Q
theorem qE (T:Txt K w mg t) (TB:Tbs mg base t) (XB:Xcl K mg base t):Z7 P w K mg base CX0 1 t.a_worth_of_one t.f_worth_of_one ["word","part"] (WL K):=by
 refine T.d_worth_of_one.F.ok qy (fun vs H Q E h=>?_) (fun cdv A outer s H vs Q E hr h=>?_)
 ·obtain ⟨y,a,rfl,k⟩:=h
  rfl
 ·obtain ⟨y,a,rfl,k⟩:=h
  have hu:=ZR hr
  refine ⟨_,@QSs.out _ _ _ (Za (Z8 (Zo ZI (qv 0) Zk (Zs _))
    (Zg (Zn (Jz Zak (qv 1)))) Zq)
    (Za (Z8 (Zo ZI (qv 0) Zk (Zs _))
    (Zg (Zn (Jz XS (qv 1)))) Zq)
    (Za (Z8 (Zo ZI (qv 0) Zk (Zs _))
    (Zg (Zn (Zv Ym (qv 1) (qv 1)))) Zq)
    (Zg (Zn (Zv ya (qv 1) (Jz XS (qv 1)))))))),?_⟩
  clear hu hr
  try dsimp only [L2.cxK,L2.cxK2]
  refine L2.let4 ?_
  intro U3 U2 U1
  unfold oneV at k
  refine ⟨_,rfl,rfl,_,rfl,?_⟩
  by_cases h1:y = "not"
  ·rw [decide_eq_true (congrArg V.str h1)]
   rw [if_pos h1] at k
   exact YB ⟨_,rfl,_,rfl,k⟩
  rw [decide_eq_false (fun z=>h1 (by injection z))]
  rw [if_neg h1] at k
  refine Yh ⟨_,rfl,rfl,_,rfl,?_⟩
  by_cases h2:y = "neg"
  ·rw [decide_eq_true (congrArg V.str h2)]
   rw [if_pos h2] at k
   exact YB ⟨_,rfl,_,rfl,k⟩
  rw [decide_eq_false (fun z=>h2 (by injection z))]
  rw [if_neg h2] at k
  refine Yh ⟨_,rfl,rfl,_,rfl,?_⟩
  by_cases h3:y = "twice"
  ·rw [decide_eq_true (congrArg V.str h3)]
   rw [if_pos h3] at k
   exact YB ⟨_,rfl,_,rfl,_,_,rfl,rfl,k⟩
  rw [decide_eq_false (fun z=>h3 (by injection z))]
  rw [if_neg h3] at k
  exact Yh ⟨_,rfl,_,rfl,_,rfl,_,_,rfl,rfl,k⟩
inductive Wf(vs:List V)(H:Hp)(Q:VK):Prop
 | mk (y:Str) (a b:Int):(vs=[.str y,.int a,.int b])→(Q (.int (Zei y a b)) H)→Wf vs H Q
noncomputable def WM(K:PySem.W.Frag):Sp:=fun vs H Q _=>Wf vs H Q
theorem qF (T:Txt K w mg t) (TB:Tbs mg base t) (XB:Xcl K mg base t):Z7 P w K mg base CX0 1 t.a_worth_of_two t.f_worth_of_two ["word","one","other"] (WM K):=by
 refine T.d_worth_of_two.F.ok qz (fun vs H Q E h=>?_) (fun cdv A outer s H vs Q E hr h=>?_)
 ·obtain ⟨y,a,b,rfl,k⟩:=h
  rfl
 ·obtain ⟨y,a,b,rfl,k⟩:=h
  have hu:=ZR hr
  refine ⟨_,@QSs.out _ _ _ (Za (Z8 (Zo ZI (qv 0) Zk (Zs _))
    (Zg (Zn (Zv ya (qv 1) (qv 2)))) Zq)
    (Za (Z8 (Zo ZI (qv 0) Zk (Zs _))
    (Zg (Zn (Zv Zdx (qv 1) (qv 2)))) Zq)
    (Za (Z8 (Zo ZI (qv 0) Zk (Zs _))
    (Zg (Zn (Zv op_xor (qv 1) (qv 2)))) Zq)
    (Za (Z8 (Zo ZI (qv 0) Zk (Zs _))
    (Zg (Zn (Zv Ym (qv 1) (qv 2)))) Zq)
    (Zg (Zn (Zv W9 (qv 1) (qv 2)))))))),?_⟩
  clear hu hr
  try dsimp only [L2.cxK,L2.cxK2]
  refine L2.let5 ?_
  intro U4 U3 U2 U1
  unfold Zei at k
  refine ⟨_,rfl,rfl,_,rfl,?_⟩
  by_cases h1:y = "and"
  ·rw [decide_eq_true (congrArg V.str h1)]
   rw [if_pos h1] at k
   exact YB ⟨_,rfl,_,rfl,_,_,rfl,rfl,k⟩
  rw [decide_eq_false (fun z=>h1 (by injection z))]
  rw [if_neg h1] at k
  refine Yh ⟨_,rfl,rfl,_,rfl,?_⟩
  by_cases h2:y = "or"
  ·rw [decide_eq_true (congrArg V.str h2)]
   rw [if_pos h2] at k
   exact YB ⟨_,rfl,_,rfl,_,_,rfl,rfl,k⟩
  rw [decide_eq_false (fun z=>h2 (by injection z))]
  rw [if_neg h2] at k
  refine Yh ⟨_,rfl,rfl,_,rfl,?_⟩
  by_cases h3:y = "odd"
  ·rw [decide_eq_true (congrArg V.str h3)]
   rw [if_pos h3] at k
   exact YB ⟨_,rfl,_,rfl,_,_,rfl,rfl,k⟩
  rw [decide_eq_false (fun z=>h3 (by injection z))]
  rw [if_neg h3] at k
  refine Yh ⟨_,rfl,rfl,_,rfl,?_⟩
  by_cases h4:y = "add"
  ·rw [decide_eq_true (congrArg V.str h4)]
   rw [if_pos h4] at k
   exact YB ⟨_,rfl,_,rfl,_,_,rfl,rfl,k⟩
  rw [decide_eq_false (fun z=>h4 (by injection z))]
  rw [if_neg h4] at k
  exact Yh ⟨_,rfl,_,rfl,_,_,rfl,rfl,k⟩
inductive qG(vs:List V)(H:Hp)(Q:VK):Prop
 | mk (a m:Int):(vs=[.int a,.int m])→(Q (.int (sgn m a)) H)→qG vs H Q
noncomputable def jc(K:PySem.W.Frag):Sp:=fun vs H Q _=>qG vs H Q
theorem gv (T:Txt K w mg t) (TB:Tbs mg base t) (XB:Xcl K mg base t):Z7 P w K mg base CX0 1 t.a_signed t.f_signed ["word","many"] (jc K):=by
 refine T.d_signed.F.ok gs (fun vs H Q E h=>?_) (fun cdv A outer s H vs Q E hr h=>?_)
 ·obtain ⟨a,m,rfl,k⟩:=h
  rfl
 ·obtain ⟨a,m,rfl,k⟩:=h
  have hu:=ZR hr
  refine ⟨_,@QSs.out _ _ _ (Zg (Zn (gN (Zo op_ge (Zv Xb (qv 0) Ze) (qv 1) (Zs _)) (Zv W9 (qv 0) (qv 1)) (qv 0)))),?_⟩
  clear hu hr
  try dsimp only [L2.cxK,L2.cxK2]
  unfold sgn at k
  refine ⟨_,rfl,_,_,rfl,rfl,.inr (.inr ⟨by decide,by decide⟩),_,rfl,_,_,rfl,rfl,_,rfl,?_⟩
  by_cases h:a * 2≥m
  ·rw [if_pos h] at k
   rw [decide_eq_true (show m≤a * 2 from h)]
   exact YB ⟨_,rfl,_,rfl,_,_,rfl,rfl,k⟩
  ·rw [if_neg h] at k
   rw [decide_eq_false (show ¬m≤a * 2 from h)]
   exact Yh ⟨_,rfl,k⟩
inductive Xg(vs:List V)(H:Hp)(Q:VK):Prop
 | mk (y:Str) (pl:Addr) (bs:List Bool):(vs=[.str y,.ref pl])→(H pl=some (.lst (bs.map V.bl)))→((y ≠ "yes" → 1≤bs.length))→((y ≠ "yes" → y ≠ "never" → 2≤bs.length))→(Q (.bl (wR y bs)) H)→Xg vs H Q
noncomputable def XJ(K:PySem.W.Frag):Sp:=fun vs H Q _=>Xg vs H Q
theorem atB{bs:List Bool}(j:Nat)(h:j < bs.length):atI (bs.map V.bl) (j:Int)=some (.bl (bs.getD j false)):=by
 refine Yo ?_
 rw [List.getElem?_map,List.getElem?_eq_getElem h,List.getD_eq_getElem?_getD,List.getElem?_eq_getElem h]
 rfl
theorem JU (T:Txt K w mg t) (TB:Tbs mg base t) (XB:Xcl K mg base t):Z7 P w K mg base CX0 1 t.a_truth_of_claims t.f_truth_of_claims ["word","truths"] (XJ K):=by
 refine T.d_truth_of_claims.F.ok JO (fun vs H Q E h=>?_) (fun cdv A outer s H vs Q E hr h=>?_)
 ·obtain ⟨y,pl,bs,rfl,hp,l1,l2,k⟩:=h
  rfl
 ·obtain ⟨y,pl,bs,rfl,hp,l1,l2,k⟩:=h
  have hu:=ZR hr
  refine ⟨_,@QSs.out _ _ _ (Za (Z8 (Zo ZI (qv 0) Zk (Zs _))
    (Zg (Zn xC)) Zq)
    (Za (Z8 (Zo ZI (qv 0) Zk (Zs _))
    (Zg (Zn (kD (Z4 Zp (qv 1) Ze (fun _ _=>rfl))))) Zq)
    (Za (Z8 (Zo ZI (qv 0) Zk (Zs _))
    (Zg (Zn (xh (Z4 Zp (qv 1) Ze (fun _ _=>rfl)) (JA (Z4 Zp (qv 1) Ze (fun _ _=>rfl)))))) Zq)
    (Za (Z8 (Zo ZI (qv 0) Zk (Zs _))
    (Zg (Zn (gM (Z4 Zp (qv 1) Ze (fun _ _=>rfl)) (JA (Z4 Zp (qv 1) Ze (fun _ _=>rfl)))))) Zq)
    (Zg (Zn (gM (Z4 Zp (qv 1) Ze (fun _ _=>rfl)) (JA (kD (Z4 Zp (qv 1) Ze (fun _ _=>rfl))))))))))),?_⟩
  clear hu hr
  try dsimp only [L2.cxK,L2.cxK2]
  refine L2.let5 ?_
  intro U4 U3 U2 U1
  unfold wR at k
  refine ⟨_,rfl,rfl,_,rfl,?_⟩
  by_cases h1:y = "yes"
  ·rw [decide_eq_true (congrArg V.str h1)]
   rw [if_pos h1] at k
   exact YB k
  rw [decide_eq_false (fun z=>h1 (by injection z))]
  rw [if_neg h1] at k
  have g0:=atB (bs:=bs) 0 (l1 h1)
  refine Yh ⟨_,rfl,rfl,_,rfl,?_⟩
  by_cases h2:y = "never"
  ·rw [decide_eq_true (congrArg V.str h2)]
   rw [if_pos h2] at k
   exact YB ⟨_,rfl,pl,_,0,_,rfl,rfl,SqL.of hp,g0,_,rfl,k⟩
  rw [decide_eq_false (fun z=>h2 (by injection z))]
  rw [if_neg h2] at k
  have g1:=atB (bs:=bs) 1 (l2 h1 h2)
  refine Yh ⟨_,rfl,rfl,_,rfl,?_⟩
  by_cases h3:y = "both"
  ·rw [decide_eq_true (congrArg V.str h3)]
   rw [if_pos h3] at k
   refine YB ⟨_,rfl,pl,_,0,_,rfl,rfl,SqL.of hp,g0,_,rfl,?_⟩
   cases hb:bs.getD 0 false with
   | false =>
    rw [hb] at k
    exact Yh k
   | true =>
    rw [hb] at k
    exact YB ⟨_,rfl,pl,_,1,_,rfl,rfl,SqL.of hp,g1,k⟩
  rw [decide_eq_false (fun z=>h3 (by injection z))]
  rw [if_neg h3] at k
  refine Yh ⟨_,rfl,rfl,_,rfl,?_⟩
  by_cases h4:y = "either"
  ·rw [decide_eq_true (congrArg V.str h4)]
   rw [if_pos h4] at k
   refine YB ⟨_,rfl,pl,_,0,_,rfl,rfl,SqL.of hp,g0,_,rfl,?_⟩
   cases hb:bs.getD 0 false with
   | true =>
    rw [hb] at k
    exact YB k
   | false =>
    rw [hb] at k
    exact Yh ⟨_,rfl,pl,_,1,_,rfl,rfl,SqL.of hp,g1,k⟩
  rw [decide_eq_false (fun z=>h4 (by injection z))]
  rw [if_neg h4] at k
  refine Yh ⟨_,rfl,pl,_,1,_,rfl,rfl,SqL.of hp,g1,_,rfl,?_⟩
  cases hb:bs.getD 1 false with
  | true =>
   rw [hb] at k
   exact YB k
  | false =>
   rw [hb] at k
   exact Yh ⟨_,rfl,pl,_,0,_,rfl,rfl,SqL.of hp,g0,_,rfl,k⟩
inductive JV(K:PySem.W.Frag)(vs:List V)(H:Hp)(Q:VK):Prop
 | mk (a:Addr) (ns:List Int):(vs=[.ref a])→(SqL K H a (ns.map V.int))→(ns.length≤63)→(∀d c H',H d=none→H c=none→Z0 H' d c→ZU H H'→Q (.ref d) H')→JV K vs H Q
noncomputable def qH(K:PySem.W.Frag):Sp:=fun vs H Q _=>JV K vs H Q
theorem Zeu{ns:List Int}(h:ns.length≤63):gH (ns.map V.int) none (some 63)=ns.map V.int:=by
 unfold gH
 have e:HT.sIx (ns.map V.int).length 0 none=0:=rfl
 rw [e,List.drop_zero]
 apply List.take_of_length_le
 rw [List.length_map]
 simp only [HT.sIx,show ¬((63:Int) < 0) by decide,if_false]
 lia
theorem jS (T:Txt K w mg t) (TB:Tbs mg base t) (XB:Xcl K mg base t):Z7 P w K mg base CX0 1 t.a_law_deck t.f_law_deck ["script"] (qH K):=by
 refine T.d_law_deck.F.ok X2 (fun vs H Q E h=>?_) (fun cdv A outer s H vs Q E hr h=>?_)
 ·obtain ⟨a,ns,rfl,hS,hl,k⟩:=h
  rfl
 ·obtain ⟨a,ns,rfl,hS,hl,k⟩:=h
  have hu:=ZR hr
  refine ⟨_,@QSs.out _ _ _ (Za (Zr (i:=1) X2.nd rfl (Or.inl rfl) (Zv xg (Xi Gn (qv 0) Wk (Wl Ze)) (ZA (Zi (Z1 ZG (by rfl) T.z_len X7 (Zi (qv 0) Zd)) Zd))))
    (Za (Z8 (Zo ZI (Zv Xv (Z1 (kz rfl) (by rfl) T.z_sum bt_sum (Zi (Xi Gn (qv 0) Wk (Wl Ze)) Zd)) Ze) Ze (Zs _))
    (Zg (X8 PassesOwn.never rfl (ZV rfl T.z_range (Zi (Z1 ZG (by rfl) T.z_len X7 (Zi (qv 1) Zd)) Zd)) (YD (i:=2) X2.nd rfl (Or.inl rfl))
    (Za (Zr (i:=3) X2.nd rfl (Or.inl rfl) (Zv Xv (Zv Xb (Zv Ym (Zv Ym (Zv Xv (Z4 Zp (qv 1) (qv 2) (fun _ _=>rfl)) Ze) (Zv Xb Ze (qv 2))) Ze) Ze) Ze))
    (Za (Zr (i:=3) X2.nd rfl (Or.inl rfl) (Zv Xv (Zv Xb (Zv Xv (Zv Ym (Zv Xb (qv 3) (qv 3)) (Zv Xb Ze (qv 2))) Ze) Ze) Ze))
    (Zg (z8 (Zv Ym (Zv Xb (Zv Xb (qv 3) (qv 3)) Ze) (Zv Xv (Zv Xb (qv 3) Ze) Ze)) (z7 (qv 1) (qv 2) set_list))))))) Zq)
    (Zg (Zn (ZA (Zi (qv 1) (Zi Ze Zd))))))),?_⟩
  clear hu hr
  try dsimp only [L2.cxK,L2.cxK2]
  refine L2.let3 ?_
  intro U2 U1
  refine ⟨_,rfl,63,rfl,a,_,rfl,hS,fun p hp=>?_⟩
  rw [Zeu hl]
  have s1:=Zc (o:=.lst (ns.map V.int)) hp
  refine ⟨_,rfl,a,_,rfl,.inl (s1.seq hS),by show 1≤sizeLine;decide,fun l hl2=>?_⟩
  have s2:=Zc (o:=.lst [.int (ns.map V.int).length]) hl2
  refine ⟨p,l,_,_,rfl,rfl,s2 _ _ Zb,Zb,?_,fun c hc=>?_⟩
  ·rw [List.length_map]
   exact Nat.le_of_lt (Zt (by show ns.length + 1≤1000;lia))
  have s3:=(s1.trans s2).trans (Zc (o:=.lst (ns.map V.int++[.int (ns.map V.int).length])) hc)
  have hc0:H c=none:=(s1.trans s2).free hc
  have fin:∀(σ:St) (H2:Hp) (cs:List Int),σ=[some (.ref a),some (.ref c),σ.getD 2 none,σ.getD 3 none]→H2 c=some (.lst (cs.map V.int))→1≤cs.length→cs.length≤64→ZU H H2 →
    (tRet (tLst (vW (Zdk 1) (vW (tC (.int 0)) Zd1)))) { nx:=fun _ H'=>Q .non H',rt:=Q } σ H2:=by
   intro σ H2 cs hσ h2 c1 c2 sm
   rw [hσ]
   refine ⟨_,rfl,by show 2≤sizeLine;decide,fun d hd=>?_⟩
   exact k d c _ (sm.free hd) hc0 ⟨_,cs,Zb,by rw [Zj (Zl h2 hd)];exact h2,c1,c2⟩ (sm.trans (Zc hd))
  have h0:(upd (upd (upd H p (.lst (ns.map V.int))) l (.lst [.int (ns.map V.int).length])) c (.lst (ns.map V.int++[.int (ns.map V.int).length]))) c=some (.lst ((ns++[(ns.length:Int)]).map V.int)):=by
   rw [Zb,List.map_append,List.length_map]
   rfl
  refine ⟨_,rfl,63,rfl,a,_,rfl,s3.seq hS,fun q hq=>?_⟩
  rw [Zeu hl]
  have s4:=Zc (o:=.lst (ns.map V.int)) hq
  refine ⟨q,ns,rfl,SqL.of Zb,_,_,rfl,rfl,(by show (0:Int) < 2;decide),rfl,_,rfl,?_⟩
  refine yc (fun _=>?_) (fun _=>?_)
  ·refine ⟨_,rfl,c,_,rfl,.inl (SqL.of (s4 _ _ h0)),_,rfl,?_,?_,YV (fun i σ H2=>∃(cs:List Int) (u v:Option V),σ=[some (.ref a),some (.ref c),u,v]∧H2 c=some (.lst (cs.map V.int))∧cs.length=ns.length + 1∧ZU H H2) ⟨_,none,none,rfl,s4 _ _ h0,by simp,s3.trans s4⟩ ?_ ?_⟩
   ·lia
   ·rw [List.length_map,List.length_append]
    show ((ns.length + 1:Nat):Int) < 2 ^ 62
    lia
   ·rintro i σ H2 hi hz_
    refine ZC fun Gz hGz=>?_
    obtain ⟨cs,u,v,rfl,h2,hcs,sm⟩:=hz_
    refine hGz ?_
    clear hGz Gz
    rw [List.length_map,List.length_append,Int.toNat_natCast] at hi
    have hi':i < cs.length:=by rw [hcs];exact hi
    have hat:∀{xs:List Int} (h:i < xs.length),atI (xs.map V.int) (0 + (i:Int))=some (V.int xs[i]):=fun {xs} h=>by
     rw [Int.zero_add]
     exact Yo (by rw [List.getElem?_map,List.getElem?_eq_getElem h];rfl)
    refine ⟨_,rfl,_,rfl,c,_,_,_,rfl,rfl,SqL.of h2,hat hi',_,_,rfl,rfl,(by show (0:Int) < 2147483587;decide),_,rfl,_,_,rfl,rfl,.inr (.inl ⟨by decide,by decide⟩),_,_,rfl,rfl,_,_,rfl,rfl,_,_,rfl,rfl,.inr (.inr ⟨by decide,by decide⟩),_,_,rfl,rfl,(by show (0:Int) < 2147483629;decide),?_⟩
    try dsimp only
    generalize hm1:(cs[i] % 2147483587 + 853 * (0 + (i:Int)) + 11) * 69621 % 2147483629=m1
    have m1a:0≤m1:=by lia
    have m1b:m1 < 2147483629:=by lia
    refine ⟨_,rfl,_,rfl,_,_,rfl,rfl,.inr (.inl ⟨by lia,by lia⟩),_,rfl,_,_,rfl,rfl,.inr (.inl ⟨by decide,by decide⟩),_,_,rfl,rfl,_,_,rfl,rfl,(by show (0:Int) < 2147483563;decide),_,_,rfl,rfl,.inr (.inr ⟨by decide,by decide⟩),_,_,rfl,rfl,(by show (0:Int) < 2147483549;decide),?_⟩
    try dsimp only
    generalize hm2:(m1 * m1 + 31 * (0 + (i:Int))) % 2147483563 * 16807 % 2147483549=m2
    have m2a:0≤m2:=by lia
    have m2b:m2 < 2147483549:=by lia
    refine ⟨_,rfl,_,rfl,_,_,rfl,rfl,.inr (.inl ⟨by lia,by lia⟩),_,_,rfl,rfl,.inr (.inr ⟨by decide,by decide⟩),_,rfl,_,_,rfl,rfl,.inr (.inl ⟨by lia,by lia⟩),_,_,rfl,rfl,(by show (0:Int) < 2147483579;decide),_,_,rfl,rfl,_,rfl,_,rfl,c,_,_,i,rfl,rfl,h2,?_,?_⟩
    ·unfold ixN
     rw [if_pos (by lia),if_pos (by rw [List.length_map];lia)]
     congr 1
     lia
    ·refine ⟨cs.set i (m2 * m2 * 2147483543 + m2 * 48271 % 2147483579),_,_,rfl,?_,by rw [List.length_set];exact hcs,fun b o e=>?_⟩
     ·rw [Zb,List.map_set]
     ·rw [Zj (Zl e hc0)]
      exact sm b o e
   ·rintro σ H2 hz_
    refine ZC fun Gz hGz=>?_
    obtain ⟨cs,u,v,rfl,h2,hcs,sm⟩:=hz_
    refine hGz ?_
    clear hGz Gz
    exact fin _ H2 cs rfl h2 (by lia) (by lia) sm
  ·exact fin _ _ (ns++[(ns.length:Int)]) rfl (s4 _ _ h0) (by simp) (by simp;lia) (s3.trans s4)
inductive JW(vs:List V)(H:Hp)(Q:VK):Prop
 | mk (d c:Addr) (m:Int):(vs=[.ref d,.int m])→(Z0 H d c)→(0 < m)→(m≤100000000000000000000)→(∀r H',0≤r→r < m→Z0 H' d c→Off d c H H'→Q (.int r) H')→JW vs H Q
noncomputable def ZS(K:PySem.W.Frag):Sp:=fun vs H Q _=>JW vs H Q
theorem Yf (T:Txt K w mg t) (TB:Tbs mg base t) (XB:Xcl K mg base t):Z7 P w K mg base CX0 1 t.a_law_take t.f_law_take ["deck","many"] (ZS K):=by
 refine T.d_law_take.F.ok J4 (fun vs H Q E h=>?_) (fun cdv A outer s H vs Q E hr h=>?_)
 ·obtain ⟨d,c,m,rfl,D,hm,hm2,k⟩:=h
  rfl
 ·obtain ⟨d,c,m,rfl,D,hm,hm2,k⟩:=h
  have hu:=ZR hr
  refine ⟨_,@QSs.out _ _ _ (Za (Zr (i:=2) J4.nd rfl (Or.inl rfl) (Zv Xv (Z4 Zp (qv 0) Ze (fun _ _=>rfl)) (Z1 ZG (by rfl) T.z_len X7 (Zi (Z4 Zp (qv 0) Ze (fun _ _=>rfl)) Zd))))
    (Za (z8 (Zv Ym (Z4 Zp (qv 0) Ze (fun _ _=>rfl)) Ze) (z7 (qv 0) Ze set_list))
    (Za (Zr (i:=3) J4.nd rfl (Or.inl rfl) (Z4 Zp (Z4 Zp (qv 0) Ze (fun _ _=>rfl)) (qv 2) (fun _ _=>rfl)))
    (Za (z8 (Zv GH (qv 3) (qv 1)) (z7 (Z4 Zp (qv 0) Ze (fun _ _=>rfl)) (qv 2) set_list))
    (Zg (Zn (Zv Xv (qv 3) (qv 1)))))))),?_⟩
  clear hu hr
  try dsimp only [L2.cxK,L2.cxK2]
  refine L2.let5 ?_
  intro U4 U3 U2 U1
  have hdc:=D.ne
  refine ZC fun Gz hGz=>?_
  obtain ⟨n,cs,hd,hc,c1,c2⟩:=D.ex
  refine hGz ?_
  clear hGz Gz
  refine ⟨_,rfl,d,_,1,_,rfl,rfl,SqL.of hd,rfl,_,rfl,d,_,0,_,rfl,rfl,SqL.of hd,rfl,c,_,rfl,.inl (SqL.of hc),_,_,rfl,rfl,?_,?_⟩
  ·rw [List.length_map]
   lia
  try dsimp only
  rw [List.length_map]
  generalize hat:n % (cs.length:Int)=at0
  have a0:0≤at0:=by rw [←hat];exact Int.emod_nonneg _ (by lia)
  have a1:at0 < cs.length:=by rw [←hat];exact Int.emod_lt_of_pos _ (by lia)
  refine ⟨_,rfl,d,_,1,_,rfl,rfl,SqL.of hd,rfl,_,_,rfl,rfl,_,rfl,d,_,1,1,rfl,rfl,hd,rfl,?_⟩
  have hc':∀o,(upd H d o) c=some (.lst (cs.map V.int)):=fun o=>by rw [Zj hdc.symm];exact hc
  obtain ⟨j,rfl⟩:∃j:Nat,at0=(j:Int):=⟨at0.toNat,by lia⟩
  have hg:j < cs.length:=by lia
  have hix:atI (cs.map V.int) (j:Int)=some (V.int cs[j]):=by
   refine Yo ?_
   rw [List.getElem?_map,List.getElem?_eq_getElem hg]
   rfl
  refine ⟨_,rfl,d,_,0,_,rfl,rfl,SqL.of Zb,rfl,_,rfl,c,_,_,_,rfl,rfl,SqL.of (hc' _),hix,?_⟩
  refine ⟨_,rfl,_,rfl,_,_,rfl,rfl,.of hm (by lia),_,rfl,d,_,0,_,rfl,rfl,SqL.of Zb,rfl,_,rfl,c,_,_,j,rfl,rfl,hc' _,?_,?_⟩
  ·unfold ixN
   rw [if_pos a0,if_pos (by rw [List.length_map];exact a1),Int.toNat_natCast]
  refine ⟨_,rfl,_,rfl,_,_,rfl,rfl,hm,k _ _ (Int.emod_nonneg _ (by lia)) (Int.emod_lt_of_pos _ hm) ⟨n + 1,cs.set j (cs[j] / m),?_,?_,?_,?_⟩ (uD.trans uE)⟩
  ·rw [Zj hdc,Zb]
   rfl
  ·rw [Zb,List.map_set]
  ·rw [List.length_set];exact c1
  ·rw [List.length_set];exact c2
inductive Jj(vs:List V)(H:Hp)(Q:VK):Prop
 | mk (w:Nat):(vs=[.int w])→(w≤1000)→(Q (.int (2 ^ w)) H)→Jj vs H Q
noncomputable def Gx(K:PySem.W.Frag):Sp:=fun vs H Q _=>Jj vs H Q
theorem jd (T:Txt K w mg t) (TB:Tbs mg base t) (XB:Xcl K mg base t):Z7 P w K mg base CX0 1 t.a_law_power t.f_law_power ["width"] (Gx K):=by
 refine T.d_law_power.F.ok XG (fun vs H Q E h=>?_) (fun cdv A outer s H vs Q E hr h=>?_)
 ·obtain ⟨w,rfl,hw,k⟩:=h
  rfl
 ·obtain ⟨w,rfl,hw,k⟩:=h
  have hu:=ZR hr
  refine ⟨_,@QSs.out _ _ _ (Za (Zr (i:=1) XG.nd rfl (Or.inl rfl) Ze)
    (Za (X8 PassesOwn.never rfl (ZV rfl T.z_range (Zi (qv 0) Zd)) (YD (i:=2) XG.nd rfl (Or.inl rfl))
    (Zg (Zr (i:=1) XG.nd rfl (Or.inl rfl) (Zv Ym (qv 1) (qv 1)))))
    (Zg (Zn (qv 1))))),?_⟩
  clear hu hr
  try dsimp only [L2.cxK,L2.cxK2]
  refine L2.let3 ?_
  intro U2 U1
  refine ⟨_,rfl,(w:Int),rfl,by lia,by lia,YV (fun i σ H2=>∃v,σ=[some (.int w),some (.int (2 ^ i)),v]∧H2=H) ⟨none,rfl,rfl⟩ ?_ ?_⟩
  ·rintro i σ H2 hi hz_
   refine ZC fun Gz hGz=>?_
   obtain ⟨v,rfl,rfl⟩:=hz_
   refine hGz ?_
   clear hGz Gz
   refine ⟨_,rfl,_,rfl,_,_,rfl,rfl,some (.int (0 + (i:Int))),?_,rfl⟩
   rw [pow_succ',Int.mul_comm,Int.two_mul]
   rfl
  ·rintro σ H2 hz_
   refine ZC fun Gz hGz=>?_
   obtain ⟨v,rfl,rfl⟩:=hz_
   refine hGz ?_
   clear hGz Gz
   refine ⟨_,rfl,?_⟩
   rw [Int.toNat_natCast]
   exact k
inductive JX(vs:List V)(H:Hp)(Q:VK):Prop
 | mk  : (vs=[])→(∀p H',H p=none→H' p=some (.lst (Ye.map V.str))→ZU H H'→Q (.ref p) H')→JX vs H Q
noncomputable def Wv(K:PySem.W.Frag):Sp:=fun vs H Q _=>JX vs H Q
theorem J5(T:Txt K w mg t)(TB:Tbs mg base t)(XB:Xcl K mg base t):Z7 P w K mg base CX0 1 t.a_law_kept t.f_law_kept [] (Wv K):=by
 refine T.d_law_kept.F.ok q8 (fun vs H Q E h=>?_) (fun cdv A outer s H vs Q E hr h=>?_)
 ·obtain ⟨rfl,k⟩:=h
  rfl
 ·obtain ⟨rfl,k⟩:=h
  have hu:=ZR hr
  refine ⟨_,@QSs.out _ _ _ (Za (Zr (i:=0) q8.nd rfl (Or.inl rfl) (ZA (Zi Zk (Zi Zk (Zi Zk (Zi Zk (Zi Zk (Zi Zk (Zi Zk (Zi Zk (Zi Zk (Zi Zk Zd))))))))))))
    (Zg (Zn (Zv xg (qv 0) (ZA (Zi Zk (Zi Zk (Zi Zk (Zi Zk (Zi Zk (Zi Zk (Zi Zk (Zi Zk (Zi Zk (Zi Zk Zd))))))))))))))),?_⟩
  clear hu hr
  try dsimp only [L2.cxK,L2.cxK2]
  refine L2.let2 ?_
  intro U1
  refine ⟨by show 10≤sizeLine;decide,fun a ha=>?_⟩
  refine ⟨_,rfl,by show 10≤sizeLine;decide,fun b hb=>⟨a,b,_,_,rfl,rfl,Zc hb _ _ Zb,Zb,by show 20≤sizeLine;decide,fun p hp=>?_⟩⟩
  exact k p _ (ZU.free (ZU.trans (Zc ha) (Zc hb)) hp) Zb (ZU.trans (ZU.trans (Zc ha) (Zc hb)) (Zc hp))
inductive JY(vs:List V)(H:Hp)(Q:VK):Prop
 | mk (n:Int) (w:Nat):(vs=[.int n,.int w])→(w≤1000)→(∀p H',H p=none→H' p=some (.lst ((Zm w n).map V.int))→ZU H H'→Q (.ref p) H')→JY vs H Q
noncomputable def qI(K:PySem.W.Frag):Sp:=fun vs H Q _=>JY vs H Q
theorem jT (T:Txt K w mg t) (TB:Tbs mg base t) (XB:Xcl K mg base t):Z7 P w K mg base CX0 1 t.a_law_bits t.f_law_bits ["number","width"] (qI K):=by
 refine T.d_law_bits.F.ok Wu (fun vs H Q E h=>?_) (fun cdv A outer s H vs Q E hr h=>?_)
 ·obtain ⟨n,w,rfl,hw,k⟩:=h
  rfl
 ·obtain ⟨n,w,rfl,hw,k⟩:=h
  have hu:=ZR hr
  refine ⟨_,@QSs.out _ _ _ (Za (Zr (i:=2) Wu.nd rfl (Or.inl rfl) (ZA Zd))
    (Za (X8 PassesOwn.never rfl (ZV rfl T.z_range (Zi (qv 1) Zd)) (YD (i:=3) Wu.nd rfl (Or.inl rfl))
    (Za (Wj (Ww PySem.F.plainAttrs_list PySem.F.slot_list_append PySem.F.type_list_append YX (qv 2) (Zi (Zv Xv (qv 0) Ze) Zd)))
    (Zg (Zr (i:=0) Wu.nd rfl (Or.inl rfl) (Zv GH (qv 0) Ze)))))
    (Zg (Zn (qv 2))))),?_⟩
  clear hu hr
  try dsimp only [L2.cxK,L2.cxK2]
  refine L2.let3 ?_
  intro U2 U1
  refine ⟨by show 0≤sizeLine;decide,fun b hb=>?_⟩
  refine ⟨_,rfl,(w:Int),rfl,by lia,by lia,YV (fun i σ H2=>∃v,σ=[some (.int (n / 2 ^ i)),some (.int w),some (.ref b),v]∧H2 b=some (.lst ((Zm i n).map V.int))∧ZU H H2∧i≤w) ⟨none,?_,Zb,Zc hb,Nat.zero_le _⟩ ?_ ?_⟩
  ·rw [Int.pow_zero,Int.ediv_one]
   rfl
  ·rintro i σ H2 hi hz_
   refine ZC fun Gz hGz=>?_
   obtain ⟨v,rfl,h2,s2,hiw⟩:=hz_
   refine hGz ?_
   clear hGz Gz
   rw [Int.toNat_natCast] at hi
   refine ⟨_,rfl,.inl ⟨rfl,_,SqL.of h2⟩,_,rfl,_,_,rfl,rfl,(by show (0:Int) < 2;decide),b,_,_,rfl,rfl,h2,?_,?_⟩
   ·rw [List.length_map,XZ]
    exact Zt (by lia)
   ·refine ⟨_,rfl,_,_,rfl,rfl,.of (by decide) (by decide),some (.int (0 + (i:Int))),?_,?_,?_,hi⟩
    ·rw [←uF]
     rfl
    ·rw [Zb,Ja,List.map_append]
     rfl
    ·intro c o e
     rw [Zj (Zl e hb)]
     exact s2 c o e
  ·rintro σ H2 hz_
   refine ZC fun Gz hGz=>?_
   obtain ⟨v,rfl,h2,s2,hiw⟩:=hz_
   refine hGz ?_
   clear hGz Gz
   rw [Int.toNat_natCast] at h2
   exact ⟨_,rfl,k b _ hb h2 s2⟩
inductive Jk(vs:List V)(H:Hp)(Q:VK):Prop
 | mk (a b:Addr) (xs ys:List Int) (c:Int):(vs=[.ref a,.ref b,.int c])→(H a=some (.lst (xs.map V.int)))→(H b=some (.lst (ys.map V.int)))→(xs.length=ys.length)→(xs.length≤1000)→(∀p H',H p=none→H' p=some (.lst ((uP xs ys c xs.length).map V.int))→ZU H H'→Q (.ref p) H')→Jk vs H Q
noncomputable def Gy(K:PySem.W.Frag):Sp:=fun vs H Q _=>Jk vs H Q
theorem je (T:Txt K w mg t) (TB:Tbs mg base t) (XB:Xcl K mg base t):Z7 P w K mg base CX0 1 t.a_law_added t.f_law_added ["one","other","carry"] (Gy K):=by
 refine T.d_law_added.F.ok Xa (fun vs H Q E h=>?_) (fun cdv A outer s H vs Q E hr h=>?_)
 ·obtain ⟨a,b,xs,ys,c,rfl,ha,hb,hl,hz,k⟩:=h
  rfl
 ·obtain ⟨a,b,xs,ys,c,rfl,ha,hb,hl,hz,k⟩:=h
  have hu:=ZR hr
  refine ⟨_,@QSs.out _ _ _ (Za (Zr (i:=3) Xa.nd rfl (Or.inl rfl) (ZA Zd))
    (Za (X8 PassesOwn.never rfl (ZV rfl T.z_range (Zi (Z1 ZG (by rfl) T.z_len X7 (Zi (qv 0) Zd)) Zd)) (YD (i:=4) Xa.nd rfl (Or.inl rfl))
    (Za (Zr (i:=5) Xa.nd rfl (Or.inl rfl) (Zv Ym (Zv Ym (Z4 Zp (qv 0) (qv 4) (fun _ _=>rfl)) (Z4 Zp (qv 1) (qv 4) (fun _ _=>rfl))) (qv 2)))
    (Za (Wj (Ww PySem.F.plainAttrs_list PySem.F.slot_list_append PySem.F.type_list_append YX (qv 3) (Zi (Zv Xv (qv 5) Ze) Zd)))
    (Zg (Zr (i:=2) Xa.nd rfl (Or.inl rfl) (Zv GH (qv 5) Ze))))))
    (Zg (Zn (qv 3))))),?_⟩
  clear hu hr
  try dsimp only [L2.cxK,L2.cxK2]
  refine L2.let3 ?_
  intro U2 U1
  refine ⟨by show 0≤sizeLine;decide,fun f hf=>?_⟩
  have sf:=Zc (o:=.lst []) hf
  refine ⟨_,rfl,a,xs.map V.int,rfl,.inl (SqL.of (sf _ _ ha)),((xs.map V.int).length:Int),rfl,by lia,by rw [List.length_map];lia,YV (n:=(((xs.map V.int).length:Nat):Int).toNat) (fun i σ H2=>∃u v,σ=[some (.ref a),some (.ref b),some (.int (cAt xs ys c i)),some (.ref f),u,v]∧H2 f=some (.lst ((uP xs ys c i).map V.int))∧ZU H H2∧i≤xs.length) ⟨none,none,rfl,Zb,sf,Nat.zero_le _⟩ ?_ ?_⟩
  ·rintro i σ H2 hi hz_
   refine ZC fun Gz hGz=>?_
   obtain ⟨u,v,rfl,h2,s2,hiw⟩:=hz_
   refine hGz ?_
   clear hGz Gz
   rw [Int.toNat_natCast,List.length_map] at hi
   refine ⟨_,rfl,_,rfl,a,xs.map V.int,_,.int (xs.getD i 0),rfl,rfl,SqL.of (s2 _ _ ha),Wr i (by lia) hi,?_⟩
   refine ⟨_,rfl,_,rfl,b,ys.map V.int,_,.int (ys.getD i 0),rfl,rfl,SqL.of (s2 _ _ hb),Wr i (by lia) (by lia),?_⟩
   refine ⟨_,_,rfl,rfl,?_⟩
   refine ⟨_,rfl,_,_,rfl,rfl,?_⟩
   refine ⟨_,rfl,.inl ⟨rfl,_,SqL.of h2⟩,_,rfl,_,_,rfl,rfl,(by show (0:Int) < 2;decide),f,_,_,rfl,rfl,h2,?_,?_⟩
   ·rw [List.length_map,uQ]
    exact Zt (by lia)
   ·refine ⟨_,rfl,_,_,rfl,rfl,.of (by decide) (by decide),some (.int (0 + (i:Int))),_,rfl,?_,?_,hi⟩
    ·rw [Zb,wZ,List.map_append]
     rfl
    ·intro c o e
     rw [Zj (Zl e hf)]
     exact s2 c o e
  ·rintro σ H2 hz_
   refine ZC fun Gz hGz=>?_
   obtain ⟨u,v,rfl,h2,s2,hiw⟩:=hz_
   refine hGz ?_
   clear hGz Gz
   rw [Int.toNat_natCast,List.length_map] at h2
   exact ⟨_,rfl,k f _ hf h2 s2⟩
inductive WN(vs:List V)(H:Hp)(Q:VK):Prop
 | mk (a:Addr) (xs:List Int):(vs=[.ref a])→(H a=some (.lst (xs.map V.int)))→(xs.length≤1000)→(∀p H',H p=none→H' p=some (.lst ((Zdp xs).map V.int))→ZU H H'→Q (.ref p) H')→WN vs H Q
noncomputable def JZ(K:PySem.W.Frag):Sp:=fun vs H Q _=>WN vs H Q
theorem zj (T:Txt K w mg t) (TB:Tbs mg base t) (XB:Xcl K mg base t):Z7 P w K mg base CX0 1 t.a_law_lowest t.f_law_lowest ["one"] (JZ K):=by
 refine T.d_law_lowest.F.ok JP (fun vs H Q E h=>?_) (fun cdv A outer s H vs Q E hr h=>?_)
 ·obtain ⟨a,xs,rfl,ha,hz,k⟩:=h
  rfl
 ·obtain ⟨a,xs,rfl,ha,hz,k⟩:=h
  have hu:=ZR hr
  refine ⟨_,@QSs.out _ _ _ (Za (Zr (i:=1) JP.nd rfl (Or.inl rfl) (Zv Zax (ZA (Zi Ze Zd)) (Z1 ZG (by rfl) T.z_len X7 (Zi (qv 0) Zd))))
    (Za (Z8 (Zo Xw Ze (qv 0) (by with_unfolding_all rfl))
    (Zg (z8 Ze (z7 (qv 1) (Ww PySem.F.plainAttrs_list PySem.F.slot_list_index PySem.F.type_list_index zS (qv 0) (Zi Ze Zd)) set_list))) Zq)
    (Zg (Zn (qv 1))))),?_⟩
  clear hu hr
  try dsimp only [L2.cxK,L2.cxK2]
  refine L2.let3 ?_
  intro U2 U1
  refine ⟨by show 1≤sizeLine;decide,fun l hl=>?_⟩
  have s1:=Zc (o:=.lst [.int 0]) hl
  refine ⟨_,rfl,a,xs.map V.int,rfl,.inl (SqL.of (s1 _ _ ha)),?_⟩
  refine ⟨l,_,[.int 0],rfl,rfl,Zb,by rw [List.length_map];lia,by rw [List.length_map];lia,by rw [Int.toNat_natCast,List.length_map];show 1 * _≤_;rw [Nat.one_mul];exact Nat.le_of_lt (Zt (by lia)),fun p hp=>?_⟩
  rw [Int.toNat_natCast,List.length_map,yx]
  have s2:=s1.trans (Zc (o:=.lst ((List.replicate xs.length (0:Int)).map V.int)) hp)
  have hpH:H p=none:=s1.free hp
  have hpa:a≠p:=Zl ha hpH
  refine ⟨_,rfl,a,xs.map V.int,rfl,.inl (SqL.of (s2 _ _ ha)),rfl,WE xs,_,rfl,yc (fun hq=>?_) (fun hq=>?_)⟩
  ·have hm:(1:Int)∈xs:=zc.mp hq
   have h1:=gb xs hm
   have hlt:yu xs < xs.length:=(List.getElem?_eq_some_iff.mp h1).1
   refine ⟨_,rfl,_,rfl,.inl ⟨rfl,_,SqL.of (s2 _ _ ha)⟩,a,xs.map V.int,.int 1,.int 1,yu xs,rfl,rfl,s2 _ _ ha,rfl,WE xs,by rw [List.length_map];lia,by rw [List.getElem?_map,h1];rfl,rfl,fun i z' hi hz'=>?_,?_⟩
   ·rw [List.getElem?_map] at hz'
    cases e:xs[i]? with
    | none=>rw [e] at hz';cases hz'
    | some z =>
     rw [e] at hz'
     cases hz'
     exact beq_false_of_ne (qq xs i z hi e)
   ·refine ⟨p,_,_,yu xs,rfl,rfl,Zb,by unfold ixN;rw [if_pos (by lia),if_pos (by rw [List.length_map,List.length_replicate];lia)];rfl,?_⟩
    refine ⟨_,rfl,k p _ hpH ?_ fun c o e=>?_⟩
    ·rw [Zb]
     unfold Zdp
     rw [List.map_set]
    ·rw [Zj (Zl e hpH)]
     exact s2 c o e
  ·have hm:(1:Int)∉xs:=fun z=>hq (zc.mpr z)
   refine ⟨_,rfl,k p _ hpH ?_ s2⟩
   rw [Zb]
   unfold Zdp
   rw [yw xs hm,List.set_eq_of_length_le (by rw [List.length_replicate];exact Nat.le_refl _)]
inductive Xh(vs:List V)(H:Hp)(Q:VK):Prop
 | mk (a:Addr) (xs:List Int):(vs=[.ref a])→(H a=some (.lst (xs.map V.int)))→(xs.length≤1000)→(∀p H',H p=none→H' p=some (.lst ((xs.map fun x=>1 - x).map V.int))→ZU H H'→Q (.ref p) H')→Xh vs H Q
noncomputable def XM(K:PySem.W.Frag):Sp:=fun vs H Q _=>Xh vs H Q
theorem Ga (T:Txt K w mg t) (TB:Tbs mg base t) (XB:Xcl K mg base t):Z7 P w K mg base CX0 1 t.a_law_turned_bits t.f_law_turned_bits ["one"] (XM K):=by
 refine T.d_law_turned_bits.F.ok JQ (fun vs H Q E h=>?_) (fun cdv A outer s H vs Q E hr h=>?_)
 ·obtain ⟨a,xs,rfl,ha,hl,k⟩:=h
  rfl
 ·obtain ⟨a,xs,rfl,ha,hl,k⟩:=h
  have hu:=ZR hr
  refine ⟨_,@QSs.out _ _ _ (Zg (Zn (J0 (⟨by rfl,by decide +kernel,by decide +kernel,by rfl,by decide +kernel,by decide +kernel,by rfl,by decide +kernel⟩:ZW (Zf ZD) _ ["one"] "bit" [] []) (xD (qv 0)) (fun _ _ _ _=>qd) (fun _ _ _ _=>(Zv W9 Ze (qv 0)))))),?_⟩
  clear hu hr
  try dsimp only [L2.cxK,L2.cxK2]
  refine ⟨_,rfl,a,rfl,⟨_,SqL.of ha⟩,comp_map (fI fun x=>V.int (1 - x)) (SqL.of ha) (by rw [List.length_map];exact Nat.le_of_lt (Zt (by lia))) (fun v hv R hR=>?_) (fun l hl2=>?_)⟩
  ·obtain ⟨x,_,rfl⟩:=List.mem_map.mp hv
   exact ⟨_,rfl,_,_,rfl,rfl,hR⟩
  ·rw [map_fI]
   exact k l _ hl2 (by rw [Zb,List.map_map];rfl) (Zc hl2)
inductive Jl(vs:List V)(H:Hp)(Q:VK):Prop
 | mk (y:Str) (pl:Addr) (W:Nat) (zs:List V):(vs=[.str y,.ref pl])→(y∈Z9)→(1≤W)→(W≤60)→(zs.length≤100)→(((∃(ras:List Addr) (is:List Int),0 < GA (.str y)∧H pl=some (.lst (ras.map V.ref++zs).reverse)∧Xf H W ras is∧is.length=GA (.str y)∧(∀i∈is,0≤i∧i < 2 ^ W)∧(∀v∈ras.map V.ref++zs,∀z:Int,v≠.int z)∧∀H',H' pl=some (.lst zs.reverse)→(∀b o,H b=some o→b≠pl→H' b=some o)→Q (.bl (qo (2 ^ W) y is)) H') ∨
  ∃bs:List Bool,GA (.str y)=0∧H pl=some (.lst (bs.map V.bl++zs).reverse)∧bs.length=vy (.str y)∧∀H',H' pl=some (.lst zs.reverse)→(∀b o,H b=some o→b≠pl→H' b=some o)→Q (.bl (wR y bs)) H'))→Jl vs H Q
noncomputable def G1(K:PySem.W.Frag):Sp:=fun vs H Q _=>Jl vs H Q
theorem jf (y:Str) (h:y∈Z9):y = "same" ∨ y = "under" ∨ y = "beneath" ∨ y = "sign" ∨ y = "nought" ∨ y = "both" ∨ y = "either" ∨ y = "so" ∨ y = "never" ∨ y = "yes" := by
 have h2:∀y∈Z9,y∈(["same","under","beneath","sign","nought","both","either","so","never","yes"]:List Str):=by decide +kernel
 have:=h2 y h
 simp only [List.mem_cons,List.not_mem_nil,or_false] at this
 exact this
theorem WO{H:Hp}{pl:Addr}{v:V}{r:List V}(h:H pl=some (.lst (v::r).reverse)):H pl=some (.lst (r.reverse++[v])):=by rw [h,List.reverse_cons]
theorem jg (T:Txt K w mg t) (TB:Tbs mg base t) (XB:Xcl K mg base t):Z7 P w K mg base CX0 1 t.a_law_truth t.f_law_truth ["word","pile"] (G1 K):=by
 refine T.d_law_truth.F.ok WI (fun vs H Q E h=>?_) (fun cdv A outer s H vs Q E hr h=>?_)
 ·obtain ⟨y,pl,W,zs,rfl,hy,W1,W2,hz,h⟩:=h
  rfl
 ·obtain ⟨y,pl,W,zs,rfl,hy,W1,W2,hz,h⟩:=h
  have hu:=ZR hr
  refine ⟨_,@QSs.out _ _ _ (Za (Z8 (Zo ZI (qv 0) Zk (Zs _))
    (Zg (Zn xC)) Zq)
    (Za (Zr (i:=2) WI.nd rfl (Or.inl rfl) (z9 PySem.F.plainAttrs_list PySem.F.slot_list_pop PySem.F.type_list_pop zy (qv 1)))
    (Za (Z8 (Zo ZI (qv 0) Zk (Zs _))
    (Zg (Zn (kD (qv 2)))) Zq)
    (Za (Z8 (Zo ZI (qv 0) Zk (Zs _))
    (Zg (Zn (ZJ X6 Ze (qv 2) (by with_unfolding_all rfl)))) Zq)
    (Za (Z8 (Zo ZI (qv 0) Zk (Zs _))
    (Zg (Zn (ZJ ZI (Z4 Zp (qv 2) (Jz XS Ze) (fun _ _=>rfl)) Ze (Zs _)))) Zq)
    (Za (Zr (i:=3) WI.nd rfl (Or.inl rfl) (z9 PySem.F.plainAttrs_list PySem.F.slot_list_pop PySem.F.type_list_pop zy (qv 1)))
    (Za (Z8 (Zo ZI (qv 0) Zk (Zs _))
    (Zg (Zn (ZJ (Zcl (JB hr)) (qv 2) (qv 3) (Zs _)))) Zq)
    (Za (Z8 (Zo ZI (qv 0) Zk (Zs _))
    (Zg (Zn (ZJ (wB (JB hr)) (yf xF (qv 2) (Jz XS Ze)) (yf xF (qv 3) (Jz XS Ze)) (Zs _)))) Zq)
    (Za (Z8 (Zo ZI (qv 0) Zk (Zs _))
    (Zg (Zn (ZJ (wB (JB hr)) (Zv xg (ZA (Zi (Zv W9 Ze (Z4 Zp (qv 2) (Jz XS Ze) (fun _ _=>rfl))) Zd)) (yf xF (Xi Gn (qv 2) Wk (Wl (Jz XS Ze))) (Jz XS Ze))) (Zv xg (ZA (Zi (Zv W9 Ze (Z4 Zp (qv 3) (Jz XS Ze) (fun _ _=>rfl))) Zd)) (yf xF (Xi Gn (qv 3) Wk (Wl (Jz XS Ze))) (Jz XS Ze))) (Zs _)))) Zq)
    (Za (Z8 (Zo ZI (qv 0) Zk (Zs _))
    (Zg (Zn (xh (qv 2) (JA (qv 3))))) Zq)
    (Za (Z8 (Zo ZI (qv 0) Zk (Zs _))
    (Zg (Zn (gM (qv 2) (JA (qv 3))))) Zq)
    (Zg (Zn (Z4 Zp (ZA (Zi xC (Zi (qv 3) Zd))) (Yq YW (by rfl) T.z_int J8 (Zi (qv 2) Zd)) (fun _ _=>rfl))))))))))))))),?_⟩
  clear hu hr
  try dsimp only [L2.cxK,L2.cxK2]
  refine L2.let12 ?_
  intro U11 U10 U9 U8 U7 U6 U5 U4 U3 U2 U1
  refine ⟨_,rfl,rfl,_,rfl,?_⟩
  by_cases h1:y = "yes"
  ·rw [decide_eq_true (congrArg V.str h1)]
   rcases h with ⟨ras,is,hn,_⟩ | ⟨bs,hn,hp,hl,k⟩
   ·rw [h1] at hn
    exact absurd hn (by decide +kernel)
   rw [h1,show vy (.str "yes")=0 by decide +kernel] at hl
   have eb:bs=[]:=List.eq_nil_of_length_eq_zero hl
   subst eb
   have e:wR y []=true:=by rw [h1];rfl
   rw [e] at k
   exact YB (k H hp fun b o e _=>e)
  rw [decide_eq_false (fun z=>h1 (by injection z))]
  refine Yh ?_
  have two:∀{y':Str} {i:Nat},y=y'→GA (.str y')=i→GA (.str y)=i:=fun e h=>by rw [e];exact h
  rcases h with ⟨ras,is,hn,hp,R,hl,hb,hni,k⟩ | ⟨bs,hn,hp,hl,k⟩
  ·cases R with
   | nil =>
    exact absurd hn (by rw [←hl];exact Nat.lt_irrefl 0)
   | @cons a ras n is ha R =>
   have hn0:=hb n List.mem_cons_self
   have hap:a≠pl:=qx W1 hp hni ha
   refine ⟨_,rfl,.inl ⟨rfl,_,SqL.of (WO hp)⟩,pl,_,_,rfl,rfl,WO hp,Wb _ _,YT ?_⟩
   rw [List.dropLast_concat]
   have ha1:upd H pl (.lst (ras.map V.ref++zs).reverse) a=some (.lst ((Zm W n).map V.int)):=by rw [Zj hap];exact ha
   have hp1:upd H pl (.lst (ras.map V.ref++zs).reverse) pl=some (.lst (ras.map V.ref++zs).reverse):=Zb
   have o1:∀b o,H b=some o→b≠pl→upd H pl (.lst (ras.map V.ref++zs).reverse) b=some o:=fun b o e h=>by rw [Zj h];exact e
   have R1:Xf (upd H pl (.lst (ras.map V.ref++zs).reverse)) W ras is:=R.same fun b xs hb e=>by
    obtain ⟨n',e'⟩:=R.mem b hb
    rw [Zj (qx W1 hp hni e')]
    exact e
   generalize upd H pl (.lst (ras.map V.ref++zs).reverse)=H1 at *
   refine ⟨_,rfl,rfl,_,rfl,?_⟩
   rw [decide_eq_false (fun z=>by
    have e:y = "never" := by injection z
    rw [e] at hn
    exact absurd hn (by decide +kernel))]
   refine Yh ⟨_,rfl,rfl,_,rfl,?_⟩
   by_cases h2:y = "nought"
   ·rw [decide_eq_true (congrArg V.str h2)]
    rw [h2,show GA (.str "nought")=1 by decide +kernel] at hl
    have ei:is=[]:=List.eq_nil_of_length_eq_zero (by simpa using hl)
    subst ei
    cases R1
    refine YB ⟨_,rfl,a,_,rfl,.inl (SqL.of ha1),rfl,WE _,?_⟩
    have e:qo (2 ^ W) y [n]=decide (n=0):=by rw [h2];rfl
    rw [e,←jO W n hn0.1 hn0.2] at k
    exact k H1 hp1 o1
   rw [decide_eq_false (fun z=>h2 (by injection z))]
   refine Yh ⟨_,rfl,rfl,_,rfl,?_⟩
   obtain ⟨w,rfl⟩:∃w,W=w + 1:=⟨W - 1,by lia⟩
   have top:∀n:Int,atI ((Zm (w + 1) n).map V.int) (-1)=some (.int (n / 2 ^ w % 2)):=fun n=>by
    rw [Ja,List.map_append]
    exact gI _ _
   by_cases h3:y = "sign"
   ·rw [decide_eq_true (congrArg V.str h3)]
    rw [h3,show GA (.str "sign")=1 by decide +kernel] at hl
    have ei:is=[]:=List.eq_nil_of_length_eq_zero (by simpa using hl)
    subst ei
    cases R1
    refine YB ⟨_,rfl,1,rfl,a,_,-1,.int (n / 2 ^ w % 2),rfl,rfl,SqL.of ha1,top n,rfl,?_⟩
    have e:qo (2 ^ (w + 1)) y [n]=decide (sgn (2 ^ (w + 1)) n < 0):=by rw [h3];rfl
    rw [e,←gq w n hn0.1 hn0.2] at k
    exact k H1 hp1 o1
   rw [decide_eq_false (fun z=>h3 (by injection z))]
   have hy3:y = "same" ∨ y = "under" ∨ y = "beneath" := by
    have no:∀y',y=y'→¬0 < GA (.str y')→False:=fun y' e h=>h (by rw [←e];exact hn)
    rcases jf y hy with h | h | h | h | h | h | h | h | h | h
    ·exact .inl h
    ·exact .inr (.inl h)
    ·exact .inr (.inr h)
    ·exact absurd h h3
    ·exact absurd h h2
    ·exact (no _ h (by decide +kernel)).elim
    ·exact (no _ h (by decide +kernel)).elim
    ·exact (no _ h (by decide +kernel)).elim
    ·exact (no _ h (by decide +kernel)).elim
    ·exact absurd h h1
   have hs2:GA (.str y)=2:=by rcases hy3 with h | h | h <;> rw [h] <;> decide +kernel
   rw [hs2] at hl
   cases R1 with
   | nil=>cases hl
   | @cons a2 ras n2 is ha2 R2 =>
   have ei:is=[]:=List.eq_nil_of_length_eq_zero (by simpa using hl)
   subst ei
   cases R2
   have hn2:=hb n2 (List.mem_cons_of_mem _ List.mem_cons_self)
   have hni1:∀v∈[a2].map V.ref++zs,∀z:Int,v≠.int z:=fun v hv=>hni v (List.mem_cons_of_mem _ hv)
   have hap1:a≠pl:=qx W1 hp1 hni1 ha1
   have hap2:a2≠pl:=qx W1 hp1 hni1 ha2
   refine Yh ⟨_,rfl,.inl ⟨rfl,_,SqL.of (WO hp1)⟩,pl,_,_,rfl,rfl,WO hp1,Wb _ _,YT ?_⟩
   rw [List.dropLast_concat]
   have hb1:upd H1 pl (.lst zs.reverse) a=some (.lst ((Zm (w + 1) n).map V.int)):=by rw [Zj hap1];exact ha1
   have hb2:upd H1 pl (.lst zs.reverse) a2=some (.lst ((Zm (w + 1) n2).map V.int)):=by rw [Zj hap2];exact ha2
   have hp2:upd H1 pl (.lst zs.reverse) pl=some (.lst zs.reverse):=Zb
   have o2:∀b o,H b=some o→b≠pl→upd H1 pl (.lst zs.reverse) b=some o:=fun b o e h=>by rw [Zj h];exact o1 b o e h
   show U6 { nx:=fun x H'=>Q .non H',rt:=Q } _ (upd H1 pl (.lst zs.reverse))
   generalize upd H1 pl (.lst zs.reverse)=H2 at *
   have fin:∀H',ZU H2 H'→Q (.bl (qo (2 ^ (w + 1)) y [n,n2])) H':=fun H' s=>k H' (s _ _ hp2) fun b o e h=>s _ _ (o2 b o e h)
   refine ⟨_,rfl,rfl,_,rfl,?_⟩
   by_cases h4:y = "same"
   ·rw [decide_eq_true (congrArg V.str h4)]
    refine YB ⟨_,rfl,_,rfl,a,a2,_,_,rfl,rfl,SqL.of hb1,SqL.of hb2,WE _,WE _,?_⟩
    show Q (.bl (jq ((Zm (w + 1) n).map V.int) ((Zm (w + 1) n2).map V.int))) H2
    have e:qo (2 ^ (w + 1)) y [n,n2]=decide (Zm (w + 1) n=Zm (w + 1) n2):=by
     rw [h4]
     show decide (n=n2)=_
     exact decide_eq_decide.mpr ⟨fun e=>by rw [e],zZ (w + 1) n n2 hn0.1 hn0.2 hn2.1 hn2.2⟩
    rw [ja,←e]
    exact fin H2 (ZU.refl _)
   rw [decide_eq_false (fun z=>h4 (by injection z))]
   refine Yh ⟨_,rfl,rfl,_,rfl,?_⟩
   by_cases h5:y = "under"
   ·rw [decide_eq_true (congrArg V.str h5)]
    refine YB ⟨_,rfl,1,rfl,rfl,a,_,rfl,SqL.of hb1,fun q1 hq1=>⟨_,rfl,1,rfl,rfl,a2,_,rfl,SqL.of (Zc hq1 _ _ hb2),fun q2 hq2=>⟨q1,q2,(Zm (w + 1) n).reverse,(Zm (w + 1) n2).reverse,rfl,rfl,?_,?_,?_,?_⟩⟩⟩
    ·rw [Zc hq2 _ _ Zb,List.map_reverse]
    ·rw [Zb,List.map_reverse]
    ·rw [List.length_reverse,List.length_reverse,YZ,YZ]
    ·have e:qo (2 ^ (w + 1)) y [n,n2]=decide (n < n2):=by rw [h5];rfl
     rw [gp (w + 1) n n2 hn0.1 hn0.2 hn2.1 hn2.2,←e]
     exact fin _ ((Zc hq1).trans (Zc hq2))
   rw [decide_eq_false (fun z=>h5 (by injection z))]
   have h6:y = "beneath" := by rcases hy3 with h | h | h <;> first | exact absurd h h4 | exact absurd h h5 | exact h
   refine Yh ⟨_,rfl,rfl,_,rfl,?_⟩
   rw [decide_eq_true (congrArg V.str h6)]
   refine YB ⟨_,rfl,1,rfl,a,_,-1,.int (n / 2 ^ w % 2),rfl,rfl,SqL.of hb1,top n,_,_,rfl,rfl,by show 1≤sizeLine;decide,fun q1 hq1=>⟨_,rfl,_,rfl,_,rfl,a,_,rfl,SqL.of (Zc hq1 _ _ hb1),fun q2 hq2=>?_⟩⟩
   rw [zf]
   refine ⟨1,rfl,rfl,q2,_,rfl,SqL.of Zb,fun q3 hq3=>⟨q1,q3,_,_,rfl,rfl,Zc hq3 _ _ (Zc hq2 _ _ Zb),Zb,?_,fun q4 hq4=>?_⟩⟩
   ·rw [List.length_reverse,List.length_map,YZ]
    exact Nat.le_of_lt (Zt (by show 1 + w≤1000;lia))
   have s4:=(((Zc (o:=.lst [V.int (1 - n / 2 ^ w % 2)]) hq1).trans (Zc (o:=.lst ((Zm w n).map V.int)) hq2)).trans (Zc (o:=.lst ((Zm w n).map V.int).reverse) hq3)).trans (Zc (o:=.lst ([V.int (1 - n / 2 ^ w % 2)]++((Zm w n).map V.int).reverse)) hq4)
   have hc4:upd (upd (upd (upd H2 q1 (.lst [V.int (1 - n / 2 ^ w % 2)])) q2 (.lst ((Zm w n).map V.int))) q3 (.lst ((Zm w n).map V.int).reverse)) q4 (.lst ([V.int (1 - n / 2 ^ w % 2)]++((Zm w n).map V.int).reverse)) q4=some (.lst (((1 - n / 2 ^ w % 2)::(Zm w n).reverse).map V.int)):=by
    rw [Zb,List.map_cons,List.map_reverse]
    rfl
   generalize upd (upd (upd (upd H2 q1 (.lst [V.int (1 - n / 2 ^ w % 2)])) q2 (.lst ((Zm w n).map V.int))) q3 (.lst ((Zm w n).map V.int).reverse)) q4 (.lst ([V.int (1 - n / 2 ^ w % 2)]++((Zm w n).map V.int).reverse))=H4 at *
   clear hq1 hq2 hq3 hq4
   have hb4:=s4 _ _ hb2
   refine ⟨_,rfl,1,rfl,a2,_,-1,.int (n2 / 2 ^ w % 2),rfl,rfl,SqL.of hb4,top n2,_,_,rfl,rfl,by show 1≤sizeLine;decide,fun q1 hq1=>⟨_,rfl,_,rfl,_,rfl,a2,_,rfl,SqL.of (Zc hq1 _ _ hb4),fun q2 hq2=>?_⟩⟩
   rw [zf]
   refine ⟨1,rfl,rfl,q2,_,rfl,SqL.of Zb,fun q3 hq3=>⟨q1,q3,_,_,rfl,rfl,Zc hq3 _ _ (Zc hq2 _ _ Zb),Zb,?_,fun q5 hq5=>?_⟩⟩
   ·rw [List.length_reverse,List.length_map,YZ]
    exact Nat.le_of_lt (Zt (by show 1 + w≤1000;lia))
   have s5:=(((Zc (o:=.lst [V.int (1 - n2 / 2 ^ w % 2)]) hq1).trans (Zc (o:=.lst ((Zm w n2).map V.int)) hq2)).trans (Zc (o:=.lst ((Zm w n2).map V.int).reverse) hq3)).trans (Zc (o:=.lst ([V.int (1 - n2 / 2 ^ w % 2)]++((Zm w n2).map V.int).reverse)) hq5)
   refine ⟨q4,q5,(1 - n / 2 ^ w % 2)::(Zm w n).reverse,(1 - n2 / 2 ^ w % 2)::(Zm w n2).reverse,rfl,rfl,s5 _ _ hc4,?_,?_,?_⟩
   ·rw [Zb,List.map_cons,List.map_reverse]
    rfl
   ·rw [List.length_cons,List.length_cons,List.length_reverse,List.length_reverse,YZ,YZ]
   ·have e:qo (2 ^ (w + 1)) y [n,n2]=decide (sgn (2 ^ (w + 1)) n < sgn (2 ^ (w + 1)) n2):=by rw [h6];rfl
    rw [uZ w n n2 hn0.1 hn0.2 hn2.1 hn2.2,←e]
    exact fin _ (s4.trans s5)
  ·have no:∀y',0 < GA (.str y')→¬y=y':=fun y' h e=>by
    rw [←e,hn] at h
    exact Nat.lt_irrefl 0 h
   have hy5:y = "both" ∨ y = "either" ∨ y = "so" ∨ y = "never" := by
    rcases jf y hy with h | h | h | h | h | h | h | h | h | h
    ·exact absurd h (no _ (by decide +kernel))
    ·exact absurd h (no _ (by decide +kernel))
    ·exact absurd h (no _ (by decide +kernel))
    ·exact absurd h (no _ (by decide +kernel))
    ·exact absurd h (no _ (by decide +kernel))
    ·exact .inl h
    ·exact .inr (.inl h)
    ·exact .inr (.inr (.inl h))
    ·exact .inr (.inr (.inr h))
    ·exact absurd h h1
   cases bs with
   | nil =>
    have:vy (.str y)≠0:=by rcases hy5 with h | h | h | h <;> rw [h] <;> decide +kernel
    exact absurd hl.symm this
   | cons b1 bs =>
   refine ⟨_,rfl,.inl ⟨rfl,_,SqL.of (WO hp)⟩,pl,_,_,rfl,rfl,WO hp,Wb _ _,YT ?_⟩
   rw [List.dropLast_concat]
   have hp1:upd H pl (.lst (bs.map V.bl++zs).reverse) pl=some (.lst (bs.map V.bl++zs).reverse):=Zb
   have o1:∀b o,H b=some o→b≠pl→upd H pl (.lst (bs.map V.bl++zs).reverse) b=some o:=fun b o e h=>by rw [Zj h];exact e
   show U2 { nx:=fun x H'=>Q .non H',rt:=Q } _ (upd H pl (.lst (bs.map V.bl++zs).reverse))
   generalize upd H pl (.lst (bs.map V.bl++zs).reverse)=H1 at *
   refine ⟨_,rfl,rfl,_,rfl,?_⟩
   by_cases h2:y = "never"
   ·rw [decide_eq_true (congrArg V.str h2)]
    rw [h2,show vy (.str "never")=1 by decide +kernel] at hl
    have ei:bs=[]:=List.eq_nil_of_length_eq_zero (by simpa using hl)
    subst ei
    have e:wR y [b1]=!b1:=by rw [h2];rfl
    rw [e] at k
    exact YB ⟨_,rfl,b1,rfl,k H1 hp1 o1⟩
   rw [decide_eq_false (fun z=>h2 (by injection z))]
   refine Yh ⟨_,rfl,rfl,_,rfl,?_⟩
   rw [decide_eq_false (fun z=>no "nought" (by decide +kernel) (by injection z))]
   refine Yh ⟨_,rfl,rfl,_,rfl,?_⟩
   rw [decide_eq_false (fun z=>no "sign" (by decide +kernel) (by injection z))]
   have hc2:vy (.str y)=2:=by
    rcases hy5 with h | h | h | h
    ·rw [h];decide +kernel
    ·rw [h];decide +kernel
    ·rw [h];decide +kernel
    ·exact absurd h h2
   rw [hc2] at hl
   cases bs with
   | nil=>cases hl
   | cons b2 bs =>
   have ei:bs=[]:=List.eq_nil_of_length_eq_zero (by simpa using hl)
   subst ei
   refine Yh ⟨_,rfl,.inl ⟨rfl,_,SqL.of (WO hp1)⟩,pl,_,_,rfl,rfl,WO hp1,Wb _ _,YT ?_⟩
   rw [List.dropLast_concat]
   have hp2:upd H1 pl (.lst zs.reverse) pl=some (.lst zs.reverse):=Zb
   have o2:∀b o,H b=some o→b≠pl→upd H1 pl (.lst zs.reverse) b=some o:=fun b o e h=>by rw [Zj h];exact o1 b o e h
   show U6 { nx:=fun x H'=>Q .non H',rt:=Q } _ (upd H1 pl (.lst zs.reverse))
   generalize upd H1 pl (.lst zs.reverse)=H2 at *
   have fin:∀H',ZU H2 H'→Q (.bl (wR y [b1,b2])) H':=fun H' s=>k H' (s _ _ hp2) fun b o e h=>s _ _ (o2 b o e h)
   refine ⟨_,rfl,rfl,_,rfl,?_⟩
   rw [decide_eq_false (fun z=>no "same" (by decide +kernel) (by injection z))]
   refine Yh ⟨_,rfl,rfl,_,rfl,?_⟩
   rw [decide_eq_false (fun z=>no "under" (by decide +kernel) (by injection z))]
   refine Yh ⟨_,rfl,rfl,_,rfl,?_⟩
   rw [decide_eq_false (fun z=>no "beneath" (by decide +kernel) (by injection z))]
   refine Yh ⟨_,rfl,rfl,_,rfl,?_⟩
   by_cases h3:y = "both"
   ·rw [decide_eq_true (congrArg V.str h3)]
    have e:wR y [b1,b2]=(b1 && b2):=by rw [h3];rfl
    rw [e] at fin
    refine YB ⟨_,rfl,b1,rfl,?_⟩
    cases b1 with
    | true=>exact YB ⟨_,rfl,fin H2 (ZU.refl _)⟩
    | false=>exact Yh (fin H2 (ZU.refl _))
   rw [decide_eq_false (fun z=>h3 (by injection z))]
   refine Yh ⟨_,rfl,rfl,_,rfl,?_⟩
   by_cases h4:y = "either"
   ·rw [decide_eq_true (congrArg V.str h4)]
    have e:wR y [b1,b2]=(b1 || b2):=by rw [h4];rfl
    rw [e] at fin
    refine YB ⟨_,rfl,b1,rfl,?_⟩
    cases b1 with
    | true=>exact YB (fin H2 (ZU.refl _))
    | false=>exact Yh ⟨_,rfl,fin H2 (ZU.refl _)⟩
   rw [decide_eq_false (fun z=>h4 (by injection z))]
   have h5:y = "so" := by
    rcases hy5 with h | h | h | h
    ·exact absurd h h3
    ·exact absurd h h4
    ·exact h
    ·exact absurd h h2
   have e:wR y [b1,b2]=(b2 || !b1):=by rw [h5];rfl
   rw [e] at fin
   refine Yh ⟨_,rfl,by show 2≤sizeLine;decide,fun g hg=>⟨_,rfl,.inr ⟨b1,rfl,g,[.bl true,.bl b2],_,.bl (b2 || !b1),rfl,rfl,SqL.of Zb,?_,fin _ (Zc hg)⟩⟩⟩
   cases b1 with
   | true=>rw [Bool.not_true,Bool.or_false];rfl
   | false=>rw [Bool.not_false,Bool.or_true];rfl
inductive W5(C:Addr)(vs:List V)(H:Hp)(Q:VK):Prop
 | mk (e:Addr) (y:Str) (arr:Array Value):(vs=[.ref e,.str y])→(H e=some (.ext (ur C e arr)))→(∀d,H d=none→d≠e→Q .non (upd (upd H d (.xd [("word",.str y)])) e (.ext (Zdm C e d arr))))→W5 C vs H Q
noncomputable def Jm(K:PySem.W.Frag)(C:Addr):Sp:=fun vs H Q _=>W5 C vs H Q
theorem xb (T:Txt K w mg t) (TB:Tbs mg base t) (XB:Xcl K mg base t):Z7 P w K mg base CX0 1 t.a_NoName_init t.f_NoName_init ["self","word"] (Jm K t.x_NoName):=by
 refine T.d_NoName_init.F.ok qY (fun vs H Q E h=>?_) (fun cdv A outer s H vs Q E hr h=>?_)
 ·obtain ⟨e,y,arr,rfl,he,k⟩:=h
  rfl
 ·obtain ⟨e,y,arr,rfl,he,k⟩:=h
  have hu:=ZR hr
  refine ⟨_,@QSs.out _ _ _ (Zg (uv (qv 0) (qv 1) rfl)),?_⟩
  clear hu hr
  try dsimp only [L2.cxK,L2.cxK2]
  exact ⟨_,rfl,_,rfl,e,_,arr,rfl,he,XB.at_NoName,k⟩
inductive Gb(vs:List V)(H:Hp)(Q:VK):Prop
 | mk (k:Key):(vs=[kV k])→(Q (.int (XF k)) H)→Gb vs H Q
noncomputable def qJ(K:PySem.W.Frag):Sp:=fun vs H Q _=>Gb vs H Q
theorem jU (T:Txt K w mg t) (TB:Tbs mg base t) (XB:Xcl K mg base t):Z7 P w K mg base CX0 2 t.a_parts_of t.f_parts_of ["word"] (qJ K):=by
 have G_sums_behind:Z7 P w K mg base CX0 1 t.a_sums_behind t.f_sums_behind ["word"] (XQ K):=Ji T TB XB
 have G_claims_behind:Z7 P w K mg base CX0 1 t.a_claims_behind t.f_claims_behind ["word"] (W4 K):=GF T TB XB
 refine T.d_parts_of.F.ok jP (fun vs H Q E h=>?_) (fun cdv A outer s H vs Q E hr h=>?_)
 ·obtain ⟨kk,rfl,k⟩:=h
  rfl
 ·obtain ⟨kk,rfl,k⟩:=h
  have hu:=ZR hr
  refine ⟨_,@QSs.out _ _ _ (Zg (Zn (Zv Ym (Zh G_sums_behind (hr.mono (by decide)) rfl T.d_sums_behind.m T.d_sums_behind.F.kp T.d_sums_behind.b .nil Zy (Zi (qv 0) Zd)) (Zh G_claims_behind (hr.mono (by decide)) rfl T.d_claims_behind.m T.d_claims_behind.F.kp T.d_claims_behind.b .nil Zy (Zi (qv 0) Zd))))),?_⟩
  clear hu hr
  try dsimp only [L2.cxK,L2.cxK2]
  exact ⟨_,rfl,kk,rfl,_,rfl,kk,rfl,_,_,rfl,rfl,k⟩
inductive G2(vs:List V)(H:Hp)(Q:VK):Prop
 | mk (y:Str):(vs=[.str y])→(y.length≤100000)→(∀H',ZU H H'→Q (.bl (decide (y∉Ye∧NmL y))) H')→G2 vs H Q
noncomputable def x5(K:PySem.W.Frag):Sp:=fun vs H Q _=>G2 vs H Q
theorem Zac{y:Str}:NmL y↔y.length≤8∧xw y G9:=by
 constructor
 ·intro h
  refine ⟨h.1.2,fun z=>?_,h.2⟩
  have h1:=h.1.1
  rw [len_signs,z] at h1
  exact absurd h1 (by decide)
 ·intro h
  refine ⟨⟨?_,h.1⟩,h.2.2⟩
  rw [len_signs]
  cases e:y.cps.toList with
  | nil=>exact absurd e h.2.1
  | cons a r=>exact Nat.succ_le_succ (Nat.zero_le _)
theorem vt (T:Txt K w mg t) (TB:Tbs mg base t) (XB:Xcl K mg base t):Z7 P w K mg base CX0 2 t.a_is_name t.f_is_name ["text"] (x5 K):=by
 have G_is_made_of:Z7 P w K mg base CX0 1 t.a_is_made_of t.f_is_made_of ["text","signs"] (JT K):=zi T TB XB
 have G_is_claim_word:Z7 P w K mg base CX0 1 t.a_is_claim_word t.f_is_claim_word ["text"] (Xe K):=Wz T TB XB
 have G_is_sum_word:Z7 P w K mg base CX0 1 t.a_is_sum_word t.f_is_sum_word ["text"] (Jh K):=xa T TB XB
 refine T.d_is_name.F.ok vq (fun vs H Q E h=>?_) (fun cdv A outer s H vs Q E hr h=>?_)
 ·obtain ⟨y,rfl,hl,k⟩:=h
  rfl
 ·obtain ⟨y,rfl,hl,k⟩:=h
  have hu:=ZR hr
  refine ⟨_,@QSs.out _ _ _ (Za (Z8 (kE (Zca (Jc (Zh G_is_sum_word (hr.mono (by decide)) rfl T.d_is_sum_word.m T.d_is_sum_word.F.kp T.d_is_sum_word.b .nil Zy (Zi (qv 0) Zd))) (Za0 (Jc (Zh G_is_claim_word (hr.mono (by decide)) rfl T.d_is_claim_word.m T.d_is_claim_word.F.kp T.d_is_claim_word.b .nil Zy (Zi (qv 0) Zd))))))
    (Zg (Zn xC)) Zq)
    (Zg (Zn (xh (ZJ op_le (Z1 WA (by rfl) T.z_len X7 (Zi (qv 0) Zd)) (Y3 (v:=.int 8) rfl T.g_LONGEST_NAME ⟨_,rfl⟩) (Zs _)) (JA (Zh G_is_made_of (hr.mono (by decide)) rfl T.d_is_made_of.m T.d_is_made_of.F.kp T.d_is_made_of.b .nil Zy (Zi (qv 0) (Zi (Y3 (v:=.str "abcdefghijklmnopqrstuvwxyz") rfl T.g_LETTERS ⟨_,rfl⟩) Zd)))))))),?_⟩
  clear hu hr
  try dsimp only [L2.cxK,L2.cxK2]
  refine L2.let2 ?_
  intro U1
  by_cases h1:y∈Ye
  ·have e:decide (y∉Ye∧NmL y)=false:=decide_eq_false fun z=>z.1 h1
   rw [e] at k
   refine ⟨_,rfl,y,rfl,_,rfl,?_⟩
   by_cases h2:y∈qj
   ·rw [decide_eq_true h2]
    exact YB (YB (k H (ZU.refl H)))
   ·rw [decide_eq_false h2]
    have h3:y∈Z9:=((jK y).mp h1).resolve_left h2
    refine Yh ⟨_,rfl,.inr y,rfl,_,rfl,?_⟩
    rw [show clK (.inr y)=true from decide_eq_true h3]
    exact YB (k H (ZU.refl H))
  ·have h2:y∉qj:=fun z=>h1 ((jK y).mpr (.inl z))
   have h3:y∉Z9:=fun z=>h1 ((jK y).mpr (.inr z))
   refine ⟨_,rfl,y,rfl,_,rfl,?_⟩
   rw [decide_eq_false h2]
   refine Yh ⟨_,rfl,.inr y,rfl,_,rfl,?_⟩
   rw [show clK (.inr y)=false from decide_eq_false h3]
   refine Yh ?_
   refine ⟨_,rfl,y,rfl,Nat.le_trans hl (by decide),_,_,rfl,rfl,_,rfl,?_⟩
   by_cases h8:y.length≤8
   ·rw [decide_eq_true (show (y.length:Int)≤8 by lia)]
    refine YB ⟨_,rfl,y,G9,rfl,hl,fun H' s'=>?_⟩
    have e:decide (xw y G9)=decide (y∉Ye∧NmL y):=by
     rw [Bool.eq_iff_iff,decide_eq_true_iff,decide_eq_true_iff,Zac]
     exact ⟨fun z=>⟨h1,h8,z⟩,fun z=>z.2.2⟩
    rw [e]
    exact k H' s'
   ·rw [decide_eq_false (show ¬(y.length:Int)≤8 by lia)]
    have e:decide (y∉Ye∧NmL y)=false:=decide_eq_false fun z=>h8 z.2.1.2
    rw [e] at k
    exact Yh (k H (ZU.refl H))
inductive WQ(vs:List V)(H:Hp)(Q:VK):Prop
 | mk (x:V) (pl dv:Addr) (xs:List Int) (kvs:List (Key × V)) (ρ:Str→Int):(vs=[x,.ref pl,.ref dv])→(H pl=some (.lst (xs.map V.int)))→(H dv=some (.dK kvs))→(((∃z,x=.int z)∨∃y,x=.str y∧xs.length≤3∧(xs=[]→Yw kvs (.inr y)=some (.int (ρ y)))))→(Q (.int (wwv ρ x xs)) H)→WQ vs H Q
noncomputable def Gd(K:PySem.W.Frag):Sp:=fun vs H Q _=>WQ vs H Q
theorem zk (T:Txt K w mg t) (TB:Tbs mg base t) (XB:Xcl K mg base t):Z7 P w K mg base CX0 2 t.a_word_worth t.f_word_worth ["word","parts","values"] (Gd K):=by
 have G_worth_of_two:Z7 P w K mg base CX0 1 t.a_worth_of_two t.f_worth_of_two ["word","one","other"] (WM K):=qF T TB XB
 have G_worth_of_one:Z7 P w K mg base CX0 1 t.a_worth_of_one t.f_worth_of_one ["word","part"] (WL K):=qE T TB XB
 refine T.d_word_worth.F.ok zh (fun vs H Q E h=>?_) (fun cdv A outer s H vs Q E hr h=>?_)
 ·obtain ⟨x,pl,dv,xs,kvs,ρ,rfl,hp,hd,hx,k⟩:=h
  rfl
 ·obtain ⟨x,pl,dv,xs,kvs,ρ,rfl,hp,hd,hx,k⟩:=h
  have hu:=ZR hr
  refine ⟨_,@QSs.out _ _ _ (Za (Z8 (Jc (Z1 GI (by rfl) T.z_isinstance Yb (Zi (qv 0) (Zi (qb (v:=.ty "int") (by rfl) T.z_int J8 rfl) Zd))))
    (Zg (Zn (qv 0))) Zq)
    (Za (Z8 (Zo ZI (Z1 ZG (by rfl) T.z_len X7 (Zi (qv 1) Zd)) Ze (Zs _))
    (Zg (Zn (j6 hu (qv 2) (qv 0) (fun _ _=>rfl)))) Zq)
    (Za (Z8 (Zo ZI (Z1 ZG (by rfl) T.z_len X7 (Zi (qv 1) Zd)) Ze (Zs _))
    (Zg (Zn (Zh G_worth_of_one (hr.mono (by decide)) rfl T.d_worth_of_one.m T.d_worth_of_one.F.kp T.d_worth_of_one.b .nil Zy (Zi (qv 0) (Zi (Z4 Zp (qv 1) Ze (fun _ _=>rfl)) Zd))))) Zq)
    (Za (Z8 (Zo ZI (Z1 ZG (by rfl) T.z_len X7 (Zi (qv 1) Zd)) Ze (Zs _))
    (Zg (Zn (Zh G_worth_of_two (hr.mono (by decide)) rfl T.d_worth_of_two.m T.d_worth_of_two.F.kp T.d_worth_of_two.b .nil Zy (Zi (qv 0) (Zi (Z4 Zp (qv 1) Ze (fun _ _=>rfl)) (Zi (Z4 Zp (qv 1) Ze (fun _ _=>rfl)) Zd)))))) Zq)
    (Zg (Zn (Zv Zdx (Zv ya (Z4 Zp (qv 1) Ze (fun _ _=>rfl)) (Z4 Zp (qv 1) Ze (fun _ _=>rfl))) (Zv ya (Jz Zak (Z4 Zp (qv 1) Ze (fun _ _=>rfl))) (Z4 Zp (qv 1) Ze (fun _ _=>rfl)))))))))),?_⟩
  clear hu hr
  try dsimp only [L2.cxK,L2.cxK2]
  refine L2.let5 ?_
  intro U4 U3 U2 U1
  rcases hx with ⟨z,rfl⟩ | ⟨y,rfl,h3,hy⟩
  ·exact ⟨_,rfl,_,_,_,_,rfl,.int z,jv,_,rfl,YB ⟨_,rfl,k⟩⟩
  refine ⟨_,rfl,_,_,_,_,rfl,.str y,jw,_,rfl,Yh ?_⟩
  match xs,h3,hy,hp,k with
  | [],_,hy,hp,k =>
   refine ⟨_,rfl,pl,_,rfl,.inl (SqL.of hp),rfl,_,rfl,YB ?_⟩
   exact ⟨_,rfl,_,rfl,dv,_,rfl,.inl ⟨kvs,.inr y,.inl hd,rfl,(hy rfl).symm⟩,k⟩
  | [a],_,_,hp,k =>
   refine ⟨_,rfl,pl,_,rfl,.inl (SqL.of hp),rfl,_,rfl,Yh ?_⟩
   refine ⟨_,rfl,pl,_,rfl,.inl (SqL.of hp),rfl,_,rfl,YB ?_⟩
   exact ⟨_,rfl,_,rfl,pl,_,0,_,rfl,rfl,SqL.of hp,rfl,y,a,rfl,k⟩
  | [a,b],_,_,hp,k =>
   refine ⟨_,rfl,pl,_,rfl,.inl (SqL.of hp),rfl,_,rfl,Yh ?_⟩
   refine ⟨_,rfl,pl,_,rfl,.inl (SqL.of hp),rfl,_,rfl,Yh ?_⟩
   refine ⟨_,rfl,pl,_,rfl,.inl (SqL.of hp),rfl,_,rfl,YB ?_⟩
   exact ⟨_,rfl,_,rfl,pl,_,0,_,rfl,rfl,SqL.of hp,rfl,_,rfl,pl,_,1,_,rfl,rfl,SqL.of hp,rfl,y,a,b,rfl,k⟩
  | [a,b,c],_,_,hp,k =>
   refine ⟨_,rfl,pl,_,rfl,.inl (SqL.of hp),rfl,_,rfl,Yh ?_⟩
   refine ⟨_,rfl,pl,_,rfl,.inl (SqL.of hp),rfl,_,rfl,Yh ?_⟩
   refine ⟨_,rfl,pl,_,rfl,.inl (SqL.of hp),rfl,_,rfl,Yh ?_⟩
   refine ⟨_,rfl,pl,_,0,_,rfl,rfl,SqL.of hp,rfl,_,rfl,pl,_,1,_,rfl,rfl,SqL.of hp,rfl,_,_,rfl,rfl,?_⟩
   exact ⟨_,rfl,pl,_,0,_,rfl,rfl,SqL.of hp,rfl,_,rfl,_,rfl,pl,_,2,_,rfl,rfl,SqL.of hp,rfl,_,_,rfl,rfl,_,_,rfl,rfl,k⟩
inductive XN(vs:List V)(H:Hp)(Q:VK):Prop
 | mk (y:Str) (pl:Addr) (xs:List Int) (m:Int):(vs=[.str y,.ref pl,.int m])→(H pl=some (.lst (xs.map V.int)))→(1≤xs.length)→((y ≠ "nought" → y ≠ "sign" → 2≤xs.length))→(Q (.bl (qo m y xs)) H)→XN vs H Q
noncomputable def W6(K:PySem.W.Frag):Sp:=fun vs H Q _=>XN vs H Q
theorem at0{xs:List Int}(h:1≤xs.length):atI (xs.map V.int) 0=some (.int (xs.getD 0 0)):=Wr 0 rfl h
theorem at1{xs:List Int}(h:2≤xs.length):atI (xs.map V.int) 1=some (.int (xs.getD 1 0)):=Wr 1 rfl h
theorem GG (T:Txt K w mg t) (TB:Tbs mg base t) (XB:Xcl K mg base t):Z7 P w K mg base CX0 2 t.a_truth_of_sums t.f_truth_of_sums ["word","worths","many"] (W6 K):=by
 have G_signed:Z7 P w K mg base CX0 1 t.a_signed t.f_signed ["word","many"] (jc K):=gv T TB XB
 refine T.d_truth_of_sums.F.ok GD (fun vs H Q E h=>?_) (fun cdv A outer s H vs Q E hr h=>?_)
 ·obtain ⟨y,pl,xs,m,rfl,hp,l1,l2,k⟩:=h
  rfl
 ·obtain ⟨y,pl,xs,m,rfl,hp,l1,l2,k⟩:=h
  have hu:=ZR hr
  refine ⟨_,@QSs.out _ _ _ (Za (Z8 (Zo ZI (qv 0) Zk (Zs _))
    (Zg (Zn (ZJ ZI (Z4 Zp (qv 1) Ze (fun _ _=>rfl)) Ze (Zs _)))) Zq)
    (Za (Z8 (Zo ZI (qv 0) Zk (Zs _))
    (Zg (Zn (ZJ gC (Zh G_signed (hr.mono (by decide)) rfl T.d_signed.m T.d_signed.F.kp T.d_signed.b .nil Zy (Zi (Z4 Zp (qv 1) Ze (fun _ _=>rfl)) (Zi (qv 2) Zd))) Ze (Zs _)))) Zq)
    (Za (Z8 (Zo ZI (qv 0) Zk (Zs _))
    (Zg (Zn (ZJ ZI (Z4 Zp (qv 1) Ze (fun _ _=>rfl)) (Z4 Zp (qv 1) Ze (fun _ _=>rfl)) (Zs _)))) Zq)
    (Za (Z8 (Zo ZI (qv 0) Zk (Zs _))
    (Zg (Zn (ZJ gC (Z4 Zp (qv 1) Ze (fun _ _=>rfl)) (Z4 Zp (qv 1) Ze (fun _ _=>rfl)) (Zs _)))) Zq)
    (Zg (Zn (ZJ gC (Zh G_signed (hr.mono (by decide)) rfl T.d_signed.m T.d_signed.F.kp T.d_signed.b .nil Zy (Zi (Z4 Zp (qv 1) Ze (fun _ _=>rfl)) (Zi (qv 2) Zd))) (Zh G_signed (hr.mono (by decide)) rfl T.d_signed.m T.d_signed.F.kp T.d_signed.b .nil Zy (Zi (Z4 Zp (qv 1) Ze (fun _ _=>rfl)) (Zi (qv 2) Zd))) (Zs _)))))))),?_⟩
  clear hu hr
  try dsimp only [L2.cxK,L2.cxK2]
  refine L2.let5 ?_
  intro U4 U3 U2 U1
  unfold qo at k
  refine ⟨_,rfl,rfl,_,rfl,?_⟩
  by_cases h1:y = "nought"
  ·rw [decide_eq_true (congrArg V.str h1)]
   rw [if_pos h1] at k
   refine YB ⟨_,rfl,pl,_,0,_,rfl,rfl,SqL.of hp,at0 l1,rfl,?_⟩
   rw [show decide (V.int (xs.getD 0 0)=V.int 0)=decide (xs.getD 0 0=0) by simp only [V.int.injEq]]
   exact k
  rw [decide_eq_false (fun z=>h1 (by injection z))]
  rw [if_neg h1] at k
  refine Yh ⟨_,rfl,rfl,_,rfl,?_⟩
  by_cases h2:y = "sign"
  ·rw [decide_eq_true (congrArg V.str h2)]
   rw [if_pos h2] at k
   exact YB ⟨_,rfl,pl,_,0,_,rfl,rfl,SqL.of hp,at0 l1,_,rfl,_,m,rfl,_,_,rfl,rfl,k⟩
  rw [decide_eq_false (fun z=>h2 (by injection z))]
  rw [if_neg h2] at k
  have l2:=l2 h1 h2
  refine Yh ⟨_,rfl,rfl,_,rfl,?_⟩
  by_cases h3:y = "same"
  ·rw [decide_eq_true (congrArg V.str h3)]
   rw [if_pos h3] at k
   refine YB ⟨_,rfl,pl,_,0,_,rfl,rfl,SqL.of hp,at0 l1,_,rfl,pl,_,1,_,rfl,rfl,SqL.of hp,at1 l2,rfl,?_⟩
   rw [show decide (V.int (xs.getD 0 0)=V.int (xs.getD 1 0))=decide (xs.getD 0 0=xs.getD 1 0) by simp only [V.int.injEq]]
   exact k
  rw [decide_eq_false (fun z=>h3 (by injection z))]
  rw [if_neg h3] at k
  refine Yh ⟨_,rfl,rfl,_,rfl,?_⟩
  by_cases h4:y = "under"
  ·rw [decide_eq_true (congrArg V.str h4)]
   rw [if_pos h4] at k
   exact YB ⟨_,rfl,pl,_,0,_,rfl,rfl,SqL.of hp,at0 l1,_,rfl,pl,_,1,_,rfl,rfl,SqL.of hp,at1 l2,_,_,rfl,rfl,k⟩
  rw [decide_eq_false (fun z=>h4 (by injection z))]
  rw [if_neg h4] at k
  exact Yh ⟨_,rfl,pl,_,0,_,rfl,rfl,SqL.of hp,at0 l1,_,rfl,_,m,rfl,_,rfl,pl,_,1,_,rfl,rfl,SqL.of hp,at1 l2,_,rfl,_,m,rfl,_,_,rfl,rfl,k⟩
inductive Jn(vs:List V)(H:Hp)(Q:VK):Prop
 | mk (d c:Addr):(vs=[.ref d])→(Z0 H d c)→(∀(x:Nat) H',1≤x→x≤60→Z0 H' d c→Off d c H H'→Q (.int x) H')→Jn vs H Q
noncomputable def G3(K:PySem.W.Frag):Sp:=fun vs H Q _=>Jn vs H Q
theorem jh (T:Txt K w mg t) (TB:Tbs mg base t) (XB:Xcl K mg base t):Z7 P w K mg base CX0 2 t.a_law_width t.f_law_width ["deck"] (G3 K):=by
 have G_law_take:Z7 P w K mg base CX0 1 t.a_law_take t.f_law_take ["deck","many"] (ZS K):=Yf T TB XB
 refine T.d_law_width.F.ok jb (fun vs H Q E h=>?_) (fun cdv A outer s H vs Q E hr h=>?_)
 ·obtain ⟨d,c,rfl,D,k⟩:=h
  rfl
 ·obtain ⟨d,c,rfl,D,k⟩:=h
  have hu:=ZR hr
  refine ⟨_,@QSs.out _ _ _ (Zg (Zn (Z4 Zp (ZA (Zi Ze (Zi Ze (Zi Ze (Zi Ze (Zi Ze (Zi Ze (Zi Ze (Zi (Zv Ym Ze (Zh G_law_take (hr.mono (by decide)) rfl T.d_law_take.m T.d_law_take.F.kp T.d_law_take.b .nil Zy (Zi (qv 0) (Zi Ze Zd)))) Zd))))))))) (Zh G_law_take (hr.mono (by decide)) rfl T.d_law_take.m T.d_law_take.F.kp T.d_law_take.b .nil Zy (Zi (qv 0) (Zi Ze Zd))) (fun _ _=>rfl)))),?_⟩
  clear hu hr
  try dsimp only [L2.cxK,L2.cxK2]
  refine ⟨_,rfl,d,c,60,rfl,D,by decide,by decide,fun r H1 r0 r1 D1 o1=>⟨_,_,rfl,rfl,?_⟩⟩
  refine ⟨by show 8≤sizeLine;decide,fun p hp=>?_⟩
  have s1:=Zc (o:=.lst [.int 1,.int 2,.int 3,.int 4,.int 8,.int 59,.int 60,.int (1 + r)]) hp
  refine ⟨_,rfl,d,c,8,rfl,D1.same s1,by decide,by decide,fun q H2 q0 q1 D2 o2=>?_⟩
  have pd:p≠d:=fun e=>by obtain ⟨n,cs,hd,_⟩:=D1.ex;rw [←e,hp] at hd;cases hd
  have pc:p≠c:=fun e=>by obtain ⟨n,cs,_,hc,_⟩:=D1.ex;rw [←e,hp] at hc;cases hc
  have h2:=o2 p _ Zb pd pc
  have oo:Off d c H H2:=(o1.trans (ZO d c s1)).trans o2
  have hq:q=0∨q=1∨q=2∨q=3∨q=4∨q=5∨q=6∨q=7:=by lia
  rcases hq with rfl | rfl | rfl | rfl | rfl | rfl | rfl | rfl
  ·exact ⟨p,_,0,_,rfl,rfl,SqL.of h2,rfl,k 1 H2 (by decide) (by decide) D2 oo⟩
  ·exact ⟨p,_,1,_,rfl,rfl,SqL.of h2,rfl,k 2 H2 (by decide) (by decide) D2 oo⟩
  ·exact ⟨p,_,2,_,rfl,rfl,SqL.of h2,rfl,k 3 H2 (by decide) (by decide) D2 oo⟩
  ·exact ⟨p,_,3,_,rfl,rfl,SqL.of h2,rfl,k 4 H2 (by decide) (by decide) D2 oo⟩
  ·exact ⟨p,_,4,_,rfl,rfl,SqL.of h2,rfl,k 8 H2 (by decide) (by decide) D2 oo⟩
  ·exact ⟨p,_,5,_,rfl,rfl,SqL.of h2,rfl,k 59 H2 (by decide) (by decide) D2 oo⟩
  ·exact ⟨p,_,6,_,rfl,rfl,SqL.of h2,rfl,k 60 H2 (by decide) (by decide) D2 oo⟩
  ·refine ⟨p,_,7,_,rfl,rfl,SqL.of h2,rfl,?_⟩
   obtain ⟨j,hj⟩:∃j:Nat,1 + r=(j:Int):=⟨(1 + r).toNat,by lia⟩
   try dsimp only
   rw [hj]
   exact k j H2 (by lia) (by lia) D2 oo
inductive Jo(vs:List V)(H:Hp)(Q:VK):Prop
 | mk (d c:Addr):(vs=[.ref d])→(Z0 H d c)→(∀p (ys:List Str) H',H p=none→H' p=some (.lst (ys.map V.str))→Nms ys→Z0 H' d c→Off d c H H'→Q (.ref p) H')→Jo vs H Q
noncomputable def G4(K:PySem.W.Frag):Sp:=fun vs H Q _=>Jo vs H Q
theorem ji (T:Txt K w mg t) (TB:Tbs mg base t) (XB:Xcl K mg base t):Z7 P w K mg base CX0 2 t.a_law_names t.f_law_names ["deck"] (G4 K):=by
 have G_law_take:Z7 P w K mg base CX0 1 t.a_law_take t.f_law_take ["deck","many"] (ZS K):=Yf T TB XB
 have G_law_kept:Z7 P w K mg base CX0 1 t.a_law_kept t.f_law_kept [] (Wv K):=J5 T TB XB
 refine T.d_law_names.F.ok ZH (fun vs H Q E h=>?_) (fun cdv A outer s H vs Q E hr h=>?_)
 ·obtain ⟨d,c,rfl,D,k⟩:=h
  rfl
 ·obtain ⟨d,c,rfl,D,k⟩:=h
  have hu:=ZR hr
  refine ⟨_,@QSs.out _ _ _ (Za (Zr (i:=1) ZH.nd rfl (Or.inr rfl) Zk)
    (Za (Zr (i:=2) ZH.nd rfl (Or.inl rfl) (Ww PySem.F.plainAttrs_str PySem.F.slot_str_join PySem.F.type_str_join Zcd Zk (Zi (J0 (⟨by rfl,by decide +kernel,by decide +kernel,by rfl,by decide +kernel,by decide +kernel,by rfl,by decide +kernel⟩:ZW (Zf Ys) _ ["deck","letters","base","at","names","k","place","name"] "k" ["letters","deck"] [1,0]) (ZV rfl T.z_range (Zi (Zv Ym Ze (Zh G_law_take (hr.mono (by decide)) rfl T.d_law_take.m T.d_law_take.F.kp T.d_law_take.b .nil Zy (Zi (qv 0) (Zi Ze Zd)))) Zd)) (fun _ _ _ _=>qd) (fun _ _ _ _=>(Z4 zv (qv 1) (Zh G_law_take (hr.mono (by decide)) rfl T.d_law_take.m T.d_law_take.F.kp T.d_law_take.b .nil Zy (Zi (qv 2) (Zi Ze Zd))) (fun _ _=>rfl)))) Zd)))
    (Za (Zr (i:=3) ZH.nd rfl (Or.inl rfl) (Zh G_law_take (hr.mono (by decide)) rfl T.d_law_take.m T.d_law_take.F.kp T.d_law_take.b .nil Zy (Zi (qv 0) (Zi (Z1 WA (by rfl) T.z_len X7 (Zi (qv 2) Zd)) Zd))))
    (Za (Zr (i:=4) ZH.nd rfl (Or.inr rfl) (ZA Zd))
    (Za (X8 PassesOwn.never rfl (ZV rfl T.z_range (Zi (Zv Ym Ze (Zh G_law_take (hr.mono (by decide)) rfl T.d_law_take.m T.d_law_take.F.kp T.d_law_take.b .nil Zy (Zi (qv 0) (Zi Ze Zd)))) Zd)) (YD (i:=5) ZH.nd rfl (Or.inl rfl))
    (Za (Zr (i:=6) ZH.nd rfl (Or.inl rfl) (Zv Ym (Ww PySem.F.plainAttrs_str PySem.F.slot_str_index PySem.F.type_str_index gS (qv 1) (Zi (Z4 zv (qv 2) (qv 3) (fun _ _=>rfl)) Zd)) (Zv Xb Ze (qv 5))))
    (Za (Zr (i:=7) ZH.nd rfl (Or.inl rfl) (Zv WT (Zv WT (Xi kM (qv 2) Wk (Wl (qv 3))) (Z4 zv (qv 1) (Zv Xv (qv 6) Ze) (fun _ _=>rfl))) (Xi kM (qv 2) (Wl (Zv Ym (qv 3) Ze)) Wk)))
    (Za (Z8 (Zo ZI (Zv Xv (qv 5) Ze) Ze (Zs _))
    (Zg (Zr (i:=7) ZH.nd rfl (Or.inl rfl) (Z4 Zp (ZA (Zi (Zv WT (qv 7) (Z4 zv (qv 1) (Zh G_law_take (hr.mono (by decide)) rfl T.d_law_take.m T.d_law_take.F.kp T.d_law_take.b .nil Zy (Zi (qv 0) (Zi Ze Zd))) (fun _ _=>rfl))) (Zi (Xi kM (qv 7) Wk (Wl (Jz XS Ze))) Zd))) (Yq YW (by rfl) T.z_int J8 (Zi (ZJ ZI (Z1 WA (by rfl) T.z_len X7 (Zi (qv 7) Zd)) Ze (Zs _)) Zd)) (fun _ _=>rfl)))) Zq)
    (Za (Z8 (Zo ZI (Zh G_law_take (hr.mono (by decide)) rfl T.d_law_take.m T.d_law_take.F.kp T.d_law_take.b .nil Zy (Zi (qv 0) (Zi Ze Zd))) Ze (Zs _))
    (Zg (Zr (i:=7) ZH.nd rfl (Or.inl rfl) (Zv WT (Z4 Zp (GJ G_law_kept (hr.mono (by decide)) rfl T.d_law_kept.m T.d_law_kept.F.kp T.d_law_kept.b .nil Zy) (Zh G_law_take (hr.mono (by decide)) rfl T.d_law_take.m T.d_law_take.F.kp T.d_law_take.b .nil Zy (Zi (qv 0) (Zi Ze Zd))) (fun _ _=>rfl)) (Z4 zv (qv 1) (Zh G_law_take (hr.mono (by decide)) rfl T.d_law_take.m T.d_law_take.F.kp T.d_law_take.b .nil Zy (Zi (qv 0) (Zi Ze Zd))) (fun _ _=>rfl))))) Zq)
    (Za (Z8 (Zo Xw (qv 7) (Zv xg (qv 4) (GJ G_law_kept (hr.mono (by decide)) rfl T.d_law_kept.m T.d_law_kept.F.kp T.d_law_kept.b .nil Zy)) (by with_unfolding_all rfl))
    (Zg (Zr (i:=7) ZH.nd rfl (Or.inl rfl) (Z4 Zp (J0 (⟨by rfl,by decide +kernel,by decide +kernel,by rfl,by decide +kernel,by decide +kernel,by rfl,by decide +kernel⟩:ZW (Zf Ys) _ ["deck","letters","base","at","names","k","place","name"] "one" ["names"] [4]) (xD (ZA (Zi Zk (Zi Zk (Zi Zk (Zi Zk Zd)))))) (fun _ _ _ _=>(kG (Zo (show OpR _ (compareOp .NotIn) (rIn K true) from X6) (qv 0) (qv 1) (by with_unfolding_all rfl)))) (fun _ _ _ _=>(qv 0))) Ze (fun _ _=>rfl)))) Zq)
    (Zg (Wj (Ww PySem.F.plainAttrs_list PySem.F.slot_list_append PySem.F.type_list_append YX (qv 4) (Zi (qv 7) Zd))))))))))
    (Zg (Zn (qv 4)))))))),?_⟩
  clear hu hr
  try dsimp only [L2.cxK,L2.cxK2]
  refine L2.let6 ?_
  intro U5 U4 U3 U2 U1
  refine ⟨rfl,_,rfl,d,c,8,rfl,D,by decide,by decide,fun r H1 r0 r1 D1 o1=>?_⟩
  refine ⟨_,_,rfl,rfl,_,rfl,?_,?_,Gp (n:=(1 + r).toNat) (fun i zs H2=>∃ys:List Str,zs=ys.map V.str∧ys.length=i∧(∀y∈ys,∃c,y=⟨#[c]⟩∧Low c)∧Z0 H2 d c∧Off d c H1 H2∧i≤8) ⟨[],rfl,rfl,(fun _ h=>nomatch h),D1,Off.refl _ _ _,Nat.zero_le _⟩ ?_ ?_ ?_⟩
  ·lia
  ·lia
  ·rintro i zs H2 hz_
   refine ZC fun Gz hGz=>?_
   obtain ⟨ys,rfl,hl,_,_,_,hi⟩:=hz_
   refine hGz ?_
   clear hGz Gz
   rw [List.length_map,hl]
   exact Nat.le_of_lt (Zt (by lia))
  ·rintro i zs H2 R hR hi hz_
   refine ZC fun Gz hGz=>?_
   obtain ⟨ys,rfl,hl,hy,D2,o2,_⟩:=hz_
   refine hGz ?_
   clear hGz Gz
   unfold kF
   try dsimp only
   rw [if_pos rfl]
   refine ⟨_,rfl,_,rfl,d,c,26,rfl,D2,by decide,by decide,fun q H3 q0 q1 D3 o3=>?_⟩
   obtain ⟨e,he,ee⟩:=yn q0 q1
   refine ⟨G9,_,e,rfl,rfl,GR,ee,hR _ _ ⟨ys++[⟨#[e]⟩],by rw [List.map_append];rfl,by rw [List.length_append,hl];rfl,xS hy ⟨e,rfl,he⟩,D3,o2.trans o3,by lia⟩⟩
  rintro zs H2 hz_ l hl2
  refine ZC fun Gz hGz=>?_
  obtain ⟨ys,rfl,hl,hy,D2,o2,_⟩:=hz_
  refine hGz ?_
  clear hGz Gz
  obtain ⟨f1,f2,f3⟩:=wG hy
  refine ⟨_,l,ys,rfl,rfl,SqL.of Zb,?_,?_⟩
  ·rw [f3]
   show ys.length + ys.length * 0≤_
   lia
  have js:=ve ("" : Str) (by decide +kernel) ys
  rw [←js] at f1 f2
  generalize Txt.join ("" : Str) ys=B at *
  have hB:B.length=ys.length:=by rw [len_signs];exact f1
  have s3:=Zc (o:=.lst (ys.map V.str)) hl2
  refine ⟨_,rfl,_,rfl,B,rfl,Nat.le_of_lt (Zt (by lia)),d,c,_,rfl,D2.same s3,by lia,by lia,fun a H4 a0 a1 D4 o4=>?_⟩
  obtain ⟨j,rfl⟩:∃j:Nat,a=(j:Int):=⟨a.toNat,by lia⟩
  have hj:j < B.length:=by lia
  have o14:Off d c H H4:=((o1.trans o2).trans (ZO d c s3)).trans o4
  refine ⟨by show 0≤sizeLine;decide,fun p hp=>?_⟩
  have pn:=YO D4 hp
  have hp0:H p=none:=by
   cases e:H p with
   | none=>rfl
   | some o=>rw [o14 p o e pn.1 pn.2] at hp;cases hp
  refine ⟨_,rfl,d,c,3,rfl,XE D4 pn,by decide,by decide,fun m H5 m0 m1 D5 o5=>?_⟩
  have h5:=o5 p _ Zb pn.1 pn.2
  have o15:Off d c H H5:=(jJ o14 hp0).trans o5
  obtain ⟨e0,he0,ee0⟩:∃e,e∈B.cps.toList∧atI B.cps.toList (j:Int)=some e:=wF (z:=B) (i:=(j:Int)) B.length (len_signs B).symm (by lia) (by lia)
  obtain ⟨ix,rest,hix⟩:=wH e0 (f2 e0 he0)
  refine ⟨_,_,rfl,rfl,_,rfl,?_,?_,xo (n:=(1 + m).toNat) (fun i σ H6=>∃(ys:List Str) (u5 u6 u7:Option V),σ=[some (.ref d),some (.str G9),some (.str B),some (.int j),some (.ref p),u5,u6,u7]∧H6 p=some (.lst (ys.map V.str))∧ys.length=i∧ys.Nodup∧(∀y∈ys,NmS y)∧Z0 H6 d c∧Off d c H H6∧i≤3) ⟨[],none,none,none,rfl,h5,rfl,List.nodup_nil,(fun _ h=>nomatch h),D5,o15,Nat.zero_le _⟩ ?_ ?_⟩
  ·lia
  ·lia
  ·rintro i σ H6 hi hz_ Nx bx rx hNx
   refine ZC fun Gz hGz=>?_
   obtain ⟨zs,u5,u6,u7,rfl,h6,hzl,hnd,hzs,D6,o6,_⟩:=hz_
   refine hGz ?_
   clear hGz Gz
   have BS:B.length≤sizeLine:=Nat.le_of_lt (Zt (by lia))
   refine ⟨_,rfl,rfl,_,rfl,_,rfl,B,_,e0,rfl,rfl,BS,ee0,G9,_,ix,rest,rfl,rfl,hix,_,rfl,_,_,rfl,rfl,.inr (.inl ⟨by decide,by decide⟩),_,_,rfl,rfl,?_⟩
   try dsimp only
   obtain ⟨e1,he1,ee1⟩:=yn (i:=((ix:Int) + 5 * (0 + (i:Int))) % 26) (Int.emod_nonneg _ (by decide)) (Int.emod_lt_of_pos _ (by decide))
   have l1:=Txt.slice_le B none (some (j:Int))
   have l2:=Txt.slice_le B (some ((j:Int) + 1)) none
   refine ⟨_,rfl,_,rfl,_,rfl,_,rfl,BS,_,rfl,_,rfl,_,_,rfl,rfl,(by show (0:Int) < 26;decide),G9,_,e1,rfl,rfl,GR,ee1,_,_,rfl,rfl,?_,?_⟩
   ·rw [qi]
    exact Nat.le_of_lt (Zt (by lia))
   refine ⟨_,rfl,_,rfl,_,_,rfl,rfl,_,rfl,_,rfl,BS,_,_,rfl,rfl,?_,?_⟩
   ·rw [Str.length_append,qi]
    exact Nat.le_of_lt (Zt (by lia))
   have nl:=vh (d:=e1) hj
   have nL:NmL (Txt.slice B none (some (j:Int))++⟨#[e1]⟩++Txt.slice B (some ((j:Int) + 1)) none):=by
    refine ⟨by lia,fun c hc=>?_⟩
    rcases vg hj hc with z | z
    ·exact f2 c z
    ·rw [z]
     exact he1
   generalize Txt.slice B none (some (j:Int))++⟨#[e1]⟩++Txt.slice B (some ((j:Int) + 1)) none=nm at *
   refine YT ?_
   refine wD (fun σ H'=>∃(nm:Str) (u6:Option V),σ=[some (.ref d),some (.str G9),some (.str B),some (.int j),some (.ref p),some (.int (0 + (i:Int))),u6,some (.str nm)]∧NmL nm∧Z0 H' d c∧Off d c H6 H') (fun N hN=>?_) ?_
   ·refine ⟨_,rfl,_,_,rfl,rfl,(by show (0:Int) < 2;decide),rfl,_,rfl,yc (fun _=>?_) (fun _=>?_)⟩
    ·refine ⟨_,rfl,_,rfl,_,rfl,d,c,26,rfl,D6,by decide,by decide,fun q H7 q0 q1 D7 o7=>?_⟩
     obtain ⟨e2,he2,ee2⟩:=yn q0 q1
     have ns:nm.length≤sizeLine:=Nat.le_of_lt (Zt (by lia))
     have l3:=Txt.slice_le nm none (some (-1))
     refine ⟨G9,_,e2,rfl,rfl,GR,ee2,_,_,rfl,rfl,?_,?_⟩
     ·rw [qi]
      exact Nat.le_of_lt (Zt (by lia))
     refine ⟨_,rfl,_,rfl,_,rfl,_,rfl,ns,by show 2≤sizeLine;decide,fun l hl=>?_⟩
     refine ⟨_,rfl,nm,rfl,ns,rfl,.inr ⟨_,rfl,l,[.str (nm++⟨#[e2]⟩),.str (Txt.slice nm none (some (-1)))],_,(if nm.length=8 then V.str (Txt.slice nm none (some (-1))) else V.str (nm++⟨#[e2]⟩)),rfl,rfl,SqL.of Zb,?_,?_⟩⟩
     ·by_cases h8:nm.length=8
      ·rw [if_pos h8,h8]
       rfl
      ·have e:decide (V.int (nm.length:Int)=V.int 8)=false:=decide_eq_false fun z=>h8 (by injection z with z;lia)
       rw [if_neg h8,e]
       rfl
     ·have D8:=D7.same (Zc (o:=.lst [.str (nm++⟨#[e2]⟩),.str (Txt.slice nm none (some (-1)))]) hl)
      have o8:=o7.trans (ZO d c (Zc (o:=.lst [.str (nm++⟨#[e2]⟩),.str (Txt.slice nm none (some (-1)))]) hl))
      by_cases h8:nm.length=8
      ·rw [if_pos h8]
       exact hN _ _ ⟨_,_,rfl,nL.cut h8,D8,o8⟩
      ·rw [if_neg h8]
       exact hN _ _ ⟨_,_,rfl,nL.more (by have:=nL.1;lia) he2,D8,o8⟩
    ·exact hN _ _ ⟨nm,_,rfl,nL,D6,Off.refl _ _ _⟩
   clear nL nl
   rintro σ H7 hz_
   refine ZC fun Gz hGz=>?_
   obtain ⟨nm,v6,rfl,nL,D7,o7⟩:=hz_
   refine hGz ?_
   clear hGz Gz
   show ZT (Zbr _ _ _) _ _ _ _
   refine xH (fun σ H'=>∃(nm:Str) (u6:Option V),σ=[some (.ref d),some (.str G9),some (.str B),some (.int j),some (.ref p),some (.int (0 + (i:Int))),u6,some (.str nm)]∧NmL nm∧Z0 H' d c∧Off d c H6 H') (fun N hN=>?_) ?_
   ·refine ⟨_,rfl,d,c,6,rfl,D7,by decide,by decide,fun q H8 q0 q1 D8 o8=>⟨rfl,_,rfl,yc (fun _=>?_) (fun _=>?_)⟩⟩
    ·refine ⟨rfl,fun kp H9 hkp h9 s9=>?_⟩
     have kn:=YO D8 hkp
     refine ⟨_,rfl,d,c,20,rfl,D8.same s9,by decide,by decide,fun q2 H10 q20 q21 D10 o10=>?_⟩
     obtain ⟨ky,hky,eky⟩:=xT (ys:=Ye) (i:=q2) q20 q21
     have hk10:=o10 _ _ h9 kn.1 kn.2
     obtain ⟨kl,kc⟩:=uG ky hky
     refine ⟨kp,_,_,_,rfl,rfl,SqL.of hk10,eky,_,rfl,_,rfl,d,c,26,rfl,D10,by decide,by decide,fun q3 H11 q30 q31 D11 o11=>?_⟩
     obtain ⟨e3,he3,ee3⟩:=yn q30 q31
     refine ⟨G9,_,e3,rfl,rfl,GR,ee3,_,_,rfl,rfl,?_,?_⟩
     ·rw [qi]
      exact Nat.le_of_lt (Zt (by lia))
     ·exact hN _ _ ⟨_,_,rfl,NmL.more ⟨⟨kl.1,by lia⟩,kc⟩ kl.2 he3,D11,(((o7.trans o8).trans (ZO d c s9)).trans o10).trans o11⟩
    ·exact hN _ _ ⟨nm,_,rfl,nL,D8,o7.trans o8⟩
   clear nL
   rintro σ H8 hz_
   refine ZC fun Gz hGz=>?_
   obtain ⟨nm,v6',rfl,nL,D8,o8⟩:=hz_
   refine hGz ?_
   clear hGz Gz
   have h8:=o8 _ _ h6 pn.1 pn.2
   show ZT (Zbr _ _ _) _ _ _ _
   refine xH (fun σ H'=>∃(nm:Str) (u6:Option V),σ=[some (.ref d),some (.str G9),some (.str B),some (.int j),some (.ref p),some (.int (0 + (i:Int))),u6,some (.str nm)]∧NmS nm∧nm∉zs∧Z0 H' d c∧Off d c H6 H') (fun N hN=>?_) ?_
   ·refine ⟨_,rfl,_,rfl,rfl,fun kp H9 hkp h9 s9=>?_⟩
    refine ⟨p,kp,_,_,rfl,rfl,s9 _ _ h8,h9,?_,fun l hl=>?_⟩
    ·rw [List.length_map,List.length_map]
     exact Nat.le_of_lt (Zt (show zs.length + 20≤1000 by lia))
    rw [←List.map_append]
    have s10:=s9.trans (Zc (o:=.lst ((zs++Ye).map V.str)) hl)
    refine ⟨l,_,rfl,.inl (SqL.of Zb),rfl,YY _,?_⟩
    rw [Y2]
    refine ⟨_,rfl,yc (fun hin=>?_) (fun hin=>?_)⟩
    ·refine ⟨by show 4≤sizeLine;decide,fun g hg=>?_⟩
     have s11:=s10.trans (Zc (o:=.lst (JJ.map V.str)) hg)
     have h11:=s11 _ _ h8
     refine ZC fun Gz hGz=>?_
     obtain ⟨y,rr,ey,hy1,hy2⟩:=vi (ys:=zs) (by lia)
     refine hGz ?_
     clear hGz Gz
     refine ⟨g,rfl,⟨_,SqL.of Zb⟩,qf (xs:=JJ.map V.str) (fun v=>!inV v (zs.map V.str)) (fun v=>v) (SqL.of Zb) (by decide) (fun v hv R hR=>?_) (fun v hv _ R hR=>⟨_,rfl,hR⟩) (fun l2 hl2=>?_)⟩
     ·obtain ⟨z,_,rfl⟩:=List.mem_map.mp hv
      exact ⟨_,rfl,_,rfl,p,_,rfl,.inl (SqL.of h11),rfl,YY _,_,rfl,hR⟩
     have ef:((JJ.map V.str).filter (fun v=>!inV v (zs.map V.str))).map (fun v=>v)=(y::rr).map V.str:=by
      rw [←ey,List.map_id',List.filter_map]
      congr 1
      apply List.filter_congr
      intro z _
      show (!inV (.str z) (zs.map V.str))=_
      rw [Y2]
     rw [ef]
     have s12:=s11.trans (Zc (o:=.lst ((y::rr).map V.str)) hl2)
     exact ⟨l2,_,_,_,rfl,rfl,SqL.of Zb,(Yo (j:=0) rfl:atI ((y::rr).map V.str) ((0:Nat):Int)=some (V.str y)),hN _ _ ⟨y,_,rfl,⟨(yo y hy1).1,(yo y hy1).2⟩,hy2,D8.same s12,o8.trans (ZO d c s12)⟩⟩
    ·have hin':nm∉zs++Ye:=of_decide_eq_false (by simpa using hin)
     exact hN _ _ ⟨nm,_,rfl,⟨nL,fun z=>hin' (List.mem_append_right _ z)⟩,fun z=>hin' (List.mem_append_left _ z),D8.same s10,o8.trans (ZO d c s10)⟩
   clear nL
   rintro σ H9 hz_
   refine ZC fun Gz hGz=>?_
   obtain ⟨nm,v6'',rfl,nS,nz,D9,o9⟩:=hz_
   refine hGz ?_
   clear hGz Gz
   have h9:=o9 _ _ h6 pn.1 pn.2
   refine ⟨_,rfl,.inl ⟨rfl,_,SqL.of h9⟩,_,rfl,p,_,_,rfl,rfl,h9,?_,hNx _ _ ⟨zs++[nm],_,_,_,rfl,?_,?_,?_,?_,XE D9 pn,jJ (o6.trans o9) hp0,by lia⟩⟩
   ·rw [List.length_map]
    exact Zt (by lia)
   ·rw [Zb,List.map_append]
    rfl
   ·rw [List.length_append,hzl]
    rfl
   ·rw [List.nodup_append]
    exact ⟨hnd,List.nodup_cons.mpr ⟨List.not_mem_nil,List.nodup_nil⟩,fun a ha b hb=>by
     rw [List.mem_singleton.mp hb]
     exact fun e=>nz (by rw [←e];exact ha)⟩
   ·exact xS hzs nS
  ·rintro σ H6 hz_
   refine ZC fun Gz hGz=>?_
   obtain ⟨zs,u5,u6,u7,rfl,h6,hzl,hnd,hzs,D6,o6,hi3⟩:=hz_
   refine hGz ?_
   clear hGz Gz
   exact ⟨_,rfl,k p zs H6 hp0 h6 ⟨by lia,by lia,hnd,hzs⟩ D6 o6⟩
inductive Ge(vs:List V)(H:Hp)(Q:VK):Prop
 | mk (d c p:Addr) (ys:List Str):(vs=[.ref d,.ref p])→(Z0 H d c)→(H p=some (.lst (ys.map V.str)))→(Nms ys)→(∀v H',xu ys v→Z0 H' d c→Off d c H H'→Q v H')→Ge vs H Q
noncomputable def qK(K:PySem.W.Frag):Sp:=fun vs H Q _=>Ge vs H Q
theorem jV (T:Txt K w mg t) (TB:Tbs mg base t) (XB:Xcl K mg base t):Z7 P w K mg base CX0 2 t.a_law_leaf t.f_law_leaf ["deck","names"] (qK K):=by
 have G_law_take:Z7 P w K mg base CX0 1 t.a_law_take t.f_law_take ["deck","many"] (ZS K):=Yf T TB XB
 refine T.d_law_leaf.F.ok qA (fun vs H Q E h=>?_) (fun cdv A outer s H vs Q E hr h=>?_)
 ·obtain ⟨d,c,p,ys,rfl,D,hp,N,k⟩:=h
  rfl
 ·obtain ⟨d,c,p,ys,rfl,D,hp,N,k⟩:=h
  have hu:=ZR hr
  refine ⟨_,@QSs.out _ _ _ (Za (Zr (i:=2) qA.nd rfl (Or.inl rfl) (Zh G_law_take (hr.mono (by decide)) rfl T.d_law_take.m T.d_law_take.F.kp T.d_law_take.b .nil Zy (Zi (qv 0) (Zi Ze Zd))))
    (Za (Z8 (Zo gC (qv 2) Ze (Zs _))
    (Zg (Zn (Z4 Zp (qv 1) (Zh G_law_take (hr.mono (by decide)) rfl T.d_law_take.m T.d_law_take.F.kp T.d_law_take.b .nil Zy (Zi (qv 0) (Zi (Z1 ZG (by rfl) T.z_len X7 (Zi (qv 1) Zd)) Zd))) (fun _ _=>rfl)))) Zq)
    (Zg (Zn (Z4 Zp (ZA (Zi (Zh G_law_take (hr.mono (by decide)) rfl T.d_law_take.m T.d_law_take.F.kp T.d_law_take.b .nil Zy (Zi (qv 0) (Zi Ze Zd))) (Zi (Z4 Zp (ZA (Zi (Zh G_law_take (hr.mono (by decide)) rfl T.d_law_take.m T.d_law_take.F.kp T.d_law_take.b .nil Zy (Zi (qv 0) (Zi Ze Zd))) (Zi Ze (Zi Ze (Zi Ze (Zi Ze Zd)))))) (Zh G_law_take (hr.mono (by decide)) rfl T.d_law_take.m T.d_law_take.F.kp T.d_law_take.b .nil Zy (Zi (qv 0) (Zi Ze Zd))) (fun _ _=>rfl)) Zd))) (Zv W9 (qv 2) Ze) (fun _ _=>rfl)))))),?_⟩
  clear hu
  try dsimp only [L2.cxK,L2.cxK2]
  refine L2.let3 ?_
  intro U2 U1
  have pn:=Xz D hp N.l1
  have n3:=N.l3
  have n1:=N.l1
  refine ⟨_,rfl,d,c,5,rfl,D,by decide,by decide,fun r H1 r0 r1 D1 o1=>?_⟩
  have hp1:=o1 _ _ hp pn.1 pn.2
  refine ⟨_,rfl,_,_,rfl,rfl,_,rfl,yc (fun h3=>?_) (fun h3=>?_)⟩
  ·refine ⟨_,rfl,_,rfl,_,rfl,p,_,rfl,.inl (SqL.of hp1),d,c,_,rfl,D1,?_,?_,fun q H2 q0 q1 D2 o2=>?_⟩
   ·rw [List.length_map]
    lia
   ·rw [List.length_map]
    lia
   rw [List.length_map] at q1
   obtain ⟨y,hy,ey⟩:=xT (ys:=ys) q0 q1
   exact ⟨p,_,_,_,rfl,rfl,SqL.of (o2 _ _ hp1 pn.1 pn.2),ey,k _ _ (.inl ⟨y,hy,rfl⟩) D2 (o1.trans o2)⟩
  have r3:¬r < 3:=fun z=>h3 (decide_eq_true z)
  refine ⟨_,rfl,d,c,4,rfl,D1,by decide,by decide,fun a H2 a0 a1 D2 o2=>⟨_,rfl,d,c,1000,rfl,D2,by decide,by decide,fun b H3 b0 b1 D3 o3=>⟨by show 5≤sizeLine;decide,fun l hl=>?_⟩⟩⟩
  have ln:=YO D3 hl
  have s4:=Zc (o:=.lst [.int b,.int 999,.int 255,.int 256,.int 512]) hl
  refine ⟨_,rfl,d,c,5,rfl,D3.same s4,by decide,by decide,fun q H4 q0 q1 D4 o4=>?_⟩
  have h4:=o4 _ _ Zb ln.1 ln.2
  have oo:Off d c H H4:=(((o1.trans o2).trans o3).trans (ZO d c s4)).trans o4
  obtain ⟨z,hz,ez⟩:∃z:Int,(0≤z∧z < 1000)∧atI [V.int b,.int 999,.int 255,.int 256,.int 512] q=some (.int z):=by
   have hq:q=0∨q=1∨q=2∨q=3∨q=4:=by lia
   rcases hq with rfl | rfl | rfl | rfl | rfl
   ·exact ⟨b,⟨b0,b1⟩,rfl⟩
   ·exact ⟨999,by lia,rfl⟩
   ·exact ⟨255,by lia,rfl⟩
   ·exact ⟨256,by lia,rfl⟩
   ·exact ⟨512,by lia,rfl⟩
  refine ⟨l,_,q,_,rfl,rfl,SqL.of h4,ez,by show 2≤sizeLine;decide,fun l2 hl2=>?_⟩
  have s5:=Zc (o:=.lst [.int a,.int z]) hl2
  have hr:r=3∨r=4:=by lia
  rcases hr with rfl | rfl
  ·exact ⟨_,rfl,_,_,rfl,rfl,l2,_,_,_,rfl,rfl,SqL.of Zb,rfl,k _ _ (.inr ⟨a,rfl,a0,by lia⟩) (D4.same s5) (oo.trans (ZO d c s5))⟩
  ·exact ⟨_,rfl,_,_,rfl,rfl,l2,_,_,_,rfl,rfl,SqL.of Zb,rfl,k _ _ (.inr ⟨z,rfl,hz.1,hz.2⟩) (D4.same s5) (oo.trans (ZO d c s5))⟩
inductive Gf(vs:List V)(H:Hp)(Q:VK):Prop
 | mk (d c:Addr):(vs=[.ref d])→(Z0 H d c)→(∀t y H',H' t=some (.tup [.str y])→y∈wO→Z0 H' d c→Off d c H H'→Q (.ref t) H')→Gf vs H Q
noncomputable def qL(K:PySem.W.Frag):Sp:=fun vs H Q _=>Gf vs H Q
theorem jW (T:Txt K w mg t) (TB:Tbs mg base t) (XB:Xcl K mg base t):Z7 P w K mg base CX0 2 t.a_law_join t.f_law_join ["deck"] (qL K):=by
 have G_law_take:Z7 P w K mg base CX0 1 t.a_law_take t.f_law_take ["deck","many"] (ZS K):=Yf T TB XB
 refine T.d_law_join.F.ok jQ (fun vs H Q E h=>?_) (fun cdv A outer s H vs Q E hr h=>?_)
 ·obtain ⟨d,c,rfl,D,k⟩:=h
  rfl
 ·obtain ⟨d,c,rfl,D,k⟩:=h
  have hu:=ZR hr
  refine ⟨_,@QSs.out _ _ _ (Zg (Zn (Jd (Zi (Z4 Zp (ZA (Zi Zk (Zi Zk (Zi Zk Zd)))) (Zh G_law_take (hr.mono (by decide)) rfl T.d_law_take.m T.d_law_take.F.kp T.d_law_take.b .nil Zy (Zi (qv 0) (Zi Ze Zd))) (fun _ _=>rfl)) Zd)))),?_⟩
  clear hu hr
  try dsimp only [L2.cxK,L2.cxK2]
  refine ⟨by show 3≤sizeLine;decide,fun l hl=>⟨_,rfl,d,c,3,rfl,D.same (Zc hl),by decide,by decide,fun r H1 r0 r1 D1 o1=>?_⟩⟩
  obtain ⟨y,hy,ey⟩:=xT (ys:=wO) r0 r1
  have ln:=YO D hl
  refine ⟨l,wO.map V.str,r,.str y,rfl,rfl,SqL.of (o1 _ _ Zb ln.1 ln.2),ey,by show 1≤sizeLine;decide,fun tp htp=>?_⟩
  exact k tp y _ Zb hy (D1.same (Zc htp)) (((ZO d c (Zc hl)).trans o1).trans (ZO d c (Zc htp)))
inductive Gg(vs:List V)(H:Hp)(Q:VK):Prop
 | mk (y:Str) (s:Addr) (as:List Addr) (W:Nat) (is:List Int) (ρ:Str→Int):(vs=[.str y,.ref s])→(H s=some (.lst (as.map V.ref)))→(Xf H W as is)→(y∈qj)→(is.length=ZN y)→(1≤W)→(W≤1000)→(∀p H',H p=none→H' p=some (.lst ((Zm W (wwv ρ (.str y) is)).map V.int))→ZU H H'→Q (.ref p) H')→Gg vs H Q
noncomputable def qM(K:PySem.W.Frag):Sp:=fun vs H Q _=>Gg vs H Q
theorem jX (T:Txt K w mg t) (TB:Tbs mg base t) (XB:Xcl K mg base t):Z7 P w K mg base CX0 2 t.a_law_made t.f_law_made ["word","sums_in"] (qM K):=by
 have G_law_added:Z7 P w K mg base CX0 1 t.a_law_added t.f_law_added ["one","other","carry"] (Gy K):=je T TB XB
 have G_law_turned_bits:Z7 P w K mg base CX0 1 t.a_law_turned_bits t.f_law_turned_bits ["one"] (XM K):=Ga T TB XB
 have G_law_lowest:Z7 P w K mg base CX0 1 t.a_law_lowest t.f_law_lowest ["one"] (JZ K):=zj T TB XB
 refine T.d_law_made.F.ok X3 (fun vs H Q E h=>?_) (fun cdv A outer s H vs Q E hr h=>?_)
 ·obtain ⟨y,s,as,W,is,ρ,rfl,hs,R,hy,hl,W1,W2,k⟩:=h
  rfl
 ·obtain ⟨y,s,as,W,is,ρ,rfl,hs,R,hy,hl,W1,W2,k⟩:=h
  have hu:=ZR hr
  refine ⟨_,@QSs.out _ _ _ (Za (Zr (i:=2) X3.nd rfl (Or.inl rfl) (Z4 Zp (qv 1) Ze (fun _ _=>rfl)))
    (Za (Zr (i:=3) X3.nd rfl (Or.inl rfl) (Zv Zax (ZA (Zi Ze Zd)) (Z1 ZG (by rfl) T.z_len X7 (Zi (qv 2) Zd))))
    (Za (Z8 (Zo ZI (qv 0) Zk (Zs _))
    (Zg (Zn (Zh G_law_turned_bits (hr.mono (by decide)) rfl T.d_law_turned_bits.m T.d_law_turned_bits.F.kp T.d_law_turned_bits.b .nil Zy (Zi (qv 2) Zd)))) Zq)
    (Za (Z8 (Zo ZI (qv 0) Zk (Zs _))
    (Zg (Zn (Zh G_law_added (hr.mono (by decide)) rfl T.d_law_added.m T.d_law_added.F.kp T.d_law_added.b .nil Zy (Zi (qv 3) (Zi (Zh G_law_turned_bits (hr.mono (by decide)) rfl T.d_law_turned_bits.m T.d_law_turned_bits.F.kp T.d_law_turned_bits.b .nil Zy (Zi (qv 2) Zd)) (Zi Ze Zd)))))) Zq)
    (Za (Z8 (Zo ZI (qv 0) Zk (Zs _))
    (Zg (Zn (Zv xg (ZA (Zi Ze Zd)) (Xi Gn (qv 2) Wk (Wl (Jz XS Ze)))))) Zq)
    (Za (Z8 (Zo ZI (qv 0) Zk (Zs _))
    (Zg (Zn (Zh G_law_lowest (hr.mono (by decide)) rfl T.d_law_lowest.m T.d_law_lowest.F.kp T.d_law_lowest.b .nil Zy (Zi (qv 2) Zd)))) Zq)
    (Za (Zr (i:=4) X3.nd rfl (Or.inl rfl) (Z4 Zp (qv 1) Ze (fun _ _=>rfl)))
    (Za (Z8 (Zo ZI (qv 0) Zk (Zs _))
    (Zg (Zn (Zh G_law_added (hr.mono (by decide)) rfl T.d_law_added.m T.d_law_added.F.kp T.d_law_added.b .nil Zy (Zi (qv 2) (Zi (qv 4) (Zi Ze Zd)))))) Zq)
    (Za (Z8 (Zo ZI (qv 0) Zk (Zs _))
    (Zg (Zn (Zh G_law_added (hr.mono (by decide)) rfl T.d_law_added.m T.d_law_added.F.kp T.d_law_added.b .nil Zy (Zi (qv 2) (Zi (Zh G_law_turned_bits (hr.mono (by decide)) rfl T.d_law_turned_bits.m T.d_law_turned_bits.F.kp T.d_law_turned_bits.b .nil Zy (Zi (qv 4) Zd)) (Zi Ze Zd)))))) Zq)
    (Za (Z8 (Zo ZI (qv 0) Zk (Zs _))
    (Zg (Zn (uB (⟨by rfl,by decide +kernel,by decide +kernel,by rfl,by decide +kernel,by decide +kernel,by rfl,by decide +kernel⟩:ZW (Zf Y9) _ ["word","sums_in","one","nought","other","at"] "a" [] []) (⟨by rfl,by rfl,by decide +kernel⟩:Thr _ "a" "b" "c" []) (Zc3 rfl T.z_zip (Zi (qv 2) (Zi (qv 4) (Zi (Z4 Zp (qv 1) Ze (fun _ _=>rfl)) Zd)))) (fun _ _ _ _=>qd) (fun _ _ _ _=>(Z4 (show IxR _ (rIxL K) from Zp) (ZA (Zi (qv 2) (Zi (qv 1) Zd))) (qv 0) (fun _ _=>rfl)))))) Zq)
    (Za (Zr (i:=5) X3.nd rfl (Or.inr rfl) (Ww PySem.F.plainAttrs_list PySem.F.slot_list_index PySem.F.type_list_index zS (ZA (Zi Zk (Zi Zk (Zi Zk Zd)))) (Zi (qv 0) Zd)))
    (Zg (Zn (uk (⟨by rfl,by decide +kernel,by decide +kernel,by rfl,by decide +kernel,by decide +kernel,by rfl,by decide +kernel⟩:ZW (Zf Y9) _ ["word","sums_in","one","nought","other","at"] "a" ["at"] [5]) (⟨by rfl,by decide +kernel⟩:Two _ "a" "b" ["at"]) (qi_zip (b1:=false) (b2:=false) rfl T.z_zip (Zi (qv 2) (Zi (qv 4) Zd))) (fun _ _ _ _=>qd) (fun _ _ _ _=>(Z4 (show IxR _ (rIxL K) from Zp) (ZA (Zi (Yq YW (by rfl) T.z_int J8 (Zi (ZJ ZI (Zv Ym (qv 0) (qv 1)) Ze (Zs _)) Zd)) (Zi (Yq YW (by rfl) T.z_int J8 (Zi (ZJ gD (Zv Ym (qv 0) (qv 1)) Ze (Zs _)) Zd)) (Zi (Zv Xv (Zv Ym (qv 0) (qv 1)) Ze) Zd)))) (qv 2) (fun _ _=>rfl))))))))))))))))),?_⟩
  clear hu hr
  try dsimp only [L2.cxK,L2.cxK2]
  refine L2.let12 ?_
  intro U11 U10 U9 U8 U7 U6 U5 U4 U3 U2 U1
  have hp3:=Gu y hy
  cases R with
  | nil =>
   rw [List.length_nil] at hl
   lia
  | cons ha R =>
  rename_i a as n is
  have hla:((Zm W n).map V.int).length=W:=by rw [List.length_map,XZ]
  refine ⟨_,rfl,s,_,0,_,rfl,rfl,SqL.of hs,Yo (j:=0) rfl,?_⟩
  refine ⟨by show 1≤sizeLine;decide,fun l hlN=>?_⟩
  have s1:=Zc (o:=.lst [.int 0]) hlN
  refine ⟨_,rfl,a,_,rfl,.inl (SqL.of (s1 _ _ ha)),?_⟩
  refine ⟨l,_,[.int 0],rfl,rfl,Zb,by rw [hla];lia,by rw [hla];lia,by rw [Int.toNat_natCast,hla];show 1 * _≤_;rw [Nat.one_mul];exact Nat.le_of_lt (Zt (by lia)),fun p0 hp0=>?_⟩
  rw [Int.toNat_natCast,hla,yx]
  have s2:=s1.trans (Zc (o:=.lst ((List.replicate W (0:Int)).map V.int)) hp0)
  have hp0H:H p0=none:=s1.free hp0
  have hno:=Zb (H:=upd H l (.lst [.int 0])) (a:=p0) (o:=.lst ((List.replicate W (0:Int)).map V.int))
  have ha2:=s2 _ _ ha
  have hs2:=s2 _ _ hs
  generalize upd (upd H l (.lst [.int 0])) p0 (.lst ((List.replicate W (0:Int)).map V.int))=H2 at *
  rw [←qr] at hno
  clear s1 hp0 hlN
  have k2:∀p H',H2 p=none→H' p=some (.lst ((Zm W (wwv ρ (.str y) (n::is))).map V.int))→ZU H2 H'→Q (.ref p) H':=fun p H' h1 h2 h3=>k p H' (s2.free h1) h2 (s2.trans h3)
  clear k
  have hlb:∀m:Int,(Zm W m).length=W:=XZ W
  refine ⟨_,rfl,rfl,_,rfl,?_⟩
  by_cases h1:y = "not"
  ·subst h1
   rw [decide_eq_true rfl]
   cases R with
   | cons _ _=>exact absurd (hl.trans (by decide +kernel:ZN "not" = 1)) (by simp only [List.length_cons,List.length_nil];lia)
   | nil =>
   refine YB ⟨_,rfl,a,_,rfl,ha2,by rw [hlb];lia,fun p H3 h0 h3 s3=>k2 p H3 h0 ?_ s3⟩
   rw [h3,zd]
   rfl
  rw [decide_eq_false (fun z=>h1 (by injection z))]
  refine Yh ⟨_,rfl,rfl,_,rfl,?_⟩
  by_cases h2:y = "neg"
  ·subst h2
   rw [decide_eq_true rfl]
   cases R with
   | cons _ _=>exact absurd (hl.trans (by decide +kernel:ZN "neg" = 1)) (by simp only [List.length_cons,List.length_nil];lia)
   | nil =>
   refine YB ⟨_,rfl,_,rfl,a,_,rfl,ha2,by rw [hlb];lia,fun p H3 h0 h3 s3=>?_⟩
   rw [zd] at h3
   refine ⟨p0,p,_,_,1,rfl,s3 _ _ hno,h3,by rw [hlb,hlb],by rw [hlb];lia,fun p' H4 h0' h4 s4=>k2 p' H4 (s3.free h0') ?_ (s3.trans s4)⟩
   rw [hlb,bits_add] at h4
   rw [h4]
   show some (HO.lst ((Zm W (0 + (-n - 1) + 1)).map V.int))=some (HO.lst ((Zm W (-n)).map V.int))
   rw [show 0 + (-n - 1) + 1=-n by lia]
  rw [decide_eq_false (fun z=>h2 (by injection z))]
  refine Yh ⟨_,rfl,rfl,_,rfl,?_⟩
  by_cases h3:y = "twice"
  ·subst h3
   rw [decide_eq_true rfl]
   cases R with
   | cons _ _=>exact absurd (hl.trans (by decide +kernel:ZN "twice" = 1)) (by simp only [List.length_cons,List.length_nil];lia)
   | nil =>
   obtain ⟨w,rfl⟩:∃w,W=w + 1:=⟨W - 1,by lia⟩
   refine YB ⟨by show 1≤sizeLine;decide,fun l hl1=>⟨_,rfl,_,rfl,_,rfl,a,_,rfl,SqL.of (Zc hl1 _ _ ha2),fun q hq=>?_⟩⟩
   rw [zf]
   have s3:=Zc (o:=.lst [.int 0]) hl1
   have s4:=s3.trans (Zc (o:=.lst ((Zm w n).map V.int)) hq)
   refine ⟨l,q,_,_,rfl,rfl,Zc hq _ _ Zb,Zb,?_,fun p hp=>k2 p _ (s4.free hp) ?_ (s4.trans (Zc hp))⟩
   ·rw [List.length_map,XZ]
    exact Nat.le_of_lt (Zt (by show 1 + w≤1000;lia))
   ·rw [Zb]
    show some (HO.lst ((0::Zm w n).map V.int))=some (HO.lst ((Zm (w + 1) (n + n)).map V.int))
    rw [vm]
  rw [decide_eq_false (fun z=>h3 (by injection z))]
  refine Yh ⟨_,rfl,rfl,_,rfl,?_⟩
  by_cases h4:y = "low"
  ·subst h4
   rw [decide_eq_true rfl]
   cases R with
   | cons _ _=>exact absurd (hl.trans (by decide +kernel:ZN "low" = 1)) (by simp only [List.length_cons,List.length_nil];lia)
   | nil =>
   refine YB ⟨_,rfl,a,_,rfl,ha2,by rw [hlb];lia,fun p H3 h0 h3 s3=>k2 p H3 h0 ?_ s3⟩
   rw [h3,uU]
   rfl
  rw [decide_eq_false (fun z=>h4 (by injection z))]
  refine Yh ?_
  have hp2:2≤ZN y:=vo y hy h1 h2 h3 h4
  cases R with
  | nil =>
   rw [List.length_singleton] at hl
   lia
  | cons hb R =>
  rename_i b as m is
  have hb2:=s2 _ _ hb
  refine ⟨_,rfl,s,_,1,_,rfl,rfl,SqL.of hs2,Yo (j:=1) rfl,?_⟩
  refine ⟨_,rfl,rfl,_,rfl,?_⟩
  by_cases h5:y = "add"
  ·subst h5
   rw [decide_eq_true rfl]
   cases R with
   | cons _ _=>exact absurd (hl.trans (by decide +kernel:ZN "add" = 2)) (by simp only [List.length_cons,List.length_nil];lia)
   | nil =>
   refine YB ⟨_,rfl,_,rfl,a,b,_,_,0,rfl,ha2,hb2,by rw [hlb,hlb],by rw [hlb];lia,fun p' H4 h0' h4 s4=>k2 p' H4 h0' ?_ s4⟩
   rw [hlb,bits_add] at h4
   rw [h4]
   show some (HO.lst ((Zm W (n + m + 0)).map V.int))=some (HO.lst ((Zm W (n + m)).map V.int))
   rw [Int.add_zero]
  rw [decide_eq_false (fun z=>h5 (by injection z))]
  refine Yh ⟨_,rfl,rfl,_,rfl,?_⟩
  by_cases h6:y = "sub"
  ·subst h6
   rw [decide_eq_true rfl]
   cases R with
   | cons _ _=>exact absurd (hl.trans (by decide +kernel:ZN "sub" = 2)) (by simp only [List.length_cons,List.length_nil];lia)
   | nil =>
   refine YB ⟨_,rfl,_,rfl,b,_,rfl,hb2,by rw [hlb];lia,fun p H3 h0 h3 s3=>?_⟩
   rw [zd] at h3
   refine ⟨a,p,_,_,1,rfl,s3 _ _ ha2,h3,by rw [hlb,hlb],by rw [hlb];lia,fun p' H4 h0' h4 s4=>k2 p' H4 (s3.free h0') ?_ (s3.trans s4)⟩
   rw [hlb,bits_add] at h4
   rw [h4]
   show some (HO.lst ((Zm W (n + (-m - 1) + 1)).map V.int))=some (HO.lst ((Zm W (n - m)).map V.int))
   rw [show n + (-m - 1) + 1=n - m by lia]
  rw [decide_eq_false (fun z=>h6 (by injection z))]
  refine Yh ⟨_,rfl,rfl,_,rfl,?_⟩
  by_cases h7:y = "pick"
  ·subst h7
   rw [decide_eq_true rfl]
   cases R with
   | nil=>exact absurd (hl.trans (by decide +kernel:ZN "pick" = 3)) (by simp only [List.length_cons,List.length_nil];lia)
   | cons hc R =>
   rename_i c as r is
   have hc2:=s2 _ _ hc
   cases R with
   | cons _ _=>exact absurd (hl.trans (by decide +kernel:ZN "pick" = 3)) (by simp only [List.length_cons,List.length_nil];lia)
   | nil =>
   refine YB ⟨_,rfl,_,rfl,_,rfl,s,_,2,_,rfl,rfl,SqL.of hs2,Yo (j:=2) rfl,a,b,c,_,_,_,rfl,SqL.of ha2,SqL.of hb2,SqL.of hc2,vd (fun i=>.int (if (Zm W n).getD i 0=1 then (Zm W m).getD i 0 else (Zm W r).getD i 0)) ha2 hb2 hc2 (by rw [List.length_map,List.length_map,hlb,hlb]) (by rw [List.length_map,List.length_map,hlb,hlb]) (by rw [hla];exact Nat.le_of_lt (Zt (by lia))) (fun i x y v H3 R' hx hy hv s3 hR=>?_) (fun p H3 h0 h3 s3=>k2 p H3 h0 ?_ s3)⟩
   ·obtain ⟨hi,rfl,hx2⟩:=WH hx
    obtain ⟨_,rfl,_⟩:=WH hy
    obtain ⟨_,rfl,_⟩:=WH hv
    refine ⟨_,rfl,_,rfl,by show 2≤sizeLine;decide,fun g hg=>⟨_,rfl,g,_,_,_,rfl,rfl,SqL.of Zb,?_,hR _ (Zc hg)⟩⟩
    rcases hx2 with e | e
    ·rw [e]
     rfl
    ·rw [e]
     rfl
   ·rw [h3,hla]
    show _=some (HO.lst (List.map V.int (Zm W (Builtin.bitOr (Builtin.bitAnd n m) (Builtin.bitAnd (Builtin.bitNot n) r)))))
    rw [←gc,List.map_map]
    rfl
  rw [decide_eq_false (fun z=>h7 (by injection z))]
  refine ZC fun Gz hGz=>?_
  obtain ⟨j,hj3,hjy,hjb,hjv⟩:=uV y (y6 y hy h1 h2 h3 h4 h5 h6 h7)
  refine hGz ?_
  clear hGz Gz
  have hlp:=three_parts y (y6 y hy h1 h2 h3 h4 h5 h6 h7)
  cases R with
  | cons _ _=>exact absurd (hl.trans hlp) (by simp only [List.length_cons,List.length_nil];lia)
  | nil =>
  refine Yh ⟨by show 3≤sizeLine;decide,fun l hl1=>⟨.inl ⟨rfl,_,SqL.of Zb⟩,_,rfl,l,_,.str y,.str y,j,rfl,rfl,Zb,rfl,rfl,by show 3≤1000000;decide,hjy,Zdd y,hjb,?_⟩⟩
  have s3:=Zc (o:=.lst [.str "and",.str "or",.str "odd"]) hl1
  refine ⟨_,rfl,_,rfl,a,b,_,_,rfl,SqB.l (s3 _ _ ha2),SqB.l (s3 _ _ hb2),vc (fun i=>.int (tri j ((Zm W n).getD i 0) ((Zm W m).getD i 0))) (s3 _ _ ha2) (s3 _ _ hb2) (by rw [List.length_map,List.length_map,hlb,hlb]) (by rw [hla];exact Nat.le_of_lt (Zt (by lia))) (fun i x z H3 R' hx hz s4 hR=>?_) (fun p H3 h0 h3 s4=>k2 p H3 (s3.free h0) ?_ (s3.trans s4))⟩
  ·obtain ⟨hi,rfl,hx2⟩:=WH hx
   obtain ⟨_,rfl,hz2⟩:=WH hz
   refine ⟨_,rfl,_,rfl,_,_,rfl,rfl,rfl,.inr ⟨_,rfl,_,rfl,_,rfl,_,_,rfl,rfl,_,_,rfl,rfl,.inr ⟨_,rfl,_,rfl,_,rfl,_,_,rfl,rfl,_,_,rfl,rfl,(by show (0:Int) < 2;decide),by show 3≤sizeLine;decide,fun g hg=>⟨_,rfl,g,_,_,_,rfl,rfl,SqL.of Zb,?_,hR _ (Zc hg)⟩⟩⟩⟩
   match j,hj3 with
   | 0,_=>exact Zdf _ _
   | 1,_=>exact Zdg _ _
   | 2,_=>exact Zdh _ _
  ·rw [h3,hla]
   show _=some (HO.lst ((Zm W (Zei y n m)).map V.int))
   rw [←hjv,List.map_map]
   rfl
inductive WR(vs:List V)(H:Hp)(Q:VK):Prop
 | mk (d c p:Addr) (ys:List Str) (W:Nat):(vs=[.ref d,.ref p,.int W])→(Z0 H d c)→(H p=some (.lst (ys.map V.str)))→(Nms ys)→(W≤60)→(∀dv kvs ρ H',H dv=none→H' dv=some (.dK kvs)→vk kvs ys ρ→(∀p∈kvs,YC p.2=true)→kvs.length≤100→Z0 H' d c→Off d c H H'→Q (.ref dv) H')→WR vs H Q
noncomputable def Gh(K:PySem.W.Frag):Sp:=fun vs H Q _=>WR vs H Q
theorem sixth{a b:Int}{x0 x1 x2 x3:Int}{q:Int}(q0:0≤q)(q1:q < 6):∃z:Int,atI [V.int x0,.int x1,.int x2,.int x3,.int a,.int b] q=some (.int z):=by
 have hq:q=0∨q=1∨q=2∨q=3∨q=4∨q=5:=by lia
 rcases hq with rfl | rfl | rfl | rfl | rfl | rfl
 ·exact ⟨x0,rfl⟩
 ·exact ⟨x1,rfl⟩
 ·exact ⟨x2,rfl⟩
 ·exact ⟨x3,rfl⟩
 ·exact ⟨a,rfl⟩
 ·exact ⟨b,rfl⟩
theorem zl (T:Txt K w mg t) (TB:Tbs mg base t) (XB:Xcl K mg base t):Z7 P w K mg base CX0 2 t.a_law_values t.f_law_values ["deck","names","width"] (Gh K):=by
 have G_law_take:Z7 P w K mg base CX0 1 t.a_law_take t.f_law_take ["deck","many"] (ZS K):=Yf T TB XB
 have G_law_power:Z7 P w K mg base CX0 1 t.a_law_power t.f_law_power ["width"] (Gx K):=jd T TB XB
 refine T.d_law_values.F.ok YE (fun vs H Q E h=>?_) (fun cdv A outer s H vs Q E hr h=>?_)
 ·obtain ⟨d,c,p,ys,W,rfl,D,hp,N,hW,k⟩:=h
  rfl
 ·obtain ⟨d,c,p,ys,W,rfl,D,hp,N,hW,k⟩:=h
  have hu:=ZR hr
  refine ⟨_,@QSs.out _ _ _ (Za (Zr (i:=3) YE.nd rfl (Or.inl rfl) Zcj)
    (Za (Zr (i:=4) YE.nd rfl (Or.inl rfl) (Zh G_law_power (hr.mono (by decide)) rfl T.d_law_power.m T.d_law_power.F.kp T.d_law_power.b .nil Zy (Zi (qv 2) Zd)))
    (Za (X8 PassesOwn.never rfl (xD (qv 1)) (YD (i:=5) YE.nd rfl (Or.inl rfl))
    (Za (Zr (i:=6) YE.nd rfl (Or.inl rfl) (ZA (Zi Ze (Zi Ze (Zi (Zv W9 (qv 4) Ze) (Zi (Zv GH (qv 4) Ze) (Zi (Zh G_law_take (hr.mono (by decide)) rfl T.d_law_take.m T.d_law_take.F.kp T.d_law_take.b .nil Zy (Zi (qv 0) (Zi (qv 4) Zd))) (Zi (Zv Xv (Zh G_law_take (hr.mono (by decide)) rfl T.d_law_take.m T.d_law_take.F.kp T.d_law_take.b .nil Zy (Zi (qv 0) (Zi Ze Zd))) (qv 4)) Zd))))))))
    (Zg (kW hu (qv 3) (qv 5) (Z4 Zp (qv 6) (Zh G_law_take (hr.mono (by decide)) rfl T.d_law_take.m T.d_law_take.F.kp T.d_law_take.b .nil Zy (Zi (qv 0) (Zi Ze Zd))) (fun _ _=>rfl)) rfl))))
    (Zg (Zn (qv 3)))))),?_⟩
  clear hu hr
  try dsimp only [L2.cxK,L2.cxK2]
  refine L2.let4 ?_
  intro U3 U2 U1
  have pn:=Xz D hp N.l1
  have l3:=N.l3
  have pW:=JI W
  have sW:=wC hW
  refine fun dv hdv=>?_
  have dn:=YO D hdv
  have dp:p≠dv:=Zl hp hdv
  have s1:=Zc (o:=.dK []) hdv
  refine ⟨_,rfl,W,rfl,by lia,?_⟩
  refine ⟨_,rfl,p,rfl,⟨_,SqL.of (s1 _ _ hp)⟩,gB (K:=K) (a:=p) (xs:=ys.map V.str) (fun i σ H'=>∃kvs ρ u5 u6,σ=[some (.ref d),some (.ref p),some (.int W),some (.ref dv),some (.int (2 ^ W)),u5,u6]∧H' dv=some (.dK kvs)∧vk kvs (ys.take i) ρ∧(∀p∈kvs,YC p.2=true)∧kvs.length≤i∧i≤ys.length∧H' p=some (.lst (ys.map V.str))∧Z0 H' d c∧Off d c H H') ⟨[],fun _=>0,none,none,rfl,Zb,(fun y hy=>by simp at hy),(fun p hp=>nomatch hp),Nat.le_refl _,Nat.zero_le _,s1 _ _ hp,D.same s1,ZO d c s1⟩ (fun i σ H' _ ⟨_,_,_,_,_,_,_,_,_,_,e,_⟩=>SqL.of e) ?_ ?_⟩
  ·rintro i x σ H2 hx hz_
   refine ZC fun Gz hGz=>?_
   obtain ⟨kvs,ρ,u5,u6,rfl,hd2,hv2,hf2,hl2,_,hp2,D2,o2⟩:=hz_
   refine hGz ?_
   clear hGz Gz
   rw [List.getElem?_map] at hx
   obtain ⟨y,hy,rfl⟩:=Option.map_eq_some_iff.mp hx
   have hi:i < ys.length:=(List.getElem?_eq_some_iff.mp hy).1
   refine ⟨_,rfl,_,_,rfl,rfl,_,rfl,_,_,rfl,rfl,.of (by decide) (by decide),_,rfl,_,rfl,d,c,2 ^ W,rfl,D2,pW,by lia,fun r3 H3 _ _ D3 o3=>⟨_,rfl,d,c,9,rfl,D3,by decide,by decide,fun r4 H4 _ _ D4 o4=>⟨_,rfl,_,_,rfl,rfl,pW,by show 6≤sizeLine;decide,fun l hl=>?_⟩⟩⟩
   have ln:=YO D4 hl
   have o24:=o3.trans o4
   have s5:=Zc (o:=.lst [.int 0,.int 1,.int (2 ^ W - 1),.int (2 ^ W / 2),.int r3,.int (r4 % 2 ^ W)]) hl
   have D5:=D4.same s5
   refine ⟨_,rfl,_,rfl,d,c,6,rfl,D5,by decide,by decide,fun q H6 q0 q1 D6 o6=>?_⟩
   obtain ⟨z,hz⟩:=sixth (a:=r3) (b:=r4 % 2 ^ W) (x0:=0) (x1:=1) (x2:=2 ^ W - 1) (x3:=2 ^ W / 2) q0 q1
   have o26:Off d c H2 H6:=(o24.trans (ZO d c s5)).trans o6
   have hd6:=o26 _ _ hd2 dn.1 dn.2
   have hp6:=o26 _ _ hp2 pn.1 pn.2
   have lp:=Wm kvs (.inr y) (.int z)
   refine ⟨l,_,q,.int z,rfl,rfl,SqL.of (o6 _ _ Zb ln.1 ln.2),hz,_,rfl,_,rfl,dv,_,rfl,Zdl.k (k:=.inr y) hd6 (Zt (by lia)),putK kvs (.inr y) (.int z),(fun x=>if x=y then z else ρ x),_,_,rfl,Zb,fun x hx2=>?_,uW hf2 rfl,by lia,hi,by rw [Zj dp];exact hp6,XE D6 dn,jJ (o2.trans o26) hdv⟩
   rw [take_snoc hy] at hx2
   rw [GO]
   try dsimp only
   by_cases hxy:x=y
   ·rw [if_pos (by rw [hxy]),if_pos hxy]
   ·rw [if_neg (fun e=>hxy (Sum.inr.inj e)),if_neg hxy]
    rcases List.mem_append.mp hx2 with h | h
    ·exact hv2 x h
    ·exact absurd (List.mem_singleton.mp h) hxy
  ·rintro σ H2 hz_
   refine ZC fun Gz hGz=>?_
   obtain ⟨kvs,ρ,u5,u6,rfl,hd2,hv2,hf2,hl2,_,hp2,D2,o2⟩:=hz_
   refine hGz ?_
   clear hGz Gz
   rw [List.length_map] at hl2
   rw [List.length_map,List.take_length] at hv2
   exact ⟨_,rfl,k dv kvs ρ H2 hdv hd2 hv2 hf2 (by lia) D2 o2⟩
inductive W7(vs:List V)(H:Hp)(Q:VK):Prop
 | mk (s:Addr) (stk:List V) (w:V):(vs=[.ref s,w])→(H s=some (.lst stk.reverse))→(w=kV (keyOf w))→(npw w≤stk.length)→(stk.length≤100)→(∀pl H',H pl=none→H' pl=some (.lst (stk.take (npw w)))→H' s=some (.lst (stk.drop (npw w)).reverse)→(∀b o,H b=some o→b≠s→H' b=some o)→Q (.ref pl) H')→W7 vs H Q
noncomputable def Jp(K:PySem.W.Frag):Sp:=fun vs H Q _=>W7 vs H Q
theorem xc (T:Txt K w mg t) (TB:Tbs mg base t) (XB:Xcl K mg base t):Z7 P w K mg base CX0 3 t.a_parts_taken t.f_parts_taken ["stack","word"] (Jp K):=by
 have G_parts_of:Z7 P w K mg base CX0 2 t.a_parts_of t.f_parts_of ["word"] (qJ K):=jU T TB XB
 refine T.d_parts_taken.F.ok qZ (fun vs H Q E h=>?_) (fun cdv A outer s H vs Q E hr h=>?_)
 ·obtain ⟨st,stk,x,rfl,hs,hx,hn,hl,k⟩:=h
  rfl
 ·obtain ⟨st,stk,x,rfl,hs,hx,hn,hl,k⟩:=h
  have hu:=ZR hr
  refine ⟨_,@QSs.out _ _ _ (Zg (Zn (J0 (⟨by rfl,by decide +kernel,by decide +kernel,by rfl,by decide +kernel,by decide +kernel,by rfl,by decide +kernel⟩:ZW (Zf Yd) _ ["stack","word"] "part" ["stack"] [0]) (ZV rfl T.z_range (Zi (Zh G_parts_of (hr.mono (by decide)) rfl T.d_parts_of.m T.d_parts_of.F.kp T.d_parts_of.b .nil Zy (Zi (qv 1) Zd)) Zd)) (fun _ _ _ _=>qd) (fun _ _ _ _=>(show QE _ _ (Zex K "list" rPop (Zdk 1)) from (z9 PySem.F.plainAttrs_list PySem.F.slot_list_pop PySem.F.type_list_pop zy (qv 1))))))),?_⟩
  clear hu hr
  try dsimp only [L2.cxK,L2.cxK2]
  refine ⟨_,rfl,keyOf x,congrArg (fun z=>[z]) hx,XF (keyOf x),rfl,?_,?_,Gp (n:=(XF (keyOf x)).toNat) (fun i zs H2=>i≤npw x∧zs=stk.take i∧H2 st=some (.lst (stk.drop i).reverse)∧∀b o,H b=some o→b≠st→H2 b=some o) ⟨Nat.zero_le _,rfl,hs,fun b o e _=>e⟩ ?_ ?_ ?_⟩
  ·have:=qm (keyOf x)
   lia
  ·have:=qm (keyOf x)
   lia
  ·rintro i zs H2 hz_
   refine ZC fun Gz hGz=>?_
   obtain ⟨_,rfl,_,_⟩:=hz_
   refine hGz ?_
   clear hGz Gz
   rw [List.length_take]
   exact Nat.le_of_lt (Zt (by lia))
  ·rintro i zs H2 R hR hi hz_
   refine ZC fun Gz hGz=>?_
   obtain ⟨hi1,rfl,h2,o2⟩:=hz_
   refine hGz ?_
   clear hGz Gz
   have hi2:i < npw x:=hi
   have hi3:i < stk.length:=by lia
   rw [wQ hi3] at h2
   unfold kF
   try dsimp only
   rw [if_pos rfl]
   refine ⟨_,rfl,.inl ⟨rfl,_,SqL.of h2⟩,st,_,stk[i],rfl,rfl,h2,Wb _ _,hR _ _ ⟨hi2,?_,?_,fun b o e hb=>?_⟩⟩
   ·rw [take_snoc (List.getElem?_eq_getElem hi3)]
   ·rw [Zb,List.dropLast_concat]
   ·rw [Zj hb]
    exact o2 b o e hb
  ·rintro zs H2 hz_ l hl2
   refine ZC fun Gz hGz=>?_
   obtain ⟨hi1,rfl,h2,o2⟩:=hz_
   refine hGz ?_
   clear hGz Gz
   have hlH:H l=none:=by
    cases q:H l with
    | none=>rfl
    | some o =>
     by_cases hb:l=st
     ·rw [hb,h2] at hl2
      cases hl2
     ·rw [o2 l o q hb] at hl2
      cases hl2
   have hls:st≠l:=Zl h2 hl2
   refine k l _ hlH Zb ?_ fun b o e hb=>?_
   ·rw [Zj hls]
    exact h2
   ·rw [Zj (Zl e hlH)]
    exact o2 b o e hb
inductive X5(C:Addr)(vs:List V)(H:Hp)(Q:VK)(E:XK):Prop
 | mk (tw dv:Addr) (ws:List V) (kvs:List (Key × V)):(vs=[.ref tw,.ref dv])→(H tw=some (.tup ws))→(H dv=some (.dK kvs))→((∀x∈ws,wM x))→((Z5 kvs ws=none→∀H',ZU H H'→Q .non H'))→(∀y,Z5 kvs ws=some y→Told C y H E)→X5 C vs H Q E
noncomputable def Wg(K:PySem.W.Frag)(C:Addr):Sp:=fun vs H Q E=>X5 C vs H Q E
theorem Gv (T:Txt K w mg t) (TB:Tbs mg base t) (XB:Xcl K mg base t):Z7 P w K mg base (CXD P w) 3 t.a_refuse_lacking t.f_refuse_lacking ["words","values"] (Wg K t.x_NoName):=by
 have G_is_name:Z7 P w K mg base CX0 2 t.a_is_name t.f_is_name ["text"] (x5 K):=vt T TB XB
 have G_NoName_init:Z7 P w K mg base CX0 1 t.a_NoName_init t.f_NoName_init ["self","word"] (Jm K t.x_NoName):=xb T TB XB
 refine T.d_refuse_lacking.F.okD Wd (fun vs H Q E h=>?_) (fun cdv A outer s H vs Q E hr h=>?_)
 ·obtain ⟨tw,dv,ws,kvs,rfl,ht,hd,hw,k,ke⟩:=h
  rfl
 ·obtain ⟨tw,dv,ws,kvs,rfl,ht,hd,hw,k,ke⟩:=h
  have hu:=ZR hr
  refine ⟨_,@QSs.out _ _ _ (Zg (X8 PassesOwn.leaving rfl (Za1 (qv 0)) (YD (i:=2) Wd.nd rfl (Or.inl rfl))
    (Zg (Z8 (kE (yd (Jc (Z1 GI (by rfl) T.z_isinstance Yb (Zi (qv 2) (Zi (qb (v:=.ty "str") (by rfl) T.z_str Zaz rfl) Zd)))) (yd (Jc (Zh G_is_name (hr.mono (by decide)) rfl T.d_is_name.m T.d_is_name.F.kp T.d_is_name.b .nil Zy (Zi (qv 2) Zd))) (jx (Zo (JC hu) (qv 2) (qv 1) (by with_unfolding_all rfl))))))
    (Zg (wz FnD.of XB.mk_NoName G_NoName_init (hr.mono (by decide)) rfl XB.m_NoName T.d_NoName_init.b rfl (Zi (qv 2) Zd))) Zq)))),?_⟩
  clear hu hr
  try dsimp only [L2.cxK,L2.cxK2]
  refine ⟨_,rfl,tw,rfl,⟨_,SqT.of ht⟩,Zbv (K:=K) (a:=tw) (xs:=ws) (fun i σ H2=>∃u2,σ=[some (.ref tw),some (.ref dv),u2]∧ZU H H2∧∀j x,j < i→ws[j]?=some x→∀y,x=.str y→¬(nmB (.str y)=true∧(Yw kvs (.inr y)).isSome=false)) ⟨none,rfl,ZU.refl H,fun j x hj=>absurd hj (Nat.not_lt_zero j)⟩ (fun i σ H2 _ ⟨_,_,s,_⟩=>SqT.of (s _ _ ht)) ?_ ?_⟩
  ·rintro i x σ H2 hx hz_
   refine ZC fun Gz hGz=>?_
   obtain ⟨u2,rfl,s2,hno⟩:=hz_
   refine hGz ?_
   clear hGz Gz
   have hm:=List.mem_of_getElem? hx
   have next:(∀y,x=.str y→¬(nmB (.str y)=true∧(Yw kvs (.inr y)).isSome=false))→∀j z,j < i + 1→ws[j]?=some z→∀y,z=.str y→¬(nmB (.str y)=true∧(Yw kvs (.inr y)).isSome=false):=fun hxn j z hj hz y e=>by
    by_cases hji:j=i
    ·subst hji
     rw [hx] at hz
     cases hz
     exact hxn y e
    ·exact hno j z (by lia) hz y e
   rcases hw x hm with ⟨y,rfl,hy⟩ | ⟨z,rfl⟩
   ·refine ⟨_,rfl,_,_,_,_,rfl,.str y,Jy,_,rfl,YB ⟨_,rfl,y,rfl,Nat.le_trans hy (by decide),fun H3 s3=>⟨_,rfl,?_⟩⟩⟩
    have s23:=s2.trans s3
    by_cases hb:nmB (.str y)=true
    ·have hb':decide (y∉Ye∧NmL y)=true:=hb
     rw [hb']
     refine YB ⟨_,rfl,_,rfl,dv,Yw kvs (.inr y),rfl,.inl ⟨kvs,.inr y,.inl (s23 _ _ hd),rfl,rfl⟩,_,rfl,?_⟩
     cases hv:(Yw kvs (.inr y)).isSome with
     | true=>exact Yh ⟨_,rfl,s23,next fun y' e=>by injection e with e;subst e;exact fun z=>by rw [hv] at z;cases z.2⟩
     | false =>
      have hl:Z5 kvs ws=some y:=by
       have hi:i < ws.length:=(List.getElem?_eq_some_iff.mp hx).1
       rw [qp ws i hno,List.drop_eq_getElem_cons hi,(List.getElem?_eq_some_iff.mp hx).2]
       exact if_pos ⟨hb,hv⟩
      refine YB ⟨_,rfl,by show 1≤sizeLine;decide,fun e arr he=>⟨e,y,arr,rfl,Zb,fun d hd0 hde=>⟨rfl,d,Zb,?_⟩⟩⟩
      have hde0:H3 d=none:=by rw [←Zj (H:=H3) (o:=.ext (ur t.x_NoName e arr)) hde];exact hd0
      refine ke y hl e d _ (fun b o hbo=>?_) Zb ?_
      ·have h3:=s23 b o hbo
       have be:b≠e:=fun z=>by rw [z,he] at h3;cases h3
       have bd:b≠d:=fun z=>by rw [z,hde0] at h3;cases h3
       rw [Zj be,ZF (fun z=>be (List.mem_singleton.mp z)),Zj be,Zj bd,Zj be]
       exact h3
      ·rw [Zj hde,ZF (fun z=>hde (List.mem_singleton.mp z)),Zj hde]
       exact Zb
    ·have hb':decide (y∉Ye∧NmL y)=false:=Bool.eq_false_iff.mpr hb
     rw [hb']
     exact Yh (Yh ⟨_,rfl,s23,next fun y' e=>by injection e with e;subst e;exact fun z=>hb z.1⟩)
   ·exact ⟨_,rfl,_,_,_,_,rfl,.int z,qa,_,rfl,Yh (Yh ⟨_,rfl,s2,next fun y' e=>nomatch e⟩)⟩
  ·rintro σ H2 hz_
   refine ZC fun Gz hGz=>?_
   obtain ⟨u2,rfl,s2,hno⟩:=hz_
   refine hGz ?_
   clear hGz Gz
   refine k ?_ H2 s2
   rw [qp ws ws.length hno,List.drop_length]
   rfl
inductive Wh(vs:List V)(H:Hp)(Q:VK):Prop
 | mk (x:V) (pl dv:Addr) (xs:List V) (m:Int) (kvs:List (Key × V)) (ρ:Str→Int):(vs=[x,.ref pl,.int m,.ref dv])→(H pl=some (.lst xs))→(H dv=some (.dK kvs))→(0 < m)→(Zej kvs ρ x xs)→(Q (cvV m ρ x xs) H)→Wh vs H Q
noncomputable def WS(K:PySem.W.Frag):Sp:=fun vs H Q _=>Wh vs H Q
theorem qN (T:Txt K w mg t) (TB:Tbs mg base t) (XB:Xcl K mg base t):Z7 P w K mg base CX0 3 t.a_told_of_word t.f_told_of_word ["word","parts","many","values"] (WS K):=by
 have G_truth_of_claims:Z7 P w K mg base CX0 1 t.a_truth_of_claims t.f_truth_of_claims ["word","truths"] (XJ K):=JU T TB XB
 have G_sums_behind:Z7 P w K mg base CX0 1 t.a_sums_behind t.f_sums_behind ["word"] (XQ K):=Ji T TB XB
 have G_truth_of_sums:Z7 P w K mg base CX0 2 t.a_truth_of_sums t.f_truth_of_sums ["word","worths","many"] (W6 K):=GG T TB XB
 have G_is_claim_word:Z7 P w K mg base CX0 1 t.a_is_claim_word t.f_is_claim_word ["text"] (Xe K):=Wz T TB XB
 have G_word_worth:Z7 P w K mg base CX0 2 t.a_word_worth t.f_word_worth ["word","parts","values"] (Gd K):=zk T TB XB
 refine T.d_told_of_word.F.ok qB (fun vs H Q E h=>?_) (fun cdv A outer s H vs Q E hr h=>?_)
 ·obtain ⟨x,pl,dv,xs,m,kvs,ρ,rfl,hp,hd,hm,hc,k⟩:=h
  rfl
 ·obtain ⟨x,pl,dv,xs,m,kvs,ρ,rfl,hp,hd,hm,hc,k⟩:=h
  have hu:=ZR hr
  refine ⟨_,@QSs.out _ _ _ (Za (Z8 (ye (Jc (Zh G_is_claim_word (hr.mono (by decide)) rfl T.d_is_claim_word.m T.d_is_claim_word.F.kp T.d_is_claim_word.b .nil Zy (Zi (qv 0) Zd))))
    (Zg (Zn (Zv Xv (Zh G_word_worth (hr.mono (by decide)) rfl T.d_word_worth.m T.d_word_worth.F.kp T.d_word_worth.b .nil Zy (Zi (qv 0) (Zi (qv 1) (Zi (qv 3) Zd)))) (qv 2)))) Zq)
    (Za (Z8 (Zo gD (Zh G_sums_behind (hr.mono (by decide)) rfl T.d_sums_behind.m T.d_sums_behind.F.kp T.d_sums_behind.b .nil Zy (Zi (qv 0) Zd)) Ze (Zs _))
    (Zg (Zn (Zh G_truth_of_sums (hr.mono (by decide)) rfl T.d_truth_of_sums.m T.d_truth_of_sums.F.kp T.d_truth_of_sums.b .nil Zy (Zi (qv 0) (Zi (qv 1) (Zi (qv 2) Zd)))))) Zq)
    (Zg (Zn (Zh G_truth_of_claims (hr.mono (by decide)) rfl T.d_truth_of_claims.m T.d_truth_of_claims.F.kp T.d_truth_of_claims.b .nil Zy (Zi (qv 0) (Zi (qv 1) Zd))))))),?_⟩
  clear hu hr
  try dsimp only [L2.cxK,L2.cxK2]
  refine L2.let3 ?_
  intro U2 U1
  cases hc with
  | @sum _ is h0 hk hx =>
   rw [cv_sum m ρ h0 hk] at k
   refine ⟨_,rfl,keyOf x,congrArg (fun z=>[z]) hk,_,rfl,?_⟩
   rw [h0]
   exact YB ⟨_,rfl,_,rfl,_,rfl,x,pl,dv,is,kvs,ρ,rfl,hp,hd,hx,_,rfl,_,_,rfl,rfl,hm,k⟩
  | @rel y is hy hn l1 l2 =>
   rw [Zbh m ρ hy hn] at k
   refine ⟨_,rfl,.inr y,rfl,_,rfl,?_⟩
   rw [show clK (.inr y)=true from decide_eq_true hy]
   refine Yh ⟨_,rfl,.inr y,rfl,_,_,rfl,rfl,_,rfl,?_⟩
   have hb1:=uJ (.inr y)
   have hb2:=uK (.inr y)
   have hn':0 < Ws T1 (.inr y) + Ws T2 (.inr y):=by
    have h:0 < (Ws T1 (.inr y) + Ws T2 (.inr y)).toNat:=hn
    lia
   rw [decide_eq_true hn']
   exact YB ⟨_,rfl,_,rfl,_,rfl,y,pl,is,m,rfl,hp,l1,l2,k⟩
  | @clm y bs hy hn l1 l2 =>
   rw [Zbi m ρ hy hn] at k
   refine ⟨_,rfl,.inr y,rfl,_,rfl,?_⟩
   rw [show clK (.inr y)=true from decide_eq_true hy]
   refine Yh ⟨_,rfl,.inr y,rfl,_,_,rfl,rfl,_,rfl,?_⟩
   have hb1:=uJ (.inr y)
   have hb2:=uK (.inr y)
   have hn':¬0 < Ws T1 (.inr y) + Ws T2 (.inr y):=by
    have h:(Ws T1 (.inr y) + Ws T2 (.inr y)).toNat=0:=hn
    lia
   rw [decide_eq_false hn']
   exact Yh ⟨_,rfl,_,rfl,y,pl,bs,rfl,hp,l1,l2,k⟩
inductive G5(vs:List V)(H:Hp)(Q:VK):Prop
 | mk (d c p hv:Addr) (ys:List Str) (most:Nat) (n:Int):(vs=[.ref d,.ref p,.int (most:Int),.ref hv])→(Z0 H d c)→(H p=some (.lst (ys.map V.str)))→(Nms ys)→(H hv=some (.lst [.int n]))→(hv≠c)→(1≤most)→(most≤60)→(∀t ws H',H t=none→H' t=some (.tup ws)→Zeg ys ws→ws.length≤most→Z0 H' d c→Off3 d c hv H H'→(∃n':Int,H' hv=some (.lst [.int n']))→Q (.ref t) H')→G5 vs H Q
noncomputable def x6(K:PySem.W.Frag):Sp:=fun vs H Q _=>G5 vs H Q
theorem vv (T:Txt K w mg t) (TB:Tbs mg base t) (XB:Xcl K mg base t):Z7 P w K mg base CX0 3 t.a_law_sum t.f_law_sum ["deck","names","most","heavy"] (x6 K):=by
 have G_law_leaf:Z7 P w K mg base CX0 2 t.a_law_leaf t.f_law_leaf ["deck","names"] (qK K):=jV T TB XB
 have G_law_take:Z7 P w K mg base CX0 1 t.a_law_take t.f_law_take ["deck","many"] (ZS K):=Yf T TB XB
 refine T.d_law_sum.F.ok Yl (fun vs H Q E h=>?_) (fun cdv A outer s H vs Q E hr h=>?_)
 ·obtain ⟨d,c,p,hv,ys,most,n,rfl,D,hp,N,hh,hvc,m1,m2,k⟩:=h
  rfl
 ·obtain ⟨d,c,p,hv,ys,most,n,rfl,D,hp,N,hh,hvc,m1,m2,k⟩:=h
  have hu:=ZR hr
  refine ⟨_,@QSs.out _ _ _ (Za (Zr (i:=4) Yl.nd rfl (Or.inl rfl) (ZA Zd))
    (Za (Zr (i:=5) Yl.nd rfl (Or.inl rfl) Ze)
    (Za (gO PassesOwn.never (Zo gD (qv 5) Ze (Zs _))
    (Za (Zr (i:=6) Yl.nd rfl (Or.inl rfl) (Zv W9 (Zv W9 (qv 2) (Z1 ZG (by rfl) T.z_len X7 (Zi (qv 4) Zd))) (qv 5)))
    (Za (Zr (i:=7) Yl.nd rfl (Or.inl rfl) (Zh G_law_take (hr.mono (by decide)) rfl T.d_law_take.m T.d_law_take.F.kp T.d_law_take.b .nil Zy (Zi (qv 0) (Zi Ze Zd))))
    (Za (Zr (i:=8) Yl.nd rfl (Or.inl rfl) (Z4 Zp (ZA (Zi Zk (Zi Zk (Zi Zk (Zi Zk (Zi Zk (Zi Zk (Zi Zk (Zi Zk (Zi Zk (Zi Zk (Zi Zk Zd)))))))))))) (qv 7) (fun _ _=>rfl)))
    (Za (Zr (i:=9) Yl.nd rfl (Or.inl rfl) (Z4 Zp (ZA (Zi Ze (Zi Ze (Zi Ze (Zi Ze (Zi Ze (Zi Ze (Zi Ze (Zi Ze (Zi Ze (Zi Ze (Zi Ze Zd)))))))))))) (qv 7) (fun _ _=>rfl)))
    (Za (Z8 (Zo Xw (qv 8) (ZA (Zi Zk (Zi Zk (Zi Zk (Zi Zk (Zi Zk Zd)))))) (by with_unfolding_all rfl))
    (Zg (Zr (i:=9) Yl.nd rfl (Or.inl rfl) (Zv Ym (qv 9) (Zv Xb Ze (Yq YW (by rfl) T.z_int J8 (Zi (ZJ ZI (Z4 Zp (qv 3) Ze (fun _ _=>rfl)) Ze (Zs _)) Zd)))))) Zq)
    (Za (Z8 (Zo gD (qv 9) (qv 6) (Zs _))
    (Za (Wj (Ww PySem.F.plainAttrs_list PySem.F.slot_list_append PySem.F.type_list_append YX (qv 4) (Zi (Zh G_law_leaf (hr.mono (by decide)) rfl T.d_law_leaf.m T.d_law_leaf.F.kp T.d_law_leaf.b .nil Zy (Zi (qv 0) (Zi (qv 1) Zd))) Zd)))
    (Zg (Zr (i:=9) Yl.nd rfl (Or.inl rfl) Ze))) (Za (Wj (Ww PySem.F.plainAttrs_list PySem.F.slot_list_append PySem.F.type_list_append YX (qv 4) (Zi (qv 8) Zd)))
    (Zg (z8 (Zv W9 (Z4 Zp (qv 3) Ze (fun _ _=>rfl)) (Yq YW (by rfl) T.z_int J8 (Zi (ZJ Xw (qv 8) (ZA (Zi Zk (Zi Zk (Zi Zk (Zi Zk (Zi Zk Zd)))))) (by with_unfolding_all rfl)) Zd))) (z7 (qv 3) Ze set_list)))))
    (Zg (Zr (i:=5) Yl.nd rfl (Or.inl rfl) (Zv Ym (Zv W9 (qv 5) Ze) (qv 9)))))))))))
    (Zg (Zn (Yq xB (by rfl) T.z_tuple gL (Zi (qv 4) Zd))))))),?_⟩
  clear hu hr
  try dsimp only [L2.cxK,L2.cxK2]
  refine L2.let4 ?_
  intro U3 U2 U1
  have pn:=Xz D hp N.l1
  have hvn:=yq D hh hvc
  have hvp:p≠hv:=ZK hp hh (by
   intro z
   injection z with z
   have hl:=N.l1
   match ys,hl with
   | y::r,_ =>
    rw [List.map_cons] at z
    injection z with z _
    cases z)
  refine ⟨by show 0≤sizeLine;decide,fun w hw=>?_⟩
  have wn:=YO D hw
  have whv:w≠hv:=(Zl hh hw).symm
  have wp:w≠p:=(Zl hp hw).symm
  have s1:=Zc (o:=.lst []) hw
  refine Zc6 (fun σ H2=>∃(ws:List V) (e:Nat) (n2:Int) (u6 u7 u8 u9:Option V),σ=[some (.ref d),some (.ref p),some (.int most),some (.ref hv),some (.ref w),some (.int e),u6,u7,u8,u9]∧H2 w=some (.lst ws)∧H2 hv=some (.lst [.int n2])∧Pre 1 ws e∧(∀x∈ws,X0 ys x)∧ws.length + e≤most∧Z0 H2 d c∧Off3 d c hv H H2) (fun _ H2=>match H2 w with | some (.lst ws)=>most - ws.length | _=>0) ⟨[],1,n,none,none,none,none,rfl,Zb,s1 _ _ hh,.nil,(fun _ h=>nomatch h),by show 0 + 1≤most;lia,D.same s1,fun b o e _ _ _=>s1 b o e⟩ ?_
  rintro σ H2 hz_
  refine ZC fun Gz hGz=>?_
  obtain ⟨ws,e,n2,u6,u7,u8,u9,rfl,h2,hh2,hpre,hok,hle,D2,o2⟩:=hz_
  refine hGz ?_
  clear hGz Gz
  refine ⟨_,rfl,_,_,rfl,rfl,_,rfl,yc (fun he=>?_) (fun he=>?_)⟩
  ·have he':0 < e:=by
    have:=of_decide_eq_true he
    lia
   refine ex_cut (fun σ' H'=>∃(ws':List V) (e':Nat) (n2:Int) (u6 u7 u8 u9:Option V),σ'=[some (.ref d),some (.ref p),some (.int most),some (.ref hv),some (.ref w),some (.int e'),u6,u7,u8,u9]∧H' w=some (.lst ws')∧ws'.length=ws.length + 1∧H' hv=some (.lst [.int n2])∧Pre 1 ws' e'∧(∀x∈ws',X0 ys x)∧ws'.length + e'≤most∧Z0 H' d c∧Off3 d c hv H H') ?_ fun Nx hNx=>?_
   ·rintro σ' H' hz_
    refine ZC fun Gz hGz=>?_
    obtain ⟨ws',e',n3,v6,v7,v8,v9,rfl,h',hl',hh',hpre',hok',hle',D',o'⟩:=hz_
    refine hGz ?_
    clear hGz Gz
    refine ⟨most - ws'.length,?_,?_,ws',e',n3,v6,v7,v8,v9,rfl,h',hh',hpre',hok',hle',D',o'⟩
    ·rw [h2]
     show most - ws'.length < most - ws.length
     lia
    ·rw [h']
   have hp2:=o2 _ _ hp pn.1 pn.2 hvp
   refine ⟨_,rfl,_,rfl,w,_,rfl,.inl (SqL.of h2),_,_,rfl,rfl,_,rfl,_,_,rfl,rfl,?_⟩
   refine ⟨_,rfl,d,c,11,rfl,D2,by decide,by decide,fun r H3 r0 r1 D3 o3=>?_⟩
   obtain ⟨j,rfl⟩:∃j:Nat,r=(j:Int):=⟨r.toNat,by lia⟩
   have hj:j < 11:=by lia
   refine ⟨by show 11≤sizeLine;decide,fun l hl=>?_⟩
   have ln:=YO D3 hl
   have a3:=Zc (o:=.lst [.str "pick",.str "and",.str "or",.str "odd",.str "add",.str "sub",.str "not",.str "neg",.str "twice",.str "low",.str ""]) hl
   refine ⟨_,rfl,l,JK.map V.str,_,.str (JK.getD j ""),rfl,rfl,SqL.of Zb,wJ hj,?_⟩
   refine ⟨by show 11≤sizeLine;decide,fun l' hl'=>?_⟩
   have a4:=Zc (o:=.lst [.int 3,.int 2,.int 2,.int 2,.int 2,.int 2,.int 1,.int 1,.int 1,.int 1,.int 99]) hl'
   refine ⟨_,rfl,l',xV.map V.int,_,.int (xV.getD j 0),rfl,rfl,SqL.of Zb,wK hj,?_⟩
   have a34:=a3.trans a4
   have fct:=wL j hj
   generalize JK.getD j "" = word at *
   generalize xV.getD j 0=many at *
   have h34:=a34 _ _ (o3 _ _ h2 wn.1 wn.2)
   have hh34:=a34 _ _ (o3 _ _ hh2 hvn.1 hvn.2)
   have hp34:=a34 _ _ (o3 _ _ hp2 pn.1 pn.2)
   have D34:=D3.same a34
   have o34:Off3 d c hv H _:=YQ o2 (o3.trans (ZO d c a34))
   clear hl' a4
   generalize upd (upd H3 l (.lst [.str "pick",.str "and",.str "or",.str "odd",.str "add",.str "sub",.str "not",.str "neg",.str "twice",.str "low",.str ""])) l' (.lst [.int 3,.int 2,.int 2,.int 2,.int 2,.int 2,.int 1,.int 1,.int 1,.int 1,.int 99])=H4 at *
   refine YT ?_
   refine wD (fun σ H'=>∃(mm:Int),σ=[some (.ref d),some (.ref p),some (.int most),some (.ref hv),some (.ref w),some (.int e),some (.int ((most:Int) - (ws.length:Int) - (e:Int))),some (.int j),some (.str word),some (.int mm)]∧(mm=many∨mm=many + 99)∧ZU H4 H') (fun N hN=>?_) ?_
   ·refine ⟨_,rfl,by show 5≤sizeLine;decide,fun g hg=>⟨g,wI.map V.str,rfl,.inl (SqL.of Zb),rfl,rfl,_,rfl,yc (fun _=>?_) (fun _=>?_)⟩⟩
    ·have s5:=Zc (o:=.lst (wI.map V.str)) hg
     refine ⟨_,rfl,_,rfl,hv,_,0,_,rfl,rfl,SqL.of (s5 _ _ hh34),rfl,rfl,.inr ⟨_,rfl,_,_,rfl,rfl,.inr (.inl ⟨by decide,by decide⟩),_,_,rfl,rfl,hN _ _ ⟨_,rfl,?_,s5⟩⟩⟩
     try dsimp only
     by_cases q:decide (V.int n2=V.int 0)=true
     ·rw [q]
      exact .inr rfl
     ·rw [Bool.eq_false_iff.mpr q]
      exact .inl (by show many + 99 * 0=many;lia)
    ·exact hN _ _ ⟨many,rfl,.inl rfl,Zc hg⟩
   rintro σ H5 hz_
   refine ZC fun Gz hGz=>?_
   obtain ⟨mm,rfl,hmm,s5⟩:=hz_
   refine hGz ?_
   clear hGz Gz
   have h5:=s5 _ _ h34
   have hh5:=s5 _ _ hh34
   have hp5:=s5 _ _ hp34
   have D5:=D34.same s5
   have o5:Off3 d c hv H H5:=YQ o34 (ZO d c s5)
   show ZT (Zbr _ _ _) _ _ _ _
   refine xH (fun σ H'=>∃(x:V) (n3:Int) (m3:Nat),σ=[some (.ref d),some (.ref p),some (.int most),some (.ref hv),some (.ref w),some (.int e),some (.int ((most:Int) - (ws.length:Int) - (e:Int))),some (.int j),some (.str word),some (.int (m3:Int))]∧H' w=some (.lst (ws++[x]))∧H' hv=some (.lst [.int n3])∧X0 ys x∧Wx x=m3∧ws.length + e + m3≤most∧Z0 H' d c∧Off3 d c hv H H') (fun N' hN'=>?_) ?_
   ·have wsz:ws.length < sizeLine:=Zt (by lia)
    refine ⟨_,rfl,_,rfl,_,_,rfl,rfl,_,rfl,yc (fun hgt=>?_) (fun hgt=>?_)⟩
    ·refine ⟨_,rfl,.inl ⟨rfl,_,SqL.of h5⟩,_,rfl,_,rfl,d,c,p,ys,rfl,D5,hp5,N,fun v H6 hv6 D6 o6=>?_⟩
     have h6:=o6 _ _ h5 wn.1 wn.2
     refine ⟨w,_,_,rfl,rfl,h6,wsz,hN' _ _ ⟨v,n2,0,rfl,Zb,by rw [Zj whv.symm];exact o6 _ _ hh5 hvn.1 hvn.2,hv6.word,hv6.parts N,by lia,XE D6 wn,?_⟩⟩
     exact yp (YQ o5 o6) hw
    ·have hgt':¬((most:Int) - (ws.length:Int) - (e:Int) < mm):=fun z=>hgt (decide_eq_true z)
     have f2:∃m3:Nat,mm=(m3:Int)∧Wx (.str word)=m3∧word∈qj:=by
      rcases fct with ⟨rfl,rfl⟩ | ⟨m3,rfl,h1,h2,h3⟩
      ·exfalso
       lia
      ·rcases hmm with rfl | rfl
       ·exact ⟨m3,rfl,h1,h2⟩
       ·exfalso
        lia
     obtain ⟨m3,rfl,hm3,hsw⟩:=f2
     refine ⟨_,rfl,.inl ⟨rfl,_,SqL.of h5⟩,_,rfl,w,_,_,rfl,rfl,h5,wsz,?_⟩
     have hh6:(upd H5 w (.lst (ws++[.str word]))) hv=some (.lst [.int n2]):=by rw [Zj whv.symm];exact hh5
     refine ⟨_,rfl,hv,_,0,_,rfl,rfl,SqL.of hh6,rfl,_,rfl,by show 5≤sizeLine;decide,fun g hg=>⟨g,wI.map V.str,rfl,.inl (SqL.of Zb),rfl,rfl,.inr ⟨_,rfl,_,_,rfl,rfl,_,rfl,hv,[.int n2],_,0,rfl,rfl,?_,rfl,?_⟩⟩⟩
     ·exact Zc hg _ _ hh6
     ·have gn:=YO (XE D5 wn) hg
      have gw:w≠g:=Zl Zb hg
      refine hN' _ _ ⟨.str word,_,m3,rfl,?_,Zb,.inl ⟨word,rfl,hsw⟩,hm3,by lia,XE ((XE D5 wn).same (Zc hg)) hvn,?_⟩
      ·rw [Zj whv]
       exact Zc hg _ _ Zb
      ·refine Zc7 (YQ (yp o5 hw) (ZO d c (Zc hg)))
   rintro σ H6 hz_
   refine ZC fun Gz hGz=>?_
   obtain ⟨x,n3,m3,rfl,h6,hh6,hx,hpx,hm3,D6,o6⟩:=hz_
   refine hGz ?_
   clear hGz Gz
   refine ⟨_,rfl,_,_,rfl,rfl,_,rfl,_,_,rfl,rfl,hNx _ _ ⟨ws++[x],e - 1 + m3,n3,some (.int ((most:Int) - (ws.length:Int) - (e:Int))),some (.int j),some (.str word),some (.int (m3:Int)),?_,h6,by rw [List.length_append];rfl,hh6,hpx ▸ hpre.snoc he',xS hok hx,?_,D6,o6⟩⟩
   ·show _=[_,_,_,_,_,some (V.int ((e - 1 + m3:Nat):Int)),_,_,_,_]
    rw [show ((e - 1 + m3:Nat):Int)=(e:Int) - 1 + (m3:Int) by lia]
    rfl
   ·rw [List.length_append]
    show ws.length + 1 + (e - 1 + m3)≤most
    lia
  ·have he':e=0:=by
    have:¬(0:Int) < e:=fun z=>he (decide_eq_true z)
    lia
   subst he'
   refine ⟨_,rfl,w,_,rfl,.inl ⟨SqL.of h2,fun t ht=>?_⟩⟩
   have ht0:H t=none:=by
    cases q:H t with
    | none=>rfl
    | some o =>
     have tn:=YO D2 ht
     have thv:t≠hv:=(Zl hh2 ht).symm
     rw [o2 t o q tn.1 tn.2 thv] at ht
     cases ht
   exact k t ws _ ht0 Zb ⟨hpre,hok⟩ (by lia) (D2.same (Zc ht)) (YQ o2 (ZO d c (Zc ht))) ⟨n2,Zc ht _ _ hh2⟩
inductive Gi(vs:List V)(H:Hp)(Q:VK):Prop
 | mk (x:V) (pl dv:Addr) (W:Nat) (ys:List Str) (kvs:List (Key × V)) (ρ:Str→Int) (ras:List Addr) (is:List Int) (zs:List V):(vs=[x,.ref pl,.int W,.ref dv])→(1≤W)→(W≤60)→(Nms ys)→(X0 ys x)→(H dv=some (.dK kvs))→((∀y,x=.str y→y∈ys→Yw kvs (.inr y)=some (.int (ρ y))))→(H pl=some (.lst (ras.map V.ref++zs).reverse))→(Xf H W ras is)→(is.length=npw x)→(zs.length≤100)→((∀v∈ras.map V.ref++zs,∀z:Int,v≠.int z))→(∀p H',H p=none→H' p=some (.lst ((Zm W (wwv ρ x is)).map V.int))→H' pl=some (.lst zs.reverse)→(∀b o,H b=some o→b≠pl→H' b=some o)→Q (.ref p) H')→Gi vs H Q
noncomputable def qO(K:PySem.W.Frag):Sp:=fun vs H Q _=>Gi vs H Q
theorem jY (T:Txt K w mg t) (TB:Tbs mg base t) (XB:Xcl K mg base t):Z7 P w K mg base CX0 3 t.a_law_rows t.f_law_rows ["word","pile","width","values"] (qO K):=by
 have G_law_made:Z7 P w K mg base CX0 2 t.a_law_made t.f_law_made ["word","sums_in"] (qM K):=jX T TB XB
 have G_law_kept:Z7 P w K mg base CX0 1 t.a_law_kept t.f_law_kept [] (Wv K):=J5 T TB XB
 have G_law_bits:Z7 P w K mg base CX0 1 t.a_law_bits t.f_law_bits ["number","width"] (qI K):=jT T TB XB
 refine T.d_law_rows.F.ok qC (fun vs H Q E h=>?_) (fun cdv A outer s H vs Q E hr h=>?_)
 ·obtain ⟨x,pl,dv,W,ys,kvs,ρ,ras,is,zs0,rfl,W1,W2,N,hx,hd,hv,hp,R,hn,hl,hz0,k⟩:=h
  rfl
 ·obtain ⟨x,pl,dv,W,ys,kvs,ρ,ras,is,zs0,rfl,W1,W2,N,hx,hd,hv,hp,R,hn,hl,hz0,k⟩:=h
  have hu:=ZR hr
  refine ⟨_,@QSs.out _ _ _ (Za (Z8 (ye (Jc (Z1 GI (by rfl) T.z_isinstance Yb (Zi (qv 0) (Zi (qb (v:=.ty "str") (by rfl) T.z_str Zaz rfl) Zd)))))
    (Zg (Zn (Zh G_law_bits (hr.mono (by decide)) rfl T.d_law_bits.m T.d_law_bits.F.kp T.d_law_bits.b .nil Zy (Zi (qv 0) (Zi (qv 2) Zd))))) Zq)
    (Za (Z8 (Zo X6 (qv 0) (GJ G_law_kept (hr.mono (by decide)) rfl T.d_law_kept.m T.d_law_kept.F.kp T.d_law_kept.b .nil Zy) (by with_unfolding_all rfl))
    (Zg (Zn (Zh G_law_bits (hr.mono (by decide)) rfl T.d_law_bits.m T.d_law_bits.F.kp T.d_law_bits.b .nil Zy (Zi (j6 hu (qv 3) (qv 0) (fun _ _=>rfl)) (Zi (qv 2) Zd))))) Zq)
    (Za (Zr (i:=4) qC.nd rfl (Or.inl rfl) (Zv Ym (Zv Ym Ze (Yq YW (by rfl) T.z_int J8 (Zi (ZJ Xw (qv 0) (ZA (Zi Zk (Zi Zk (Zi Zk (Zi Zk (Zi Zk (Zi Zk Zd))))))) (by with_unfolding_all rfl)) Zd))) (Yq YW (by rfl) T.z_int J8 (Zi (ZJ ZI (qv 0) Zk (Zs _)) Zd))))
    (Zg (Zn (Zh G_law_made (hr.mono (by decide)) rfl T.d_law_made.m T.d_law_made.F.kp T.d_law_made.b .nil Zy (Zi (qv 0) (Zi (J0 (⟨by rfl,by decide +kernel,by decide +kernel,by rfl,by decide +kernel,by decide +kernel,by rfl,by decide +kernel⟩:ZW (Zf YL) _ ["word","pile","width","values","many"] "k" ["pile"] [1]) (ZV rfl T.z_range (Zi (qv 4) Zd)) (fun _ _ _ _=>qd) (fun _ _ _ _=>(show QE _ _ (Zex K "list" rPop (Zdk 1)) from (z9 PySem.F.plainAttrs_list PySem.F.slot_list_pop PySem.F.type_list_pop zy (qv 1))))) Zd)))))))),?_⟩
  clear hu hr
  try dsimp only [L2.cxK,L2.cxK2]
  refine L2.let4 ?_
  intro U3 U2 U1
  have enp:npw x=Wx x:=by rw [←Jb,JL N hx,List.length_replicate]
  have hrl:=R.len
  have hfl:(ras.map V.ref++zs0).length=npw x + zs0.length:=by rw [List.length_append,List.length_map];lia
  have hrn:∀b∈ras,b≠pl:=fun b hb=>by
   obtain ⟨n,e⟩:=R.mem b hb
   exact qx W1 hp hz0 e
  rcases hx with ⟨y,rfl,hy⟩ | hlf
  ·have hyk:y∈Ye:=GS y hy
   refine ⟨_,rfl,_,_,_,_,rfl,.str y,Jy,_,rfl,Yh ?_⟩
   refine ⟨_,rfl,rfl,fun q H1 hq0 hq s1=>⟨q,_,rfl,.inl (SqL.of hq),rfl,YY _,_,rfl,?_⟩⟩
   show if (!inV (.str y) (Ye.map V.str))=true then _ else _
   rw [Y2,decide_eq_true hyk]
   refine Yh ⟨_,rfl,by show 6≤sizeLine;decide,fun g hg=>⟨g,_,rfl,.inl (SqL.of Zb),rfl,rfl,.inr ⟨_,rfl,_,_,rfl,rfl,_,rfl,rfl,.inr ⟨_,rfl,_,_,rfl,rfl,?_⟩⟩⟩⟩
   have em:=Zde y hy
   have s2:=s1.trans (Zc (o:=.lst [.str "and",.str "or",.str "odd",.str "add",.str "sub",.str "pick"]) hg)
   generalize upd H1 g (.lst [.str "and",.str "or",.str "odd",.str "add",.str "sub",.str "pick"])=H2 at *
   clear s1 hq hq0 hg
   show Jw 4 (V.int (1 + (if inV (.str y) [.str "and",.str "or",.str "odd",.str "add",.str "sub",.str "pick"]=true then 1 else 0) + (if decide (V.str y=V.str "pick")=true then 1 else 0))) _ _ _
   rw [em]
   have enS:npw (.str y)=ZN y:=enp
   rw [enS] at hn hfl
   have hp3:=Gu y hy
   refine ⟨_,rfl,_,rfl,(ZN y:Int),rfl,by lia,by lia,Gp (n:=(ZN y:Int).toNat) (fun i zs H3=>i≤ZN y∧zs=(ras.map V.ref++zs0).take i∧H3 pl=some (.lst ((ras.map V.ref++zs0).drop i).reverse)∧∀b o,H b=some o→b≠pl→H3 b=some o) ⟨Nat.zero_le _,rfl,s2 _ _ hp,fun b o e _=>s2 b o e⟩ ?_ ?_ ?_⟩
   ·rintro i zs H3 hz_
    refine ZC fun Gz hGz=>?_
    obtain ⟨_,rfl,_,_⟩:=hz_
    refine hGz ?_
    clear hGz Gz
    rw [List.length_take]
    exact Nat.le_of_lt (Zt (by lia))
   ·rintro i zs H3 R' hR hi hz_
    refine ZC fun Gz hGz=>?_
    obtain ⟨hi1,rfl,h3,o3⟩:=hz_
    refine hGz ?_
    clear hGz Gz
    have hi2:i < ZN y:=by lia
    have hi4:i < (ras.map V.ref++zs0).length:=by lia
    rw [wQ hi4] at h3
    unfold kF
    try dsimp only
    rw [if_pos rfl]
    refine ⟨_,rfl,.inl ⟨rfl,_,SqL.of h3⟩,pl,_,_,rfl,rfl,h3,Wb _ _,hR _ _ ⟨hi2,?_,?_,fun b o e hb=>?_⟩⟩
    ·rw [take_snoc (List.getElem?_eq_getElem hi4)]
    ·rw [Zb,List.dropLast_concat]
    ·rw [Zj hb]
     exact o3 b o e hb
   ·rintro zs H3 hz_ l hl2
    refine ZC fun Gz hGz=>?_
    obtain ⟨hi1,rfl,h3,o3⟩:=hz_
    refine hGz ?_
    clear hGz Gz
    rw [Int.toNat_natCast] at h3 ⊢
    have hrl2:(ras.map V.ref).length=ZN y:=by rw [List.length_map];lia
    rw [←hrl2,List.drop_left] at h3
    rw [←hrl2,List.take_left]
    have hlH:H l=none:=by
     cases q:H l with
     | none=>rfl
     | some o =>
      by_cases hb:l=pl
      ·rw [hb,h3] at hl2
       cases hl2
      ·rw [o3 l o q hb] at hl2
       cases hl2
    have hls:pl≠l:=Zl h3 hl2
    have R3:Xf (upd H3 l (.lst (ras.map V.ref))) W ras is:=R.same fun b xs hb e=>by
     rw [Zj (Zl e hlH)]
     exact o3 b _ e (hrn b hb)
    refine ⟨y,l,ras,W,is,ρ,rfl,Zb,R3,hy,by lia,W1,by lia,fun p H4 h0 h4 s4=>?_⟩
    have h0l:p≠l:=fun z=>by rw [z,Zb] at h0;cases h0
    have h03:H3 p=none:=by rw [Zj h0l] at h0;exact h0
    have h0H:H p=none:=by
     cases q:H p with
     | none=>rfl
     | some o =>
      by_cases hb:p=pl
      ·rw [hb,h3] at h03
       cases h03
      ·rw [o3 p o q hb] at h03
       cases h03
    exact k p H4 h0H h4 (s4 _ _ (by rw [Zj hls];exact h3)) fun b o e hb=>s4 _ _ (by rw [Zj (Zl e hlH)];exact o3 b o e hb)
  ·have e0:npw x=0:=enp.trans (hlf.parts N)
   have eis:is=[]:=List.eq_nil_of_length_eq_zero (by lia)
   have era:ras=[]:=List.eq_nil_of_length_eq_zero (by lia)
   subst eis
   subst era
   rcases hlf with ⟨y,hy,rfl⟩ | ⟨z,rfl,z0,z1⟩
   ·have hyk:y∉Ye:=fun z=>(N.ok y hy).2 z
    refine ⟨_,rfl,_,_,_,_,rfl,.str y,Jy,_,rfl,Yh ?_⟩
    refine ⟨_,rfl,rfl,fun q H1 hq0 hq s1=>⟨q,_,rfl,.inl (SqL.of hq),rfl,YY _,_,rfl,?_⟩⟩
    show if (!inV (.str y) (Ye.map V.str))=true then _ else _
    rw [Y2,decide_eq_false hyk]
    refine YB ⟨_,rfl,_,rfl,dv,_,rfl,.inl ⟨kvs,.inr y,.inl (s1 _ _ hd),rfl,(hv y rfl hy).symm⟩,_,rfl,ρ y,W,rfl,by lia,fun p H2 h0 h2 s2=>k p H2 (s1.free h0) h2 ((s1.trans s2) _ _ hp) fun b o e _=>(s1.trans s2) b o e⟩
   ·exact ⟨_,rfl,_,_,_,_,rfl,.int z,qa,_,rfl,YB ⟨_,rfl,_,rfl,z,W,rfl,by lia,fun p H2 h0 h2 s2=>k p H2 h0 h2 (s2 _ _ hp) fun b o e _=>s2 b o e⟩⟩
inductive Gj(vs:List V)(H:Hp)(Q:VK):Prop
 | mk (d c p hv:Addr) (ys:List Str) (most:Nat):(vs=[.ref d,.ref p,.ref hv,.int (most:Int)])→(Dr d c p hv ys H H)→(Nms ys)→(hv≠c)→(1≤most)→(most≤60)→(∀t ws H',H' t=some (.tup ws)→ClaimW ys ws→ws.length≤1 + 2 * most→Dr d c p hv ys H H'→Q (.ref t) H')→Gj vs H Q
noncomputable def qP(K:PySem.W.Frag):Sp:=fun vs H Q _=>Gj vs H Q
theorem jZ (T:Txt K w mg t) (TB:Tbs mg base t) (XB:Xcl K mg base t):Z7 P w K mg base CX0 4 t.a_law_atom t.f_law_atom ["deck","names","heavy","most"] (qP K):=by
 have G_law_sum:Z7 P w K mg base CX0 3 t.a_law_sum t.f_law_sum ["deck","names","most","heavy"] (x6 K):=vv T TB XB
 have G_law_take:Z7 P w K mg base CX0 1 t.a_law_take t.f_law_take ["deck","many"] (ZS K):=Yf T TB XB
 refine T.d_law_atom.F.ok X4 (fun vs H Q E h=>?_) (fun cdv A outer s H vs Q E hr h=>?_)
 ·obtain ⟨d,c,p,hv,ys,most,rfl,R,N,hvc,m1,m2,k⟩:=h
  rfl
 ·obtain ⟨d,c,p,hv,ys,most,rfl,R,N,hvc,m1,m2,k⟩:=h
  have hu:=ZR hr
  refine ⟨_,@QSs.out _ _ _ (Za (Zr (i:=4) X4.nd rfl (Or.inl rfl) (Zh G_law_take (hr.mono (by decide)) rfl T.d_law_take.m T.d_law_take.F.kp T.d_law_take.b .nil Zy (Zi (qv 0) (Zi Ze Zd))))
    (Za (Zr (i:=5) X4.nd rfl (Or.inl rfl) (Jd (Zi (Z4 Zp (ZA (Zi Zk (Zi Zk (Zi Zk (Zi Zk (Zi Zk (Zi Zk Zd))))))) (qv 4) (fun _ _=>rfl)) Zd)))
    (Za (X8 PassesOwn.never rfl (ZV rfl T.z_range (Zi (Z4 Zp (ZA (Zi Ze (Zi Ze (Zi Ze (Zi Ze (Zi Ze (Zi Ze Zd))))))) (qv 4) (fun _ _=>rfl)) Zd)) (YD (i:=6) X4.nd rfl (Or.inl rfl))
    (Zg (Zr (i:=5) X4.nd rfl (Or.inl rfl) (Zv YF (qv 5) (Zh G_law_sum (hr.mono (by decide)) rfl T.d_law_sum.m T.d_law_sum.F.kp T.d_law_sum.b .nil Zy (Zi (qv 0) (Zi (qv 1) (Zi (qv 3) (Zi (qv 2) Zd)))))))))
    (Zg (Zn (qv 5)))))),?_⟩
  clear hu hr
  try dsimp only [L2.cxK,L2.cxK2]
  refine L2.let4 ?_
  intro U3 U2 U1
  refine ⟨_,rfl,d,c,6,rfl,R.D,by decide,by decide,fun r H1 r0 r1 D1 o1=>?_⟩
  obtain ⟨j,rfl⟩:∃j:Nat,r=(j:Int):=⟨r.toNat,by lia⟩
  have hj:j < 6:=by lia
  have R1:=R.off N hvc D1 o1
  obtain ⟨hy,hb,hnx⟩:=wN j hj
  obtain ⟨m,hm⟩:∃m:Nat,xZ.getD j 0=(m:Int):=⟨(xZ.getD j 0).toNat,by lia⟩
  refine ⟨by show 6≤sizeLine;decide,fun l hl=>⟨_,rfl,l,xY.map V.str,_,.str (xY.getD j ""),rfl,rfl,SqL.of Zb,?_,by show 1≤sizeLine;decide,fun f0 hf0=>?_⟩⟩
  ·refine Yo ?_
   rw [List.getElem?_map,List.getElem?_eq_getElem (show j < xY.length from hj),List.getD_eq_getElem?_getD,List.getElem?_eq_getElem (show j < xY.length from hj)]
   rfl
  have s1:=(Zc (o:=.lst (xY.map V.str)) hl).trans (Zc (o:=.tup [.str (xY.getD j "")]) hf0)
  refine ⟨by show 6≤sizeLine;decide,fun l2 hl2=>⟨_,rfl,l2,xZ.map V.int,_,.int (xZ.getD j 0),rfl,rfl,SqL.of Zb,Wr j rfl hj,?_⟩⟩
  have s2:=s1.trans (Zc (o:=.lst (xZ.map V.int)) hl2)
  have R2:=R1.same s2
  have hf2:=Zc (o:=.lst (xZ.map V.int)) hl2 f0 (.tup [.str (xY.getD j "")]) Zb
  rw [hm] at hnx hb ⊢
  rw [Int.toNat_natCast] at hnx
  have pre0:=cw_one (ys:=ys) hy
  rw [hnx] at pre0
  refine ⟨(m:Int),rfl,by lia,by lia,YV (n:=(m:Int).toNat) (fun i σ H'=>∃tf ws u6,σ=[some (.ref d),some (.ref p),some (.ref hv),some (.int most),some (.int j),some (.ref tf),u6]∧H' tf=some (.tup ws)∧Jg ys [true] ws (List.replicate (m - i) false)∧ws≠[]∧ws.length≤1 + i * most∧i≤m∧Dr d c p hv ys H H') ⟨f0,_,none,rfl,hf2,pre0,(fun z=>nomatch z),by show 1≤_;lia,Nat.zero_le _,R2⟩ ?_ ?_⟩
  ·rintro i σ H' hi hz_
   refine ZC fun Gz hGz=>?_
   obtain ⟨tf,ws,u6,rfl,htf,hpre,hne,hwl,_,R3⟩:=hz_
   refine hGz ?_
   clear hGz Gz
   rw [Int.toNat_natCast] at hi
   obtain ⟨n3,hn3⟩:=R3.h
   have i1:i≤1:=by lia
   have im:i * most≤1 * most:=Nat.mul_le_mul_right _ i1
   refine ⟨_,rfl,_,rfl,_,rfl,_,rfl,_,rfl,d,c,p,hv,ys,most,n3,rfl,R3.D,R3.p,N,hn3,hvc,m1,m2,fun tw ws2 H4 htw ht4 W wl D4 o4 hh4=>?_⟩
   refine Y1 (R3.tup htf o4) ht4 hne W.ne' (by lia) fun tc H5 h5 s5=>?_
   refine ⟨tc,_,some (.int (0 + (i:Int))),rfl,h5,?_,(by simp [hne]),?_,hi,(R3.off3 N D4 hh4 o4).same s5⟩
   ·have e1:List.replicate (m - i) false=List.replicate (m - (i + 1)) false++[false]:=by
     rw [←List.replicate_succ']
     congr 1
     lia
    rw [e1] at hpre
    have g:=(W.preK N).under (List.replicate (m - (i + 1)) false)
    rw [List.append_nil] at g
    exact hpre.app g
   ·rw [List.length_append,Nat.succ_mul]
    lia
  ·rintro σ H' hz_
   refine ZC fun Gz hGz=>?_
   obtain ⟨tf,ws,u6,rfl,htf,hpre,hne,hwl,_,R3⟩:=hz_
   refine hGz ?_
   clear hGz Gz
   rw [Int.toNat_natCast] at hpre hwl
   rw [Nat.sub_self] at hpre
   have mm:m * most≤2 * most:=Nat.mul_le_mul_right _ (by lia)
   exact ⟨_,rfl,k tf ws H' htf hpre (by lia) R3⟩
inductive Jq(vs:List V)(H:Hp)(Q:VK):Prop
 | mk (tw dv:Addr) (W:Nat) (ys:List Str) (ws:List V) (kvs:List (Key × V)) (ρ:Str→Int):(vs=[.ref tw,.int W,.ref dv])→(1≤W)→(W≤60)→(H tw=some (.tup ws))→(Nms ys)→(ClaimW ys ws)→(ws.length≤60)→(H dv=some (.dK kvs))→(jN kvs ys ws ρ)→(∀H',ZU H H'→Q (Zdo (2 ^ W) ρ ws) H')→Jq vs H Q
noncomputable def G6(K:PySem.W.Frag):Sp:=fun vs H Q _=>Jq vs H Q
theorem jj (T:Txt K w mg t) (TB:Tbs mg base t) (XB:Xcl K mg base t):Z7 P w K mg base CX0 4 t.a_law_holds t.f_law_holds ["claim","width","values"] (G6 K):=by
 have G_law_kept:Z7 P w K mg base CX0 1 t.a_law_kept t.f_law_kept [] (Wv K):=J5 T TB XB
 have G_law_truth:Z7 P w K mg base CX0 1 t.a_law_truth t.f_law_truth ["word","pile"] (G1 K):=jg T TB XB
 have G_law_rows:Z7 P w K mg base CX0 3 t.a_law_rows t.f_law_rows ["word","pile","width","values"] (qO K):=jY T TB XB
 refine T.d_law_holds.F.ok WJ (fun vs H Q E h=>?_) (fun cdv A outer s H vs Q E hr h=>?_)
 ·obtain ⟨tw,dv,W,ys,ws,kvs,ρ,rfl,W1,W2,ht,N,S,hl,hd,hv,k⟩:=h
  rfl
 ·obtain ⟨tw,dv,W,ys,ws,kvs,ρ,rfl,W1,W2,ht,N,S,hl,hd,hv,k⟩:=h
  have hu:=ZR hr
  refine ⟨_,@QSs.out _ _ _ (Za (Zr (i:=3) WJ.nd rfl (Or.inl rfl) (ZA Zd))
    (Za (X8 PassesOwn.never rfl (kK rfl T.z_reversed (qv 0)) (YD (i:=4) WJ.nd rfl (Or.inl rfl))
    (Zg (Z8 (Zo Xw (qv 4) (Xi Gn (GJ G_law_kept (hr.mono (by decide)) rfl T.d_law_kept.m T.d_law_kept.F.kp T.d_law_kept.b .nil Zy) (Wl Ze) Wk) (by with_unfolding_all rfl))
    (Zg (Wj (Ww PySem.F.plainAttrs_list PySem.F.slot_list_append PySem.F.type_list_append YX (qv 3) (Zi (Zh G_law_truth (hr.mono (by decide)) rfl T.d_law_truth.m T.d_law_truth.F.kp T.d_law_truth.b .nil Zy (Zi (qv 4) (Zi (qv 3) Zd))) Zd)))) (Zg (Wj (Ww PySem.F.plainAttrs_list PySem.F.slot_list_append PySem.F.type_list_append YX (qv 3) (Zi (Zh G_law_rows (hr.mono (by decide)) rfl T.d_law_rows.m T.d_law_rows.F.kp T.d_law_rows.b .nil Zy (Zi (qv 4) (Zi (qv 3) (Zi (qv 1) (Zi (qv 2) Zd))))) Zd)))))))
    (Zg (Zn (Z4 Zp (qv 3) Ze (fun _ _=>rfl)))))),?_⟩
  clear hu hr
  try dsimp only [L2.cxK,L2.cxK2]
  refine L2.let3 ?_
  intro U2 U1
  have hm:=JI W
  obtain ⟨ls,L,hls0⟩:=Jg.at S rfl
  refine ⟨by show 0≤sizeLine;decide,fun st hst=>?_⟩
  have s1:=Zc (o:=.lst []) hst
  refine ⟨_,rfl,tw,_,rfl,SqT.of (s1 _ _ ht),kL (K:=K) (a:=tw) (xs:=ws) (fun i σ H2=>∃u4 zs ns,σ=[some (.ref tw),some (.int W),some (.ref dv),some (.ref st),u4]∧Yu H2 W zs ns∧wX (2 ^ W) ρ ws ls (ws.length - i) ns∧ns.length≤i∧i≤ws.length∧H2 st=some (.lst zs.reverse)∧ZU H H2) ⟨none,[],[],rfl,.nil,⟨by rw [Nat.sub_zero,List.drop_length];rfl,by rw [Nat.sub_zero,L.1];exact .nil⟩,Nat.le_refl _,Nat.zero_le _,Zb,s1⟩ (fun i σ H2 _ ⟨_,_,_,_,_,_,_,_,_,s⟩=>SqT.of (s _ _ ht)) ?_ ?_⟩
  ·rintro i x σ H2 hx hz_
   refine ZC fun Gz hGz=>?_
   obtain ⟨u4,zs,ns,rfl,P,hI,hsl,_,h2,s2⟩:=hz_
   refine hGz ?_
   clear hGz Gz
   obtain ⟨hi,hx⟩:=Zbg hx
   have e1:ws.length - 1 - i + 1=ws.length - i:=by lia
   have hxm:=List.mem_of_getElem? hx
   refine ZC fun Gz hGz=>?_
   obtain ⟨hn,hI',b,hw,hty⟩:=yt hm N L hx (by rw [e1];exact hI)
   refine hGz ?_
   clear hGz Gz
   rw [show ws.length - 1 - i=ws.length - (i + 1) by lia] at hI'
   have hzl:=P.len
   have hnt:ns=ns.take (npw x)++ns.drop (npw x):=(List.take_append_drop ..).symm
   have hnl:(ns.take (npw x)).length=npw x:=by rw [List.length_take];lia
   have hdl:(ns.drop (npw x)).length≤i:=by rw [List.length_drop];lia
   generalize ns.take (npw x)=nt at *
   generalize ns.drop (npw x)=nd at *
   subst hnt
   cases b with
   | true =>
    obtain ⟨y,rfl,hy⟩:=hw
    refine ⟨_,rfl,rfl,fun q H3 hq0 hq s3=>⟨10,rfl,q,_,rfl,SqL.of hq,fun q4 hq4=>?_⟩⟩
    rw [y9]
    have v4:=s3.trans (Zc (o:=.lst ((Ye.drop 10).map V.str)) hq4)
    refine ⟨q4,_,rfl,.inl (SqL.of Zb),rfl,YY _,_,rfl,?_⟩
    show if inV (.str y) ((Ye.drop 10).map V.str)=true then _ else _
    rw [Y2,decide_eq_true (gr y hy)]
    refine YB ?_
    generalize upd H3 q4 (.lst ((Ye.drop 10).map V.str))=H4 at *
    clear hq4 hq hq0 s3
    have h4:=v4 _ _ h2
    have P4:=P.same fun b n e=>v4 _ _ e
    have z4:=P4.noint
    have s4:=s2.trans v4
    have fin:∀(t:Bool) (zs':List V) (H5:Hp),zs'.length=nd.length→Yu H4 W zs' nd→wX (2 ^ W) ρ ws ls (ws.length - (i + 1)) (.bl t::nd)→H5 st=some (.lst zs'.reverse)→(∀b o,H4 b=some o→b≠st→H5 b=some o)→(zs'.reverse).length < sizeLine∧Yu (upd H5 st (.lst (zs'.reverse++[.bl t]))) W (.bl t::zs') (.bl t::nd)∧upd H5 st (.lst (zs'.reverse++[.bl t])) st=some (.lst (V.bl t::zs').reverse)∧ZU H (upd H5 st (.lst (zs'.reverse++[.bl t]))):=fun t zs' H5 hzn P' hI5 h5 o5=>by
     refine ⟨by rw [List.length_reverse,hzn];exact Zt (by lia),.tru (P'.same fun b n e=>?_),by rw [Zb,List.reverse_cons],GQ (fun b o e=>o5 b o (s4 b o e) (Zl e hst)) hst⟩
     have hbs:b≠st:=qx W1 h4 z4 e
     rw [Zj hbs]
     exact o5 _ _ e hbs
    unfold nextK at hty
    rw [List.reverse_append,List.reverse_replicate,List.reverse_replicate] at hty
    rcases zX y hy with ⟨c1,c2,_,_⟩ | ⟨c1,_,_⟩
    ·rw [c2,List.replicate_zero,List.nil_append] at hty
     obtain ⟨is,rfl,hil,hib⟩:=hty.intsB
     refine ZC fun Gz hGz=>?_
     obtain ⟨ras,zs',rfl,R,P'⟩:=P4.ints
     refine hGz ?_
     clear hGz Gz
     rw [Zbh (2 ^ W) ρ hy c1] at hI'
     have hzn:=P'.len
     refine ⟨_,rfl,.inl ⟨rfl,_,SqL.of h4⟩,_,rfl,_,rfl,y,st,W,zs',rfl,hy,W1,W2,by lia,.inl ⟨ras,is,c1,h4,R,hil,hib,z4,fun H5 h5 o5=>?_⟩⟩
     obtain ⟨f1,f2,f3,f4⟩:=fin _ zs' H5 hzn P' hI' h5 o5
     exact ⟨st,_,_,rfl,rfl,h5,f1,_,_,_,rfl,f2,hI',by rw [List.length_cons];lia,hi,f3,f4⟩
    ·rw [c1,List.replicate_zero,List.append_nil] at hty
     obtain ⟨bs,rfl,hbl⟩:=hty.bls
     obtain ⟨zs',rfl,P'⟩:=P4.bls
     rw [Zbi (2 ^ W) ρ hy c1] at hI'
     have hzn:=P'.len
     refine ⟨_,rfl,.inl ⟨rfl,_,SqL.of h4⟩,_,rfl,_,rfl,y,st,W,zs',rfl,hy,W1,W2,by lia,.inr ⟨bs,c1,h4,hbl,fun H5 h5 o5=>?_⟩⟩
     obtain ⟨f1,f2,f3,f4⟩:=fin _ zs' H5 hzn P' hI' h5 o5
     exact ⟨st,_,_,rfl,rfl,h5,f1,_,_,_,rfl,f2,hI',by rw [List.length_cons];lia,hi,f3,f4⟩
   | false =>
    have hw:X0 ys x:=hw
    obtain ⟨hcut,hflat⟩:=Zaa N hw
    refine ⟨_,rfl,rfl,fun q H3 hq0 hq s3=>⟨10,rfl,q,_,rfl,SqL.of hq,fun q4 hq4=>?_⟩⟩
    rw [y9]
    have v4:=s3.trans (Zc (o:=.lst ((Ye.drop 10).map V.str)) hq4)
    refine ⟨q4,_,rfl,.inl (SqL.of Zb),hflat,YY _,_,rfl,?_⟩
    show if inV x ((Ye.drop 10).map V.str)=true then _ else _
    rw [hcut]
    refine Yh ?_
    generalize upd H3 q4 (.lst ((Ye.drop 10).map V.str))=H4 at *
    clear hq4 hq hq0 s3
    have h4:=v4 _ _ h2
    have P4:=P.same fun b n e=>v4 _ _ e
    have z4:=P4.noint
    have s4:=s2.trans v4
    have hnx:=JL N hw
    have enp:npw x=Wx x:=by rw [←Jb,hnx,List.length_replicate]
    rw [hnx,List.reverse_replicate] at hty
    obtain ⟨is,rfl,hil,hib⟩:=hty.intsB
    refine ZC fun Gz hGz=>?_
    obtain ⟨ras,zs',rfl,R,P'⟩:=P4.ints
    refine hGz ?_
    clear hGz Gz
    rw [sum_cv (2 ^ W) ρ hw N,wV] at hI'
    have hzn:=P'.len
    refine ⟨_,rfl,.inl ⟨rfl,_,SqL.of h4⟩,_,rfl,_,rfl,_,rfl,_,rfl,x,st,dv,W,ys,kvs,ρ,ras,is,zs',rfl,W1,W2,N,hw,s4 _ _ hd,(fun y e hy=>hv y hy (e ▸ hxm)),h4,R,by lia,by lia,z4,fun p H5 hp0 hp5 h5 o5=>?_⟩
    have hps:p≠st:=fun z=>by rw [z,h4] at hp0;cases hp0
    refine ⟨st,_,_,rfl,rfl,h5,?_,some x,.ref p::zs',.int (wwv ρ x is % 2 ^ W)::nd,rfl,.row ?_ (P'.same fun b n e=>?_),hI',?_,hi,?_,GQ (fun b o e=>o5 b o (s4 b o e) (Zl e hst)) hst⟩
    ·rw [List.length_reverse,hzn]
     exact Zt (by lia)
    ·rw [Zj hps,hp5,JN]
    ·have hbs:b≠st:=qx W1 h4 z4 e
     rw [Zj hbs]
     exact o5 _ _ e hbs
    ·rw [List.length_cons]
     lia
    ·rw [Zb,List.reverse_cons]
  ·rintro σ H2 hz_
   refine ZC fun Gz hGz=>?_
   obtain ⟨u4,zs,ns,rfl,P,hI,hsl,_,h2,s2⟩:=hz_
   refine hGz ?_
   clear hGz Gz
   rw [Nat.sub_self] at hI
   have v1:=wW hm ρ N S
   obtain ⟨v,ev⟩:=v1.1
   have e:=hI.1
   rw [List.drop_zero,v1.2 [],ev] at e
   subst e
   cases P with
   | tru P =>
   cases P
   refine ⟨_,rfl,st,_,0,_,rfl,rfl,SqL.of h2,Yo (j:=0) rfl,?_⟩
   rw [←ev]
   exact k _ s2
inductive Jr(vs:List V)(H:Hp)(Q:VK):Prop
 | mk (d c p hv:Addr) (ys:List Str):(vs=[.ref d,.ref p,.ref hv])→(Dr d c p hv ys H H)→(Nms ys)→(hv≠c)→(∀t ws H',H' t=some (.tup ws)→ClaimW ys ws→ws.length≤40→Dr d c p hv ys H H'→Q (.ref t) H')→Jr vs H Q
noncomputable def G7(K:PySem.W.Frag):Sp:=fun vs H Q _=>Jr vs H Q
theorem jk (T:Txt K w mg t) (TB:Tbs mg base t) (XB:Xcl K mg base t):Z7 P w K mg base CX0 5 t.a_law_claim t.f_law_claim ["deck","names","heavy"] (G7 K):=by
 have G_law_take:Z7 P w K mg base CX0 1 t.a_law_take t.f_law_take ["deck","many"] (ZS K):=Yf T TB XB
 have G_law_join:Z7 P w K mg base CX0 2 t.a_law_join t.f_law_join ["deck"] (qL K):=jW T TB XB
 have G_law_atom:Z7 P w K mg base CX0 4 t.a_law_atom t.f_law_atom ["deck","names","heavy","most"] (qP K):=jZ T TB XB
 refine T.d_law_claim.F.ok Z6 (fun vs H Q E h=>?_) (fun cdv A outer s H vs Q E hr h=>?_)
 ·obtain ⟨d,c,p,hv,ys,rfl,R,N,hvc,k⟩:=h
  rfl
 ·obtain ⟨d,c,p,hv,ys,rfl,R,N,hvc,k⟩:=h
  have hu:=ZR hr
  refine ⟨_,@QSs.out _ _ _ (Za (Zr (i:=3) Z6.nd rfl (Or.inl rfl) (Zh G_law_take (hr.mono (by decide)) rfl T.d_law_take.m T.d_law_take.F.kp T.d_law_take.b .nil Zy (Zi (qv 0) (Zi Ze Zd))))
    (Za (Zr (i:=4) Z6.nd rfl (Or.inl rfl) (Z4 Zp (ZA (Zi Ze (Zi Ze (Zi Ze Zd)))) (qv 3) (fun _ _=>rfl)))
    (Za (Zr (i:=5) Z6.nd rfl (Or.inl rfl) (Zh G_law_atom (hr.mono (by decide)) rfl T.d_law_atom.m T.d_law_atom.F.kp T.d_law_atom.b .nil Zy (Zi (qv 0) (Zi (qv 1) (Zi (qv 2) (Zi (qv 4) Zd))))))
    (Za (X8 PassesOwn.never rfl (ZV rfl T.z_range (Zi (qv 3) Zd)) (YD (i:=6) Z6.nd rfl (Or.inl rfl))
    (Za (Z8 (Zo ZI (Zh G_law_take (hr.mono (by decide)) rfl T.d_law_take.m T.d_law_take.F.kp T.d_law_take.b .nil Zy (Zi (qv 0) (Zi Ze Zd))) Ze (Zs _))
    (Zg (Zr (i:=5) Z6.nd rfl (Or.inl rfl) (Zv YF (Jd (Zi Zk Zd)) (qv 5)))) Zq)
    (Za (Zr (i:=7) Z6.nd rfl (Or.inl rfl) (Zh G_law_atom (hr.mono (by decide)) rfl T.d_law_atom.m T.d_law_atom.F.kp T.d_law_atom.b .nil Zy (Zi (qv 0) (Zi (qv 1) (Zi (qv 2) (Zi (qv 4) Zd))))))
    (Za (Zr (i:=8) Z6.nd rfl (Or.inl rfl) (Zh G_law_take (hr.mono (by decide)) rfl T.d_law_take.m T.d_law_take.F.kp T.d_law_take.b .nil Zy (Zi (qv 0) (Zi Ze Zd))))
    (Za (Z8 (Zo ZI (qv 8) Ze (Zs _))
    (Zg (Zr (i:=7) Z6.nd rfl (Or.inl rfl) (Zv YF (Jd (Zi Zk Zd)) (qv 7)))) Zq)
    (Za (Z8 (Zo ZI (qv 8) Ze (Zs _))
    (Zg (Zr (i:=7) Z6.nd rfl (Or.inl rfl) (Zv YF (Zv YF (Zh G_law_join (hr.mono (by decide)) rfl T.d_law_join.m T.d_law_join.F.kp T.d_law_join.b .nil Zy (Zi (qv 0) Zd)) (qv 7)) (Jd (Zi Zk Zd))))) Zq)
    (Za (Z8 (Zo ZI (qv 8) Ze (Zs _))
    (Zg (Zr (i:=7) Z6.nd rfl (Or.inl rfl) (Zv YF (Zv YF (Zv YF (Jd (Zi Zk Zd)) (Zh G_law_join (hr.mono (by decide)) rfl T.d_law_join.m T.d_law_join.F.kp T.d_law_join.b .nil Zy (Zi (qv 0) Zd))) (Jd (Zi Zk Zd))) (qv 7)))) Zq)
    (Za (Zr (i:=9) Z6.nd rfl (Or.inl rfl) (Zh G_law_join (hr.mono (by decide)) rfl T.d_law_join.m T.d_law_join.F.kp T.d_law_join.b .nil Zy (Zi (qv 0) Zd)))
    (Zg (Zr (i:=5) Z6.nd rfl (Or.inl rfl) (Z4 Zp (ZA (Zi (Zv YF (Zv YF (qv 9) (qv 5)) (qv 7)) (Zi (Zv YF (Zv YF (qv 9) (qv 7)) (qv 5)) Zd))) (Zh G_law_take (hr.mono (by decide)) rfl T.d_law_take.m T.d_law_take.F.kp T.d_law_take.b .nil Zy (Zi (qv 0) (Zi Ze Zd))) (fun _ _=>rfl))))))))))))
    (Zg (Zn (Z4 Zp (ZA (Zi (qv 5) (Zi (Zv YF (Jd (Zi Zk Zd)) (qv 5)) Zd))) (Zh G_law_take (hr.mono (by decide)) rfl T.d_law_take.m T.d_law_take.F.kp T.d_law_take.b .nil Zy (Zi (qv 0) (Zi Ze Zd))) (fun _ _=>rfl)))))))),?_⟩
  clear hu hr
  try dsimp only [L2.cxK,L2.cxK2]
  refine L2.let5 ?_
  intro U4 U3 U2 U1
  refine WW fun M0 hM0=>?_
  refine ⟨_,rfl,d,c,3,rfl,R.D,by decide,by decide,fun r H1 r0 r1 D1 o1=>hM0 _ _ ?_⟩
  clear hM0 M0
  obtain ⟨j,rfl⟩:∃j:Nat,r=(j:Int):=⟨r.toNat,by lia⟩
  have hj:j < 3:=by lia
  have R1:=R.off N hvc D1 o1
  refine ZC fun Gz hGz=>?_
  obtain ⟨m,hm,m1,m9,hmj⟩:∃m:Nat,([9,5,4]:List Int).getD j 0=(m:Int)∧1≤m∧m≤9∧(1 + 2 * m) + j * (2 * m + 6)≤37:=by
   have:j=0∨j=1∨j=2:=by lia
   rcases this with rfl | rfl | rfl
   ·exact ⟨9,rfl,by decide,by decide,by decide⟩
   ·exact ⟨5,rfl,by decide,by decide,by decide⟩
   ·exact ⟨4,rfl,by decide,by decide,by decide⟩
  refine hGz ?_
  clear hGz Gz
  refine WW fun M0 hM0=>?_
  refine ⟨by show 3≤sizeLine;decide,fun l hl=>⟨_,rfl,l,([9,5,4]:List Int).map V.int,_,.int (([9,5,4]:List Int).getD j 0),rfl,rfl,SqL.of Zb,Wr j rfl hj,?_⟩⟩
  rw [hm]
  refine hM0 _ _ ?_
  clear hM0 M0
  have R2:=R1.same (Zc (o:=.lst (([9,5,4]:List Int).map V.int)) hl)
  refine WW fun M0 hM0=>?_
  refine ⟨_,rfl,_,rfl,_,rfl,_,rfl,d,c,p,hv,ys,m,rfl,⟨R2.D,R2.p,R2.h,fun _ _ e _ _ _=>e⟩,N,hvc,m1,by lia,fun t0 ws0 H3 ht0 W0 wl0 R3'=>hM0 _ _ ?_⟩
  clear hM0 M0
  have R3:=R2.off3 N R3'.D R3'.h R3'.o
  refine ⟨_,rfl,(j:Int),rfl,by lia,by lia,xo (n:=(j:Int).toNat) (fun i σ H'=>∃tf ws u6 u7 u8 u9,σ=[some (.ref d),some (.ref p),some (.ref hv),some (.int j),some (.int m),some (.ref tf),u6,u7,u8,u9]∧H' tf=some (.tup ws)∧ClaimW ys ws∧ws.length≤(1 + 2 * m) + i * (2 * m + 6)∧i≤j∧Dr d c p hv ys H H') ⟨t0,ws0,none,none,none,none,rfl,ht0,W0,by lia,Nat.zero_le _,R3⟩ ?_ ?_⟩
  ·rintro i σ H4 hi hz_ Nx bx rx hNx
   refine ZC fun Gz hGz=>?_
   obtain ⟨tf,ws,u6,u7,u8,u9,rfl,htf,W,wl,_,R4⟩:=hz_
   refine hGz ?_
   clear hGz Gz
   rw [Int.toNat_natCast] at hi
   obtain ⟨B,hBd⟩:∃B,B=i * (2 * m + 6):=⟨_,rfl⟩
   have hS:(i + 1) * (2 * m + 6)=B + (2 * m + 6):=by rw [hBd,Nat.add_mul,Nat.one_mul]
   have hB:(1 + 2 * m) + (B + (2 * m + 6))≤37:=by rw [←hS];exact Nat.le_trans (Nat.add_le_add_left (Nat.mul_le_mul_right _ hi) _) hmj
   rw [←hBd] at wl
   refine YT ?_
   refine JG (fun σ H'=>∃tf ws,σ=[some (.ref d),some (.ref p),some (.ref hv),some (.int j),some (.int m),some (.ref tf),some (.int (0 + (i:Int))),u7,u8,u9]∧H' tf=some (.tup ws)∧ClaimW ys ws∧ws.length≤2 + 2 * m + B∧Dr d c p hv ys H H') (fun M _ _ _ hM=>?_) ?_
   ·refine ⟨_,rfl,d,c,3,rfl,R4.D,by decide,by decide,fun q H5 q0 q1 D5 o5=>⟨rfl,_,rfl,yc (fun _=>?_) (fun _=>?_)⟩⟩
    ·have R5:=R4.off N hvc D5 o5
     have htf5:=Y4 R4.D htf o5
     refine ⟨by show 1≤sizeLine;decide,fun g hg=>⟨_,rfl,?_⟩⟩
     refine Y1 Zb (Zc hg _ _ htf5) (fun z=>nomatch z) W.ne (by rw [List.length_singleton];lia) fun tc H6 h6 s6=>hM _ _ ⟨tc,_,rfl,h6,W.never,?_,(R5.same (Zc hg)).same s6⟩
     rw [List.length_append,List.length_singleton]
     lia
    ·exact hM _ _ ⟨tf,ws,rfl,Y4 R4.D htf o5,W,by lia,R4.off N hvc D5 o5⟩
   clear htf W wl R4
   rintro σ H5 hz_
   refine ZC fun Gz hGz=>?_
   obtain ⟨tf,ws,rfl,htf,W,wl,R5⟩:=hz_
   refine hGz ?_
   clear hGz Gz
   refine WW fun M0 hM0=>?_
   refine ⟨_,rfl,_,rfl,_,rfl,_,rfl,d,c,p,hv,ys,m,rfl,R5.self,N,hvc,m1,by lia,fun to wo H6 hto Wo wlo R6'=>hM0 _ _ ?_⟩
   clear hM0 M0
   have R6:=R5.off3 N R6'.D R6'.h R6'.o
   have htf6:=R5.tup htf R6'.o
   refine WW fun M0 hM0=>?_
   refine ⟨_,rfl,d,c,4,rfl,R6.D,by decide,by decide,fun q H7 q0 q1 D7 o7=>hM0 _ _ ?_⟩
   clear hM0 M0
   have R7:=R6.off N hvc D7 o7
   have htf7:=Y4 R6.D htf6 o7
   have hto7:=Y4 R6.D hto o7
   refine JG (fun σ H'=>∃to wo,σ=[some (.ref d),some (.ref p),some (.ref hv),some (.int j),some (.int m),some (.ref tf),some (.int (0 + (i:Int))),some (.ref to),some (.int q),u9]∧H' to=some (.tup wo)∧ClaimW ys wo∧wo.length≤2 + 2 * m∧(q≠1→wo.length≤1 + 2 * m)∧H' tf=some (.tup ws)∧Dr d c p hv ys H H') (fun M _ _ _ hM=>?_) ?_
   ·refine ⟨_,rfl,rfl,_,rfl,yc (fun hq=>?_) (fun hq=>?_)⟩
    ·have hq1:q=1:=by
      have:=of_decide_eq_true hq
      injection this
     refine ⟨by show 1≤sizeLine;decide,fun g hg=>⟨_,rfl,?_⟩⟩
     refine Y1 Zb (Zc hg _ _ hto7) (fun z=>nomatch z) Wo.ne (by rw [List.length_singleton];lia) fun tc H8 h8 s8=>hM _ _ ⟨tc,_,rfl,h8,Wo.never,?_,(fun z=>absurd hq1 z),s8 _ _ (Zc hg _ _ htf7),(R7.same (Zc hg)).same s8⟩
     rw [List.length_append,List.length_singleton]
     lia
    ·exact hM _ _ ⟨to,wo,rfl,hto7,Wo,by lia,(fun _=>wlo),htf7,R7⟩
   clear hto Wo wlo hto7 htf7 R7
   rintro σ H8 hz_
   refine ZC fun Gz hGz=>?_
   obtain ⟨to,wo,rfl,hto8,Wo,wlo,wlo1,htf8,R8⟩:=hz_
   refine hGz ?_
   clear hGz Gz
   show ZT (Zbr _ _ _) _ _ _ _
   refine JG (fun σ H'=>∃to wo,σ=[some (.ref d),some (.ref p),some (.ref hv),some (.int j),some (.int m),some (.ref tf),some (.int (0 + (i:Int))),some (.ref to),some (.int q),u9]∧H' to=some (.tup wo)∧ClaimW ys wo∧wo.length≤3 + 2 * m∧(q=3→wo.length≤1 + 2 * m)∧H' tf=some (.tup ws)∧Dr d c p hv ys H H') (fun M _ _ _ hM=>?_) ?_
   ·refine ⟨_,rfl,rfl,_,rfl,yc (fun hq=>?_) (fun hq=>?_)⟩
    ·have hq2:q=2:=by
      have:=of_decide_eq_true hq
      injection this
     have wl2:=wlo1 (by lia)
     refine ⟨_,rfl,d,c,rfl,R8.D,fun tj y H9 htj hy D9 o9=>⟨_,rfl,?_⟩⟩
     have R9:=R8.off N hvc D9 o9
     refine Y1 htj (Y4 R8.D hto8 o9) (fun z=>nomatch z) Wo.ne (by rw [List.length_singleton];lia) fun ta HA hA sA=>⟨by show 1≤sizeLine;decide,fun g hg=>?_⟩
     refine Y1 (Zc hg _ _ hA) Zb (fun z=>nomatch z) (fun z=>nomatch z) (by rw [List.length_append,List.length_singleton,List.length_singleton];lia) fun tb HB hB sB=>hM _ _ ⟨tb,_,rfl,hB,Wo.join hy ClaimW.yes,?_,(fun z=>by lia),sB _ _ (Zc hg _ _ (sA _ _ (Y4 R8.D htf8 o9))),((R9.same sA).same (Zc hg)).same sB⟩
     rw [List.length_append,List.length_append,List.length_singleton,List.length_singleton]
     lia
    ·exact hM _ _ ⟨to,wo,rfl,hto8,Wo,by lia,(fun z=>wlo1 (by lia)),htf8,R8⟩
   clear hto8 Wo wlo wlo1 htf8 R8
   rintro σ H8 hz_
   refine ZC fun Gz hGz=>?_
   obtain ⟨to,wo,rfl,hto8,Wo,wlo,wlo1,htf8,R8⟩:=hz_
   refine hGz ?_
   clear hGz Gz
   show ZT (Zbr _ _ _) _ _ _ _
   refine JG (fun σ H'=>∃to wo,σ=[some (.ref d),some (.ref p),some (.ref hv),some (.int j),some (.int m),some (.ref tf),some (.int (0 + (i:Int))),some (.ref to),some (.int q),u9]∧H' to=some (.tup wo)∧ClaimW ys wo∧wo.length≤4 + 2 * m∧H' tf=some (.tup ws)∧Dr d c p hv ys H H') (fun M _ _ _ hM=>?_) ?_
   ·refine ⟨_,rfl,rfl,_,rfl,yc (fun hq=>?_) (fun hq=>?_)⟩
    ·have hq2:q=3:=by
      have:=of_decide_eq_true hq
      injection this
     have wl2:=wlo1 hq2
     refine ⟨by show 1≤sizeLine;decide,fun g hg=>⟨_,rfl,d,c,rfl,R8.D.same (Zc hg),fun tj y H9 htj hy D9 o9=>?_⟩⟩
     have R8g:=R8.same (Zc (o:=.tup [.str "never"]) hg)
     have R9:=R8g.off N hvc D9 o9
     have hto9:=Y4 R8g.D (Zc hg _ _ hto8) o9
     have htf9:=Y4 R8g.D (Zc hg _ _ htf8) o9
     refine Y1 (Y4 R8g.D Zb o9) htj (fun z=>nomatch z) (fun z=>nomatch z) (by show 2≤1000;decide) fun ta HA hA sA=>⟨by show 1≤sizeLine;decide,fun g2 hg2=>?_⟩
     refine Y1 (Zc hg2 _ _ hA) Zb (fun z=>nomatch z) (fun z=>nomatch z) (by show 3≤1000;decide) fun tb HB hB sB=>⟨_,rfl,?_⟩
     have sAB:=sA.trans ((Zc hg2).trans sB)
     refine Y1 hB (sAB _ _ hto9) (fun z=>nomatch z) Wo.ne (by show 3 + wo.length≤1000;lia) fun te HE hE sE=>hM _ _ ⟨te,_,rfl,hE,(ClaimW.join hy ClaimW.yes Wo).never,?_,sE _ _ (sAB _ _ htf9),(R9.same sAB).same sE⟩
     rw [List.length_append]
     show 3 + wo.length≤_
     lia
    ·exact hM _ _ ⟨to,wo,rfl,hto8,Wo,by lia,htf8,R8⟩
   clear hto8 Wo wlo wlo1 htf8 R8
   rintro σ H8 hz_
   refine ZC fun Gz hGz=>?_
   obtain ⟨to,wo,rfl,hto8,Wo,wlo,htf8,R8⟩:=hz_
   refine hGz ?_
   clear hGz Gz
   refine WW fun M0 hM0=>?_
   refine ⟨_,rfl,d,c,rfl,R8.D,fun tj y H9 htj hy D9 o9=>hM0 _ _ ?_⟩
   clear hM0 M0
   have R9:=R8.off N hvc D9 o9
   have hto9:=Y4 R8.D hto8 o9
   have htf9:=Y4 R8.D htf8 o9
   refine uz fun M0 hM0=>?_
   refine ⟨_,rfl,_,rfl,Y1 htj htf9 (fun z=>nomatch z) W.ne (by rw [List.length_singleton];lia) fun a1 HA hA sA=>⟨_,rfl,?_⟩⟩
   refine Y1 hA (sA _ _ hto9) (fun z=>nomatch z) Wo.ne (by rw [List.length_append,List.length_singleton];lia) fun a2 HB hB sB=>?_
   have s2:=sA.trans sB
   refine ⟨_,rfl,_,rfl,Y1 (s2 _ _ htj) (s2 _ _ hto9) (fun z=>nomatch z) Wo.ne (by rw [List.length_singleton];lia) fun b1 HC hC sC=>⟨_,rfl,?_⟩⟩
   refine Y1 hC (sC _ _ (s2 _ _ htf9)) (fun z=>nomatch z) W.ne (by rw [List.length_append,List.length_singleton];lia) fun b2 HE hE sE=>⟨by show 2≤sizeLine;decide,fun l hl=>?_⟩
   have s4:=s2.trans (sC.trans sE)
   have R10:=(R9.same s4).same (Zc (o:=.lst [.ref a2,.ref b2]) hl)
   have ln:=YO (R9.same s4).D hl
   have ha2:=Zc (o:=.lst [.ref a2,.ref b2]) hl _ _ (sE _ _ (sC _ _ hB))
   have hb2:=Zc (o:=.lst [.ref a2,.ref b2]) hl _ _ hE
   refine ⟨_,rfl,d,c,2,rfl,R10.D,by decide,by decide,fun q2 H11 q20 q21 D11 o11=>?_⟩
   have R11:=R10.off N hvc D11 o11
   have hl11:=o11 _ _ Zb ln.1 ln.2
   have hq2:q2=0∨q2=1:=by lia
   rcases hq2 with rfl | rfl
   ·refine ⟨l,_,0,.ref a2,rfl,rfl,SqL.of hl11,rfl,hM0 _ _ (hNx _ _ ⟨a2,_,some (.int (0 + (i:Int))),some (.ref to),some (.int q),some (.ref tj),rfl,Y4 R10.D ha2 o11,W.join hy Wo,?_,hi,R11⟩)⟩
    rw [List.length_append,List.length_append,List.length_singleton,hS]
    lia
   ·refine ⟨l,_,1,.ref b2,rfl,rfl,SqL.of hl11,rfl,hM0 _ _ (hNx _ _ ⟨b2,_,some (.int (0 + (i:Int))),some (.ref to),some (.int q),some (.ref tj),rfl,Y4 R10.D hb2 o11,Wo.join hy W,?_,hi,R11⟩)⟩
    rw [List.length_append,List.length_append,List.length_singleton,hS]
    lia
  ·rintro σ H4 hz_
   refine ZC fun Gz hGz=>?_
   obtain ⟨tf,ws,u6,u7,u8,u9,rfl,htf,W,wl,_,R4⟩:=hz_
   refine hGz ?_
   clear hGz Gz
   rw [Int.toNat_natCast] at wl
   refine ⟨_,rfl,by show 1≤sizeLine;decide,fun g hg=>⟨_,rfl,?_⟩⟩
   refine Y1 Zb (Zc hg _ _ htf) (fun z=>nomatch z) W.ne (by rw [List.length_singleton];lia) fun tn H5 h5 s5=>⟨by show 2≤sizeLine;decide,fun l hl=>?_⟩
   have R5:=(R4.same (Zc hg)).same s5
   have R6:=R5.same (Zc (o:=.lst [.ref tf,.ref tn]) hl)
   have ln:=YO R5.D hl
   have hn6:=Zc (o:=.lst [.ref tf,.ref tn]) hl _ _ h5
   have ht6:=Zc (o:=.lst [.ref tf,.ref tn]) hl _ _ (s5 _ _ (Zc hg _ _ htf))
   refine ⟨_,rfl,d,c,2,rfl,R6.D,by decide,by decide,fun q2 H7 q20 q21 D7 o7=>?_⟩
   have R7:=R6.off N hvc D7 o7
   have hl7:=o7 _ _ Zb ln.1 ln.2
   have hq2:q2=0∨q2=1:=by lia
   rcases hq2 with rfl | rfl
   ·exact ⟨l,_,0,.ref tf,rfl,rfl,SqL.of hl7,rfl,k tf ws H7 (Y4 R6.D ht6 o7) W (by lia) R7⟩
   ·refine ⟨l,_,1,.ref tn,rfl,rfl,SqL.of hl7,rfl,k tn _ H7 (Y4 R6.D hn6 o7) W.never ?_ R7⟩
    rw [List.length_append,List.length_singleton]
    lia
inductive qQ(P:Program)(w:World)(K:PySem.W.Frag)(mg:Str→Option Value)(base:Heap)(vs:List V)(H:Hp)(Q:VK):Prop
 | mk (tw f:Addr) (ws:List V) (τ:Sp) (I:Nat→List V→Prop) (v0:V):(vs=[.ref tw,.ref f])→(H tw=some (.tup ws))→(ws.length≤60)→(Xl P w K mg base 12 f H τ)→((∀x∈ws,x=kV (keyOf x)))→(I ws.length [])→((∀i x stk,ws[i]?=some x→I (i + 1) stk→npw x≤stk.length∧∃v,I i (v::stk.drop (npw x))∧∀pl H1 (Q':VK),H1 pl=some (.lst (stk.take (npw x)))→ZU H H1→(∀H2,ZU H1 H2→Q' v H2)→τ [x,.ref pl] H1 Q' E0))→((∀stk,I 0 stk→stk=[v0]))→(∀H',ZU H H'→Q v0 H')→qQ P w K mg base vs H Q
noncomputable def jl(P:Program)(w:World)(K:PySem.W.Frag)(mg:Str→Option Value)(base:Heap):Sp:=fun vs H Q _=>qQ P w K mg base vs H Q
theorem gx (T:Txt K w mg t) (TB:Tbs mg base t) (XB:Xcl K mg base t):Z7 P w K mg base CX0 13 t.a_folded t.f_folded ["words","told_of"] (jl P w K mg base):=by
 have G_parts_taken:Z7 P w K mg base CX0 3 t.a_parts_taken t.f_parts_taken ["stack","word"] (Jp K):=xc T TB XB
 refine T.d_folded.F.ok JR (fun vs H Q E h=>?_) (fun cdv A outer s H vs Q E hr h=>?_)
 ·obtain ⟨tw,f,ws,τ,I,v0,rfl,ht,hl,hc,hk,h0,hstep,hend,k⟩:=h
  rfl
 ·obtain ⟨tw,f,ws,τ,I,v0,rfl,ht,hl,hc,hk,h0,hstep,hend,k⟩:=h
  have hu:=ZR hr
  refine ⟨_,@QSs.out _ _ _ (Za (Zr (i:=2) JR.nd rfl (Or.inl rfl) (ZA Zd))
    (Za (X8 PassesOwn.never rfl (kK rfl T.z_reversed (qv 0)) (YD (i:=3) JR.nd rfl (Or.inl rfl))
    (Za (Zr (i:=4) JR.nd rfl (Or.inl rfl) (Zh G_parts_taken (hr.mono (by decide)) rfl T.d_parts_taken.m T.d_parts_taken.F.kp T.d_parts_taken.b .nil Zy (Zi (qv 2) (Zi (qv 3) Zd))))
    (Zg (Wj (Ww PySem.F.plainAttrs_list PySem.F.slot_list_append PySem.F.type_list_append YX (qv 2) (Zi (uc (k:=12) 1 (hr.mono (by decide)) (Zi (qv 3) (Zi (qv 4) Zd))) Zd))))))
    (Zg (Zn (z9 PySem.F.plainAttrs_list PySem.F.slot_list_pop PySem.F.type_list_pop zy (qv 2)))))),?_⟩
  clear hu hr
  try dsimp only [L2.cxK,L2.cxK2]
  refine L2.let3 ?_
  intro U2 U1
  refine ⟨by show 0≤sizeLine;decide,fun st hst=>?_⟩
  have s1:=Zc (o:=.lst []) hst
  refine ⟨_,rfl,tw,_,rfl,SqT.of (s1 _ _ ht),kL (K:=K) (a:=tw) (xs:=ws) (fun i σ H2=>∃u3 u4 stk,σ=[some (.ref tw),some (.ref f),some (.ref st),u3,u4]∧I (ws.length - i) stk∧stk.length≤i∧i≤ws.length∧H2 st=some (.lst stk.reverse)∧ZU H H2) ⟨none,none,[],rfl,h0,Nat.le_refl _,Nat.zero_le _,Zb,s1⟩ (fun i σ H2 _ ⟨_,_,_,_,_,_,_,_,s⟩=>SqT.of (s _ _ ht)) ?_ ?_⟩
  ·rintro i x σ H2 hx hz_
   refine ZC fun Gz hGz=>?_
   obtain ⟨u3,u4,stk,rfl,hI,hsl,_,h2,s2⟩:=hz_
   refine hGz ?_
   clear hGz Gz
   obtain ⟨hi,hx⟩:=Zbg hx
   have e1:ws.length - 1 - i + 1=ws.length - i:=by lia
   obtain ⟨hn,v,hv,hτ⟩:=hstep _ x stk hx (by rw [e1];exact hI)
   refine ⟨_,rfl,_,rfl,st,stk,x,rfl,h2,hk x (List.mem_of_getElem? hx),hn,by lia,fun pl H3 hpl hpl3 hst3 o3=>?_⟩
   have s3:ZU H H3:=fun b o e=>o3 b o (s2 b o e) (Zl e hst)
   refine ⟨_,rfl,.inl ⟨rfl,_,SqL.of hst3⟩,f,τ,rfl,hc.frz s3.frz,_,rfl,_,rfl,Gr.refl _,hτ pl H3 _ hpl3 s3 fun H4 s4=>?_⟩
   have hst4:=s4 _ _ hst3
   refine ⟨st,_,v,rfl,rfl,hst4,?_,some x,some (.ref pl),v::stk.drop (npw x),rfl,?_,?_,hi,?_,GQ (s3.trans s4) hst⟩
   ·rw [List.length_reverse,List.length_drop]
    exact Zt (by lia)
   ·rw [show ws.length - (i + 1)=ws.length - 1 - i by lia]
    exact hv
   ·rw [List.length_cons,List.length_drop]
    lia
   ·rw [Zb,List.reverse_cons]
  ·rintro σ H2 hz_
   refine ZC fun Gz hGz=>?_
   obtain ⟨u3,u4,stk,rfl,hI,hsl,_,h2,s2⟩:=hz_
   refine hGz ?_
   clear hGz Gz
   rw [Nat.sub_self] at hI
   have e:=hend stk hI
   subst e
   exact ⟨_,rfl,.inl ⟨rfl,_,SqL.of h2⟩,st,_,v0,rfl,rfl,h2,rfl,k _ (GQ s2 hst)⟩
inductive x8(pw C:Addr)(vs:List V)(H:Hp)(Q:VK)(E:XK):Prop
 | mk (tw dv:Addr) (W:Nat) (ys:List Str) (ws:List V) (kvs:List (Key × V)) (ρ:Str→Int):(vs=[.ref tw,.int W,.ref dv])→(W≤60)→(H tw=some (.tup ws))→(Nms ys)→(ClaimW ys ws)→(ws.length≤60)→(H dv=some (.dK kvs))→((Z5 kvs ws=none→jN kvs ys ws ρ))→(Tb H pw)→((Z5 kvs ws=none→∀H',Tb H' pw→Zda pw H H'→Q (Zdo (2 ^ W) ρ ws) H'))→(∀y,Z5 kvs ws=some y→Told C y H E)→x8 pw C vs H Q E
noncomputable def zm(K:PySem.W.Frag)(pw C:Addr):Sp:=fun vs H Q E=>x8 pw C vs H Q E
theorem yB (T:Txt K w mg t) (TB:Tbs mg base t) (XB:Xcl K mg base t):Z7 P w K mg base (CXD P w) 14 t.a_holds t.f_holds ["claim","width","values"] (zm K t.p_holds t.x_NoName):=by
 have G_folded:Z7 P w K mg base CX0 13 t.a_folded t.f_folded ["words","told_of"] (jl P w K mg base):=gx T TB XB
 have G_told_of_word:Z7 P w K mg base CX0 3 t.a_told_of_word t.f_told_of_word ["word","parts","many","values"] (WS K):=qN T TB XB
 have G_words_at:Z7 P w K mg base CX0 1 t.a_words_at t.f_words_at ["width"] (qD K):=jR T TB XB
 have G_refuse_lacking:Z7 P w K mg base (CXD P w) 3 t.a_refuse_lacking t.f_refuse_lacking ["words","values"] (Wg K t.x_NoName):=Gv T TB XB
 refine T.d_holds.F.okCD yA (fun vs H Q E h=>?_) (fun A outer s H vs Q E hr h=>?_)
 ·obtain ⟨tw,dv,W,ys,ws,kvs,ρ,rfl,hW,ht,N,S,hl,hd,hv0,B,k0,ke⟩:=h
  rfl
 ·obtain ⟨tw,dv,W,ys,ws,kvs,ρ,rfl,hW,ht,N,S,hl,hd,hv0,B,k0,ke⟩:=h
  have hu:=ZR hr
  refine ⟨_,@QSs.out _ _ _ (Za (Wj (Zh G_refuse_lacking (hr.mono (by decide)) rfl T.d_refuse_lacking.m T.d_refuse_lacking.F.kp T.d_refuse_lacking.b .nil FnD.of.passes (Zi (qv 0) (Zi (qv 2) Zd))))
    (Za (Zr (i:=3) yA.nd rfl (Or.inr rfl) (Zh G_words_at (hr.mono (by decide)) rfl T.d_words_at.m T.d_words_at.F.kp T.d_words_at.b .nil Zy (Zi (qv 1) Zd)))
    (Zg (Zn (ub (kl:=11) G_folded (hr.mono (by decide)) rfl T.d_folded.m T.d_folded.F.kp T.d_folded.b rfl (qv 0) T.k_holds TB.c_holds TB.B rfl rfl rfl rfl (⟨⟨by rfl,by rfl,by rfl,by decide +kernel,by decide +kernel,by decide +kernel,by decide +kernel⟩,by decide +kernel,by decide +kernel,by rfl⟩:Zec (Zf J3) _ ["claim","width","values","many"] ["word","parts"] ["many","values"] [3,2]) (fun _ _ _ _ us hl=>match us,hl with | [_,_],_=>rfl) (fun _ _ _ _ _ _ _ hrl=>(Zh G_told_of_word (hrl.mono (by decide)) rfl T.d_told_of_word.m T.d_told_of_word.F.kp T.d_told_of_word.b .nil Zy (Zi (qv 0) (Zi (qv 1) (Zi (qv 2) (Zi (qv 3) Zd))))))))))),?_⟩
  clear hu hr
  try dsimp only [L2.cxK,L2.cxK2]
  refine L2.let3 ?_
  intro U2 U1
  have hm:=JI W
  have hcw:=Jg.words S
  refine ⟨_,rfl,_,rfl,tw,dv,ws,kvs,rfl,ht,hd,(fun w hw=>uI N (hcw w hw)),fun hlk H1 s1=>?_,ke⟩
  have hv:=hv0 hlk
  have k:=k0 hlk
  refine ⟨_,rfl,W,rfl,by lia,?_⟩
  have B1:=B.same s1
  refine ⟨_,rfl,B1.w,fun cs f H2 hcs hfz hf hT2 o2 hc=>?_⟩
  obtain ⟨ls,L,hls0⟩:=Jg.at S rfl
  have ht2:=o2 _ _ (s1 _ _ ht) (by obtain ⟨ps,e⟩:=B1.w.ex;exact ZK (s1 _ _ ht) e (fun z=>nomatch z))
  have hd2:=o2 _ _ (s1 _ _ hd) (by obtain ⟨ps,e⟩:=B1.w.ex;exact ZK (s1 _ _ hd) e (fun z=>nomatch z))
  have v1:=wW hm ρ N S
  refine ⟨tw,f,ws,_,wX (2 ^ W) ρ ws ls,Zdo (2 ^ W) ρ ws,rfl,ht2,hl,hc,(fun x hx=>zV (hcw x hx)),⟨by rw [List.drop_length];rfl,by rw [L.1];exact .nil⟩,fun i x stk hx hI=>?_,fun stk hI=>?_,fun H3 s3=>?_⟩
  ·obtain ⟨h1,h2,b,hw,hty⟩:=yt hm N L hx hI
   refine ⟨h1,_,h2,fun pl H1' Q' hpl sH hQ=>⟨rfl,?_⟩⟩
   have hcv:=cv_ok1 N hw (List.mem_of_getElem? hx) hv hty
   have hpl':=zK hfz sH hpl (fun o z=>nomatch z)
   have hdv':=zK hfz sH (sH _ _ hd2) (fun o z=>nomatch z)
   refine ⟨_,rfl,_,rfl,_,rfl,_,rfl,x,pl,dv,_,_,kvs,ρ,rfl,hpl',hdv',hm,hcv,?_⟩
   try dsimp only
   intro _
   rw [j9]
   exact hQ H1' (ZU.refl _)
  ·obtain ⟨h1,_⟩:=hI
   rw [h1,List.drop_zero]
   exact v1.2 []
  ·have keep:∀b o,H b=some o→b≠t.p_holds→hide cs H3 b=some o:=fun b o e hb=>by
    have e1:=s1 _ _ e
    rw [ZF (fun m=>by rw [hcs b m] at e1;cases e1)]
    exact s3 _ _ (o2 _ _ e1 hb)
   exact k _ ⟨hT2 H3 s3⟩ keep
inductive W8(pw:Addr)(vs:List V)(H:Hp)(Q:VK):Prop
 | mk (tw dv:Addr) (W:Nat) (ys:List Str) (ws:List V) (kvs:List (Key × V)) (ρ:Str→Int) (y:Str):(vs=[.ref tw,.int W,.ref dv,.str y])→(W≤60)→(H tw=some (.tup ws))→(Nms ys)→(ClaimW ys ws)→(ws.length≤60)→(H dv=some (.dK kvs))→(Z5 kvs ws=some y)→(Tb H pw)→(∀H',ZU H H'→Q (.bl true) H')→W8 pw vs H Q
noncomputable def Js(K:PySem.W.Frag)(pw:Addr):Sp:=fun vs H Q _=>W8 pw vs H Q
theorem xf (T:Txt K w mg t) (TB:Tbs mg base t) (XB:Xcl K mg base t):Z7 P w K mg base CX0 15 t.a_law_refused t.f_law_refused ["claim","width","values","name"] (Js K t.p_holds):=by
 have G_holds:Z7 P w K mg base (CXD P w) 14 t.a_holds t.f_holds ["claim","width","values"] (zm K t.p_holds t.x_NoName):=yB T TB XB
 refine T.d_law_refused.F.ok YU (fun vs H Q E h=>?_) (fun cdv A outer s H vs Q E hr h=>?_)
 ·obtain ⟨tw,dv,W,ys,ws,kvs,ρ,y,rfl,hW,ht,N,S,hl,hd,hlk,B,k⟩:=h
  rfl
 ·obtain ⟨tw,dv,W,ys,ws,kvs,ρ,y,rfl,hW,ht,N,S,hl,hd,hlk,B,k⟩:=h
  have hu:=ZR hr
  refine ⟨_,@QSs.out _ _ _ (Za (Zr (i:=4) YU.nd rfl (Or.inl rfl) qe_non)
    (Za (Zc1 (j:=5) rfl rfl rfl G_holds (hr.mono (by decide)) rfl T.d_holds.m T.d_holds.F.kp T.d_holds.b (fun _=>(Zi (qv 0) (Zi (qv 1) (Zi (qv 2) Zd)))) YU.nd rfl rfl rfl XB.o_WidthError (fun _ _=>(Zg (Zr (i:=4) YU.nd rfl (Or.inl rfl) (qv 5)))))
    (Za (Z8 (Jc (Z1 xO (by rfl) T.z_isinstance Yb (Zi (qv 4) (Zi (Jd (Zi (Y3 (v:=.ref t.x_NoAsk) rfl XB.m_NoAsk rfl) (Zi (Y3 (v:=.ref t.x_NoClaim) rfl XB.m_NoClaim rfl) (Zi (Y3 (v:=.ref t.x_NoShorter) rfl XB.m_NoShorter rfl) (Zi (Y3 (v:=.ref t.x_NoSum) rfl XB.m_NoSum rfl) (Zi (Y3 (v:=.ref t.x_NoTurning) rfl XB.m_NoTurning rfl) (Zi (Y3 (v:=.ref t.x_NoWords) rfl XB.m_NoWords rfl) Zd))))))) Zd))))
    (Zg (Zn xC)) Zq)
    (Zg (Zn (xh (Z1 xO (by rfl) T.z_isinstance Yb (Zi (qv 4) (Zi (Y3 (v:=.ref t.x_NoName) rfl XB.m_NoName rfl) Zd))) (xh (Z1 xO (by rfl) T.z_isinstance Yb (Zi (qv 4) (Zi (qb (v:=.ty "ValueError") (by rfl) T.z_ValueError xN rfl) Zd))) (JA (ZJ ZI (Zcv (qv 4) rfl) (qv 3) (Zs _)))))))))),?_⟩
  clear hu hr
  try dsimp only [L2.cxK,L2.cxK2]
  refine L2.let4 ?_
  intro U3 U2 U1
  refine ⟨_,rfl,_,rfl,_,rfl,tw,dv,W,ys,ws,kvs,ρ,rfl,hW,ht,N,S,hl,hd,(fun z=>by rw [hlk] at z;cases z),B,(fun z=>by rw [hlk] at z;cases z),fun y' hy' e d H2 s2 he hdd=>?_⟩
  rw [hlk] at hy'
  cases hy'
  refine ⟨t.x_NoName,e,rfl,rfl,XB.b_NoName,_,rfl,?_⟩
  refine ⟨_,rfl,by show 6≤sizeLine;decide,fun tp htp=>?_⟩
  have s5:=Zc (o:=.tup [.ref t.x_NoAsk,.ref t.x_NoClaim,.ref t.x_NoShorter,.ref t.x_NoSum,.ref t.x_NoTurning,.ref t.x_NoWords]) htp
  have he5:=s5 _ _ he
  refine ⟨e,_,t.x_NoName,d,false,rfl,he5,XB.c_NoName,.inr (.inr ⟨tp,[t.x_NoAsk,t.x_NoClaim,t.x_NoShorter,t.x_NoSum,t.x_NoTurning,t.x_NoWords],rfl,Zb,XB.q_not⟩),_,rfl,Yh ?_⟩
  refine ⟨_,rfl,e,_,t.x_NoName,d,true,rfl,he5,XB.c_NoName,.inr (.inl ⟨t.x_NoName,rfl,uO⟩),_,rfl,YB ?_⟩
  refine ⟨_,rfl,e,_,t.x_NoName,d,true,rfl,he5,XB.c_NoName,.inl ⟨"ValueError",rfl,XB.q_val⟩,_,rfl,YB ?_⟩
  refine ⟨_,rfl,e,_,d,_,_,rfl,he5,s5 _ _ hdd,XB.at_NoName,rfl,_,rfl,rfl,?_⟩
  rw [decide_eq_true rfl]
  exact k _ (s2.trans s5)
inductive Jt(pw:Addr)(vs:List V)(H:Hp)(Q:VK):Prop
 | mk (d c p tw:Addr) (ys:List Str) (ws:List V) (W:Nat):(vs=[.ref d,.ref p,.ref tw,.int W])→(Z0 H d c)→(H p=some (.lst (ys.map V.str)))→(Nms ys)→(H tw=some (.tup ws))→(ClaimW ys ws)→(ws.length≤60)→(1≤W)→(W≤60)→(Tb H pw)→(∀H',Z0 H' d c→Tb H' pw→OffD d c pw H H'→Q (.bl true) H')→Jt pw vs H Q
noncomputable def G8(K:PySem.W.Frag)(pw:Addr):Sp:=fun vs H Q _=>Jt pw vs H Q
theorem jm (T:Txt K w mg t) (TB:Tbs mg base t) (XB:Xcl K mg base t):Z7 P w K mg base CX0 16 t.a_law_right t.f_law_right ["deck","names","claim","width"] (G8 K t.p_holds):=by
 have G_holds:Z7 P w K mg base (CXD P w) 14 t.a_holds t.f_holds ["claim","width","values"] (zm K t.p_holds t.x_NoName):=yB T TB XB
 have G_law_refused:Z7 P w K mg base CX0 15 t.a_law_refused t.f_law_refused ["claim","width","values","name"] (Js K t.p_holds):=xf T TB XB
 have G_law_take:Z7 P w K mg base CX0 1 t.a_law_take t.f_law_take ["deck","many"] (ZS K):=Yf T TB XB
 have G_law_holds:Z7 P w K mg base CX0 4 t.a_law_holds t.f_law_holds ["claim","width","values"] (G6 K):=jj T TB XB
 have G_law_values:Z7 P w K mg base CX0 2 t.a_law_values t.f_law_values ["deck","names","width"] (Gh K):=zl T TB XB
 refine T.d_law_right.F.ok Yv (fun vs H Q E h=>?_) (fun cdv A outer s H vs Q E hr h=>?_)
 ·obtain ⟨d,c,p,tw,ys,ws,W,rfl,D,hp,N,ht,S,hl,W1,W60,B,k⟩:=h
  rfl
 ·obtain ⟨d,c,p,tw,ys,ws,W,rfl,D,hp,N,ht,S,hl,W1,W60,B,k⟩:=h
  have hu:=ZR hr
  refine ⟨_,@QSs.out _ _ _ (Za (Zr (i:=4) Yv.nd rfl (Or.inr rfl) (Zh G_law_values (hr.mono (by decide)) rfl T.d_law_values.m T.d_law_values.F.kp T.d_law_values.b .nil Zy (Zi (qv 0) (Zi (qv 1) (Zi (qv 3) Zd)))))
    (Za (Zr (i:=5) Yv.nd rfl (Or.inl rfl) (Zh G_law_holds (hr.mono (by decide)) rfl T.d_law_holds.m T.d_law_holds.F.kp T.d_law_holds.b .nil Zy (Zi (qv 2) (Zi (qv 3) (Zi (qv 4) Zd)))))
    (Za (Zr (i:=6) Yv.nd rfl (Or.inl rfl) (Yq yP (by rfl) T.z_dict kO (Zi (qv 4) Zd)))
    (Za (Zr (i:=7) Yv.nd rfl (Or.inl rfl) (Zh G_holds (hr.mono (by decide)) rfl T.d_holds.m T.d_holds.F.kp T.d_holds.b .nil w4 (Zi (qv 2) (Zi (qv 3) (Zi (qv 6) Zd)))))
    (Za (Z8 (kE (Zca (ye (Jc (Z1 GI (by rfl) T.z_isinstance Yb (Zi (qv 7) (Zi (qb (v:=.ty "bool") (by rfl) T.z_bool Zb9 rfl) Zd))))) (Zca (Zo Zbw (qv 7) (qv 5) (Zs _)) (Za0 (Zo (op_neD (JB hr)) (qv 6) (qv 4) (Zs _))))))
    (Zg (Zn xC)) Zq)
    (Za (kW hu (qv 6) Zk Ze rfl)
    (Za (Z8 (kE (yd (Zo X6 Zk (qv 1) (by with_unfolding_all rfl)) (jx (Zo Zbw (Zh G_holds (hr.mono (by decide)) rfl T.d_holds.m T.d_holds.F.kp T.d_holds.b .nil w4 (Zi (qv 2) (Zi (qv 3) (Zi (qv 6) Zd)))) (qv 7) (Zs _)))))
    (Zg (Zn xC)) Zq)
    (Za (Zr (i:=8) Yv.nd rfl (Or.inr rfl) (Yq (yS rfl) (by rfl) T.z_dict kO (Zi (J0 (⟨by rfl,by decide +kernel,by decide +kernel,by rfl,by decide +kernel,by decide +kernel,by rfl,by decide +kernel⟩:ZW (Zf Yt) _ ["deck","names","claim","width","values","due","handed","found","fewer","lacking"] "name" ["values","deck"] [4,0]) (xD (qv 1)) (fun _ _ _ _=>(kG (Zo ZI (Zh G_law_take (hr.mono (by decide)) rfl T.d_law_take.m T.d_law_take.F.kp T.d_law_take.b .nil Zy (Zi (qv 2) (Zi Ze Zd))) Ze (Zs _)))) (fun _ _ _ _=>(Jd (Zi (qv 0) (Zi (j6 hu (qv 1) (qv 0) (fun _ _=>rfl)) Zd))))) Zd)))
    (Za (Zcc (i:=9) Yv.nd rfl rfl (⟨by rfl,by decide +kernel,by decide +kernel,by rfl,by decide +kernel,by decide +kernel,by rfl,by decide +kernel⟩:ZW (Zf Yt) _ ["deck","names","claim","width","values","due","handed","found","fewer","lacking"] "word" ["names","fewer"] [1,8]) (Za1 (qv 2)) (fun _ _ _ _=>(kG (kE (yd (Zo (show OpR _ (compareOp .In) (rIn K false) from Xw) (qv 0) (qv 1) (by with_unfolding_all rfl)) (jx (Zo (JC hu) (qv 0) (qv 2) (by with_unfolding_all rfl))))))) (fun _ _ _ _=>(qv 0)))
    (Za (Z8 (Zo (Zcm (JB hr)) (qv 9) (ZA Zd) (Zs _))
    (Zg (Zn (Zh G_law_refused (hr.mono (by decide)) rfl T.d_law_refused.m T.d_law_refused.F.kp T.d_law_refused.b .nil Zy (Zi (qv 2) (Zi (qv 3) (Zi (qv 8) (Zi (Z4 Zp (qv 9) Ze (fun _ _=>rfl)) Zd))))))) Zq)
    (Zg (Zn (ZJ ZI (Zh G_holds (hr.mono (by decide)) rfl T.d_holds.m T.d_holds.F.kp T.d_holds.b .nil w4 (Zi (qv 2) (Zi (qv 3) (Zi (qv 8) Zd)))) (qv 7) (Zs _)))))))))))))),?_⟩
  clear hu hr
  try dsimp only [L2.cxK,L2.cxK2]
  refine L2.let11 ?_
  intro U10 U9 U8 U7 U6 U5 U4 U3 U2 U1
  have ok:=Jg.words S
  have hm:=JI W
  have R0:Rt d c p tw t.p_holds ys ws H H:=⟨D,hp,ht,B,Xz D hp N.l1,fun _ _ e _ _ _=>e⟩
  refine ⟨_,rfl,_,rfl,_,rfl,d,c,p,ys,W,rfl,D,hp,N,W60,fun dv kvs ρ H1 hdv0 hdv hv hfl hkl D1 o1=>?_⟩
  have R1:=R0.off o1 D1
  obtain ⟨v,ev⟩:=(wW hm ρ N S).1
  have lk:Z5 kvs ws=none:=xy ok hv
  refine ⟨_,rfl,_,rfl,_,rfl,tw,dv,W,ys,ws,kvs,ρ,rfl,W1,W60,R1.ht,N,S,hl,hdv,hv.inn _,fun H2 s2=>?_⟩
  rw [ev]
  refine ⟨_,rfl,dv,kvs,rfl,.inl (s2 _ _ hdv),fun hd hhd=>?_⟩
  have s3:=s2.trans (Zc (o:=.dK kvs) hhd)
  have R3:=R1.same s3
  have dn:dv≠hd:=Zl (s2 _ _ hdv) hhd
  refine ⟨_,rfl,_,rfl,_,rfl,tw,hd,W,ys,ws,kvs,ρ,rfl,W60,R3.ht,N,S,hl,Zb,(fun _=>hv.inn _),R3.B,(fun _ H4 b4 o4=>?_),fun y z=>by rw [lk] at z;cases z⟩
  rw [ev]
  have R4:=R3.offT o4 b4
  have hdv4:=R3.B.dK o4 (s3 _ _ hdv)
  have hhd4:=R3.B.dK o4 (b:=hd) (kvs:=kvs) Zb
  have hhd0:H hd=none:=uX o1 D1 (s2.free hhd)
  refine YT ?_
  refine ⟨_,rfl,_,_,_,_,rfl,.bl v,xG,_,rfl,Yh ?_⟩
  refine ⟨_,rfl,_,rfl,rfl,_,rfl,?_⟩
  rw [decide_eq_true rfl]
  refine Yh ⟨_,rfl,_,rfl,hd,dv,kvs,rfl,rfl,.inl hhd4,.inl hdv4,hfl,_,rfl,Yh ?_⟩
  clear hhd o4 s3 R3 R1
  refine ⟨_,rfl,hd,_,rfl,Zdl.k (k:=.inr "qqqq") hhd4 (Zt (by lia)),?_⟩
  have R5:=R4.put hhd0 hhd4 (o':=.dK (putK kvs (.inr "qqqq") (.int 1)))
  have hdv5:upd H4 hd (.dK (putK kvs (.inr "qqqq") (.int 1))) dv=some (.dK kvs):=by rw [Zj dn];exact hdv4
  have hhd5:upd H4 hd (.dK (putK kvs (.inr "qqqq") (.int 1))) hd=some (.dK (putK kvs (.inr "qqqq") (.int 1))):=Zb
  generalize upd H4 hd (.dK (putK kvs (.inr "qqqq") (.int 1)))=H5 at *
  clear R4 hdv4 hhd4
  refine uy (fun σ H'=>σ=[some (.ref d),some (.ref p),some (.ref tw),some (.int W),some (.ref dv),some (.bl v),some (.ref hd),some (.bl v),none,none]∧Rt d c p tw t.p_holds ys ws H H'∧H' dv=some (.dK kvs)) (fun M _ _ _ hM=>?_) ?_
  ·refine ⟨_,rfl,p,_,rfl,.inl (SqL.of R5.hp),rfl,YY _,_,rfl,?_⟩
   show if (!inV (.str "qqqq") (ys.map V.str))=true then _ else _
   rw [Y2]
   by_cases hq:("qqqq" : Str)∈ys
   ·rw [decide_eq_true hq]
    exact Yh (Yh (hM _ _ ⟨rfl,R5,hdv5⟩))
   ·rw [decide_eq_false hq]
    have hv5:vk (putK kvs (.inr "qqqq") (.int 1)) ys ρ:=fun y hy=>by
     have hne:¬(.inr y:Key)=.inr "qqqq" := fun z=>hq (by injection z with z;rw [←z];exact hy)
     rw [GO,if_neg hne]
     exact hv y hy
    have lk5:=xy ok hv5
    refine YB ⟨_,rfl,_,rfl,_,rfl,tw,hd,W,ys,ws,_,ρ,rfl,W60,R5.ht,N,S,hl,hhd5,(fun _=>hv5.inn _),R5.B,(fun _ H6 b6 o6=>?_),fun y z=>by rw [lk5] at z;cases z⟩
    rw [ev]
    refine ⟨_,rfl,rfl,_,rfl,?_⟩
    rw [decide_eq_true rfl]
    exact Yh (hM _ _ ⟨rfl,R5.offT o6 b6,R5.B.dK o6 hdv5⟩)
  rintro σ H6 hz_
  refine ZC fun Gz hGz=>?_
  obtain ⟨rfl,R6,hdv6⟩:=hz_
  refine hGz ?_
  clear hGz Gz
  clear R5 hdv5 hhd5 H5
  refine ⟨_,rfl,p,rfl,⟨_,SqL.of R6.hp⟩,?_⟩
  refine zE (K:=K) (a:=p) (xs:=ys.map V.str) (fun i zs H'=>∃ms:List Str,(∀y∈ms,y∈ys)∧ms.length≤i∧zs.length≤i∧i≤ys.length∧Xc H' (ms.map fun y=>(y,V.int (ρ y))) zs∧Rt d c p tw t.p_holds ys ws H H'∧H' dv=some (.dK kvs)) ?_ ?_ ?_ ?_ ?_
  ·exact ⟨[],(fun y hy=>nomatch hy),Nat.le_refl _,Nat.le_refl _,Nat.zero_le _,Paired.nil,R6,hdv6⟩
  ·rintro i zs H' ⟨ms,_,_,hz,hi,_⟩
   have:=N.l3
   exact Nat.le_of_lt (Zt (by lia))
  ·rintro i zs H' ⟨ms,_,_,_,_,_,R,_⟩
   exact SqL.of R.hp
  ·rintro i x zs H' R' hR hx ⟨ms,hms,hml,hz,_,hpa,R,hdv'⟩
   rw [List.getElem?_map] at hx
   obtain ⟨y,hy,rfl⟩:=Option.map_eq_some_iff.mp hx
   have hym:=List.mem_of_getElem? hy
   have hi:i < ys.length:=(List.getElem?_eq_some_iff.mp hy).1
   refine ⟨_,rfl,d,c,2,rfl,R.D,by decide,by decide,fun r H3 r0 r1 D3 o3=>⟨rfl,_,rfl,?_⟩⟩
   have R3:=R.off o3 D3
   have hdv3:=R.dK o3 hdv'
   have hpa3:=gj hpa R.D o3
   refine yc (fun _=>?_) (fun _=>hR _ _ ⟨ms,hms,by lia,by lia,hi,hpa3,R3,hdv3⟩)
   refine ⟨_,rfl,_,rfl,_,rfl,dv,_,rfl,.inl ⟨kvs,.inr y,.inl hdv3,rfl,(hv y hym).symm⟩,by show 2≤sizeLine;decide,fun q hq=>hR _ _ ⟨ms++[y],?_,by rw [List.length_append];show _ + 1≤_;lia,by rw [List.length_append];show _ + 1≤_;lia,hi,?_,R3.same (Zc hq),Zc hq _ _ hdv3⟩⟩
   ·intro z hz
    rcases List.mem_append.mp hz with h | h
    ·exact hms z h
    ·rw [List.mem_singleton.mp h]
     exact hym
   ·rw [List.map_append]
    exact (hpa3.same (Zc hq)).snoc Zb
  rintro zs H7 ⟨ms,hms,hml,hz,_,hpa,R7,hdv7⟩ l hl7
  rw [List.length_map] at hml
  refine ⟨l,zs,_,rfl,Zb,hpa.same (Zc hl7),by rw [List.length_map];have:=N.l3;lia,fun fw hfw=>YT ?_⟩
  have R8:=R7.same ((Zc (o:=.lst zs) hl7).trans (Zc (o:=.dK (zo (ms.map fun y=>(y,V.int (ρ y))))) hfw))
  have hfw8:upd (upd H7 l (.lst zs)) fw (.dK (zo (ms.map fun y=>(y,V.int (ρ y))))) fw=some (.dK (zo (ms.map fun y=>(y,V.int (ρ y))))):=Zb
  have hget:∀y∈ms,Yw (zo (ms.map fun y=>(y,V.int (ρ y)))) (.inr y)=some (.int (ρ y)):=fun y hy=>ue (fun y=>V.int (ρ y)) hy
  have hnon:∀y,y∉ms→Yw (zo (ms.map fun y=>(y,V.int (ρ y)))) (.inr y)=none:=fun y hy=>uY _ hy
  generalize upd (upd H7 l (.lst zs)) fw (.dK (zo (ms.map fun y=>(y,V.int (ρ y)))))=H8 at *
  generalize zo (ms.map fun y=>(y,V.int (ρ y)))=kvs2 at *
  clear R7 hdv7 hpa R6 hdv6 hl7 hfw
  refine ⟨_,rfl,tw,rfl,⟨_,SqT.of R8.ht⟩,?_⟩
  refine kX (xs:=ws) (Wc kvs2 ys) (fun H1 H2=>H1=H2) (fun _=>rfl) (fun _ _ _ e1 e2=>e1.trans e2) (fun H1 e=>e ▸ SqT.of R8.ht) (Nat.le_of_lt (Zt (by lia))) (fun x hx H1 e R' hR=>?_) (fun x _ H1 R' h=>⟨_,rfl,h⟩) (fun H1 la e hla=>?_)
  ·subst e
   have hR:=hR _ rfl
   have fx:YC x=true:=by
    rcases ok x hx with (⟨y,rfl,_⟩ | ⟨y,_,rfl⟩ | ⟨z,rfl,_⟩) | ⟨y,rfl,_⟩ <;> rfl
   refine ⟨_,rfl,_,rfl,p,_,rfl,.inl (SqL.of R8.hp),fx,YY _,_,rfl,?_⟩
   show if (inV x (ys.map V.str))=true then _ else _
   cases q:inV x (ys.map V.str) with
   | true =>
    obtain ⟨y,hy,rfl⟩:=GU q
    refine YB ⟨_,rfl,_,rfl,fw,Yw kvs2 (.inr y),rfl,.inl ⟨kvs2,.inr y,.inl hfw8,rfl,rfl⟩,_,rfl,?_⟩
    unfold Wc at hR
    rw [q] at hR
    exact hR
   | false =>
    unfold Wc at hR
    rw [q] at hR
    exact Yh hR
  subst e
  have s9:=Zc (o:=.lst (ws.filter (Wc kvs2 ys))) hla
  have R9:=R8.same s9
  have hla9:upd H8 la (.lst (ws.filter (Wc kvs2 ys))) la=some (.lst (ws.filter (Wc kvs2 ys))):=Zb
  have hfw9:=s9 _ _ hfw8
  generalize upd H8 la (.lst (ws.filter (Wc kvs2 ys)))=H9 at *
  clear s9 hla R8 hfw8
  refine YT ?_
  refine ⟨_,rfl,by show 0≤sizeLine;decide,fun g hg=>⟨la,g,_,[],rfl,rfl,SqL.of (Zc hg _ _ hla9),SqL.of Zb,vp,rfl,_,rfl,?_⟩⟩
  have R10:=R9.same (Zc (o:=.lst []) hg)
  have hfw10:=Zc (o:=.lst []) hg _ _ hfw9
  have hla10:=Zc (o:=.lst []) hg _ _ hla9
  have fl:=qu (kvs:=kvs2) N ok
  generalize upd H9 g (.lst [])=H10 at *
  show if (!jq (ws.filter (Wc kvs2 ys)) [])=true then _ else _
  rw [gk]
  cases hf:ws.filter (Wc kvs2 ys) with
  | nil =>
   rw [hf] at fl
   have hv2:jN kvs2 ys ws ρ:=fun y hy hm=>by
    have h1:=Zdb fl y hm (Zes N hy)
    by_cases hyms:y∈ms
    ·exact hget y hyms
    ·rw [hnon y hyms] at h1
     cases h1
   refine Yh ⟨_,rfl,_,rfl,_,rfl,tw,fw,W,ys,ws,kvs2,ρ,rfl,W60,R10.ht,N,S,hl,hfw10,(fun _=>hv2),R10.B,(fun _ H11 b11 o11=>?_),fun y z=>by rw [fl] at z;cases z⟩
   rw [ev]
   refine ⟨_,rfl,rfl,?_⟩
   rw [decide_eq_true rfl]
   have R11:=R10.offT o11 b11
   exact k H11 R11.D R11.B R11.o
  | cons x r =>
   rw [hf] at fl hla10
   obtain ⟨y,rfl⟩:∃y,x=.str y:=y7 (by rw [hf];exact List.mem_cons_self)
   refine YB ⟨_,rfl,_,rfl,_,rfl,_,rfl,la,_,0,_,rfl,rfl,SqL.of hla10,Yo (j:=0) rfl,tw,fw,W,ys,ws,kvs2,ρ,y,rfl,W60,R10.ht,N,S,hl,hfw10,fl,R10.B,fun H11 s11=>?_⟩
   have R11:=R10.same s11
   exact k H11 R11.D R11.B R11.o
inductive yC(K:PySem.W.Frag)(pw:Addr)(vs:List V)(H:Hp)(Q:VK):Prop
 | mk (a:Addr) (ns:List Int):(vs=[.ref a])→(SqL K H a (ns.map V.int))→(ns.length≤63)→(XU H pw xq xr)→(∀H',Q (.bl true) H')→yC K pw vs H Q
noncomputable def jn(K:PySem.W.Frag)(pw:Addr):Sp:=fun vs H Q _=>yC K pw vs H Q
theorem Tb.off3{H H':Hp}{d c hv pw:Addr}{n:Int}(h:Tb H pw)(D:Z0 H d c)(hh:H hv=some (.lst [.int n]))(o:Off3 d c hv H H'):Tb H' pw:=by
 obtain ⟨n,cs,hd,hc,_⟩:=D.ex
 refine ⟨?_⟩
 rcases h.w with h | ⟨c',oc,h1,h2,h3⟩
 ·exact .inl (o _ _ h (ZK h hd (fun z=>nomatch z)) (ZK h hc (fun z=>nomatch z)) (ZK h hh (fun z=>nomatch z)))
 ·exact .inr ⟨c',oc,o _ _ h1 (ZK h1 hd (fun z=>nomatch z)) (ZK h1 hc (fun z=>nomatch z)) (ZK h1 hh (fun z=>nomatch z)),o _ _ h2 (ZK h2 hd (fun z=>nomatch z)) (ZK h2 hc (fun z=>nomatch z)) (ZK h2 hh (fun z=>nomatch z)),h3⟩
theorem ok_law (T:Txt K w mg t) (TB:Tbs mg base t) (XB:Xcl K mg base t):Z7 P w K mg base CX0 17 t.a_law t.f_law ["script"] (jn K t.p_holds):=by
 have G_law_right:Z7 P w K mg base CX0 16 t.a_law_right t.f_law_right ["deck","names","claim","width"] (G8 K t.p_holds):=jm T TB XB
 have G_law_width:Z7 P w K mg base CX0 2 t.a_law_width t.f_law_width ["deck"] (G3 K):=jh T TB XB
 have G_law_claim:Z7 P w K mg base CX0 5 t.a_law_claim t.f_law_claim ["deck","names","heavy"] (G7 K):=jk T TB XB
 have G_law_names:Z7 P w K mg base CX0 2 t.a_law_names t.f_law_names ["deck"] (G4 K):=ji T TB XB
 have G_law_deck:Z7 P w K mg base CX0 1 t.a_law_deck t.f_law_deck ["script"] (qH K):=jS T TB XB
 refine T.d_law.F.ok x4 (fun vs H Q E h=>?_) (fun cdv A outer s H vs Q E hr h=>?_)
 ·obtain ⟨a,ns,rfl,hS,hl,hT1,k⟩:=h
  rfl
 ·obtain ⟨a,ns,rfl,hS,hl,hT1,k⟩:=h
  have hu:=ZR hr
  refine ⟨_,@QSs.out _ _ _ (Za (Zr (i:=1) x4.nd rfl (Or.inl rfl) (Zh G_law_deck (hr.mono (by decide)) rfl T.d_law_deck.m T.d_law_deck.F.kp T.d_law_deck.b .nil Zy (Zi (qv 0) Zd)))
    (Za (Zr (i:=2) x4.nd rfl (Or.inl rfl) (Zh G_law_names (hr.mono (by decide)) rfl T.d_law_names.m T.d_law_names.F.kp T.d_law_names.b .nil Zy (Zi (qv 1) Zd)))
    (Za (X8 PassesOwn.never rfl (ZV rfl T.z_range (Zi Ze Zd)) (YD (i:=3) x4.nd rfl (Or.inl rfl))
    (Za (Zr (i:=4) x4.nd rfl (Or.inl rfl) (Zh G_law_claim (hr.mono (by decide)) rfl T.d_law_claim.m T.d_law_claim.F.kp T.d_law_claim.b .nil Zy (Zi (qv 1) (Zi (qv 2) (Zi (ZA (Zi Ze Zd)) Zd)))))
    (Zg (X8 PassesOwn.never rfl (ZV rfl T.z_range (Zi Ze Zd)) (YD (i:=5) x4.nd rfl (Or.inl rfl))
    (Zg (Z8 (ye (Jc (Zh G_law_right (hr.mono (by decide)) rfl T.d_law_right.m T.d_law_right.F.kp T.d_law_right.b .nil Zy (Zi (qv 1) (Zi (qv 2) (Zi (qv 4) (Zi (Zh G_law_width (hr.mono (by decide)) rfl T.d_law_width.m T.d_law_width.F.kp T.d_law_width.b .nil Zy (Zi (qv 1) Zd)) Zd)))))))
    (Zg (Zn xC)) Zq))))))
    (Zg (Zn xC))))),?_⟩
  clear hu hr
  try dsimp only [L2.cxK,L2.cxK2]
  refine L2.let4 ?_
  intro U3 U2 U1
  refine ⟨_,rfl,a,ns,rfl,hS,hl,fun d c H1 hd hc D1 s1=>?_⟩
  have B1:Tb H1 t.p_holds:=Tb.same ⟨hT1⟩ s1
  refine ⟨_,rfl,d,c,rfl,D1,fun p ys H2 hp0 hp N D2 o2=>?_⟩
  have B2:=Tb.off B1 D1 o2
  have pn:=Xz D2 hp N.l1
  refine ⟨4,rfl,by decide,by decide,xp (n:=4) (fun i σ H'=>∃u3 u4 u5,σ=[some (.ref a),some (.ref d),some (.ref p),u3,u4,u5]∧Z0 H' d c∧H' p=some (.lst (ys.map V.str))∧Tb H' t.p_holds) ⟨none,none,none,rfl,D2,hp,B2⟩ ?_ ?_⟩
  ·rintro i σ H3 hi hz_ Nx bx rx hNx _
   refine ZC fun Gz hGz=>?_
   obtain ⟨u3,u4,u5,rfl,D3,hp3,B3⟩:=hz_
   refine hGz ?_
   clear hGz Gz
   refine ⟨_,rfl,_,rfl,by show 1≤sizeLine;decide,fun hv hhv=>?_⟩
   have sv:=Zc (o:=.lst [.int 5]) hhv
   have hvc:=(YO D3 hhv).2
   refine ⟨d,c,p,hv,ys,rfl,⟨D3.same sv,sv _ _ hp3,⟨5,Zb⟩,fun _ _ e _ _ _=>e⟩,N,hvc,fun tw ws H4 htw S wl R4=>?_⟩
   have B4:=Tb.off3 (B3.same sv) (D3.same sv) Zb R4.o
   refine ⟨3,rfl,by decide,by decide,xp (n:=3) (fun i' σ H'=>∃u5,σ=[some (.ref a),some (.ref d),some (.ref p),some (.int (0 + (i:Int))),some (.ref tw),u5]∧Z0 H' d c∧H' p=some (.lst (ys.map V.str))∧Tb H' t.p_holds∧H' tw=some (.tup ws)) ⟨_,rfl,R4.D,R4.p,B4,htw⟩ ?_ ?_⟩
   ·rintro j σ H5 hj hz_ Ny by_ ry hNy _
    refine ZC fun Gz hGz=>?_
    obtain ⟨u5,rfl,D5,hp5,B5,ht5⟩:=hz_
    refine hGz ?_
    clear hGz Gz
    refine ⟨_,rfl,_,rfl,_,rfl,_,rfl,d,c,rfl,D5,fun W H6 w1 w60 D6 o6=>?_⟩
    have R6:=(⟨D5,hp5,ht5,B5,pn,fun _ _ e _ _ _=>e⟩:Rt d c p tw t.p_holds ys ws H5 H5).off o6 D6
    refine ⟨d,c,p,tw,ys,ws,W,rfl,D6,R6.hp,N,R6.ht,S,by lia,w1,w60,R6.B,fun H7 D7 B7 o7=>⟨_,rfl,Yh (hNy _ _ ⟨_,rfl,D7,?_,B7,?_⟩)⟩⟩
    ·exact o7 _ _ R6.hp pn.1 pn.2 (Zet R6.B R6.hp fun _ z=>nomatch z)
    ·obtain ⟨n,cs,hd,hc,_⟩:=D6.ex
     exact o7 _ _ R6.ht (ZK R6.ht hd (fun z=>nomatch z)) (ZK R6.ht hc (fun z=>nomatch z)) (Zet R6.B R6.ht fun _ z=>nomatch z)
   ·rintro σ H5 hz_
    refine ZC fun Gz hGz=>?_
    obtain ⟨u5,rfl,D5,hp5,B5,_⟩:=hz_
    refine hGz ?_
    clear hGz Gz
    exact hNx _ _ ⟨_,_,_,rfl,D5,hp5,B5⟩
  ·rintro σ H3 hz_
   refine ZC fun Gz hGz=>?_
   obtain ⟨u3,u4,u5,rfl,_⟩:=hz_
   refine hGz ?_
   clear hGz Gz
   exact k _
end
theorem all_mk {l:W.OpenLaw} {w:World} {K:W.Frag} {h:Heap} {mg:Str→Option Value} {fa:Addr} {f0 f1 f2 f3 f4 f5 f6 f7 f8 f9 f10 f11 f12 f13 f14 f15 f16 f17 f18 f19 f20 f21 f22 f23 f24 f25 f26 f27 f28 f29 f30 f31 f32 f33 f34 f35 f36 f37 f38 f39 f40 f41 f42:Addr} (X:K.In h) (G:h.Ns mainGlobals mg) (hfa:mg "law" = some (.ref fa))
  {od0 an0 od1 an1 od2 an2 od3 an3 od4 an4 od5 an5 od6 an6 od7 an7 od8 an8 od9 an9 od10 an10 od11 an11 od12 an12 od13 an13 od14 an14 od15 an15 od16 an16 od17 an17 od18 an18 od19 an19 od20 an20 od21 an21 od22 an22 od23 an23 od24 an24 od25 an25 od26 an26 od27 an27 od28 an28 od29 an29 od30 an30 od31 an31 od32 an32 od33 an33 od34 an34 od35 an35 od36 an36 od37 an37 od38 an38 od39 an39 od40 an40 od41 an41 od42 an42:Option Addr} {sl0 sl1 sl2 sl3 sl4 sl5 sl6 sl7 sl8 sl9 sl10 sl11 sl12 sl13 sl14 sl15 sl16 sl17 sl18 sl19 sl20 sl21 sl22 sl23 sl24 sl25 sl26 sl27 sl28 sl29 sl30 sl31 sl32 sl33 sl34 sl35 sl36 sl37 sl38 sl39 sl40 sl41 sl42:Array (Option Value)} {oc0 kV0 dc0 pm0 cd0 ct0 oc1 kV1 dc1 pm1 cd1 ct1 oc2 kV2 dc2 pm2 cd2 ct2 oc3 kV3 dc3 pm3 cd3 ct3 oc4 kV4 dc4 pm4 cd4 ct4 oc5 kV5 dc5 pm5 cd5 ct5 oc6 kV6 dc6 pm6 cd6 ct6 oc7 kV7 dc7 pm7 cd7 ct7 oc8 kV8 dc8 pm8 cd8 ct8 oc9 kV9 dc9 pm9 cd9 ct9 oc10 kV10 dc10 pm10 cd10 ct10 oc11 kV11 dc11 pm11 cd11 ct11 oc12 kV12 dc12 pm12 cd12 ct12 oc13 kV13 dc13 pm13 cd13 ct13 oc14 kV14 dc14 pm14 cd14 ct14 oc15 kV15 dc15 pm15 cd15 ct15 oc16 kV16 dc16 pm16 cd16 ct16 oc17 kV17 dc17 pm17 cd17 ct17 oc18 kV18 dc18 pm18 cd18 ct18 oc19 kV19 dc19 pm19 cd19 ct19 oc20 kV20 dc20 pm20 cd20 ct20 oc21 kV21 dc21 pm21 cd21 ct21 oc22 kV22 dc22 pm22 cd22 ct22 oc23 kV23 dc23 pm23 cd23 ct23 oc24 kV24 dc24 pm24 cd24 ct24 oc25 kV25 dc25 pm25 cd25 ct25 oc26 kV26 dc26 pm26 cd26 ct26 oc27 kV27 dc27 pm27 cd27 ct27 oc28 kV28 dc28 pm28 cd28 ct28 oc29 kV29 dc29 pm29 cd29 ct29 oc30 kV30 dc30 pm30 cd30 ct30 oc31 kV31 dc31 pm31 cd31 ct31 oc32 kV32 dc32 pm32 cd32 ct32 oc33 kV33 dc33 pm33 cd33 ct33 oc34 kV34 dc34 pm34 cd34 ct34 oc35 kV35 dc35 pm35 cd35 ct35 oc36 kV36 dc36 pm36 cd36 ct36 oc37 kV37 dc37 pm37 cd37 ct37 oc38 kV38 dc38 pm38 cd38 ct38 oc39 kV39 dc39 pm39 cd39 ct39 oc40 kV40 dc40 pm40 cd40 ct40 oc41 kV41 dc41 pm41 cd41 ct41 oc42 kV42 dc42 pm42 cd42 ct42:Value}
  {XWidthError:Addr} (xa_WidthError:W.nsIn K mainGlobals "WidthError" = some (some (.ref XWidthError)))
  {XNoSum:Addr} (xa_NoSum:W.nsIn K mainGlobals "NoSum" = some (some (.ref XNoSum)))
  {XNoClaim:Addr} (xa_NoClaim:W.nsIn K mainGlobals "NoClaim" = some (some (.ref XNoClaim)))
  {XNoWords:Addr} (xa_NoWords:W.nsIn K mainGlobals "NoWords" = some (some (.ref XNoWords)))
  {XNoTurning:Addr} (xa_NoTurning:W.nsIn K mainGlobals "NoTurning" = some (some (.ref XNoTurning)))
  {XNoShorter:Addr} (xa_NoShorter:W.nsIn K mainGlobals "NoShorter" = some (some (.ref XNoShorter)))
  {XNoAsk:Addr} (xa_NoAsk:W.nsIn K mainGlobals "NoAsk" = some (some (.ref XNoAsk)))
  {XNoName:Addr} (xa_NoName:W.nsIn K mainGlobals "NoName" = some (some (.ref XNoName)))
  (xe_WidthError:xM K XWidthError=true) (xk_WidthError:W.keepIn K (.ref XWidthError)=true)
  (xe_NoSum:xM K XNoSum=true) (xk_NoSum:W.keepIn K (.ref XNoSum)=true)
  (xe_NoClaim:xM K XNoClaim=true) (xk_NoClaim:W.keepIn K (.ref XNoClaim)=true)
  (xe_NoWords:xM K XNoWords=true) (xk_NoWords:W.keepIn K (.ref XNoWords)=true)
  (xe_NoTurning:xM K XNoTurning=true) (xk_NoTurning:W.keepIn K (.ref XNoTurning)=true)
  (xe_NoShorter:xM K XNoShorter=true) (xk_NoShorter:W.keepIn K (.ref XNoShorter)=true)
  (xe_NoAsk:xM K XNoAsk=true) (xk_NoAsk:W.keepIn K (.ref XNoAsk)=true)
  (xb_NoSum:Wn K XNoSum XWidthError=true)
  (xb_NoClaim:Wn K XNoClaim XWidthError=true)
  (xb_NoWords:Wn K XNoWords XWidthError=true)
  (xb_NoTurning:Wn K XNoTurning XWidthError=true)
  (xb_NoShorter:Wn K XNoShorter XWidthError=true)
  (xb_NoAsk:Wn K XNoAsk XWidthError=true)
  (xb_NoName:Wn K XNoName XWidthError=true)
  (xc_WidthError:qU K XWidthError=true)
  (xc_NoSum:qU K XNoSum=true)
  (xc_NoClaim:qU K XNoClaim=true)
  (xc_NoWords:qU K XNoWords=true)
  (xc_NoTurning:qU K XNoTurning=true)
  (xc_NoShorter:qU K XNoShorter=true)
  (xc_NoAsk:qU K XNoAsk=true)
  (xc_NoName:qU K XNoName=true)
  (a0:W.nsIn K mainGlobals "words_at" = some (some (.ref f0))) (l0:K.lookup f0=some ⟨oc0,od0,.func (W.fnOf "words_at" "words_at" (Zx Xm) (Zu Xm) (Zf Xm) .none kV0 dc0 pm0 an0 cd0 ct0),sl0⟩) (c0:W.codeIn K cd0 "words_at" = true) (k0:W.keepIn K (.ref f0)=true)
  (a1:W.nsIn K mainGlobals "is_sum_word" = some (some (.ref f1))) (l1:K.lookup f1=some ⟨oc1,od1,.func (W.fnOf "is_sum_word" "is_sum_word" (Zx Yx) (Zu Yx) (Zf Yx) .none kV1 dc1 pm1 an1 cd1 ct1),sl1⟩) (c1:W.codeIn K cd1 "is_sum_word" = true) (k1:W.keepIn K (.ref f1)=true)
  (a2:W.nsIn K mainGlobals "is_claim_word" = some (some (.ref f2))) (l2:K.lookup f2=some ⟨oc2,od2,.func (W.fnOf "is_claim_word" "is_claim_word" (Zx ZX) (Zu ZX) (Zf ZX) .none kV2 dc2 pm2 an2 cd2 ct2),sl2⟩) (c2:W.codeIn K cd2 "is_claim_word" = true) (k2:W.keepIn K (.ref f2)=true)
  (a3:W.nsIn K mainGlobals "sums_behind" = some (some (.ref f3))) (l3:K.lookup f3=some ⟨oc3,od3,.func (W.fnOf "sums_behind" "sums_behind" (Zx Yy) (Zu Yy) (Zf Yy) .none kV3 dc3 pm3 an3 cd3 ct3),sl3⟩) (c3:W.codeIn K cd3 "sums_behind" = true) (k3:W.keepIn K (.ref f3)=true)
  (a4:W.nsIn K mainGlobals "claims_behind" = some (some (.ref f4))) (l4:K.lookup f4=some ⟨oc4,od4,.func (W.fnOf "claims_behind" "claims_behind" (Zx ZY) (Zu ZY) (Zf ZY) .none kV4 dc4 pm4 an4 cd4 ct4),sl4⟩) (c4:W.codeIn K cd4 "claims_behind" = true) (k4:W.keepIn K (.ref f4)=true)
  (a5:W.nsIn K mainGlobals "is_made_of" = some (some (.ref f5))) (l5:K.lookup f5=some ⟨oc5,od5,.func (W.fnOf "is_made_of" "is_made_of" (Zx Yr) (Zu Yr) (Zf Yr) .none kV5 dc5 pm5 an5 cd5 ct5),sl5⟩) (c5:W.codeIn K cd5 "is_made_of" = true) (k5:W.keepIn K (.ref f5)=true)
  (a6:W.nsIn K mainGlobals "worth_of_one" = some (some (.ref f6))) (l6:K.lookup f6=some ⟨oc6,od6,.func (W.fnOf "worth_of_one" "worth_of_one" (Zx Yi) (Zu Yi) (Zf Yi) .none kV6 dc6 pm6 an6 cd6 ct6),sl6⟩) (c6:W.codeIn K cd6 "worth_of_one" = true) (k6:W.keepIn K (.ref f6)=true)
  (a7:W.nsIn K mainGlobals "worth_of_two" = some (some (.ref f7))) (l7:K.lookup f7=some ⟨oc7,od7,.func (W.fnOf "worth_of_two" "worth_of_two" (Zx Yj) (Zu Yj) (Zf Yj) .none kV7 dc7 pm7 an7 cd7 ct7),sl7⟩) (c7:W.codeIn K cd7 "worth_of_two" = true) (k7:W.keepIn K (.ref f7)=true)
  (a8:W.nsIn K mainGlobals "signed" = some (some (.ref f8))) (l8:K.lookup f8=some ⟨oc8,od8,.func (W.fnOf "signed" "signed" (Zx WY) (Zu WY) (Zf WY) .none kV8 dc8 pm8 an8 cd8 ct8),sl8⟩) (c8:W.codeIn K cd8 "signed" = true) (k8:W.keepIn K (.ref f8)=true)
  (a9:W.nsIn K mainGlobals "truth_of_claims" = some (some (.ref f9))) (l9:K.lookup f9=some ⟨oc9,od9,.func (W.fnOf "truth_of_claims" "truth_of_claims" (Zx ZL) (Zu ZL) (Zf ZL) .none kV9 dc9 pm9 an9 cd9 ct9),sl9⟩) (c9:W.codeIn K cd9 "truth_of_claims" = true) (k9:W.keepIn K (.ref f9)=true)
  (a10:W.nsIn K mainGlobals "_law_deck" = some (some (.ref f10))) (l10:K.lookup f10=some ⟨oc10,od10,.func (W.fnOf "_law_deck" "_law_deck" (Zx Xn) (Zu Xn) (Zf Xn) .none kV10 dc10 pm10 an10 cd10 ct10),sl10⟩) (c10:W.codeIn K cd10 "_law_deck" = true) (k10:W.keepIn K (.ref f10)=true)
  (a11:W.nsIn K mainGlobals "_law_take" = some (some (.ref f11))) (l11:K.lookup f11=some ⟨oc11,od11,.func (W.fnOf "_law_take" "_law_take" (Zx Xo) (Zu Xo) (Zf Xo) .none kV11 dc11 pm11 an11 cd11 ct11),sl11⟩) (c11:W.codeIn K cd11 "_law_take" = true) (k11:W.keepIn K (.ref f11)=true)
  (a12:W.nsIn K mainGlobals "_law_power" = some (some (.ref f12))) (l12:K.lookup f12=some ⟨oc12,od12,.func (W.fnOf "_law_power" "_law_power" (Zx YH) (Zu YH) (Zf YH) .none kV12 dc12 pm12 an12 cd12 ct12),sl12⟩) (c12:W.codeIn K cd12 "_law_power" = true) (k12:W.keepIn K (.ref f12)=true)
  (a13:W.nsIn K mainGlobals "_law_kept" = some (some (.ref f13))) (l13:K.lookup f13=some ⟨oc13,od13,.func (W.fnOf "_law_kept" "_law_kept" (Zx Xp) (Zu Xp) (Zf Xp) .none kV13 dc13 pm13 an13 cd13 ct13),sl13⟩) (c13:W.codeIn K cd13 "_law_kept" = true) (k13:W.keepIn K (.ref f13)=true)
  (a14:W.nsIn K mainGlobals "_law_bits" = some (some (.ref f14))) (l14:K.lookup f14=some ⟨oc14,od14,.func (W.fnOf "_law_bits" "_law_bits" (Zx Xq) (Zu Xq) (Zf Xq) .none kV14 dc14 pm14 an14 cd14 ct14),sl14⟩) (c14:W.codeIn K cd14 "_law_bits" = true) (k14:W.keepIn K (.ref f14)=true)
  (a15:W.nsIn K mainGlobals "_law_added" = some (some (.ref f15))) (l15:K.lookup f15=some ⟨oc15,od15,.func (W.fnOf "_law_added" "_law_added" (Zx YI) (Zu YI) (Zf YI) .none kV15 dc15 pm15 an15 cd15 ct15),sl15⟩) (c15:W.codeIn K cd15 "_law_added" = true) (k15:W.keepIn K (.ref f15)=true)
  (a16:W.nsIn K mainGlobals "_law_lowest" = some (some (.ref f16))) (l16:K.lookup f16=some ⟨oc16,od16,.func (W.fnOf "_law_lowest" "_law_lowest" (Zx Y7) (Zu Y7) (Zf Y7) .none kV16 dc16 pm16 an16 cd16 ct16),sl16⟩) (c16:W.codeIn K cd16 "_law_lowest" = true) (k16:W.keepIn K (.ref f16)=true)
  (a17:W.nsIn K mainGlobals "_law_turned_bits" = some (some (.ref f17))) (l17:K.lookup f17=some ⟨oc17,od17,.func (W.fnOf "_law_turned_bits" "_law_turned_bits" (Zx ZD) (Zu ZD) (Zf ZD) .none kV17 dc17 pm17 an17 cd17 ct17),sl17⟩) (c17:W.codeIn K cd17 "_law_turned_bits" = true) (k17:W.keepIn K (.ref f17)=true)
  (a18:W.nsIn K mainGlobals "_law_truth" = some (some (.ref f18))) (l18:K.lookup f18=some ⟨oc18,od18,.func (W.fnOf "_law_truth" "_law_truth" (Zx YJ) (Zu YJ) (Zf YJ) .none kV18 dc18 pm18 an18 cd18 ct18),sl18⟩) (c18:W.codeIn K cd18 "_law_truth" = true) (k18:W.keepIn K (.ref f18)=true)
  (a19:W.findIn K (.ref XNoName) "__init__" = some (some (.ref f19))) (l19:K.lookup f19=some ⟨oc19,od19,.func (W.fnOf "__init__" "NoName.__init__" (Zx Yz) (Zu Yz) (Zf Yz) .none kV19 dc19 pm19 an19 cd19 ct19),sl19⟩) (c19:W.codeIn K cd19 "NoName.__init__" = true) (k19:W.keepIn K (.ref f19)=true)
  (a20:W.nsIn K mainGlobals "parts_of" = some (some (.ref f20))) (l20:K.lookup f20=some ⟨oc20,od20,.func (W.fnOf "parts_of" "parts_of" (Zx Xr) (Zu Xr) (Zf Xr) .none kV20 dc20 pm20 an20 cd20 ct20),sl20⟩) (c20:W.codeIn K cd20 "parts_of" = true) (k20:W.keepIn K (.ref f20)=true)
  (a21:W.nsIn K mainGlobals "is_name" = some (some (.ref f21))) (l21:K.lookup f21=some ⟨oc21,od21,.func (W.fnOf "is_name" "is_name" (Zx XX) (Zu XX) (Zf XX) .none kV21 dc21 pm21 an21 cd21 ct21),sl21⟩) (c21:W.codeIn K cd21 "is_name" = true) (k21:W.keepIn K (.ref f21)=true)
  (a22:W.nsIn K mainGlobals "word_worth" = some (some (.ref f22))) (l22:K.lookup f22=some ⟨oc22,od22,.func (W.fnOf "word_worth" "word_worth" (Zx Y8) (Zu Y8) (Zf Y8) .none kV22 dc22 pm22 an22 cd22 ct22),sl22⟩) (c22:W.codeIn K cd22 "word_worth" = true) (k22:W.keepIn K (.ref f22)=true)
  (a23:W.nsIn K mainGlobals "truth_of_sums" = some (some (.ref f23))) (l23:K.lookup f23=some ⟨oc23,od23,.func (W.fnOf "truth_of_sums" "truth_of_sums" (Zx ZZ) (Zu ZZ) (Zf ZZ) .none kV23 dc23 pm23 an23 cd23 ct23),sl23⟩) (c23:W.codeIn K cd23 "truth_of_sums" = true) (k23:W.keepIn K (.ref f23)=true)
  (a24:W.nsIn K mainGlobals "_law_width" = some (some (.ref f24))) (l24:K.lookup f24=some ⟨oc24,od24,.func (W.fnOf "_law_width" "_law_width" (Zx YK) (Zu YK) (Zf YK) .none kV24 dc24 pm24 an24 cd24 ct24),sl24⟩) (c24:W.codeIn K cd24 "_law_width" = true) (k24:W.keepIn K (.ref f24)=true)
  (a25:W.nsIn K mainGlobals "_law_names" = some (some (.ref f25))) (l25:K.lookup f25=some ⟨oc25,od25,.func (W.fnOf "_law_names" "_law_names" (Zx Ys) (Zu Ys) (Zf Ys) .none kV25 dc25 pm25 an25 cd25 ct25),sl25⟩) (c25:W.codeIn K cd25 "_law_names" = true) (k25:W.keepIn K (.ref f25)=true)
  (a26:W.nsIn K mainGlobals "_law_leaf" = some (some (.ref f26))) (l26:K.lookup f26=some ⟨oc26,od26,.func (W.fnOf "_law_leaf" "_law_leaf" (Zx Xs) (Zu Xs) (Zf Xs) .none kV26 dc26 pm26 an26 cd26 ct26),sl26⟩) (c26:W.codeIn K cd26 "_law_leaf" = true) (k26:W.keepIn K (.ref f26)=true)
  (a27:W.nsIn K mainGlobals "_law_join" = some (some (.ref f27))) (l27:K.lookup f27=some ⟨oc27,od27,.func (W.fnOf "_law_join" "_law_join" (Zx Xt) (Zu Xt) (Zf Xt) .none kV27 dc27 pm27 an27 cd27 ct27),sl27⟩) (c27:W.codeIn K cd27 "_law_join" = true) (k27:W.keepIn K (.ref f27)=true)
  (a28:W.nsIn K mainGlobals "_law_made" = some (some (.ref f28))) (l28:K.lookup f28=some ⟨oc28,od28,.func (W.fnOf "_law_made" "_law_made" (Zx Y9) (Zu Y9) (Zf Y9) .none kV28 dc28 pm28 an28 cd28 ct28),sl28⟩) (c28:W.codeIn K cd28 "_law_made" = true) (k28:W.keepIn K (.ref f28)=true)
  (a29:W.nsIn K mainGlobals "_law_values" = some (some (.ref f29))) (l29:K.lookup f29=some ⟨oc29,od29,.func (W.fnOf "_law_values" "_law_values" (Zx YA) (Zu YA) (Zf YA) .none kV29 dc29 pm29 an29 cd29 ct29),sl29⟩) (c29:W.codeIn K cd29 "_law_values" = true) (k29:W.keepIn K (.ref f29)=true)
  (a30:W.nsIn K mainGlobals "parts_taken" = some (some (.ref f30))) (l30:K.lookup f30=some ⟨oc30,od30,.func (W.fnOf "parts_taken" "parts_taken" (Zx Yd) (Zu Yd) (Zf Yd) .none kV30 dc30 pm30 an30 cd30 ct30),sl30⟩) (c30:W.codeIn K cd30 "parts_taken" = true) (k30:W.keepIn K (.ref f30)=true)
  (a31:W.nsIn K mainGlobals "refuse_lacking" = some (some (.ref f31))) (l31:K.lookup f31=some ⟨oc31,od31,.func (W.fnOf "refuse_lacking" "refuse_lacking" (Zx ZQ) (Zu ZQ) (Zf ZQ) .none kV31 dc31 pm31 an31 cd31 ct31),sl31⟩) (c31:W.codeIn K cd31 "refuse_lacking" = true) (k31:W.keepIn K (.ref f31)=true)
  (a32:W.nsIn K mainGlobals "told_of_word" = some (some (.ref f32))) (l32:K.lookup f32=some ⟨oc32,od32,.func (W.fnOf "told_of_word" "told_of_word" (Zx Yk) (Zu Yk) (Zf Yk) .none kV32 dc32 pm32 an32 cd32 ct32),sl32⟩) (c32:W.codeIn K cd32 "told_of_word" = true) (k32:W.keepIn K (.ref f32)=true)
  (a33:W.nsIn K mainGlobals "_law_sum" = some (some (.ref f33))) (l33:K.lookup f33=some ⟨oc33,od33,.func (W.fnOf "_law_sum" "_law_sum" (Zx XY) (Zu XY) (Zf XY) .none kV33 dc33 pm33 an33 cd33 ct33),sl33⟩) (c33:W.codeIn K cd33 "_law_sum" = true) (k33:W.keepIn K (.ref f33)=true)
  (a34:W.nsIn K mainGlobals "_law_rows" = some (some (.ref f34))) (l34:K.lookup f34=some ⟨oc34,od34,.func (W.fnOf "_law_rows" "_law_rows" (Zx YL) (Zu YL) (Zf YL) .none kV34 dc34 pm34 an34 cd34 ct34),sl34⟩) (c34:W.codeIn K cd34 "_law_rows" = true) (k34:W.keepIn K (.ref f34)=true)
  (a35:W.nsIn K mainGlobals "_law_atom" = some (some (.ref f35))) (l35:K.lookup f35=some ⟨oc35,od35,.func (W.fnOf "_law_atom" "_law_atom" (Zx Xu) (Zu Xu) (Zf Xu) .none kV35 dc35 pm35 an35 cd35 ct35),sl35⟩) (c35:W.codeIn K cd35 "_law_atom" = true) (k35:W.keepIn K (.ref f35)=true)
  (a36:W.nsIn K mainGlobals "_law_holds" = some (some (.ref f36))) (l36:K.lookup f36=some ⟨oc36,od36,.func (W.fnOf "_law_holds" "_law_holds" (Zx YM) (Zu YM) (Zf YM) .none kV36 dc36 pm36 an36 cd36 ct36),sl36⟩) (c36:W.codeIn K cd36 "_law_holds" = true) (k36:W.keepIn K (.ref f36)=true)
  (a37:W.nsIn K mainGlobals "_law_claim" = some (some (.ref f37))) (l37:K.lookup f37=some ⟨oc37,od37,.func (W.fnOf "_law_claim" "_law_claim" (Zx YN) (Zu YN) (Zf YN) .none kV37 dc37 pm37 an37 cd37 ct37),sl37⟩) (c37:W.codeIn K cd37 "_law_claim" = true) (k37:W.keepIn K (.ref f37)=true)
  (a38:W.nsIn K mainGlobals "folded" = some (some (.ref f38))) (l38:K.lookup f38=some ⟨oc38,od38,.func (W.fnOf "folded" "folded" (Zx WZ) (Zu WZ) (Zf WZ) .none kV38 dc38 pm38 an38 cd38 ct38),sl38⟩) (c38:W.codeIn K cd38 "folded" = true) (k38:W.keepIn K (.ref f38)=true)
  (a39:W.nsIn K mainGlobals "holds" = some (some (.ref f39))) (l39:K.lookup f39=some ⟨oc39,od39,.func (W.fnOf "holds" "holds" (Zx J3) (Zu J3) (Zf J3) .none kV39 dc39 pm39 an39 cd39 ct39),sl39⟩) (c39:W.codeIn K cd39 "holds" = true) (k39:W.keepIn K (.ref f39)=true)
  (a40:W.nsIn K mainGlobals "_law_refused" = some (some (.ref f40))) (l40:K.lookup f40=some ⟨oc40,od40,.func (W.fnOf "_law_refused" "_law_refused" (Zx Y0) (Zu Y0) (Zf Y0) .none kV40 dc40 pm40 an40 cd40 ct40),sl40⟩) (c40:W.codeIn K cd40 "_law_refused" = true) (k40:W.keepIn K (.ref f40)=true)
  (a41:W.nsIn K mainGlobals "_law_right" = some (some (.ref f41))) (l41:K.lookup f41=some ⟨oc41,od41,.func (W.fnOf "_law_right" "_law_right" (Zx Yt) (Zu Yt) (Zf Yt) .none kV41 dc41 pm41 an41 cd41 ct41),sl41⟩) (c41:W.codeIn K cd41 "_law_right" = true) (k41:W.keepIn K (.ref f41)=true)
  (a42:W.nsIn K mainGlobals "law" = some (some (.ref f42))) (l42:K.lookup f42=some ⟨oc42,od42,.func (W.fnOf "law" "law" (Zx xR) (Zu xR) (Zf xR) .none kV42 dc42 pm42 an42 cd42 ct42),sl42⟩) (c42:W.codeIn K cd42 "law" = true) (k42:W.keepIn K (.ref f42)=true)
  {GSUM_PARTS:Addr} {ESUM_PARTS:Array DictEntry} {PSUM_PARTS:Nat} (ga_SUM_PARTS:W.nsIn K mainGlobals "SUM_PARTS" = some (some (.ref GSUM_PARTS))) (gl_SUM_PARTS:K.lookup GSUM_PARTS=some { cls:=.type "dict",dict:=none,data:=.dict ESUM_PARTS PSUM_PARTS,slots:=#[] }) (ge_SUM_PARTS:KTab w.params ESUM_PARTS.toList [("not",1),("neg",1),("twice",1),("low",1),("and",2),("or",2),("odd",2),("add",2),("sub",2),("pick",3)]) (gn_SUM_PARTS:(GSUM_PARTS == sysModules)=false)
  {GSUMS_IN_CLAIM:Addr} {ESUMS_IN_CLAIM:Array DictEntry} {PSUMS_IN_CLAIM:Nat} (ga_SUMS_IN_CLAIM:W.nsIn K mainGlobals "SUMS_IN_CLAIM" = some (some (.ref GSUMS_IN_CLAIM))) (gl_SUMS_IN_CLAIM:K.lookup GSUMS_IN_CLAIM=some { cls:=.type "dict",dict:=none,data:=.dict ESUMS_IN_CLAIM PSUMS_IN_CLAIM,slots:=#[] }) (ge_SUMS_IN_CLAIM:KTab w.params ESUMS_IN_CLAIM.toList [("same",2),("under",2),("beneath",2),("sign",1),("nought",1)]) (gn_SUMS_IN_CLAIM:(GSUMS_IN_CLAIM == sysModules)=false)
  {GCLAIMS_IN_CLAIM:Addr} {ECLAIMS_IN_CLAIM:Array DictEntry} {PCLAIMS_IN_CLAIM:Nat} (ga_CLAIMS_IN_CLAIM:W.nsIn K mainGlobals "CLAIMS_IN_CLAIM" = some (some (.ref GCLAIMS_IN_CLAIM))) (gl_CLAIMS_IN_CLAIM:K.lookup GCLAIMS_IN_CLAIM=some { cls:=.type "dict",dict:=none,data:=.dict ECLAIMS_IN_CLAIM PCLAIMS_IN_CLAIM,slots:=#[] }) (ge_CLAIMS_IN_CLAIM:KTab w.params ECLAIMS_IN_CLAIM.toList [("both",2),("either",2),("so",2),("never",1),("yes",0)]) (gn_CLAIMS_IN_CLAIM:(GCLAIMS_IN_CLAIM == sysModules)=false)
  {KLETTERS:Tok} (ga_LETTERS:W.nsIn K mainGlobals "LETTERS" = some (some (.str "abcdefghijklmnopqrstuvwxyz" KLETTERS)))
  {KLONGEST_NAME:Tok} (ga_LONGEST_NAME:W.nsIn K mainGlobals "LONGEST_NAME" = some (some (.int 8 KLONGEST_NAME)))
  (xm_NoName:mkIn K XNoName f19=true) (xt_NoName:atIn K XNoName "word" = true)
  (q_not:W.kitAny K (.ref XNoName) [.ref XNoAsk,.ref XNoClaim,.ref XNoShorter,.ref XNoSum,.ref XNoTurning,.ref XNoWords]=some false)
  (q_val:W.kitOne K (.ref XNoName) (.type "ValueError")=some true)
  (z_ValueError:W.nsIn K mainGlobals "ValueError" = some none)
  (z_all:W.nsIn K mainGlobals "all" = some none)
  (z_bool:W.nsIn K mainGlobals "bool" = some none)
  (z_dict:W.nsIn K mainGlobals "dict" = some none)
  (z_int:W.nsIn K mainGlobals "int" = some none)
  (z_isinstance:W.nsIn K mainGlobals "isinstance" = some none)
  (z_len:W.nsIn K mainGlobals "len" = some none)
  (z_range:W.nsIn K mainGlobals "range" = some none)
  (z_reversed:W.nsIn K mainGlobals "reversed" = some none)
  (z_str:W.nsIn K mainGlobals "str" = some none)
  (z_sum:W.nsIn K mainGlobals "sum" = some none)
  (z_tuple:W.nsIn K mainGlobals "tuple" = some none)
  (z_zip:W.nsIn K mainGlobals "zip" = some none)
  (kc_holds:cd39=.ref 221)
  : ∃fd:FuncData,(∀(s:Shared) (v:Value),BindsTo s fd ⟨[v],[]⟩ [("script",v)])∧∀base:Heap,K.In base→base.Ns mainGlobals mg→(∀q∈([(221,217)]:List (Addr × Addr)),W.CodeHd base q.1 q.2)→qR mg base→Z7 l.prog w K mg base CX0 17 fa fd ["script"] (jn K 217):=by
 have e:=hfa.symm.trans (W.mg_of X G a42)
 cases e
 have F0:=Z3 (st:=Xm) l0 c0 k0
 have b0:=F0.binds (ps:=["width"]) fun _ _ _ _ _ _=>jG fun _=>rfl
 have F1:=Z3 (st:=Yx) l1 c1 k1
 have b1:=F1.binds (ps:=["text"]) fun _ _ _ _ _ _=>jG fun _=>rfl
 have F2:=Z3 (st:=ZX) l2 c2 k2
 have b2:=F2.binds (ps:=["text"]) fun _ _ _ _ _ _=>jG fun _=>rfl
 have F3:=Z3 (st:=Yy) l3 c3 k3
 have b3:=F3.binds (ps:=["word"]) fun _ _ _ _ _ _=>jG fun _=>rfl
 have F4:=Z3 (st:=ZY) l4 c4 k4
 have b4:=F4.binds (ps:=["word"]) fun _ _ _ _ _ _=>jG fun _=>rfl
 have F5:=Z3 (st:=Yr) l5 c5 k5
 have b5:=F5.binds (ps:=["text","signs"]) fun _ _ _ _ _ _=>yW fun _ _=>rfl
 have F6:=Z3 (st:=Yi) l6 c6 k6
 have b6:=F6.binds (ps:=["word","part"]) fun _ _ _ _ _ _=>yW fun _ _=>rfl
 have F7:=Z3 (st:=Yj) l7 c7 k7
 have b7:=F7.binds (ps:=["word","one","other"]) fun _ _ _ _ _ _=>Zbc fun _ _ _=>rfl
 have F8:=Z3 (st:=WY) l8 c8 k8
 have b8:=F8.binds (ps:=["word","many"]) fun _ _ _ _ _ _=>yW fun _ _=>rfl
 have F9:=Z3 (st:=ZL) l9 c9 k9
 have b9:=F9.binds (ps:=["word","truths"]) fun _ _ _ _ _ _=>yW fun _ _=>rfl
 have F10:=Z3 (st:=Xn) l10 c10 k10
 have b10:=F10.binds (ps:=["script"]) fun _ _ _ _ _ _=>jG fun _=>rfl
 have F11:=Z3 (st:=Xo) l11 c11 k11
 have b11:=F11.binds (ps:=["deck","many"]) fun _ _ _ _ _ _=>yW fun _ _=>rfl
 have F12:=Z3 (st:=YH) l12 c12 k12
 have b12:=F12.binds (ps:=["width"]) fun _ _ _ _ _ _=>jG fun _=>rfl
 have F13:=Z3 (st:=Xp) l13 c13 k13
 have b13:=F13.binds (ps:=[]) fun _ _ _ _ _ _ us hl=>match us,hl with | [],_=>rfl
 have F14:=Z3 (st:=Xq) l14 c14 k14
 have b14:=F14.binds (ps:=["number","width"]) fun _ _ _ _ _ _=>yW fun _ _=>rfl
 have F15:=Z3 (st:=YI) l15 c15 k15
 have b15:=F15.binds (ps:=["one","other","carry"]) fun _ _ _ _ _ _=>Zbc fun _ _ _=>rfl
 have F16:=Z3 (st:=Y7) l16 c16 k16
 have b16:=F16.binds (ps:=["one"]) fun _ _ _ _ _ _=>jG fun _=>rfl
 have F17:=Z3 (st:=ZD) l17 c17 k17
 have b17:=F17.binds (ps:=["one"]) fun _ _ _ _ _ _=>jG fun _=>rfl
 have F18:=Z3 (st:=YJ) l18 c18 k18
 have b18:=F18.binds (ps:=["word","pile"]) fun _ _ _ _ _ _=>yW fun _ _=>rfl
 have F19:=Z3 (st:=Yz) l19 c19 k19
 have b19:=F19.binds (ps:=["self","word"]) fun _ _ _ _ _ _=>yW fun _ _=>rfl
 have F20:=Z3 (st:=Xr) l20 c20 k20
 have b20:=F20.binds (ps:=["word"]) fun _ _ _ _ _ _=>jG fun _=>rfl
 have F21:=Z3 (st:=XX) l21 c21 k21
 have b21:=F21.binds (ps:=["text"]) fun _ _ _ _ _ _=>jG fun _=>rfl
 have F22:=Z3 (st:=Y8) l22 c22 k22
 have b22:=F22.binds (ps:=["word","parts","values"]) fun _ _ _ _ _ _=>Zbc fun _ _ _=>rfl
 have F23:=Z3 (st:=ZZ) l23 c23 k23
 have b23:=F23.binds (ps:=["word","worths","many"]) fun _ _ _ _ _ _=>Zbc fun _ _ _=>rfl
 have F24:=Z3 (st:=YK) l24 c24 k24
 have b24:=F24.binds (ps:=["deck"]) fun _ _ _ _ _ _=>jG fun _=>rfl
 have F25:=Z3 (st:=Ys) l25 c25 k25
 have b25:=F25.binds (ps:=["deck"]) fun _ _ _ _ _ _=>jG fun _=>rfl
 have F26:=Z3 (st:=Xs) l26 c26 k26
 have b26:=F26.binds (ps:=["deck","names"]) fun _ _ _ _ _ _=>yW fun _ _=>rfl
 have F27:=Z3 (st:=Xt) l27 c27 k27
 have b27:=F27.binds (ps:=["deck"]) fun _ _ _ _ _ _=>jG fun _=>rfl
 have F28:=Z3 (st:=Y9) l28 c28 k28
 have b28:=F28.binds (ps:=["word","sums_in"]) fun _ _ _ _ _ _=>yW fun _ _=>rfl
 have F29:=Z3 (st:=YA) l29 c29 k29
 have b29:=F29.binds (ps:=["deck","names","width"]) fun _ _ _ _ _ _=>Zbc fun _ _ _=>rfl
 have F30:=Z3 (st:=Yd) l30 c30 k30
 have b30:=F30.binds (ps:=["stack","word"]) fun _ _ _ _ _ _=>yW fun _ _=>rfl
 have F31:=Z3 (st:=ZQ) l31 c31 k31
 have b31:=F31.binds (ps:=["words","values"]) fun _ _ _ _ _ _=>yW fun _ _=>rfl
 have F32:=Z3 (st:=Yk) l32 c32 k32
 have b32:=F32.binds (ps:=["word","parts","many","values"]) fun _ _ _ _ _ _=>Zdn fun _ _ _ _=>rfl
 have F33:=Z3 (st:=XY) l33 c33 k33
 have b33:=F33.binds (ps:=["deck","names","most","heavy"]) fun _ _ _ _ _ _=>Zdn fun _ _ _ _=>rfl
 have F34:=Z3 (st:=YL) l34 c34 k34
 have b34:=F34.binds (ps:=["word","pile","width","values"]) fun _ _ _ _ _ _=>Zdn fun _ _ _ _=>rfl
 have F35:=Z3 (st:=Xu) l35 c35 k35
 have b35:=F35.binds (ps:=["deck","names","heavy","most"]) fun _ _ _ _ _ _=>Zdn fun _ _ _ _=>rfl
 have F36:=Z3 (st:=YM) l36 c36 k36
 have b36:=F36.binds (ps:=["claim","width","values"]) fun _ _ _ _ _ _=>Zbc fun _ _ _=>rfl
 have F37:=Z3 (st:=YN) l37 c37 k37
 have b37:=F37.binds (ps:=["deck","names","heavy"]) fun _ _ _ _ _ _=>Zbc fun _ _ _=>rfl
 have F38:=Z3 (st:=WZ) l38 c38 k38
 have b38:=F38.binds (ps:=["words","told_of"]) fun _ _ _ _ _ _=>yW fun _ _=>rfl
 have F39:=Z3 (st:=J3) l39 c39 k39
 have b39:=F39.binds (ps:=["claim","width","values"]) fun _ _ _ _ _ _=>Zbc fun _ _ _=>rfl
 have F40:=Z3 (st:=Y0) l40 c40 k40
 have b40:=F40.binds (ps:=["claim","width","values","name"]) fun _ _ _ _ _ _=>Zdn fun _ _ _ _=>rfl
 have F41:=Z3 (st:=Yt) l41 c41 k41
 have b41:=F41.binds (ps:=["deck","names","claim","width"]) fun _ _ _ _ _ _=>Zdn fun _ _ _ _=>rfl
 have F42:=Z3 (st:=xR) l42 c42 k42
 have b42:=F42.binds (ps:=["script"]) fun _ _ _ _ _ _=>jG fun _=>rfl
 have T:Txt K w mg ⟨f0,_,f1,_,f2,_,f3,_,f4,_,f5,_,f6,_,f7,_,f8,_,f9,_,f10,_,f11,_,f12,_,f13,_,f14,_,f15,_,f16,_,f17,_,f18,_,f19,_,f20,_,f21,_,f22,_,f23,_,f24,_,f25,_,f26,_,f27,_,f28,_,f29,_,f30,_,f31,_,f32,_,f33,_,f34,_,f35,_,f36,_,f37,_,f38,_,f39,_,f40,_,f41,_,fa,_,221,217,XWidthError,XNoSum,XNoClaim,XNoWords,XNoTurning,XNoShorter,XNoAsk,XNoName,GSUM_PARTS,GSUMS_IN_CLAIM,GCLAIMS_IN_CLAIM,KLETTERS,KLONGEST_NAME⟩:=⟨⟨W.mg_of X G ga_SUM_PARTS,⟨⟨_,_,gl_SUM_PARTS,ge_SUM_PARTS⟩,by decide +kernel,gn_SUM_PARTS⟩⟩,⟨W.mg_of X G ga_SUMS_IN_CLAIM,⟨⟨_,_,gl_SUMS_IN_CLAIM,ge_SUMS_IN_CLAIM⟩,by decide +kernel,gn_SUMS_IN_CLAIM⟩⟩,⟨W.mg_of X G ga_CLAIMS_IN_CLAIM,⟨⟨_,_,gl_CLAIMS_IN_CLAIM,ge_CLAIMS_IN_CLAIM⟩,by decide +kernel,gn_CLAIMS_IN_CLAIM⟩⟩,W.mg_of X G ga_LETTERS,W.mg_of X G ga_LONGEST_NAME,⟨F0,W.mg_of X G a0,b0⟩,⟨F1,W.mg_of X G a1,b1⟩,⟨F2,W.mg_of X G a2,b2⟩,⟨F3,W.mg_of X G a3,b3⟩,⟨F4,W.mg_of X G a4,b4⟩,⟨F5,W.mg_of X G a5,b5⟩,⟨F6,W.mg_of X G a6,b6⟩,⟨F7,W.mg_of X G a7,b7⟩,⟨F8,W.mg_of X G a8,b8⟩,⟨F9,W.mg_of X G a9,b9⟩,⟨F10,W.mg_of X G a10,b10⟩,⟨F11,W.mg_of X G a11,b11⟩,⟨F12,W.mg_of X G a12,b12⟩,⟨F13,W.mg_of X G a13,b13⟩,⟨F14,W.mg_of X G a14,b14⟩,⟨F15,W.mg_of X G a15,b15⟩,⟨F16,W.mg_of X G a16,b16⟩,⟨F17,W.mg_of X G a17,b17⟩,⟨F18,W.mg_of X G a18,b18⟩,⟨F19,b19⟩,⟨F20,W.mg_of X G a20,b20⟩,⟨F21,W.mg_of X G a21,b21⟩,⟨F22,W.mg_of X G a22,b22⟩,⟨F23,W.mg_of X G a23,b23⟩,⟨F24,W.mg_of X G a24,b24⟩,⟨F25,W.mg_of X G a25,b25⟩,⟨F26,W.mg_of X G a26,b26⟩,⟨F27,W.mg_of X G a27,b27⟩,⟨F28,W.mg_of X G a28,b28⟩,⟨F29,W.mg_of X G a29,b29⟩,⟨F30,W.mg_of X G a30,b30⟩,⟨F31,W.mg_of X G a31,b31⟩,⟨F32,W.mg_of X G a32,b32⟩,⟨F33,W.mg_of X G a33,b33⟩,⟨F34,W.mg_of X G a34,b34⟩,⟨F35,W.mg_of X G a35,b35⟩,⟨F36,W.mg_of X G a36,b36⟩,⟨F37,W.mg_of X G a37,b37⟩,⟨F38,W.mg_of X G a38,b38⟩,⟨F39,W.mg_of X G a39,b39⟩,⟨F40,W.mg_of X G a40,b40⟩,⟨F41,W.mg_of X G a41,b41⟩,⟨F42,W.mg_of X G a42,b42⟩,kc_holds,W.mg_none_of X G z_ValueError,W.mg_none_of X G z_all,W.mg_none_of X G z_bool,W.mg_none_of X G z_dict,W.mg_none_of X G z_int,W.mg_none_of X G z_isinstance,W.mg_none_of X G z_len,W.mg_none_of X G z_range,W.mg_none_of X G z_reversed,W.mg_none_of X G z_str,W.mg_none_of X G z_sum,W.mg_none_of X G z_tuple,W.mg_none_of X G z_zip⟩
 exact ⟨_,fun s v=>(show BindsTo s (W.fnOf "law" "law" (Zx xR) (Zu xR) (Zf xR) .none kV42 dc42 pm42 an42 cd42 ct42) ⟨[v],[]⟩ [("script",v)] from .of_eq rfl),fun base hKb _ hC hB=>ok_law T ⟨hC (221,217) (by simp),hB⟩ ⟨W.mg_of X G xa_WidthError,W.mg_of X G xa_NoSum,W.mg_of X G xa_NoClaim,W.mg_of X G xa_NoWords,W.mg_of X G xa_NoTurning,W.mg_of X G xa_NoShorter,W.mg_of X G xa_NoAsk,W.mg_of X G xa_NoName,J2 hKb (W.mg_of X G xa_WidthError) xe_WidthError,xk_WidthError,J2 hKb (W.mg_of X G xa_NoSum) xe_NoSum,xk_NoSum,J2 hKb (W.mg_of X G xa_NoClaim) xe_NoClaim,xk_NoClaim,J2 hKb (W.mg_of X G xa_NoWords) xe_NoWords,xk_NoWords,J2 hKb (W.mg_of X G xa_NoTurning) xe_NoTurning,xk_NoTurning,J2 hKb (W.mg_of X G xa_NoShorter) xe_NoShorter,xk_NoShorter,J2 hKb (W.mg_of X G xa_NoAsk) xe_NoAsk,xk_NoAsk,Wq hKb xb_NoSum,Wq hKb xb_NoClaim,Wq hKb xb_NoWords,Wq hKb xb_NoTurning,Wq hKb xb_NoShorter,Wq hKb xb_NoAsk,Wq hKb xb_NoName,Gw xc_WidthError,Gw xc_NoSum,Gw xc_NoClaim,Gw xc_NoWords,Gw xc_NoTurning,Gw xc_NoShorter,Gw xc_NoAsk,Gw xc_NoName,mk_of xm_NoName,at_of xt_NoName,q_not,q_val⟩⟩
theorem walk{l:W.OpenLaw}{q:Program}{loose:List Str}{XP:(Str→Option Value)→Heap→Prop}{YP:World→Heap→Prop}{d:DefRec}{K:Params→W.Frag}(hn:l.most=some 63)(hdf:d.params.defaults=[])
  (hY:∀(w:World) (h:Heap),YP w h→(K w.params).In h)
  (hTab:∀(w:World) (mean:ExcName→Option Value) (mg mb:Str→Option Value) (h:Heap),PyProof.Rows.Top q (W.looseW q loose) mean mg mb h→(K w.params).In h→W.TabsAt [(221,217)] h) (hKt:∀w:World,W.noTabs (K w.params)=true)
  (F:∀(w:World) (mg:Str→Option Value) (fa:Addr) (h:Heap),(K w.params).In h→h.Ns mainGlobals mg→mg d.name=some (.ref fa) →
   ∃fd:FuncData,(∀(s:Shared) (u:Value),BindsTo s fd ⟨[u],[]⟩ [("script",u)])∧∀base:Heap,(K w.params).In base→base.Ns mainGlobals mg→(∀q∈([(221,217)]:List (Addr × Addr)),W.CodeHd base q.1 q.2)→qR mg base→Z7 l.prog w (K w.params) mg base CX0 17 fa fd ["script"] (jn (K w.params) 217)) :
  W.WalkO q loose XP YP l.row.toRowW d [] (fun f vs=>PySem.call f vs) :=
 L2.walk_ofT (n:=63) (k:=17) (x := "script") (CX:=fun _=>CX0) (sp:=fun w=>jn (K w.params) 217) hn (by decide) hdf ⟨rfl,by decide,by decide⟩ hY hTab hKt F (fun _ _ a ns hl hT hS=>⟨a,ns,rfl,hS,hl,.inl (hT (221,217) (by simp)),fun _=>rfl⟩) fun _ _ _ _ _ z=>z
theorem walkZ{l:W.OpenLaw}{q:Program}{loose:List Str}{XP:(Str→Option Value)→Heap→Prop}{d:DefRec}{K0:Params→W.Frag}(hn:l.most=some 63)(hdf:d.params.defaults=[])
  (hs:∀P,L2.nodB ((K0 P).map (·.1))=true)
  (hTab:∀(w:World) (mean:ExcName→Option Value) (mg mb:Str→Option Value) (h:Heap),PyProof.Rows.Top q (W.looseW q loose) mean mg mb h→(L2.noT (K0 w.params)).In h→W.TabsAt [(221,217)] h)
  (F:∀(w:World) (mg:Str→Option Value) (fa:Addr) (h:Heap),(L2.noT (K0 w.params)).In h→h.Ns mainGlobals mg→mg d.name=some (.ref fa) →
   ∃fd:FuncData,(∀(s:Shared) (u:Value),BindsTo s fd ⟨[u],[]⟩ [("script",u)])∧∀base:Heap,(L2.noT (K0 w.params)).In base→base.Ns mainGlobals mg→(∀q∈([(221,217)]:List (Addr × Addr)),W.CodeHd base q.1 q.2)→qR mg base→Z7 l.prog w (L2.noT (K0 w.params)) mg base CX0 17 fa fd ["script"] (jn (L2.noT (K0 w.params)) 217)) :
  W.WalkO q loose XP (W.InK K0) l.row.toRowW d [] (fun f vs=>PySem.call f vs) :=
 walk (K:=fun P=>L2.noT (K0 P)) hn hdf (fun w h Y=>L2.in_noT (hs _) Y) hTab (fun w=>L2.noT_ok _) F
end Lw
open PySem PySem.W PyProof.Rows
set_option maxRecDepth 100000 in
set_option maxHeartbeats 0 in
theorem PySem.Challenge.cw_everywidth_k11_holds_holds : PySem.Challenge.rw_everywidth_k11_holds.Holds := by
 w_on; refine holds_law Hw.ws fun said => ?_
 refine holds_openX Hw.left (fun s e => xl_of s (Bool.and_eq_true_iff.mp e).1) XL.keeps
   (by rfl) (by rfl) (by rfl)
   (fun s e => recFacts_of (Bool.and_eq_true_iff.mp e).2) (by rfl)
   (by first | assumption | decide +kernel) (by decide +kernel) ⟨rfl, rfl, rfl, rfl, rfl, by decide +kernel⟩ ?hw ?_
 (case hw => w_witness2)
 refine L2.walk_X (fun _=>by kernel_rfl) ?_
 k_fill
 refine Lw.walkZ (l:=PySem.Challenge.rw_everywidth_k11_holds) rfl rfl (fun _=>by kernel_rfl) (fun w mean mg mb h T X=>List.forall_mem_cons.mpr ⟨PySem.W.tab_of (x:=PySem.Str.ofString "holds") (c:=221) (P:=217) T X rfl (by kernel_rfl),List.forall_mem_nil _⟩) ?F
 case F =>
  intro w mg fa h KX G hmg
  refine' Lw.all_mk KX G hmg ?xa_WidthError ?xa_NoSum ?xa_NoClaim ?xa_NoWords ?xa_NoTurning ?xa_NoShorter ?xa_NoAsk ?xa_NoName ?xe_WidthError ?xk_WidthError ?xe_NoSum ?xk_NoSum ?xe_NoClaim ?xk_NoClaim ?xe_NoWords ?xk_NoWords ?xe_NoTurning ?xk_NoTurning ?xe_NoShorter ?xk_NoShorter ?xe_NoAsk ?xk_NoAsk ?xb_NoSum ?xb_NoClaim ?xb_NoWords ?xb_NoTurning ?xb_NoShorter ?xb_NoAsk ?xb_NoName ?xc_WidthError ?xc_NoSum ?xc_NoClaim ?xc_NoWords ?xc_NoTurning ?xc_NoShorter ?xc_NoAsk ?xc_NoName ?a0 ?l0 ?c0 ?k0 ?a1 ?l1 ?c1 ?k1 ?a2 ?l2 ?c2 ?k2 ?a3 ?l3 ?c3 ?k3 ?a4 ?l4 ?c4 ?k4 ?a5 ?l5 ?c5 ?k5 ?a6 ?l6 ?c6 ?k6 ?a7 ?l7 ?c7 ?k7 ?a8 ?l8 ?c8 ?k8 ?a9 ?l9 ?c9 ?k9 ?a10 ?l10 ?c10 ?k10 ?a11 ?l11 ?c11 ?k11 ?a12 ?l12 ?c12 ?k12 ?a13 ?l13 ?c13 ?k13 ?a14 ?l14 ?c14 ?k14 ?a15 ?l15 ?c15 ?k15 ?a16 ?l16 ?c16 ?k16 ?a17 ?l17 ?c17 ?k17 ?a18 ?l18 ?c18 ?k18 ?a19 ?l19 ?c19 ?k19 ?a20 ?l20 ?c20 ?k20 ?a21 ?l21 ?c21 ?k21 ?a22 ?l22 ?c22 ?k22 ?a23 ?l23 ?c23 ?k23 ?a24 ?l24 ?c24 ?k24 ?a25 ?l25 ?c25 ?k25 ?a26 ?l26 ?c26 ?k26 ?a27 ?l27 ?c27 ?k27 ?a28 ?l28 ?c28 ?k28 ?a29 ?l29 ?c29 ?k29 ?a30 ?l30 ?c30 ?k30 ?a31 ?l31 ?c31 ?k31 ?a32 ?l32 ?c32 ?k32 ?a33 ?l33 ?c33 ?k33 ?a34 ?l34 ?c34 ?k34 ?a35 ?l35 ?c35 ?k35 ?a36 ?l36 ?c36 ?k36 ?a37 ?l37 ?c37 ?k37 ?a38 ?l38 ?c38 ?k38 ?a39 ?l39 ?c39 ?k39 ?a40 ?l40 ?c40 ?k40 ?a41 ?l41 ?c41 ?k41 ?a42 ?l42 ?c42 ?k42 ?ga_SUM_PARTS ?gl_SUM_PARTS ?ge_SUM_PARTS ?gn_SUM_PARTS ?ga_SUMS_IN_CLAIM ?gl_SUMS_IN_CLAIM ?ge_SUMS_IN_CLAIM ?gn_SUMS_IN_CLAIM ?ga_CLAIMS_IN_CLAIM ?gl_CLAIMS_IN_CLAIM ?ge_CLAIMS_IN_CLAIM ?gn_CLAIMS_IN_CLAIM ?ga_LETTERS ?ga_LONGEST_NAME ?xm_NoName ?xt_NoName ?q_not ?q_val ?z_ValueError ?z_all ?z_bool ?z_dict ?z_int ?z_isinstance ?z_len ?z_range ?z_reversed ?z_str ?z_sum ?z_tuple ?z_zip ?kc_holds
  (case xa_WidthError | xa_NoSum | xa_NoClaim | xa_NoWords | xa_NoTurning | xa_NoShorter | xa_NoAsk | xa_NoName | a0 | a1 | a2 | a3 | a4 | a5 | a6 | a7 | a8 | a9 | a10 | a11 | a12 | a13 | a14 | a15 | a16 | a17 | a18 | a19 | a20 | a21 | a22 | a23 | a24 | a25 | a26 | a27 | a28 | a29 | a30 | a31 | a32 | a33 | a34 | a35 | a36 | a37 | a38 | a39 | a40 | a41 | a42 | ga_SUM_PARTS | ga_SUMS_IN_CLAIM | ga_CLAIMS_IN_CLAIM | ga_LETTERS | ga_LONGEST_NAME | z_ValueError | z_all | z_bool | z_dict | z_int | z_isinstance | z_len | z_range | z_reversed | z_str | z_sum | z_tuple | z_zip=>first | (refine L2.ns_tr (by kernel_rfl) ?_;k_is) | (refine L2.fi_tr (by kernel_rfl) ?_;k_is))
  (case xe_WidthError | xe_NoSum | xe_NoClaim | xe_NoWords | xe_NoTurning | xe_NoShorter | xe_NoAsk | xb_NoSum | xb_NoClaim | xb_NoWords | xb_NoTurning | xb_NoShorter | xb_NoAsk | xb_NoName | xc_WidthError | xc_NoSum | xc_NoClaim | xc_NoWords | xc_NoTurning | xc_NoShorter | xc_NoAsk | xc_NoName | xm_NoName | xt_NoName | q_not | q_val=>kernel_rfl)
  (case xk_WidthError | xk_NoSum | xk_NoClaim | xk_NoWords | xk_NoTurning | xk_NoShorter | xk_NoAsk | k0 | k1 | k2 | k3 | k4 | k5 | k6 | k7 | k8 | k9 | k10 | k11 | k12 | k13 | k14 | k15 | k16 | k17 | k18 | k19 | k20 | k21 | k22 | k23 | k24 | k25 | k26 | k27 | k28 | k29 | k30 | k31 | k32 | k33 | k34 | k35 | k36 | k37 | k38 | k39 | k40 | k41 | k42=>refine L2.kp_tr (by kernel_rfl) ?_;k_is)
  (case l0 | l1 | l2 | l3 | l4 | l5 | l6 | l7 | l8 | l9 | l10 | l11 | l12 | l13 | l14 | l15 | l16 | l17 | l18 | l19 | l20 | l21 | l22 | l23 | l24 | l25 | l26 | l27 | l28 | l29 | l30 | l31 | l32 | l33 | l34 | l35 | l36 | l37 | l38 | l39 | l40 | l41 | l42 | gl_SUM_PARTS | gl_SUMS_IN_CLAIM | gl_CLAIMS_IN_CLAIM=>refine L2.lk_tr (by kernel_rfl) ?_;k_is)
  (case c0 | c1 | c2 | c3 | c4 | c5 | c6 | c7 | c8 | c9 | c10 | c11 | c12 | c13 | c14 | c15 | c16 | c17 | c18 | c19 | c20 | c21 | c22 | c23 | c24 | c25 | c26 | c27 | c28 | c29 | c30 | c31 | c32 | c33 | c34 | c35 | c36 | c37 | c38 | c39 | c40 | c41 | c42=>refine L2.cd_tr (by kernel_rfl) ?_;k_is)
  (case ge_SUM_PARTS | ge_SUMS_IN_CLAIM | ge_CLAIMS_IN_CLAIM=>repeat (first | exact L2.KTab.nil | refine L2.KTab.cons ?_))
  (case gn_SUM_PARTS | gn_SUMS_IN_CLAIM | gn_CLAIMS_IN_CLAIM=>first | rfl | decide +kernel)
  (case kc_holds=>exact rfl)
#print axioms PySem.Challenge.cw_everywidth_k11_holds_holds
