import PyProof.Rows.All
import Wide.All
import OpenK.AllK
import Wide.FinOn
import Lean
import PyProof.EqAt
import PyProof.EqKinds
import PyProof.TupleCall
import PyProof.NeKinds
import KE.KRevSl
import KE.KRevIter
import PyProof.FactsAll.tuple
import PyProof.Rows.SortWalk
import PyProof.Rows.StrJoin2
import PyProof.StrBlockH
import PyProof.StrWalks
import PyProof.StrCalls2
import PyProof.ConsumeWalk
import KE.KIntText
import PyProof.Rows.SortStr
import PyProof.EnumStmt
import PyProof.WalksMore
import KE.KEqDict
import PyProof.DictWalks
import KE.KLam
import PyProof.Rows.SortShellK
import PyProof.AttrMissHeap
import KE.KDictOf
import PyProof.ZipIter
import PyProof.CollectWalk
import PyProof.ListNew
import KE.KSortTup
import PyProof.Rows.TupDisplay
import OpenK.KOwn
import PyProof.Rows.TopTwo
import PyProof.Rows.CatchOwn
import PyProof.RulesDel
import PyProof.RulesAs
import KE.KIsNot
import PyProof.ExcAttrAll.ValueError
import KE.KIsAll
import PyProof.StrReplace2
import PyProof.ReprStr
import PyProof.FString
import PyProof.StrLawsChain
import PyProof.SetRoads
import PyProof.StrLawsRepr
import PyProof.ReprHeads
import PyProof.ReprLen
import PyProof.FactsAll.bool
import KE.KNest
import PyProof.Rows.RuleM_int
import PyProof.Rows.CallKwBuiltin
import KE.KMinKey
import PySem.Challenge.RW_everywidth_k16_claim_machine
noncomputable section
set_option Elab.async false
set_option linter.all false
set_option maxRecDepth 100000
set_option maxHeartbeats 0
namespace Hw
open PySem PySem.W
theorem ws : PySem.Challenge.rw_everywidth_k16_claim_machine.wellSaid = true := by kernel_rfl
def p : Program := PySem.Challenge.rw_everywidth_k16_claim_machine.row.toRowW.prog
def B : List Stmt := behindTheImports p
def nth : List Stmt → Nat → Option Stmt
  | [], _ => none
  | x :: _, 0 => some x
  | _ :: r, n + 1 => nth r n
def fx : Option Stmt → Arguments × List Stmt × Scope × Str × Nat
  | some (.FunctionDef n a b _ _ _ s _ _ x) => (a, b, s, n, x.line)
  | _ => default
def fd (i : Nat) := fx (nth B i)
def vs (s : String) (t : Nat) : Value := .str (Str.ofString s) t
def en (P : Params) (s : String) (t : Nat) (v : Value) : DictEntry := ⟨PyData.keyHash P (Str.ofString s), .str (Str.ofString s) t, v⟩
def tu (l : List Value) : Obj := ⟨.type "tuple", none, .seq (Array.mk l) 0, #[]⟩
def t0 : Obj := tu []
def fi (l : List Value) : Obj := ⟨.none, none, .fields (Array.mk l), #[]⟩
def f0 : Obj := fi []
def vk : Nat → List String → List Value
  | _, [] => []
  | t, s :: r => vs s t :: vk (t + 1) r
def vt (t : Nat) (l : List String) : Obj := tu (vk t l)
abbrev Fd := Arguments × List Stmt × Scope × Str × Nat
def rO (x : Fd) : Obj := ⟨.none, none, .func ⟨x.2.2.2.1, x.2.2.2.1, x.1, .stmts x.2.1, x.2.2.1, 0, [], .none, .none, .none, .none, none, .none, .none, 0⟩, #[]⟩
def fO (x : Fd) (m : Value) (c : Nat) : Obj := ⟨.type "function", none, .func ⟨x.2.2.2.1, x.2.2.2.1, x.1, .stmts x.2.1, x.2.2.1, 3, [], .none, .none, .none, m, none, .ref c, .none, 0⟩, #[]⟩
def fl : String := "/claim/cut.py"
def r (i : Nat) : Obj := rO (fd i)
def f (i : Nat) (m : Value) (c : Nat) : Obj := fO (fd i) m c
def ci (n : Nat) : Value := .int n 0
def c (i t x v : Nat) : Obj := let y := (fd i).2.2.2; ⟨.type "code", none, .fields #[.str y.1 t, .str y.1 (t + 1), vs fl (t + 2), ci y.2, ci (fd i).1.args.length, ci 0, ci 0, ci 3, .ref x, .bool true, ci 181, .ref (x + 1), .none, if v == 0 then .none else .ref (x + 2), if v == 0 then .none else .ref (x + 3), .ref (if v == 0 then x + 2 else x + 4), ci (t + 3 + v), ci y.2, vs fl (t + 4 + v)], #[]⟩
def e (P : Params) (i t a : Nat) : DictEntry := let y := (fd i).2.2.2.1; ⟨PyData.keyHash P y, .str y t, .ref a⟩
def bt (P : Params) : List DictEntry := match (boot_o_3 P).data with
  | .dict e _ => e.toList.tail
  | _ => []
def m0 : Value := vs "everywidth.bits" 187
def m1 : Value := vs "everywidth.vocabulary" 207
def m2 : Value := vs "everywidth.rows" 293
def m3 : Value := vs "everywidth.machines.columns" 301
def m4 : Value := vs "everywidth.machines.found" 378
def m5 : Value := vs "everywidth.machines.made" 395
def m6 : Value := vs "law_everywidth_k16_claim_machine" 423
def es (P : Params) : List DictEntry := [e P 1 197 21,e P 2 206 28,en P "SUM_PARTS" 239 (.ref 29),en P "SUMS_IN_CLAIM" 255 (.ref 30),en P "CLAIMS_IN_CLAIM" 271 (.ref 31),e P 7 278 38,e P 8 285 45,e P 9 292 52,e P 11 300 57,en P "REMEMBERING" 312 (.ref 58),e P 14 319 65,e P 15 325 70,e P 16 340 77,e P 17 350 84,e P 18 359 91,e P 19 369 98,e P 20 377 105,e P 22 385 110,e P 23 394 117,e P 25 404 124,e P 26 410 129,e P 27 416 134,e P 28 422 139,e P 30 431 146,e P 31 439 153,e P 32 453 160,e P 33 459 165,e P 34 467 172,e P 35 477 179,e P 36 483 184,e P 37 499 191,e P 38 517 198,e P 39 525 205,e P 40 534 212,e P 41 542 219,e P 42 552 226,e P 43 561 233,e P 44 575 240,e P 45 588 247,e P 46 600 254,e P 47 612 261,e P 48 620 268,e P 49 634 275,e P 50 645 282,e P 51 658 289,e P 52 664 294]
def vl : List (Nat × Nat) := [(2,20),(7,27),(16,37),(18,44),(20,51),(23,56),(27,64),(29,69),(34,76),(50,83),(61,90),(63,97),(77,104),(94,109),(104,116),(110,123),(112,128),(124,133),(126,138),(129,145),(131,152),(135,159),(151,164),(162,171),(168,178),(177,183),(179,190),(200,197),(225,204),(233,211),(243,218),(247,225),(259,232),(265,239),(289,246),(297,253),(305,260),(316,267),(318,274),(337,281),(344,288),(351,293)]
def md (P : Params) (m : String) (t e k : Nat) : Obj := ⟨.type "dict", none, .dict (Array.mk (en P "__name__" 165 (vs m t) :: bt P ++ (es P).take e)) k, #[]⟩
def tl : List (Nat × Nat) → List Value
  | [] => []
  | x :: r => .int x.1 0 :: .int 0 0 :: .ref x.2 :: tl r
def tb (c : Nat) : Obj := fi (tl (vl.take c))
def K (P : Params) : PySem.W.Frag := (nat_lit 0,boot_o_0 P)::(nat_lit 1,boot_o_1 P)::(nat_lit 2,boot_o_2 P)::(nat_lit 3,md P "law_everywidth_k16_claim_machine" 423 46 55)::(nat_lit 4,boot_o_4 P)::(nat_lit 5,boot_o_5 P)::(nat_lit 6,boot_o_6 P)::(nat_lit 7,boot_o_7 P)::(nat_lit 8,boot_o_8 P)::(nat_lit 9,boot_o_9 P)::(nat_lit 10,boot_o_10 P)::(nat_lit 11,t0)::(nat_lit 12,tb 42)::(nat_lit 13,⟨(.type "code"),none,.fields #[(vs "<module>" 182),(vs "<module>" 183),(vs "/claim/cut.py" 184),(.int 1 0),(.int 0 0),(.int 0 0),(.int 0 0),(.int 0 0),(.ref 11),(.bool false),(.int 181 0),(.ref 12),.none,.none,.none,.none,(.int 185 0),(.int 1 0),(vs "/claim/cut.py" 186)],#[]⟩)::(nat_lit 14,⟨(.type "frame"),none,.plain,#[some (.ref 13),some (.ref 3),some (.ref 3),none,some (vs "__main__" 164),none,some (.ref 0)]⟩)::(nat_lit 15,t0)::(nat_lit 16,f0)::(nat_lit 17,vt 192 ["width","many","bit_number"])::(nat_lit 18,t0)::(nat_lit 19,r 1)::(nat_lit 20,c 1 189 15 3)::(nat_lit 21,f 1 m0 20)::(nat_lit 22,t0)::(nat_lit 23,f0)::(nat_lit 24,vt 201 ["bits","number","bit"])::(nat_lit 25,t0)::(nat_lit 26,r 2)::(nat_lit 27,c 2 198 22 3)::(nat_lit 28,f 2 m0 27)::(nat_lit 29,⟨(.type "dict"),none,.dict #[en P "not" 209 (.int 1 210),en P "neg" 211 (.int 1 212),en P "twice" 213 (.int 1 214),en P "low" 215 (.int 1 216),en P "and" 217 (.int 2 218),en P "or" 219 (.int 2 220),en P "odd" 221 (.int 2 222),en P "add" 223 (.int 2 224),en P "sub" 225 (.int 2 226),en P "pick" 227 (.int 3 228)] 10,#[]⟩)::(nat_lit 30,⟨(.type "dict"),none,.dict #[en P "same" 240 (.int 2 241),en P "under" 242 (.int 2 243),en P "beneath" 244 (.int 2 245),en P "sign" 246 (.int 1 247),en P "nought" 248 (.int 1 249)] 5,#[]⟩)::(nat_lit 31,⟨(.type "dict"),none,.dict #[en P "both" 256 (.int 2 257),en P "either" 258 (.int 2 259),en P "so" 260 (.int 2 261),en P "never" 262 (.int 1 263),en P "yes" 264 (.int 0 265)] 5,#[]⟩)::(nat_lit 32,t0)::(nat_lit 33,f0)::(nat_lit 34,vt 275 ["word"])::(nat_lit 35,t0)::(nat_lit 36,r 7)::(nat_lit 37,c 7 272 32 1)::(nat_lit 38,f 7 m1 37)::(nat_lit 39,t0)::(nat_lit 40,f0)::(nat_lit 41,vt 282 ["word"])::(nat_lit 42,t0)::(nat_lit 43,r 8)::(nat_lit 44,c 8 279 39 1)::(nat_lit 45,f 8 m1 44)::(nat_lit 46,t0)::(nat_lit 47,f0)::(nat_lit 48,vt 289 ["word"])::(nat_lit 49,t0)::(nat_lit 50,r 9)::(nat_lit 51,c 9 286 46 1)::(nat_lit 52,f 9 m1 51)::(nat_lit 53,t0)::(nat_lit 54,f0)::(nat_lit 55,r 11)::(nat_lit 56,c 11 295 53 0)::(nat_lit 57,f 11 m2 56)::(nat_lit 58,vt 303 ["neg","twice","low","add","sub","same","under","beneath","nought"])::(nat_lit 59,t0)::(nat_lit 60,f0)::(nat_lit 61,vt 316 ["word"])::(nat_lit 62,t0)::(nat_lit 63,r 14)::(nat_lit 64,c 14 313 59 1)::(nat_lit 65,f 14 m3 64)::(nat_lit 66,t0)::(nat_lit 67,f0)::(nat_lit 68,r 15)::(nat_lit 69,c 15 320 66 0)::(nat_lit 70,f 15 m3 69)::(nat_lit 71,t0)::(nat_lit 72,f0)::(nat_lit 73,vt 329 ["words","columns","place","kept","stack","later","word","parts","held"])::(nat_lit 74,t0)::(nat_lit 75,r 16)::(nat_lit 76,c 16 326 71 9)::(nat_lit 77,f 16 m3 76)::(nat_lit 78,t0)::(nat_lit 79,f0)::(nat_lit 80,vt 344 ["word","parts","held","one"])::(nat_lit 81,t0)::(nat_lit 82,r 17)::(nat_lit 83,c 17 341 78 4)::(nat_lit 84,f 17 m3 83)::(nat_lit 85,t0)::(nat_lit 86,f0)::(nat_lit 87,vt 354 ["one","other","held"])::(nat_lit 88,t0)::(nat_lit 89,r 18)::(nat_lit 90,c 18 351 85 3)::(nat_lit 91,f 18 m3 90)::(nat_lit 92,t0)::(nat_lit 93,f0)::(nat_lit 94,vt 363 ["word","parts","held","then"])::(nat_lit 95,t0)::(nat_lit 96,r 19)::(nat_lit 97,c 19 360 92 4)::(nat_lit 98,f 19 m3 97)::(nat_lit 99,t0)::(nat_lit 100,f0)::(nat_lit 101,vt 373 ["word","parts"])::(nat_lit 102,t0)::(nat_lit 103,r 20)::(nat_lit 104,c 20 370 99 2)::(nat_lit 105,f 20 m3 104)::(nat_lit 106,t0)::(nat_lit 107,f0)::(nat_lit 108,r 22)::(nat_lit 109,c 22 380 106 0)::(nat_lit 110,f 22 m4 109)::(nat_lit 111,t0)::(nat_lit 112,f0)::(nat_lit 113,vt 389 ["state","states","numbers"])::(nat_lit 114,t0)::(nat_lit 115,r 23)::(nat_lit 116,c 23 386 111 3)::(nat_lit 117,f 23 m4 116)::(nat_lit 118,t0)::(nat_lit 119,f0)::(nat_lit 120,vt 400 ["claim","names"])::(nat_lit 121,t0)::(nat_lit 122,r 25)::(nat_lit 123,c 25 397 118 2)::(nat_lit 124,f 25 m5 123)::(nat_lit 125,t0)::(nat_lit 126,f0)::(nat_lit 127,r 26)::(nat_lit 128,c 26 405 125 0)::(nat_lit 129,f 26 m5 128)::(nat_lit 130,t0)::(nat_lit 131,f0)::(nat_lit 132,r 27)::(nat_lit 133,c 27 411 130 0)::(nat_lit 134,f 27 m5 133)::(nat_lit 135,t0)::(nat_lit 136,f0)::(nat_lit 137,r 28)::(nat_lit 138,c 28 417 135 0)::(nat_lit 139,f 28 m5 138)::(nat_lit 140,t0)::(nat_lit 141,f0)::(nat_lit 142,vt 428 ["found"])::(nat_lit 143,t0)::(nat_lit 144,r 30)::(nat_lit 145,c 30 425 140 1)::(nat_lit 146,f 30 m6 145)::(nat_lit 147,t0)::(nat_lit 148,f0)::(nat_lit 149,vt 435 ["script","k"])::(nat_lit 150,t0)::(nat_lit 151,r 31)::(nat_lit 152,c 31 432 147 2)::(nat_lit 153,f 31 m6 152)::(nat_lit 154,t0)::(nat_lit 155,f0)::(nat_lit 156,vt 443 ["cell","many","most","found","rest","k","one","two"])::(nat_lit 157,t0)::(nat_lit 158,r 32)::(nat_lit 159,c 32 440 154 8)::(nat_lit 160,f 32 m6 159)::(nat_lit 161,t0)::(nat_lit 162,f0)::(nat_lit 163,r 33)::(nat_lit 164,c 33 454 161 0)::(nat_lit 165,f 33 m6 164)::(nat_lit 166,t0)::(nat_lit 167,f0)::(nat_lit 168,vt 463 ["number","names"])::(nat_lit 169,t0)::(nat_lit 170,r 34)::(nat_lit 171,c 34 460 166 2)::(nat_lit 172,f 34 m6 171)::(nat_lit 173,t0)::(nat_lit 174,f0)::(nat_lit 175,vt 471 ["number","left","words","word"])::(nat_lit 176,t0)::(nat_lit 177,r 35)::(nat_lit 178,c 35 468 173 4)::(nat_lit 179,f 35 m6 178)::(nat_lit 180,t0)::(nat_lit 181,f0)::(nat_lit 182,r 36)::(nat_lit 183,c 36 478 180 0)::(nat_lit 184,f 36 m6 183)::(nat_lit 185,t0)::(nat_lit 186,f0)::(nat_lit 187,vt 487 ["numbers","names","most","some","left","number","word","wants","built","part"])::(nat_lit 188,t0)::(nat_lit 189,r 37)::(nat_lit 190,c 37 484 185 10)::(nat_lit 191,f 37 m6 190)::(nat_lit 192,t0)::(nat_lit 193,f0)::(nat_lit 194,vt 503 ["numbers","names","long","most","some","left","k","xs","word","one","other","claim"])::(nat_lit 195,t0)::(nat_lit 196,r 38)::(nat_lit 197,c 38 500 192 12)::(nat_lit 198,f 38 m6 197)::(nat_lit 199,t0)::(nat_lit 200,f0)::(nat_lit 201,vt 521 ["word","one"])::(nat_lit 202,t0)::(nat_lit 203,r 39)::(nat_lit 204,c 39 518 199 2)::(nat_lit 205,f 39 m6 204)::(nat_lit 206,t0)::(nat_lit 207,f0)::(nat_lit 208,vt 529 ["word","one","other"])::(nat_lit 209,t0)::(nat_lit 210,r 40)::(nat_lit 211,c 40 526 206 3)::(nat_lit 212,f 40 m6 211)::(nat_lit 213,t0)::(nat_lit 214,f0)::(nat_lit 215,vt 538 ["one","width"])::(nat_lit 216,t0)::(nat_lit 217,r 41)::(nat_lit 218,c 41 535 213 2)::(nat_lit 219,f 41 m6 218)::(nat_lit 220,t0)::(nat_lit 221,f0)::(nat_lit 222,vt 546 ["word","one","other","width"])::(nat_lit 223,t0)::(nat_lit 224,r 42)::(nat_lit 225,c 42 543 220 4)::(nat_lit 226,f 42 m6 225)::(nat_lit 227,t0)::(nat_lit 228,f0)::(nat_lit 229,vt 556 ["word","one","width"])::(nat_lit 230,t0)::(nat_lit 231,r 43)::(nat_lit 232,c 43 553 227 3)::(nat_lit 233,f 43 m6 232)::(nat_lit 234,t0)::(nat_lit 235,f0)::(nat_lit 236,vt 565 ["claim","width","values","size","told","word","one","other"])::(nat_lit 237,t0)::(nat_lit 238,r 44)::(nat_lit 239,c 44 562 234 8)::(nat_lit 240,f 44 m6 239)::(nat_lit 241,t0)::(nat_lit 242,f0)::(nat_lit 243,vt 579 ["names","width","values","letters","k","letter","i"])::(nat_lit 244,t0)::(nat_lit 245,r 45)::(nat_lit 246,c 45 576 241 7)::(nat_lit 247,f 45 m6 246)::(nat_lit 248,t0)::(nat_lit 249,f0)::(nat_lit 250,vt 592 ["names","letters","words","i","word","k"])::(nat_lit 251,t0)::(nat_lit 252,r 46)::(nat_lit 253,c 46 589 248 6)::(nat_lit 254,f 46 m6 253)::(nat_lit 255,t0)::(nat_lit 256,f0)::(nat_lit 257,vt 604 ["begin","nexts","there","seen","k","state"])::(nat_lit 258,t0)::(nat_lit 259,r 47)::(nat_lit 260,c 47 601 255 6)::(nat_lit 261,f 47 m6 260)::(nat_lit 262,t0)::(nat_lit 263,f0)::(nat_lit 264,vt 616 ["row","many"])::(nat_lit 265,t0)::(nat_lit 266,r 48)::(nat_lit 267,c 48 613 262 2)::(nat_lit 268,f 48 m6 267)::(nat_lit 269,t0)::(nat_lit 270,f0)::(nat_lit 271,vt 624 ["found","names","truths","nexts","out","k","state","bit"])::(nat_lit 272,t0)::(nat_lit 273,r 49)::(nat_lit 274,c 49 621 269 8)::(nat_lit 275,f 49 m6 274)::(nat_lit 276,t0)::(nat_lit 277,f0)::(nat_lit 278,vt 638 ["machine","letters","state","told","letter"])::(nat_lit 279,t0)::(nat_lit 280,r 50)::(nat_lit 281,c 50 635 276 5)::(nat_lit 282,f 50 m6 281)::(nat_lit 283,t0)::(nat_lit 284,f0)::(nat_lit 285,vt 649 ["machine","claim","names","letters","first","told","width"])::(nat_lit 286,t0)::(nat_lit 287,r 51)::(nat_lit 288,c 51 646 283 7)::(nat_lit 289,f 51 m6 288)::(nat_lit 290,t0)::(nat_lit 291,f0)::(nat_lit 292,r 52)::(nat_lit 293,c 52 659 290 0)::(nat_lit 294,f 52 m6 293)::[]
def ob (P : Params) : List Obj := (K P).map (·.2)
def od : Bool → List Obj → List Obj
  | _, [] => []
  | true, x :: r => x :: od false r
  | false, _ :: r => od true r
def tL : Nat → List Obj → BT
  | 0, _ => .nil
  | _, [] => .nil
  | k + 1, x :: r => .node x (tL k (od true r)) (tL k (od false r))
def tn (P : Params) (n : Nat) : BT := tL 12 ((ob P).take n)
abbrev SS (T : BT) (n k : Nat) (o : OsState) : SharedT := ⟨T, n, {}, Array.mk [], {}, k, o⟩
def ev : Env := { scope := p.main.scope, locals := mainNs, globals := mainNs, cells := [], code := (.ref 13), frame := some 14 }
def c0 : Code := .body B ev
abbrev an : Option Value := some (.ref 6)
abbrev q0 : List Frame := [topFrame ⟨0, 0, 0, 0⟩]
def sg (a b : Nat) : List Stmt := (B.drop a).take b
def pc (a b : Nat) (x : Pos) : Thread := piecesOf (sg a b) ev c0 x q0
def S0 (P : Params) : BT := ((tn P 15).set 3 fun _ => boot_o_3 P).set 12 fun _ => tb 0
def S1 (P : Params) : BT := ((tn P 31).set 3 fun _ => md P "everywidth.vocabulary" 207 4 13).set 12 fun _ => tb 2
def S2 (P : Params) : BT := ((tn P 92).set 3 fun _ => md P "everywidth.machines.columns" 301 15 24).set 12 fun _ => tb 11
def S3 (P : Params) : BT := ((tn P 166).set 3 fun _ => md P "law_everywidth_k16_claim_machine" 423 27 36).set 12 fun _ => tb 23
def S4 (P : Params) : BT := ((tn P 248).set 3 fun _ => md P "law_everywidth_k16_claim_machine" 423 39 48).set 12 fun _ => tb 35
def S5 (P : Params) : BT := tn P 295
def H1 (P : Params) : Heap := ⟨Array.mk (ob P), {}⟩
theorem pre (w : World) (o : OsState) : topGo treeTable p w 11 an 12 ⟨boot_heap w.params, Array.mk [], boot_drawn, boot_toks, o⟩ (topStub p) = some ((SS (S0 w.params) 15 187 o).abs, ⟨denote treeTable c0, c0, ⟨0, 0, 0, 0⟩, q0⟩) := by
  rw [Fast.te15667345088766844465, Fast.te14364793385576792824, Fast.te11892475500146522536]; kernel_rfl
theorem blk (w : World) (o : OsState) : segRunT treeTable p w 11 an 1 1 (SS (S0 w.params) 15 187 o) (blockOf B ev c0 ⟨0, 0, 0, 0⟩ q0) = some (.next, SS (S0 w.params) 15 187 o, c0, ⟨0, 0, 0, 0⟩) := by
  rw [Fast.te10110043849684766642, Fast.te14364793385576792824]; kernel_rfl
theorem g1f (w : World) (o : OsState) : segRunT treeTable p (w.withFollow "special-get-raises" false) 11 an 1 326 (SS (S0 (w.withFollow "special-get-raises" false).params) 15 187 o) (pc 0 6 ⟨0, 0, 0, 0⟩) = some (.next, SS (S1 (w.withFollow "special-get-raises" false).params) 31 256 o, c0, ⟨14, 0, 14, 13⟩) := by
  rw [Fast.te10110043849684766642, Fast.te14364793385576792824]; kernel_rfl
theorem g1t (w : World) (o : OsState) : segRunT treeTable p (w.withFollow "special-get-raises" true) 11 an 1 326 (SS (S0 (w.withFollow "special-get-raises" true).params) 15 187 o) (pc 0 6 ⟨0, 0, 0, 0⟩) = some (.next, SS (S1 (w.withFollow "special-get-raises" true).params) 31 256 o, c0, ⟨14, 0, 14, 13⟩) := by
  rw [Fast.te10110043849684766642, Fast.te14364793385576792824]; kernel_rfl
theorem g1 (w : World) : ∀ o : OsState, segRunT treeTable p w 11 an 1 326 (SS (S0 w.params) 15 187 o) (pc 0 6 ⟨0, 0, 0, 0⟩) = some (.next, SS (S1 w.params) 31 256 o, c0, ⟨14, 0, 14, 13⟩) := byRow2 "special-get-raises" (P := fun w => ∀ o : OsState, segRunT treeTable p w 11 an 1 326 (SS (S0 w.params) 15 187 o) (pc 0 6 ⟨0, 0, 0, 0⟩) = some (.next, SS (S1 w.params) 31 256 o, c0, ⟨14, 0, 14, 13⟩)) g1f g1t w
theorem g2f (w : World) (o : OsState) : segRunT treeTable p (w.withFollow "special-get-raises" false) 11 an 1 391 (SS (S1 (w.withFollow "special-get-raises" false).params) 31 256 o) (pc 6 13 ⟨14, 0, 14, 13⟩) = some (.next, SS (S2 (w.withFollow "special-get-raises" false).params) 92 360 o, c0, ⟨61, 0, 62, 47⟩) := by
  rw [Fast.te10110043849684766642, Fast.te14364793385576792824]; kernel_rfl
theorem g2t (w : World) (o : OsState) : segRunT treeTable p (w.withFollow "special-get-raises" true) 11 an 1 391 (SS (S1 (w.withFollow "special-get-raises" true).params) 31 256 o) (pc 6 13 ⟨14, 0, 14, 13⟩) = some (.next, SS (S2 (w.withFollow "special-get-raises" true).params) 92 360 o, c0, ⟨61, 0, 62, 47⟩) := by
  rw [Fast.te10110043849684766642, Fast.te14364793385576792824]; kernel_rfl
theorem g2 (w : World) : ∀ o : OsState, segRunT treeTable p w 11 an 1 391 (SS (S1 w.params) 31 256 o) (pc 6 13 ⟨14, 0, 14, 13⟩) = some (.next, SS (S2 w.params) 92 360 o, c0, ⟨61, 0, 62, 47⟩) := byRow2 "special-get-raises" (P := fun w => ∀ o : OsState, segRunT treeTable p w 11 an 1 391 (SS (S1 w.params) 31 256 o) (pc 6 13 ⟨14, 0, 14, 13⟩) = some (.next, SS (S2 w.params) 92 360 o, c0, ⟨61, 0, 62, 47⟩)) g2f g2t w
theorem g3 (w : World) (o : OsState) : segRunT treeTable p w 11 an 1 376 (SS (S2 w.params) 92 360 o) (pc 19 15 ⟨61, 0, 62, 47⟩) = some (.next, SS (S3 w.params) 166 460 o, c0, ⟨151, 0, 161, 60⟩) := by
  rw [Fast.te10110043849684766642, Fast.te14364793385576792824]; kernel_rfl
theorem g4 (w : World) (o : OsState) : segRunT treeTable p w 11 an 1 392 (SS (S3 w.params) 166 460 o) (pc 34 12 ⟨151, 0, 161, 60⟩) = some (.next, SS (S4 w.params) 248 589 o, c0, ⟨289, 0, 296, 18⟩) := by
  rw [Fast.te10110043849684766642, Fast.te14364793385576792824]; kernel_rfl
theorem g5 (w : World) (o : OsState) : segRunT treeTable p w 11 an 1 229 (SS (S4 w.params) 248 589 o) (pc 46 7 ⟨289, 0, 296, 18⟩) = some (.next, SS (S5 w.params) 295 665 o, c0, ⟨351, 0, 383, 95⟩) := by
  rw [Fast.te10110043849684766642, Fast.te14364793385576792824]; kernel_rfl
theorem fn (w : World) (o : OsState) : topRun treeTable p w 11 an 2 (SS (S5 w.params) 295 665 o).abs ⟨doneF .next, c0, ⟨351, 0, 383, 95⟩, q0⟩ = some ⟨H1 w.params, Array.mk [], {}, 665, o⟩ := by
  rw [Fast.te14082659384304107361, Fast.te14364793385576792824]; kernel_rfl
theorem sp : B = sg 0 6 ++ (sg 6 13 ++ (sg 19 15 ++ (sg 34 12 ++ (sg 46 7 ++ [])))) := by kernel_rfl
theorem bl {w : World} {N : Nat} {s s' r : Shared} {b : List Stmt} {x y : Pos} {n : Nat} (e : B = b) (h : segRun treeTable p w 11 an 1 n s (blockOf B ev c0 x q0) = some (.next, s', c0, y)) (k : topRun treeTable p w 11 an N s' (restOf b ev c0 y q0) = some r) : topRun treeTable p w 11 an (n + N) s ⟨denote treeTable c0, c0, x, q0⟩ = some r :=
  piece_block h (by rw [e]; exact k)
theorem rn (w : World) (o : OsState) : topRun treeTable p w 11 an (12 + (1 + (326 + (391 + (376 + (392 + (229 + (2)))))))) ⟨boot_heap w.params, Array.mk [], boot_drawn, boot_toks, o⟩ (topStub p) = some ⟨H1 w.params, Array.mk [], {}, 665, o⟩ :=
  go_top (pre w o) (bl sp (segRun_of (blk w o)) (piece_app (segRun_of (g1 w o)) (piece_app (segRun_of (g2 w o)) (piece_app (segRun_of (g3 w o)) (piece_app (segRun_of (g4 w o)) (piece_app (segRun_of (g5 w o)) (fn w o)))))))
def rg (l : List Stmt) : List (Nat × Nat) → List Stmt
  | [] => []
  | x :: r => (l.drop x.1).take x.2 ++ rg l r
def vw : Program := { p with main := { p.main with body := rg p.main.body [(1, 2), (4, 6), (11, 1), (13, 8), (22, 2), (25, 4), (30, 23)] } }
def lo : List Str := [Str.ofString "SUM_PARTS", Str.ofString "SUMS_IN_CLAIM", Str.ofString "CLAIMS_IN_CLAIM"]
def xt (s : Shared) : Bool := xlAt vw [] s && recOk PySem.Challenge.rw_everywidth_k16_claim_machine.row.toRowW.records s
def as : List Addr := List.range 295
theorem sz (w : World) : ((boot_heap w.params).isNs mainGlobals && (Array.mk [] : Array GenState).size == 0, (boot_heap w.params).objs.size, (boot_heap w.params).nsMap mainGlobals "__annotations__") = (true, 11, an) := by
  rw [Fast.te8920871248978507458]; kernel_rfl
abbrev sh (w : World) (o : OsState) : Shared := ⟨H1 w.params, Array.mk [], {}, 665, o⟩
theorem l1 (w : World) (o : OsState) : (staticsOk (importedModules p.main.body) (boot_heap w.params) (H1 w.params) && namesBound p (H1 w.params) && gensDone (sh w o) && laidKept (boot_heap w.params) (H1 w.params)) = true := by
  rw [Fast.te5923862056798008813]; kernel_rfl
theorem l2 (w : World) (o : OsState) : openSeen vw lo (importedModules p.main.body) xt true (sh w o) = openGood vw lo := by
  rw [Fast.te4187177175401517315, Fast.te5923862056798008813]; kernel_rfl
theorem l3 (w : World) (o : OsState) : X.obsZ as (sh w o) = X.valZ K 295 665 w := by kernel_rfl
theorem left : LeftO p vw lo xt (X.obsZ as) (X.valZ K 295 665) 3544 :=
  LeftO.of_pieces (boot_open (by kernel_rfl) (by kernel_rfl) (fun _ => by kernel_rfl)) sz rn (by kernel_rfl) fun w => funext fun o => looks_pair (l1 w o) (looks_pair (l2 w o) (l3 w o))
end Hw
end
set_option Elab.async false
set_option linter.all false
set_option maxRecDepth 100000
def Qaa:=@List.getElem?_eq_getElem
def Qab:=@List.length_map
def Qac:=@List.length_append
def Qad:=@decide_eq_false
def Qae:=@decide_eq_true
def Qaf:=@List.mem_cons_self
def Qag:=@List.mem_cons_of_mem
def Qah:=@List.getElem?_eq_some_iff
def Qai:=@PySem.F.plainAttrs_list
def Qaj:=@Nat.le_refl
def Qak:=@List.mem_cons
def Qal:=@List.getD_eq_getElem?_getD
def Qam:=@List.mem_of_getElem?
def Qan:=@if_neg
def Qao:=@List.getElem?_map
def Qap:=@PySem.F.slot_list_append
def Qaq:=@PySem.F.type_list_append
def Qar:=@List.length_take
def Qas:=@List.size_toArray
def Qat:=@Int.toNat_natCast
def Qau:=@if_pos
def Qav:=@List.mem_singleton
def Qaw:=@Nat.le_of_lt
def Qax:=@Bool.false_ne_true
def Qay:=@Int.emod_lt_of_pos
def Qaz:=@List.length_cons
def Qa0:=@List.getElem?_append_right
def Qa1:=@List.map_cons
def Qa2:=@List.getElem?_append_left
def Qa3:=@List.not_mem_nil
def Qa4:=@Int.emod_nonneg
def Qa5:=@List.mem_map
def Qa6:=@List.mem_append
def Qa7:=@List.mem_append_right
def Qa8:=@List.length_replicate
def Qa9:=@of_decide_eq_true
def Qba:=@Nat.le_trans
def Qbb:=@PyProof.Rows.slot_tuple_getitem
def Qbc:=@List.append_nil
def Qbd:=@List.length_drop
def Qbe:=@List.lookup_cons
def Qbf:=@Nat.lt_of_lt_of_le
def Qbg:=@Nat.zero_le
def Qbh:=@List.map_append
def Qbi:=@List.mem_map_of_mem
def Qbj:=@List.flatten_cons
def Qbk:=@Bool.and_eq_true
def Qbl:=@Int.natCast_nonneg
def Qbm:=@Int.ediv_one
def Qbn:=@List.map_map
def Qbo:=@List.take_append_drop
def Qbp:=@List.length_range
def Qbq:=@List.flatten_append
def Qbr:=@List.take_length
def Qbs:=@beq_self_eq_true
def Qbt:=@Int.emod_add_mul_ediv
def Qbu:=@List.drop_eq_getElem_cons
def Qbv:=@Nat.ne_of_lt
def Qbw:=@Int.pow_succ
def Qbx:=@PySem.mem_of_lookup
def Qby:=@List.nodup_cons
def Qbz:=@List.getElem_mem
def Qb0:=@List.append_assoc
def Qb1:=@beq_eq_false_iff_ne
def Qb2:=@List.length_reverse
def Qb3:=@Nat.lt_irrefl
def Qb4:=@Nat.mod_two_eq_zero_or_one
def Qb5:=@List.mem_of_mem_drop
def Qb6:=@List.dropLast_concat
def Qb7:=@Bool.false_eq_true
def Qb8:=@PySem.F.plain_max_loop
def Qb9:=@List.take_of_length_le
def Qca:=@Int.ediv_eq_zero_of_lt
def Qcb:=@PySem.W.kia_one
def Qcc:=@Array.length_toList
def Qcd:=@List.map_congr_left
def Qce:=@List.reverse_cons
def Qcf:=@PySem.F.slot_list_pop
def Qcg:=@PySem.F.type_list_pop
def Qch:=@PyProof.Rows.callWith_type1
def Qci:=@List.all_cons
def Qcj:=@List.mem_of_mem_take
def Qck:=@List.all_eq_true
def Qcl:=@List.filter_cons
def Qcm:=@Int.zero_add
def Qcn:=@decide_eq_decide
def Qco:=@Option.map_eq_some_iff
def Qcp:=@Int.toNat_of_nonneg
def Qcq:=@or_false
def Qcr:=@Int.mul_comm
def Qcs:=@Int.pow_zero
def Qct:=@Int.pow_pos
def Qcu:=@List.mem_append_left
def Qcv:=@Int.ediv_ediv_of_nonneg
def Qcw:=@List.drop_zero
def Qcx:=@List.find?_cons
def Qcy:=@Int.add_mul_emod_self_left
def Qcz:=@List.cons_append
def Qc0:=@List.flatten_nil
def Qc1:=@Nat.ne_of_gt
def Qc2:=@Ne.symm
def Qc3:=@List.length_nil
def Qc4:=@List.foldl_cons
def Qc5:=@Int.emod_eq_of_lt
def Qc6:=@List.nil_append
def Qc7:=@List.filterMap_cons
def Qc8:=@if_false
def Qc9:=@List.map_drop
def Qda:=@List.eq_nil_of_length_eq_zero
def Qdb:=@List.filter_append
def Qdc:=@Bool.eq_iff_iff
def Qdd:=@List.forIn_cons
def Qde:=@List.length_filter_le
def Qdf:=@List.idxOf_lt_length_of_mem
def Qdg:=@Nat.min_eq_left
def Qdh:=@Int.ne_of_gt
def Qdi:=@List.mem_iff_getElem?
def Qdj:=@List.map_take
def Qdk:=@List.foldl_append
def Qdl:=@Nat.pow_le_pow_right
def Qdm:=@List.nodup_nil
def Qdn:=@List.getElem?_range
def Qdo:=@List.replicate_zero
def Qdp:=@PySem.F.args_tuple_add_2
def Qdq:=@List.map_nil
def Qdr:=@Nat.sub_self
def Qds:=@List.eq_of_mem_replicate
def Qdt:=@PySem.F.entry_tuple_add
def Qdu:=@Nat.lt_of_le_of_lt
def Qdv:=@List.find?_eq_none
def Qdw:=@Int.natCast_pow
def Qdx:=@Int.natCast_mul
def Qdy:=@Int.mul_assoc
def Qdz:=@decide_eq_true_iff
def Qd0:=@PySem.F.slot_tuple_add
def Qd1:=@List.length_pos_of_mem
def Qd2:=@PySem.F.entry_max_loop
def Qd3:=@List.forIn_nil
def Qd4:=@Nat.sub_zero
def Qd5:=@Int.add_mul_ediv_left
def Qd6:=@if_true
def Qd7:=@List.drop_length
def Qd8:=@List.any_eq_true
def Qd9:=@Nat.mul_le_mul_right
def Qea:=@List.any_cons
def Qeb:=@List.map_id''
def Qec:=@List.mem_filter
def Qed:=@List.of_mem_zip
def Qee:=@Nat.le_succ
def Qef:=@Option.map_some
def Qeg:=@List.idxOf_cons
def Qeh:=@Nat.not_lt_zero
def Qei:=@List.mem_filterMap
def Qej:=@Int.emod_one
def Qek:=@List.mem_range
def Qel:=@Nat.mul_le_mul
def Qem:=@List.take_sublist
def Qen:=@Option.isSome_map
def Qeo:=@List.pairwise_map
def Qep:=@List.nodup_append
def Qeq:=@Int.mul_add
def Qer:=@Int.one_mul
def Qes:=@List.getElem_zip
def Qet:=@Nat.le_of_eq
def Qeu:=@List.length_zip
def Qev:=@Int.ediv_nonneg
def Qew:=@Int.le_of_lt
def Qex:=@List.range_succ
def Qey:=@Nat.zero_add
def Qez:=@Prod.ext
def Qe0:=@Nat.not_lt
def Qe1:=@Int.le_refl
namespace L2
open PySem PySem.Spec PyProof.Rows
noncomputable abbrev Key:=Sum Int Str
noncomputable def vN:Key->Value->Bool
 | .inl k,v=>Value.isInt k v
 | .inr x,v=>Value.isStrOf x v
noncomputable def keyH(w:World):Key->Int
 | .inl k=>hashInt k
 | .inr x=>hashStr w x
theorem Yt:∀{k:Key} {v:Value},vN k v=true->(∃i t,k=Sum.inl i/\v=Value.int i t)\/(∃x t,k=Sum.inr x/\v=Value.str x t)
 | .inl i,v,h=>by
  obtain ⟨t,e⟩:=Value.isInt_shape (k:=i) (v:=v) h
  exact .inl ⟨i,t,rfl,e⟩
 | .inr x,v,h=>by
  obtain ⟨t,e⟩:=Value.isStrOf_shape (x:=x) (v:=v) h
  exact .inr ⟨x,t,rfl,e⟩
theorem kR(i:Int)(t:Tok):vN (.inl i) (.int i t)=true:=by simp [vN,Value.isInt]
theorem kS(x:Str)(t:Tok):vN (.inr x) (.str x t)=true:=by simp [vN,Value.isStrOf]
theorem key_ll(a b:Int):decide ((Sum.inl a:Key)=Sum.inl b)=(a == b):=by
 by_cases e:a=b
 ·subst e;simp
 ·have h:¬(Sum.inl a:Key)=Sum.inl b:=fun q=>e (Sum.inl.inj q)
  rw [Qad h]
  exact (Qb1.mpr e).symm
theorem key_rr(a b:Str):decide ((Sum.inr a:Key)=Sum.inr b)=decide (a=b):=by
 by_cases e:a=b
 ·subst e;simp
 ·have h:¬(Sum.inr a:Key)=Sum.inr b:=fun q=>e (Sum.inr.inj q)
  rw [Qad h,Qad e]
theorem key_lr(a:Int)(b:Str):decide ((Sum.inl a:Key)=Sum.inr b)=false:=Qad (fun q=>nomatch q)
theorem key_rl(a:Str)(b:Int):decide ((Sum.inr a:Key)=Sum.inl b)=false:=Qad (fun q=>nomatch q)
noncomputable def Yk(prog:Program)(w:World):PySem.KeyKind prog w Key where
 is:=vN
 hash:=keyH w
 inj:=fun v a b ha hb=>by
  rcases Yt ha with ⟨i,t,rfl,rfl⟩ | ⟨x,t,rfl,rfl⟩
  ·rcases Yt hb with ⟨j,u,rfl,e⟩ | ⟨y,u,rfl,e⟩
   ·injection e with e1 _;rw [e1]
   ·exact nomatch e
  ·rcases Yt hb with ⟨j,u,rfl,e⟩ | ⟨y,u,rfl,e⟩
   ·exact nomatch e
   ·injection e with e1 _;rw [e1]
 byValue:=fun k v h=>by
  rcases Yt h with ⟨i,t,rfl,rfl⟩ | ⟨x,t,rfl,rfl⟩ <;> rfl
 pyHash:=fun hv h=>by
  rcases Yt hv with ⟨i,t,rfl,rfl⟩ | ⟨x,t,rfl,rfl⟩
  ·exact wpAny_pyHash_int h
  ·exact wpAny_pyHash_str h
 eqBool:=fun hu hv h=>by
  rcases Yt hu with ⟨i,t,rfl,rfl⟩ | ⟨x,t,rfl,rfl⟩
  ·rcases Yt hv with ⟨j,u,rfl,rfl⟩ | ⟨y,u,rfl,rfl⟩
   ·rw [key_ll] at h;exact wpAny_eqBool_int h
   ·rw [key_lr] at h;exact SeqAt.EqAt.int_str i t y u _ _ _ _ h
  ·rcases Yt hv with ⟨j,u,rfl,rfl⟩ | ⟨y,u,rfl,rfl⟩
   ·rw [key_rl] at h;exact SeqAt.EqAt.str_int x t j u _ _ _ _ h
   ·rw [key_rr] at h;exact wpAny_eqBool_str h
 «strs»:=fun k x t v h=>by
  rcases Yt h with ⟨i,u,rfl,e⟩ | ⟨y,u,rfl,e⟩
  ·exact nomatch e
  ·injection e with e1 _
   subst e1
   cases v <;> rfl
theorem yh(prog:Program)(w:World)(i:Int)(t:Tok):(Yk prog w).is (.inl i) (.int i t)=true:=kR i t
theorem J0(prog:Program)(w:World)(x:Str)(t:Tok):(Yk prog w).is (.inr x) (.str x t)=true:=kS x t
inductive V where
 | non | bl (b:Bool) | int (i:Int) | str (x:Str) | byt (b:Array UInt8) | flt (b:UInt64) | ref (a:Addr) | ty (n:String)
 deriving DecidableEq
noncomputable def RelV:V->Value->Prop
 | .non,u=>u=Value.none
 | .bl b,u=>u=Value.bool b
 | .int i,u=>∃t,u=Value.int i t
 | .str x,u=>∃t,u=Value.str x t
 | .byt b,u=>∃t,u=Value.bytes b t
 | .flt b,u=>∃t,u=Value.float b t
 | .ref a,u=>u=Value.ref a
 | .ty n,u=>u=Value.type n
noncomputable abbrev Vals:List V->List Value->Prop:=Paired RelV
theorem Vals.length{xs:List V}{us:List Value}(r:Vals xs us):xs.length=us.length:=Paired.length r
theorem Vals.get:∀{xs:List V} {us:List Value} {i:Nat} {x:V},Vals xs us->xs[i]?=some x->∃u,us[i]?=some u/\RelV x u
 | _,_,_,_,.nil,e=>by simp at e
 | _,_,0,_,.cons r _,e=>by simp at e;subst e;exact ⟨_,rfl,r⟩
 | _,_,i + 1,x,.cons _ t,e=>by
  obtain ⟨u,h1,h2⟩:=Vals.get (i:=i) (x:=x) t (by simpa using e)
  exact ⟨u,by simpa using h1,h2⟩
theorem Vals.append:∀{xs ys:List V} {us ws:List Value},Vals xs us->Vals ys ws->Vals (xs++ys) (us++ws)
 | _,_,_,_,.nil,s=>s
 | _,_,_,_,.cons r t,s=>.cons r (Vals.append t s)
theorem Vals.take:∀{xs:List V} {us:List Value} (n:Nat),Vals xs us->Vals (xs.take n) (us.take n)
 | _,_,0,_=>.nil
 | _,_,_ + 1,.nil=>.nil
 | _,_,n + 1,.cons r t=>.cons r (Vals.take n t)
theorem Vals.drop:∀{xs:List V} {us:List Value} (n:Nat),Vals xs us->Vals (xs.drop n) (us.drop n)
 | _,_,0,r=>r
 | _,_,_ + 1,.nil=>.nil
 | _,_,n + 1,.cons _ t=>Vals.drop n t
noncomputable def vO:Option V->Option Value->Prop
 | some v,some u=>RelV v u
 | none,none=>True
 | _,_=>False
noncomputable def KV{κ:Type}:List (κ × V)->List (κ × Value)->Prop:=Paired fun (p:κ × V) (q:κ × Value)=>p.1=q.1/\RelV p.2 q.2
noncomputable def kV:Key->V
 | .inl i=>.int i
 | .inr x=>.str x
inductive HO where
 /-- a list -/
 | lst (xs:List V)
 /-- a tuple (never changes) -/
 | tup (xs:List V)
 /-- a dict whose keys are ints and texts; one whose keys are tuples of ints and texts (the empty one is both) -/
 | dK (kvs:List (Key × V)) | dT (kvs:List (List Key × V))
 /-- a set of ints: its members, its size -/
 | set (S:Int->Bool) (n:Nat)
 /-- an instance of the class at C, its dict at dx, its attributes -/
 | ins (C dx:Addr) (fs:List (Str × V))
 /-- the dict of the instance at x -/
 | own (x:Addr)
 /-- the dict of an exception -/
 | xd (fs:List (Str × V))
 /-- a bound method, f of x -/
 | met (f x:Addr)
 /-- a range object lo, lo + 1, .. below hi -/
 | rng (lo hi:Int)
 /-- a thing that is known to the object (the script; a dict while a loop walks it): read, never written while it is so -/
 | frz (o:Obj) (u:HO)
 /-- a code object's table -/
 | tbl (ps:Array Value)
 /-- any other thing, by what is true of its one object (a def of one's own: SetO a S n := HO.ext fun h => ..) -/
 | ext (φ:Heap->Prop)
noncomputable abbrev Hp:=Addr->Option HO
noncomputable def upd(H:Hp)(a:Addr)(o:HO):Hp:=fun b=>if b=a then some o else H b
theorem Za{H:Hp}{a:Addr}{o:HO}:upd H a o a=some o:=by unfold upd;rw [Qau rfl]
theorem Zo{H:Hp}{a b:Addr}{o:HO}(h:b≠a):upd H a o b=H b:=by unfold upd;rw [Qan h]
theorem yi{H:Hp}{a:Addr}{o u:HO}:upd (upd H a o) a u=upd H a u:=by
 funext b;unfold upd;split <;> rfl
theorem XG{H:Hp}{a b:Addr}{o u:HO}(h:H a=some o)(h':H b=some u)(d:o≠u):a≠b:=by
 intro e;subst e;rw [h] at h';exact d (Option.some.inj h')
theorem Zs{H:Hp}{a b:Addr}{o:HO}(h:H a=some o)(h':H b=none):a≠b:=by
 intro e;subst e;rw [h] at h';cases h'
section
variable (P:Program)(w:World)
noncomputable def Y9(H:Hp)(h:Heap)(a:Addr):HO->Prop
 | .lst xs=>xs.length<=sizeLine/\∃(its:List Value) (n:Nat),Vals xs its/\h.get? a=some { cls:=.type "list",data:=.seq its.toArray n }
 | .tup xs=>xs.length<=sizeLine/\∃its:List Value,Vals xs its/\IsTup h a its.toArray
 | .dK kvs=>kvs.length<=sizeLine/\(a == sysModules)=false/\∃vs,KV kvs vs/\h.DictOf (Yk P w) a vs
 | .dT kvs=>kvs.length<=sizeLine/\(a == sysModules)=false/\∃xs:List (List Key × Addr × Value),
   Paired (fun (p:List Key × V) (q:List Key × Addr × Value)=>p.1=q.1/\H q.2.1=some (.tup (p.1.map kV))/\RelV p.2 q.2.2) kvs xs /\
   ∃o es ep,h.get? a=some o/\o.ExactDict/\o.data=.dict es ep/\es.toList=xs.map (entryOfKey (tupleKind (Yk P w)))/\(xs.map (·.1)).Nodup
 | .set S n=>h.SetOf (intKind P w) a S n
 | .ins C dx fs=>H dx=some (.own a)/\fs.length<=1000/\dx≠a/\h.get? a=some (PySem.W.instObj C dx) /\
   ∃mA,h.Ns1 dx mA/\(∀f,vO (fs.lookup f) (mA f))/\PySem.Within mA (fs.map (·.1))
 | .own _=>∃o,h.get? a=some o
 | .xd fs=>∃mA,h.Ns1 a mA/\∀f,vO (fs.lookup f) (mA f)
 | .rng lo hi=>∃t u v,h.get? a=some { cls:=.type "range",data:=.fields #[.int lo t,.int hi u,.int 1 v] }
 | .frz o u=>h.get? a=some o/\Y9 H h a u
 | .tbl ps=>h.get? a=some { cls:=.none,data:=.fields ps }
 | .met f x=>h.get? a=some (PySem.W.methodObj (.ref f) (.ref x))
 | .ext φ=>φ h/\(∃o,h.get? a=some o)/\∀h1 h2:Heap,φ h1->(∀o,h1.get? a=some o->h2.get? a=some o)->φ h2
noncomputable def HOk(H:Hp)(h:Heap):Prop:=∀a o,H a=some o->Y9 P w H h a o
end
section
variable {P:Program}{w:World}{H H':Hp}{h h':Heap}{a:Addr}{o:HO}
theorem Y9.lt(x:Y9 P w H h a o):a < h.objs.size:=by
 cases o with
 | lst xs=>obtain ⟨_,_,_,_,e⟩:=x;exact Heap.lt_size e
 | tup xs=>obtain ⟨_,_,_,p⟩:=x;exact p.lt
 | dK kvs=>obtain ⟨_,_,_,_,o,_,_,e,_⟩:=x;exact Heap.lt_size e
 | dT kvs=>obtain ⟨_,_,_,_,o,_,_,e,_⟩:=x;exact Heap.lt_size e
 | set S n=>obtain ⟨o,_,_,_,e,_⟩:=x;exact Heap.lt_size e
 | ins C dx fs=>obtain ⟨_,_,_,e,_⟩:=x;exact Heap.lt_size e
 | own y=>obtain ⟨_,e⟩:=x;exact Heap.lt_size e
 | xd fs=>obtain ⟨_,⟨_,_,_,e,_⟩,_⟩:=x;exact Heap.lt_size e
 | rng lo hi=>obtain ⟨_,_,_,e⟩:=x;exact Heap.lt_size e
 | frz ob u=>obtain ⟨e,_⟩:=x;exact Heap.lt_size e
 | tbl ps=>exact Heap.lt_size (show h.get? a=some _ from x)
 | met f y=>exact Heap.lt_size (show h.get? a=some _ from x)
 | ext φ=>obtain ⟨_,⟨_,e⟩,_⟩:=x;exact Heap.lt_size e
theorem Paired.mapP{α β:Type}{F G:α->β->Prop}:∀{l₁:List α} {l₂:List β},Paired F l₁ l₂->(∀a b,F a b->G a b)->Paired G l₁ l₂
 | _,_,.nil,_=>.nil
 | _,_,.cons r t,f=>.cons (f _ _ r) (Paired.mapP t f)
theorem Y9.stay(x:Y9 P w H h a o)(k:∀b u,(b=a\/H b=some (.own a))->h.get? b=some u->h'.get? b=some u)
  (ho:∀b,H b=some (.own a)->H' b=some (.own a)) (ht:∀b xs,H b=some (.tup xs)->H' b=some (.tup xs)):Y9 P w H' h' a o:=by
 induction o with
 | lst xs=>obtain ⟨z,its,n,r,e⟩:=x;exact ⟨z,its,n,r,k _ _ (.inl rfl) e⟩
 | tup xs=>obtain ⟨z,its,r,ob,e,c⟩:=x;exact ⟨z,its,r,ob,k _ _ (.inl rfl) e,c⟩
 | dK kvs=>obtain ⟨z,y,vs,r,ob,es,ep,e,c⟩:=x;exact ⟨z,y,vs,r,ob,es,ep,k _ _ (.inl rfl) e,c⟩
 | dT kvs =>
  obtain ⟨z,y,xs,r,ob,es,ep,e,c⟩:=x
  exact ⟨z,y,xs,Paired.mapP r fun p q z=>⟨z.1,ht _ _ z.2.1,z.2.2⟩,ob,es,ep,k _ _ (.inl rfl) e,c⟩
 | set S n=>obtain ⟨ob,es,ep,t,e,c⟩:=x;exact ⟨ob,es,ep,t,k _ _ (.inl rfl) e,c⟩
 | ins C dx fs =>
  obtain ⟨d,z,ne,e,mA,⟨od,es,ep,e2,c⟩,r⟩:=x
  exact ⟨ho _ d,z,ne,k _ _ (.inl rfl) e,mA,⟨od,es,ep,k _ _ (.inr d) e2,c⟩,r⟩
 | own y=>obtain ⟨ob,e⟩:=x;exact ⟨ob,k _ _ (.inl rfl) e⟩
 | xd fs=>obtain ⟨mA,⟨od,es,ep,e,c⟩,r⟩:=x;exact ⟨mA,⟨od,es,ep,k _ _ (.inl rfl) e,c⟩,r⟩
 | rng lo hi=>obtain ⟨t,u,v,e⟩:=x;exact ⟨t,u,v,k _ _ (.inl rfl) e⟩
 | frz ob u ih=>obtain ⟨e,q⟩:=x;exact ⟨k _ _ (.inl rfl) e,ih q⟩
 | tbl ps =>
  have e:h.get? a=some { cls:=.none,data:=.fields ps }:=x
  show h'.get? a=some { cls:=.none,data:=.fields ps }
  exact k a _ (.inl rfl) e
 | met f y =>
  have e:h.get? a=some (PySem.W.methodObj (.ref f) (.ref y)):=x
  show h'.get? a=some (PySem.W.methodObj (.ref f) (.ref y))
  exact k a _ (.inl rfl) e
 | ext φ=>obtain ⟨p,⟨o,e⟩,st⟩:=x;exact ⟨st _ _ p fun o q=>k _ _ (.inl rfl) q,⟨o,k _ _ (.inl rfl) e⟩,st⟩
theorem HOk.lt(x:HOk P w H h)(e:H a=some o):a < h.objs.size:=(x a o e).lt
theorem HOk.fresh(x:HOk P w H h)(e:h.objs.size<=a):H a=none:=by
 cases q:H a with
 | none=>rfl
 | some u=>exact absurd (Qbf (x.lt q) e) (Qb3 _)
theorem HOk.kept(x:HOk P w H h)(k:∀b u,h.get? b=some u->h'.get? b=some u):HOk P w H h':=fun a o e =>
 (x a o e).stay (fun b u _ q=>k b u q) (fun _ q=>q) fun _ _ q=>q
theorem HOk.laid(x:HOk P w H h)(k:∀b u,h.get? b=some u->h'.get? b=some u)(hp:h.objs.size<=a)(new:Y9 P w (upd H a o) h' a o):HOk P w (upd H a o) h':=fun b u e=>by
 have hn:=x.fresh hp
 by_cases hb:b=a
 ·subst hb;rw [Za] at e;cases e;exact new
 ·rw [Zo hb] at e
  exact (x b u e).stay (fun c v _ q=>k c v q) (fun c q=>by rw [Zo (Zs q hn)];exact q) fun c xs q=>by rw [Zo (Zs q hn)];exact q
end
noncomputable def Rd(H:Hp)(a:Addr)(u:HO):Prop:=H a=some u\/∃o,H a=some (.frz o u)
theorem Rd.ok{P:Program}{w:World}{H:Hp}{h:Heap}{a:Addr}{u:HO}(r:Rd H a u)(x:HOk P w H h):Y9 P w H h a u:=by
 rcases r with r | ⟨o,r⟩
 ·exact x a u r
 ·obtain ⟨_,q⟩:=x a _ r
  exact q
noncomputable def Mut:Option HO->Prop
 | some (.lst _)=>True
 | some (.dK _)=>True
 | some (.dT _)=>True
 | some (.set _ _)=>True
 | some (.ins _ _ _)=>True
 | some (.ext _)=>True
 | _=>False
section
variable {P:Program}{w:World}{H:Hp}{h h':Heap}{x e:Addr}{o':HO}
theorem HOk.write(ok:HOk P w H h)(mu:Mut (H x))(he:e=x\/H e=some (.own x))(k:∀b u,b≠e->h.get? b=some u->h'.get? b=some u)(heo:∃u,h'.get? e=some u)
  (new:Y9 P w (upd H x o') h' x o'):HOk P w (upd H x o') h':=fun b u q=>by
 have nown:∀c y,H c=some (.own y)->c≠x:=fun c y r z=>by subst z;rw [r] at mu;exact mu
 have ntup:∀c xs,H c=some (.tup xs)->c≠x:=fun c xs r z=>by subst z;rw [r] at mu;exact mu
 by_cases hb:b=x
 ·subst hb;rw [Za] at q;cases q;exact new
 ·rw [Zo hb] at q
  by_cases hbe:b=e
  ·have q':H b=some (.own x):=by
    rcases he with z | z
    ·exact absurd (hbe.trans z) hb
    ·rw [hbe];exact z
   rw [q] at q';cases q'
   obtain ⟨v,hv⟩:=heo
   exact ⟨v,by rw [hbe];exact hv⟩
  ·refine (ok b u q).stay (fun c v hc r=>k c v ?_ r) (fun c r=>by rw [Zo (nown c b r)];exact r) fun c xs r=>by rw [Zo (ntup c xs r)];exact r
   rcases hc with rfl | hc
   ·exact hbe
   ·rintro rfl
    rcases he with z | z
    ·exact nown c b hc z
    ·rw [hc] at z;cases z;exact hb rfl
end
structure Un(fs ex:List Addr)(H H':Hp)(h h':Heap):Prop where
 keep:∀b o,h.get? b=some o->H b=none->b∉fs->b∉ex->h'.get? b=some o
 slot:∀b o,h.get? b=some o->H b=none->b∈fs->b∉ex->∃sl,h'.get? b=some { o with slots:=sl }
 free:∀b o,h.get? b=some o->H b=none->b∉ex->H' b=none
 there:∀b o,h.get? b=some o->b∉ex->∃o',h'.get? b=some o'
 tups:∀b xs,H b=some (.tup xs)->H' b=some (.tup xs)
 frzs:∀b o u,H b=some (.frz o u)->H' b=some (.frz o u)
 tbls:∀b ps,H b=some (.tbl ps)->∃more,H' b=some (.tbl (ps++more))
section
variable {fs fs' ex ex':List Addr}{H H1 H2:Hp}{h h1 h2 h':Heap}{a x e:Addr}{o:HO}
theorem Un.any(u:Un fs ex H H1 h h1){b:Addr}{ob:Obj}(q:h.get? b=some ob)(n:H b=none)(hx:b∉ex):∃sl,h1.get? b=some { ob with slots:=sl }:=by
 by_cases hb:b∈fs
 ·exact u.slot b ob q n hb hx
 ·exact ⟨ob.slots,u.keep b ob q n hb hx⟩
theorem Un.kept(k:∀b u,h.get? b=some u->h'.get? b=some u):Un fs ex H H h h' :=
 ⟨fun b ob q _ _ _=>k b ob q,fun b ob q _ _ _=>⟨ob.slots,k b ob q⟩,fun _ _ _ n _=>n,fun b ob q _=>⟨ob,k b ob q⟩,fun _ _ q=>q,fun _ _ _ q=>q,fun _ ps q=>⟨#[],by rw [q];simp⟩⟩
theorem Un.refl:Un fs ex H H h h:=Un.kept fun _ _ q=>q
theorem Un.laid(k:∀b u,h.get? b=some u->h'.get? b=some u)(hp:h.objs.size<=a)(hn:H a=none):Un fs ex H (upd H a o) h h' where
 keep:=fun b u q _ _ _=>k b u q
 slot:=fun b u q _ _ _=>⟨u.slots,k b u q⟩
 free:=fun b u q n _=>by rw [Zo (Qbv (Qbf (Heap.lt_size q) hp))];exact n
 there:=fun b u q _=>⟨u,k b u q⟩
 tups:=fun b xs q=>by rw [Zo (Zs q hn)];exact q
 frzs:=fun b u xs q=>by rw [Zo (Zs q hn)];exact q
 tbls:=fun b ps q=>⟨#[],by rw [Zo (Zs q hn),q];simp⟩
theorem Un.write(mu:Mut (H x))(he:e=x\/H e=some (.own x))(k:∀b u,b≠e->h.get? b=some u->h'.get? b=some u)(heo:∃u,h'.get? e=some u):Un fs ex H (upd H x o) h h':=by
 have hx:∀b,H b=none->b≠x:=fun b n z=>by subst z;rw [n] at mu;exact mu
 have hb:∀b,H b=none->b≠e:=fun b n z=>by
  subst z
  rcases he with r | r
  ·exact hx b n r
  ·rw [n] at r;cases r
 have hm:∀b u,H b=some u->¬Mut (some u)->b≠x:=fun b u q nm z=>by subst z;rw [q] at mu;exact nm mu
 refine ⟨fun b u q n _ _=>k b u (hb b n) q,fun b u q n _ _=>⟨u.slots,k b u (hb b n) q⟩,fun b u q n _=>by rw [Zo (hx b n)];exact n,fun b u q _=>?_,
  fun b xs q=>by rw [Zo (hm b _ q fun z=>z)];exact q,fun b u xs q=>by rw [Zo (hm b _ q fun z=>z)];exact q,fun b ps q=>⟨#[],by rw [Zo (hm b _ q fun z=>z),q];simp⟩⟩
 by_cases hbe:b=e
 ·subst hbe;exact heo
 ·exact ⟨u,k b u hbe q⟩
end
noncomputable def trk(h:Heap)(H:Hp):List Addr:=(List.range h.objs.size).filter fun a=>(H a).isSome
noncomputable def kT(h:Heap)(H:Hp):Heap:=PySem.W.hideAll h (trk h H)
theorem kU(h:Heap)(H:Hp):(kT h H).objs.size=h.objs.size:=PySem.W.hideAll_size _ _
theorem uZ{h:Heap}{H:Hp}{b:Addr}{o:Obj}(e:h.get? b=some o)(n:H b=none):(kT h H).get? b=some o :=
 PySem.W.hideAll_get _ e fun hm=>by
  have q:(H b).isSome=true:=(Qec.mp hm).2
  rw [n] at q;simp at q
theorem Zdh{h:Heap}{H:Hp}{b:Addr}{o:Obj}(e:(kT h H).get? b=some o):h.get? b=some o/\H b=none:=by
 have e':h.get? b=some o:=PySem.W.of_hideAll (trk h H) e
 refine ⟨e',?_⟩
 cases q:H b with
 | none=>rfl
 | some x =>
  have hm:b∈trk h H:=Qec.mpr ⟨Qek.mpr (Heap.lt_size e'),by simp [q]⟩
  have z:(kT h H).get? b=none:=PySem.W.hideAll_none (trk h H) hm
  rw [z] at e;cases e
structure Mod(K:PySem.W.Frag)(mg:Str->Option Value)(base:Heap):Prop where
 kin:K.In base
 glob:base.Ns mainGlobals mg
 blt:∃mb,base.Ns builtinsNs mb/\∀x:Str,x ≠ "__name__" -> mb x=bootBuiltins x
 nolimit:base.NoLimit
set_option genInjectivity false in
set_option genSizeOfSpec false in
structure Cx where
 prog:Program
 w:World
 K:PySem.W.Frag
 mg:Str->Option Value
 base:Heap
 A:Around
 N:List Str
 s₀:Shared
 H₀:Hp
 env:Env
 outer:List Env
 stack:List Env
 ex:List Addr
 fn:Str->Bool
 calm:Bool
 pn:List (Addr × Obj)
 xe:Value->Shared->Prop
noncomputable def frs(l:List Env):List Addr:=l.filterMap (·.frame)
noncomputable abbrev Cx.fs(X:Cx):List Addr:=frs X.outer
noncomputable def Vis(sc:Scope)(x:Str):Prop:=sc.names.lookup x=some .local\/sc.names.lookup x=some .cell\/sc.names.lookup x=some .free
noncomputable def Loc(sc:Scope)(x:Str):Prop:=sc.names.lookup x=some .local\/sc.names.lookup x=some .cell
noncomputable def Look(env:Env)(h:Heap)(m:Str->Option Value)(x:Str)(u:Value):Prop :=
 (env.kindOf x=some .local/\m x=some u)\/((env.kindOf x=some .cell\/env.kindOf x=some .free)/\∃c,env.cells.lookup x=some c/\h.IsCell c (some u))
set_option genInjectivity false in
set_option genSizeOfSpec false in
structure Cx.Ok(X:Cx):Prop where
 mod:Mod X.K X.mg X.base
 kind:X.env.scope.kind=.function
 glob:X.env.globals=mainGlobals
 blt:X.env.builtins=builtinsNs
 above:X.s₀.heap.objs.size<=X.env.locals
 inj:∀x y c,X.env.cells.lookup x=some c->X.env.cells.lookup y=some c->x=y
 has:∀x,(X.env.kindOf x=some .cell\/X.env.kindOf x=some .free)->∃c,X.env.cells.lookup x=some c
 cab:∀x c,X.fn x=true->X.env.cells.lookup x=some c->X.s₀.heap.objs.size<=c
 hd:X.calm=true->X.A.handled=none
 frames:X.A.frames=some X.stack
 stk:X.stack=X.outer\/(X.stack=X.env::X.outer/\X.env.frame=some X.env.locals)
 exf:∀b∈X.ex,b≠X.env.locals/\∀x c,X.env.cells.lookup x=some c->c≠b
 bs:∀b o,X.base.get? b=some o->X.s₀.heap.get? b=some o/\X.H₀ b=none
 bsz:X.base.objs.size<=X.s₀.heap.objs.size
 noex:∀b o,X.base.get? b=some o->b∉X.ex
 exfs:∀b∈X.ex,b∉X.fs
 funs:X.s₀.heap.FunFrames X.base X.outer
 frf:∀b∈X.fs,X.H₀ b=none
structure Inv(X:Cx)(pins:List (Addr × Obj))(σ:List (Option V))(H:Hp)(s:Shared):Prop where
 ok:X.Ok
 os:s.os=X.s₀.os
 bare:AllBare s.gens
 base:Un X.fs X.ex X.H₀ H X.s₀.heap s.heap
 loc:∃m,s.heap.Ns X.env.locals m/\∀(i:Nat) (x:Str) (v:V),X.N[i]?=some x->σ[i]?=some (some v)->Vis X.env.scope x->∃u,RelV v u/\Look X.env s.heap m x u
 cell:∀x c,X.env.cells.lookup x=some c->∃v,s.heap.IsCell c v
 free:H X.env.locals=none
 freeC:∀x c,X.env.cells.lookup x=some c->H c=none
 pin:∀p∈X.pn++pins,s.heap.get? p.1=some p.2/\H p.1=none/\p.1≠X.env.locals/\p.1∉X.fs/\∀v,p.2.data≠.cell v
 hok:HOk X.prog X.w H s.heap
 len:σ.length=X.N.length
section
variable {X:Cx}{pins:List (Addr × Obj)}{σ:List (Option V)}{H H':Hp}{s:Shared}{h':Heap}
theorem Cx.Ok.nofr(ok:X.Ok){b:Addr}{o:Obj}(e:X.base.get? b=some o):b∉X.fs:=fun hb=>by
 have:=(ok.funs.mem hb).1
 rw [e] at this;cases this
theorem Inv.bs(I:Inv X pins σ H s):∀b o,X.base.get? b=some o->s.heap.get? b=some o/\H b=none:=fun b o e =>
 ⟨I.base.keep b o (I.ok.bs b o e).1 (I.ok.bs b o e).2 (I.ok.nofr e) (I.ok.noex b o e),I.base.free b o (I.ok.bs b o e).1 (I.ok.bs b o e).2 (I.ok.noex b o e)⟩
theorem Inv.bk(I:Inv X pins σ H s):∀b o,X.base.get? b=some o->s.heap.get? b=some o:=fun b o e=>(I.bs b o e).1
theorem Inv.mod(I:Inv X pins σ H s):Mod X.K X.mg X.base:=I.ok.mod
theorem Inv.kIn(I:Inv X pins σ H s):X.K.In s.heap:=I.ok.mod.kin.keeps I.bk
theorem Inv.lt(I:Inv X pins σ H s):X.env.locals < s.heap.objs.size:=let ⟨_,hn,_⟩:=I.loc;hn.lt
theorem Inv.sz(I:Inv X pins σ H s):X.s₀.heap.objs.size<=s.heap.objs.size:=Qba I.ok.above (Qaw I.lt)
theorem Inv.nofs(I:Inv X pins σ H s){a:Addr}(h:s.heap.objs.size<=a):a∉X.fs:=fun hb=>by
 obtain ⟨_,o,ho,_⟩:=I.ok.funs.mem hb
 exact absurd (Qbf (Heap.lt_size ho) (Qba I.sz h)) (Qb3 _)
theorem Inv.cne(I:Inv X pins σ H s):∀x c,X.env.cells.lookup x=some c->c≠X.env.locals:=fun x c e z=>by
 obtain ⟨v,o,ho,hd⟩:=I.cell x c e
 obtain ⟨m,⟨o',es,ep,ho',hd',_⟩,_⟩:=I.loc
 rw [z,ho'] at ho;cases ho;rw [hd'] at hd;cases hd
theorem Inv.funs(I:Inv X pins σ H s):s.heap.FunFrames X.base X.outer:=by
 have all:∀(l:List Env),(∀b∈frs l,b∈X.fs)->X.s₀.heap.FunFrames X.base l->s.heap.FunFrames X.base l:=by
  intro l
  induction l with
  | nil=>intro _ _;trivial
  | cons env r ih =>
   intro hs hl
   obtain ⟨hk,⟨L,o,hf,hn,ho,hd⟩,hr⟩:=hl
   have hL:L∈X.fs:=hs L (by unfold frs;rw [Qc7,hf];exact Qaf)
   obtain ⟨sl,e⟩:=I.base.slot L o ho (I.ok.frf L hL) hL fun z=>I.ok.exfs L z hL
   exact ⟨hk,⟨L,_,hf,hn,e,hd⟩,ih (fun b hb=>hs b (by unfold frs;rw [Qc7,hf];exact Qag _ hb)) hr⟩
 exact all X.outer (fun _ hb=>hb) I.ok.funs
theorem Inv.stack(I:Inv X pins σ H s):s.heap.FunFrames X.base X.stack:=by
 rcases I.ok.stk with e | ⟨e,hf⟩
 ·rw [e];exact I.funs
 ·rw [e]
  obtain ⟨m,hn,_⟩:=I.loc
  refine .cons (by rw [I.ok.kind];decide) hf hn ?_ I.funs
  exact Heap.get?_none_of_le (Qba I.ok.bsz I.ok.above)
theorem Inv.stkSub(I:Inv X pins σ H s):∀b∈frs X.stack,b∈X.env.locals::X.fs:=fun b hb=>by
 rcases I.ok.stk with e | ⟨e,hf⟩
 ·rw [e] at hb;exact Qag _ hb
 ·rw [e] at hb
  unfold frs at hb
  rw [Qc7,hf] at hb
  exact hb
theorem Inv.stkFree(I:Inv X pins σ H s):∀b∈frs X.stack,H b=none:=fun b hb=>by
 rcases Qak.mp (I.stkSub b hb) with e | hb
 ·rw [e];exact I.free
 ·obtain ⟨_,o,ho,_⟩:=I.ok.funs.mem hb
  exact I.base.free b o ho (I.ok.frf b hb) fun z=>I.ok.exfs b z hb
theorem Inv.step{g':Array GenState}{t':Nat}{d':Drawn}{ch:List Addr}(I:Inv X pins σ H s)
  (hch:∀b∈ch,(b∈X.ex\/X.s₀.heap.objs.size<=b)/\b≠X.env.locals/\(∀x c,X.env.cells.lookup x=some c->c≠b)/\∀p∈X.pn++pins,p.1≠b)
  (keep:∀b o,b≠X.env.locals->b∉X.fs->b∉ch->s.heap.get? b=some o->H b=none->h'.get? b=some o)
  (slot:∀b o,b≠X.env.locals->b∈X.fs->b∉ch->s.heap.get? b=some o->H b=none->∃sl,h'.get? b=some { o with slots:=sl }) (free:∀b o,b∉ch->s.heap.get? b=some o->H b=none->H' b=none)
  (there:∀b o,b∉ch->s.heap.get? b=some o->∃o',h'.get? b=some o')
  (tups:∀b xs,H b=some (.tup xs)->H' b=some (.tup xs)) (frzs:∀b o u,H b=some (.frz o u)->H' b=some (.frz o u)) (tbls:∀b ps,H b=some (.tbl ps)->∃more,H' b=some (.tbl (ps++more)))
  (ns:∀m,s.heap.Ns X.env.locals m->h'.Ns X.env.locals m) (hok:HOk X.prog X.w H' h') (hg:AllBare g') :
  Inv X pins σ H' { s with heap:=h',gens:=g',drawn:=d',toks:=t' }:=by
 have neL:∀b o,X.s₀.heap.get? b=some o->b≠X.env.locals:=fun b o e=>Qbv (Qbf (Heap.lt_size e) I.ok.above)
 have neC:∀b o,X.s₀.heap.get? b=some o->b∉X.ex->b∉ch:=fun b o e hx hb=>by
  rcases (hch b hb).1 with z | z
  ·exact hx z
  ·exact absurd (Qbf (Heap.lt_size e) z) (Qb3 _)
 have cellK:∀x c,X.env.cells.lookup x=some c->∀v,s.heap.IsCell c v->h'.IsCell c v:=fun x c e v ⟨o,ho,hd⟩=>by
  have nch:c∉ch:=fun z=>(hch c z).2.2.1 x c e rfl
  by_cases hc:c∈X.fs
  ·obtain ⟨sl,q⟩:=slot c o (I.cne x c e) hc nch ho (I.freeC x c e)
   exact ⟨_,q,hd⟩
  ·exact ⟨o,keep c o (I.cne x c e) hc nch ho (I.freeC x c e),hd⟩
 refine ⟨I.ok,I.os,hg,⟨fun b o e n hb hx=>?_,fun b o e n hb hx=>?_,fun b o e n hx=>?_,fun b o e hx=>?_,fun b xs e=>tups b xs (I.base.tups b xs e),fun b o xs e=>frzs b o xs (I.base.frzs b o xs e),fun b ps e=>?_⟩,?_,fun x c e=>?_,?_,fun x c e=>?_,fun p hp=>?_,hok,I.len⟩
 ·exact keep b o (neL b o e) hb (neC b o e hx) (I.base.keep b o e n hb hx) (I.base.free b o e n hx)
 ·obtain ⟨sl,e1⟩:=I.base.slot b o e n hb hx
  obtain ⟨sl',e2⟩:=slot b _ (neL b o e) hb (neC b o e hx) e1 (I.base.free b o e n hx)
  exact ⟨sl',e2⟩
 ·obtain ⟨o',e1⟩:=I.base.there b o e hx
  exact free b o' (neC b o e hx) e1 (I.base.free b o e n hx)
 ·obtain ⟨o',e1⟩:=I.base.there b o e hx
  exact there b o' (neC b o e hx) e1
 ·obtain ⟨m1,e1⟩:=I.base.tbls b ps e
  obtain ⟨m2,e2⟩:=tbls b _ e1
  exact ⟨m1++m2,by rw [e2,Array.append_assoc]⟩
 ·obtain ⟨m,hn,hl⟩:=I.loc
  refine ⟨m,ns m hn,fun i x v e1 e2 e3=>?_⟩
  obtain ⟨u,r,l⟩:=hl i x v e1 e2 e3
  refine ⟨u,r,?_⟩
  rcases l with l | ⟨k,c,e,z⟩
  ·exact .inl l
  ·exact .inr ⟨k,c,e,cellK x c e _ z⟩
 ·obtain ⟨v,z⟩:=I.cell x c e
  exact ⟨v,cellK x c e v z⟩
 ·obtain ⟨m,⟨o,_,_,ho,_⟩,_⟩:=I.loc
  exact free _ o (fun z=>(hch _ z).2.1 rfl) ho I.free
 ·obtain ⟨v,o,ho,hd⟩:=I.cell x c e
  exact free c o (fun z=>(hch c z).2.2.1 x c e rfl) ho (I.freeC x c e)
 ·obtain ⟨e,n,ne,nf,d⟩:=I.pin p hp
  have nch:p.1∉ch:=fun z=>(hch p.1 z).2.2.2 p hp rfl
  exact ⟨keep p.1 p.2 ne nf nch e n,free p.1 p.2 nch e n,ne,nf,d⟩
theorem Inv.un{t':Nat}(I:Inv X pins σ H s)(u:Un X.fs [] H H' s.heap h')(hok:HOk X.prog X.w H' h'):Inv X pins σ H' { s with heap:=h',toks:=t' }:=by
 obtain ⟨m,⟨o,es,ep,ho,r⟩,_⟩:=id I.loc
 obtain ⟨sl,hL⟩:=u.any ho I.free (by simp)
 exact I.step (g':=s.gens) (d':=s.drawn) (ch:=[]) (fun _ z=>nomatch z) (fun b o _ hb _ e n=>u.keep b o e n hb (by simp)) (fun b o _ hb _ e n=>u.slot b o e n hb (by simp)) (fun b o _ e n=>u.free b o e n (by simp)) (fun b o _ e=>u.there b o e (by simp)) u.tups u.frzs u.tbls (fun m' hm=>by
  obtain ⟨o',es',ep',ho',r'⟩:=hm
  rw [ho] at ho';cases ho'
  exact ⟨_,es',ep',hL,r'⟩) hok I.bare
theorem Inv.call{g':Array GenState}{t':Nat}{d':Drawn}{ch:List Addr}(I:Inv X pins σ H s)(u:Un (frs X.stack) ch H H' s.heap h')(hok:HOk X.prog X.w H' h')(hg:AllBare g')
  (hch:∀b∈ch,(b∈X.ex\/X.s₀.heap.objs.size<=b)/\b≠X.env.locals/\(∀x c,X.env.cells.lookup x=some c->c≠b)/\∀p∈X.pn++pins,p.1≠b) :
  Inv X pins σ H' { s with heap:=h',gens:=g',drawn:=d',toks:=t' }:=by
 obtain ⟨m,⟨o,es,ep,ho,r⟩,_⟩:=id I.loc
 obtain ⟨sl,hL⟩:=u.any ho I.free fun z=>(hch _ z).2.1 rfl
 exact I.step (ch:=ch) hch (fun b o hL hb hc e n=>u.keep b o e n (fun z=>(Qak.mp (I.stkSub b z)).elim hL hb) hc) (fun b o _ _ hc e n=>u.any e n hc) (fun b o hc e n=>u.free b o e n hc) (fun b o hc e=>u.there b o e hc) u.tups u.frzs u.tbls (fun m' hm=>by
  obtain ⟨o',es',ep',ho',r'⟩:=hm
  rw [ho] at ho';cases ho'
  exact ⟨_,es',ep',hL,r'⟩) hok hg
theorem Inv.turned{t':Nat}{it:Addr}(I:Inv X pins σ H s)(k:∀b o,b≠it->s.heap.get? b=some o->h'.get? b=some o)(hn:H it=none)(hL:it≠X.env.locals)
  (h1:it∈X.ex\/X.s₀.heap.objs.size<=it) (h2:∀x c,X.env.cells.lookup x=some c->c≠it) (h3:∀p∈X.pn++pins,p.1≠it):Inv X pins σ H { s with heap:=h',toks:=t' }:=by
 have nit:∀b u,H b=some u->b≠it:=fun b u e z=>by rw [z,hn] at e;cases e
 refine I.step (g':=s.gens) (d':=s.drawn) (ch:=[it]) (fun b hb=>?_) (fun b o _ _ hc e _=>k b o (fun z=>hc (by simp [z])) e) (fun b o _ _ hc e _=>⟨o.slots,k b o (fun z=>hc (by simp [z])) e⟩) (fun _ _ _ _ n=>n)
  (fun b o hc e=>⟨o,k b o (fun z=>hc (by simp [z])) e⟩) (fun _ _ e=>e) (fun _ _ _ e=>e) (fun b ps e=>⟨#[],by rw [e];simp⟩) (fun m hm=>?_) (fun b u e=>?_) I.bare
 ·have e:b=it:=by simpa using hb
  subst e
  exact ⟨h1,hL,h2,h3⟩
 ·obtain ⟨o,es,ep,ho,r⟩:=hm
  exact ⟨o,es,ep,k _ o (Qc2 hL) ho,r⟩
 ·refine (I.hok b u e).stay (fun c v hc q=>k c v ?_ q) (fun _ q=>q) fun _ _ q=>q
  rcases hc with z | z
  ·rw [z];exact nit b u e
  ·exact nit c _ z
theorem Inv.tok(I:Inv X pins σ H s)(t:Nat):Inv X pins σ H { s with toks:=t }:=I.un (h':=s.heap) (t':=t) Un.refl I.hok
theorem Inv.kept{t':Nat}(I:Inv X pins σ H s)(k:∀b u,s.heap.get? b=some u->h'.get? b=some u):Inv X pins σ H { s with heap:=h',toks:=t' }:=I.un (Un.kept k) (I.hok.kept k)
theorem Inv.laid{a:Addr}{o:HO}{t':Nat}(I:Inv X pins σ H s)(k:∀b u,s.heap.get? b=some u->h'.get? b=some u)(hp:s.heap.objs.size<=a)(new:Y9 X.prog X.w (upd H a o) h' a o) :
  Inv X pins σ (upd H a o) { s with heap:=h',toks:=t' }:=I.un (Un.laid k hp (I.hok.fresh hp)) (I.hok.laid k hp new)
theorem Inv.write{x e:Addr}{o:HO}{t':Nat}(I:Inv X pins σ H s)(mu:Mut (H x))(he:e=x\/H e=some (.own x))(k:∀b u,b≠e->s.heap.get? b=some u->h'.get? b=some u)(heo:∃u,h'.get? e=some u)
  (new:Y9 X.prog X.w (upd H x o) h' x o):Inv X pins σ (upd H x o) { s with heap:=h',toks:=t' }:=I.un (Un.write mu he k heo) (I.hok.write mu he k heo new)
theorem Inv.pins_of{pins':List (Addr × Obj)}(I:Inv X pins σ H s)(h:∀p∈pins',s.heap.get? p.1=some p.2/\H p.1=none/\p.1≠X.env.locals/\p.1∉X.fs/\∀v,p.2.data≠.cell v):Inv X pins' σ H s :=
 ⟨I.ok,I.os,I.bare,I.base,I.loc,I.cell,I.free,I.freeC,fun p hp=>(Qa6.mp hp).elim (fun z=>I.pin p (Qcu _ z)) (h p),I.hok,I.len⟩
theorem yS{N:List Str}(hN:N.Nodup){i j:Nat}{x:Str}(a:N[i]?=some x)(b:N[j]?=some x):i=j:=by
 obtain ⟨h1,e1⟩:=Qah.mp a
 obtain ⟨h2,e2⟩:=Qah.mp b
 exact (List.getElem_inj hN).mp (e1.trans e2.symm)
theorem kW{M:Model}{A:Around}{E:Value->Shared->Prop}{i:Nat}{x:Str}{v:V}{u:Value}{Q:Unit->Shared->Prop}(I:Inv X pins σ H s)(hN:X.N.Nodup)(hi:X.N[i]?=some x)(hx:Loc X.env.scope x)(r:RelV v u)
  (h:∀s',Inv X pins (σ.set i (some v)) H s'->(∃a,Heap.SameBut a s.heap s'.heap/\(a=X.env.locals\/X.env.cells.lookup x=some a))->Q () s') (hf:X.fn x=true\/X.env.scope.names.lookup x=some .local:=by first | exact .inl rfl | exact .inr rfl | assumption):wpAny M A (storeName X.env x u) Q E s:=by
 obtain ⟨m,hn,hl⟩:=id I.loc
 have hcls:(X.env.scope.kind == .class || (X.env.scope.kind == .module && X.env.locals != X.env.globals))=false:=by rw [I.ok.kind];rfl
 have hiσ:i < σ.length:=by rw [I.len];exact (Qah.mp hi).1
 have cne:=I.cne
 have tracked:∀{a:Addr} {h':Heap},(∃o,s.heap.get? a=some o/\H a=none)->Heap.SameBut a s.heap h'->HOk X.prog X.w H h':=fun {a h'} ha hs b ob e=>by
  obtain ⟨_,_,hfree⟩:=ha
  refine (I.hok b ob e).stay (fun c w' hc q=>(hs.2 c ?_).trans q) (fun _ q=>q) fun _ _ q=>q
  rintro rfl
  rcases hc with rfl | hc
  ·rw [hfree] at e;cases e
  ·rw [hfree] at hc;cases hc
 rcases hx with hk | hk
 ·refine wpAny_storeName_local hk hn (fun h' hn' hs=>?_) hcls
  obtain ⟨oL,_,_,hoL,_⟩:=id hn
  refine h _ ⟨I.ok,I.os,I.bare,⟨fun b o e n hb hx=>?_,fun b o e n hb hx=>?_,I.base.free,fun b o e hx=>?_,I.base.tups,I.base.frzs,I.base.tbls⟩,⟨_,hn',fun j y v' e1 e2 e3=>?_⟩,fun y c e=>?_,I.free,I.freeC,fun p hp=>?_,tracked ⟨oL,hoL,I.free⟩ hs,by simpa using I.len⟩ ⟨_,hs,.inl rfl⟩
  ·exact (hs.2 b (Qbv (Qbf (Heap.lt_size e) I.ok.above))).trans (I.base.keep b o e n hb hx)
  ·obtain ⟨sl,e1⟩:=I.base.slot b o e n hb hx
   exact ⟨sl,(hs.2 b (Qbv (Qbf (Heap.lt_size e) I.ok.above))).trans e1⟩
  ·obtain ⟨o',e1⟩:=I.base.there b o e hx
   exact ⟨o',(hs.2 b (Qbv (Qbf (Heap.lt_size e) I.ok.above))).trans e1⟩
  ·by_cases hj:j=i
   ·subst hj
    rw [hi] at e1;cases e1
    rw [List.getElem?_set_self hiσ] at e2
    cases e2
    exact ⟨u,r,.inl ⟨hk,by simp⟩⟩
   ·rw [List.getElem?_set_ne (Qc2 hj)] at e2
    obtain ⟨u',r',q⟩:=hl j y v' e1 e2 e3
    refine ⟨u',r',?_⟩
    rcases q with ⟨k,e⟩ | ⟨k,c,e,z⟩
    ·refine .inl ⟨k,?_⟩
     have:y≠x:=fun e=>hj (yS hN e1 (e ▸ hi))
     simp [this,e]
    ·exact .inr ⟨k,c,e,z.sameBut hs (cne y c e)⟩
  ·obtain ⟨w',z⟩:=I.cell y c e
   exact ⟨w',z.sameBut hs (cne y c e)⟩
  ·obtain ⟨e,n,ne,nf,d⟩:=I.pin p hp
   exact ⟨(hs.2 p.1 ne).trans e,n,ne,nf,d⟩
 ·have hfn:X.fn x=true:=by
   rcases hf with z | z
   ·exact z
   ·rw [z] at hk;cases hk
  obtain ⟨c,hc⟩:=I.ok.has x (.inl hk)
  obtain ⟨w',z⟩:=I.cell x c hc
  refine wpAny_storeName_cell I.ok.kind hk hc z (fun h' hc' hs=>?_)
  obtain ⟨oc,hoc,hocd⟩:=id z
  refine h { s with heap:=h' } ⟨I.ok,I.os,I.bare,⟨fun b o e n hb hx=>?_,fun b o e n hb hx=>?_,I.base.free,fun b o e hx=>?_,I.base.tups,I.base.frzs,I.base.tbls⟩,⟨m,hn.sameBut hs (Qc2 (cne x c hc)),fun j y v' e1 e2 e3=>?_⟩,fun y c' e=>?_,I.free,I.freeC,fun p hp=>?_,tracked ⟨oc,hoc,I.freeC x c hc⟩ hs,by simpa using I.len⟩ ⟨c,hs,.inr hc⟩
  ·exact (hs.2 b (Qbv (Qbf (Heap.lt_size e) (I.ok.cab x c hfn hc)))).trans (I.base.keep b o e n hb hx)
  ·obtain ⟨sl,e1⟩:=I.base.slot b o e n hb hx
   exact ⟨sl,(hs.2 b (Qbv (Qbf (Heap.lt_size e) (I.ok.cab x c hfn hc)))).trans e1⟩
  ·obtain ⟨o',e1⟩:=I.base.there b o e hx
   exact ⟨o',(hs.2 b (Qbv (Qbf (Heap.lt_size e) (I.ok.cab x c hfn hc)))).trans e1⟩
  ·by_cases hj:j=i
   ·subst hj
    rw [hi] at e1;cases e1
    rw [List.getElem?_set_self hiσ] at e2
    cases e2
    exact ⟨u,r,.inr ⟨.inl hk,c,hc,hc'⟩⟩
   ·rw [List.getElem?_set_ne (Qc2 hj)] at e2
    obtain ⟨u',r',q⟩:=hl j y v' e1 e2 e3
    refine ⟨u',r',?_⟩
    rcases q with q | ⟨k,c',e,z'⟩
    ·exact .inl q
    ·refine .inr ⟨k,c',e,z'.sameBut hs ?_⟩
     rintro rfl
     exact hj (yS hN e1 (I.ok.inj _ _ _ e hc ▸ hi))
  ·by_cases hcc:c'=c
   ·subst hcc;exact ⟨_,hc'⟩
   ·obtain ⟨w2,z2⟩:=I.cell y c' e
    exact ⟨w2,z2.sameBut hs hcc⟩
  ·obtain ⟨e,n,ne,nf,d⟩:=I.pin p hp
   refine ⟨(hs.2 p.1 ?_).trans e,n,ne,nf,d⟩
   intro q
   rw [q,hoc] at e
   have q':oc=p.2:=Option.some.inj e
   exact d w' (by rw [<-q'];exact hocd)
theorem JB{M:Model}{A:Around}{E:Value->Shared->Prop}{i:Nat}{x:Str}{v:V}{u:Value}{Q:Unit->Shared->Prop}(I:Inv X pins σ H s)(hN:X.N.Nodup)(hi:X.N[i]?=some x)(hx:Loc X.env.scope x)(r:RelV v u)
  (h:∀s',Inv X pins (σ.set i (some v)) H s'->Q () s') (hf:X.fn x=true\/X.env.scope.names.lookup x=some .local:=by first | exact .inl rfl | exact .inr rfl | assumption):wpAny M A (storeName X.env x u) Q E s :=
 kW I hN hi hx r (fun s' I' _=>h s' I') hf
theorem Inv.call'{s':Shared}{ch:List Addr}(I:Inv X pins σ H s)(ho:s'.os=s.os)(u:Un (frs X.stack) ch H H' s.heap s'.heap)(hok:HOk X.prog X.w H' s'.heap)(hg:AllBare s'.gens)
  (hch:∀b∈ch,(b∈X.ex\/X.s₀.heap.objs.size<=b)/\b≠X.env.locals/\(∀x c,X.env.cells.lookup x=some c->c≠b)/\∀p∈X.pn++pins,p.1≠b):Inv X pins σ H' s':=by
 obtain ⟨h',g',d',t',o'⟩:=s'
 have e:o'=s.os:=ho
 subst e
 exact I.call (g':=g') (t':=t') (d':=d') u hok hg hch
end
noncomputable abbrev XK:=Value->Option Addr->Hp->Prop
noncomputable abbrev St:=List (Option V)
noncomputable abbrev VK:=V->Hp->Prop
noncomputable abbrev TE:=St->Hp->VK->Prop
noncomputable abbrev TT:=St->Hp->(Bool->Hp->Prop)->Prop
noncomputable abbrev TA:=St->Hp->(List V->Hp->Prop)->Prop
structure Ends where
 nx:St->Hp->Prop
 rt:VK
 bk:St->Hp->Prop:=fun _ _=>False
 ct:St->Hp->Prop:=fun _ _=>False
noncomputable abbrev TS:=Ends->St->Hp->Prop
inductive EP_i(X:Cx)(pins:List (Addr × Obj))(σ:St)(Q:VK)(u:Value)(s':Shared):Prop
 | mk (v H'):(Inv X pins σ H' s')->(RelV v u)->(Q v H')->EP_i X pins σ Q u s'
noncomputable def EP(X:Cx)(pins:List (Addr × Obj))(σ:St)(Q:VK)(u:Value)(s':Shared):Prop:=EP_i X pins σ Q u s'
inductive TP_i(X:Cx)(pins:List (Addr × Obj))(σ:St)(Q:Bool->Hp->Prop)(b:Bool)(s':Shared):Prop
 | mk (H'):(Inv X pins σ H' s')->(Q b H')->TP_i X pins σ Q b s'
noncomputable def TP(X:Cx)(pins:List (Addr × Obj))(σ:St)(Q:Bool->Hp->Prop)(b:Bool)(s':Shared):Prop:=TP_i X pins σ Q b s'
inductive AP_i(X:Cx)(pins:List (Addr × Obj))(σ:St)(Q:List V->Hp->Prop)(us:List Value)(s':Shared):Prop
 | mk (vs H'):(Inv X pins σ H' s')->(Vals vs us)->(Q vs H')->AP_i X pins σ Q us s'
noncomputable def AP(X:Cx)(pins:List (Addr × Obj))(σ:St)(Q:List V->Hp->Prop)(us:List Value)(s':Shared):Prop:=AP_i X pins σ Q us s'
noncomputable def SP(X:Cx)(pins:List (Addr × Obj))(D:Ends)(f:Flow)(s':Shared):Prop :=
 match f with
 | .next=>∃σ' H',Inv X pins σ' H' s'/\D.nx σ' H'
 | .brk=>∃σ' H',Inv X pins σ' H' s'/\D.bk σ' H'
 | .cont=>∃σ' H',Inv X pins σ' H' s'/\D.ct σ' H'
 | .ret u=>∃v σ' H',Inv X pins σ' H' s'/\RelV v u/\D.rt v H'
noncomputable def PE(X:Cx)(e:Expr)(t:TE):Prop :=
 ∀(pins:List (Addr × Obj)) (s:Shared) (σ:St) (H:Hp) (Q:VK),Inv X pins σ H s->t σ H Q->wpAny (model X.prog X.w) X.A (eval e X.env) (EP X pins σ Q) X.xe s
noncomputable def PT(X:Cx)(e:Expr)(t:TT):Prop :=
 ∀(pins:List (Addr × Obj)) (s:Shared) (σ:St) (H:Hp) (Q:Bool->Hp->Prop),Inv X pins σ H s->t σ H Q->wpAny (model X.prog X.w) X.A (isTrue e X.env (eval e X.env)) (TP X pins σ Q) X.xe s
noncomputable def PW(X:Cx)(e:Expr)(t:TT):Prop :=
 ∀(whole:Sem Value) (pins:List (Addr × Obj)) (s:Shared) (σ:St) (H:Hp) (Q:Bool->Hp->Prop),Inv X pins σ H s->t σ H Q->wpAny (model X.prog X.w) X.A (isTrue e X.env whole) (TP X pins σ Q) X.xe s
theorem PW.pt{X:Cx}{e:Expr}{t:TT}(h:PW X e t):PT X e t:=h _
noncomputable def PA(X:Cx)(es:List Expr)(t:TA):Prop :=
 ∀(pos:Pos) (pins:List (Addr × Obj)) (s:Shared) (σ:St) (H:Hp) (Q:List V->Hp->Prop),Inv X pins σ H s->t σ H Q->wpAny (model X.prog X.w) X.A (spliced (backTo pos (starEach es X.env))) (AP X pins σ Q) X.xe s
noncomputable def PS(X:Cx)(st:Stmt)(t:TS):Prop :=
 ∀(pins:List (Addr × Obj)) (s:Shared) (σ:St) (H:Hp) (D:Ends),Inv X pins σ H s->t D σ H->wpAny (model X.prog X.w) X.A (exec st X.env) (SP X pins D) X.xe s
noncomputable def PSs(X:Cx)(st:List Stmt)(t:TS):Prop :=
 ∀(pins:List (Addr × Obj)) (s:Shared) (σ:St) (H:Hp) (D:Ends),Inv X pins σ H s->t D σ H->wpAny (model X.prog X.w) X.A (execs st X.env) (SP X pins D) X.xe s
theorem thn{α:Type}{t:Sem α}{Q Q':α->Shared->Prop}{M:Model}{A:Around}{E:Value->Shared->Prop}{s:Shared}(h:wpAny M A t Q E s)(hQ:∀a s,Q a s->Q' a s):wpAny M A t Q' E s:=wpAny_mono h hQ fun _ _ x=>x
section
variable {X:Cx}
inductive Zby(i:Nat)(σ:St)(H:Hp)(Q:VK):Prop
 | mk (v):(σ[i]?=some (some v))->(Q v H)->Zby i σ H Q
noncomputable def jb(i:Nat):TE:=fun σ H Q=>Zby i σ H Q
noncomputable def tC(v:V):TE:=fun _ H Q=>Q v H
theorem Zbz {i:Nat} {x:Str} {pos:Pos} (hN:X.N[i]?=some x) (hv:Vis X.env.scope x) (hd:(x == ("__debug__" : Str))=false:=by decide) (hcd:(x == ("__classdict__" : Str))=false:=by decide):PE X (.Name x pos) (jb i):=by
 intro pins s σ H Q I h
 obtain ⟨v,e,h⟩:=h
 obtain ⟨m,hn,hl⟩:=I.loc
 obtain ⟨u,r,l⟩:=hl i x v hN e hv
 have fin:EP X pins σ Q u s:=⟨v,H,I,r,h⟩
 rcases l with ⟨hk,hm⟩ | ⟨hk,c,hc,hcell⟩
 ·exact wpAny_Name (wpAny_loadName_local I.ok.kind hk hn hm fin) hd
 ·rcases hk with hk | hk
  ·exact wpAny_Name (wpAny_loadName_cell I.ok.kind hk hc hcell fin) hd
  ·exact wpAny_Name (wpAny_loadName_free I.ok.kind hk hc hcell fin hcd) hd
theorem pe_int{i j pos}:PE X (.Constant (.int i) j pos) (tC (.int i)):=fun _ _ _ H _ I h=>wpAny_Constant_int ⟨.int i,H,I.tok _,⟨_,rfl⟩,h⟩
theorem pe_bl{b j pos}:PE X (.Constant (.bool b) j pos) (tC (.bl b)):=fun _ _ _ H _ I h=>Constant_bool ⟨.bl b,H,I,rfl,h⟩
theorem pe_str{x j pos}:PE X (.Constant (.str x) j pos) (tC (.str x)):=fun _ _ _ H _ I h=>Calls.Constant_str ⟨.str x,H,I.tok _,⟨_,rfl⟩,h⟩
noncomputable def Gl(X:Cx)(x:Str):Prop:=X.env.kindOf x=some .globalImplicit
theorem yj{E:Value->Shared->Prop}{pins:List (Addr × Obj)}{s:Shared}{σ:St}{H:Hp}{x:Str}{u:Value}{pos:Pos}{Q:Value->Shared->Prop}(I:Inv X pins σ H s)(hg:Gl X x)(hm:X.mg x=some u)(h:Q u s)
  (hd:(x == ("__debug__" : Str))=false:=by decide):wpAny (model X.prog X.w) X.A (eval (.Name x pos) X.env) Q E s :=
 Calls.Name_function_global I.ok.kind hg (Calls.loadGlobal_global (by rw [I.ok.glob];exact I.mod.glob.keeps I.bk) hm h) hd
theorem GC{E:Value->Shared->Prop}{pins:List (Addr × Obj)}{s:Shared}{σ:St}{H:Hp}{x:Str}{u:Value}{pos:Pos}{Q:Value->Shared->Prop}(I:Inv X pins σ H s)(hg:Gl X x)(hm:X.mg x=none)(hv:bootBuiltins x=some u)(h:Q u s)
  (hn:x ≠ "__name__" := by decide) (hd:(x == ("__debug__" : Str))=false:=by decide):wpAny (model X.prog X.w) X.A (eval (.Name x pos) X.env) Q E s:=by
 obtain ⟨mb,h1,h2⟩:=I.mod.blt
 exact Calls.Name_function_global I.ok.kind hg (Calls.loadGlobal_builtin (by rw [I.ok.glob];exact I.mod.glob.keeps I.bk) hm (by rw [I.ok.blt];exact h1.keeps I.bk) ((h2 x hn).trans hv) h) hd
theorem Zdj {x:Str} {v:V} {u:Value} {pos:Pos} (hg:Gl X x) (hm:X.mg x=some u) (r:RelV v u) (hd:(x == ("__debug__" : Str))=false:=by decide):PE X (.Name x pos) (tC v) :=
 fun _ _ _ H _ I h=>yj I hg hm ⟨v,H,I,r,h⟩ hd
theorem Zdk {x:Str} {v:V} {u:Value} {pos:Pos} (hg:Gl X x) (hm:X.mg x=none) (hv:bootBuiltins x=some u) (r:RelV v u) (hn:x ≠ "__name__" := by decide) (hd:(x == ("__debug__" : Str))=false:=by decide):PE X (.Name x pos) (tC v) :=
 fun _ _ _ H _ I h=>GC I hg hm hv ⟨v,H,I,r,h⟩ hn hd
variable {a b:Expr}{ta tb:TE}{pos:Pos}
inductive tB_i(Q:Bool->Hp->Prop)(x:V)(H1:Hp):Prop
 | mk (c):(x=.bl c)->(Q c H1)->tB_i Q x H1
noncomputable def tB(t:TE):TT:=fun σ H Q=>t σ H fun x H1=>tB_i Q x H1
theorem pt_val{e:Expr}{t:TE}(h:PE X e t)(he:∀whole,isTrue e X.env whole=(do let v <-whole;standAt e.pos;holding [v] (truthy v)):=by intro _;rfl):PT X e (tB t):=by
 intro pins s σ H Q I hw
 refine isTrue_plain (thn (h pins s σ H _ I hw) fun v s1 ⟨x,H1,I1,r1,q1⟩=>?_) (he _)
 obtain ⟨d,rfl,q⟩:=q1
 cases r1
 exact wpAny_truthy_bool ⟨H1,I1,q⟩
variable {tA tB':TT}{rest:List Expr}
noncomputable def tAnd(t u:TT):TT:=fun σ H Q=>t σ H fun c H1=>if c=true then u σ H1 Q else Q false H1
noncomputable def tOr(t u:TT):TT:=fun σ H Q=>t σ H fun c H1=>if c=true then Q true H1 else u σ H1 Q
noncomputable def tNot(t:TT):TT:=fun σ H Q=>t σ H fun c H1=>Q (!c) H1
theorem Zdl(ha:PT X a tA):PW X (.BoolOp .And [a] pos) tA:=by
 intro wh pins s σ H Q I h
 refine isTrue_and (thn (ha pins s σ H Q I h) fun c s1 e=>?_)
 cases c with
 | true=>exact isTrue_and_nil e
 | false=>exact e
theorem pw_or1(ha:PT X a tA):PW X (.BoolOp .Or [a] pos) tA:=by
 intro wh pins s σ H Q I h
 refine isTrue_or (thn (ha pins s σ H Q I h) fun c s1 e=>?_)
 cases c with
 | false=>exact isTrue_or_nil e
 | true=>exact e
theorem pw_and(ha:PT X a tA)(hb:PW X (.BoolOp .And (b::rest) pos) tB'):PW X (.BoolOp .And (a::b::rest) pos) (tAnd tA tB'):=by
 intro wh pins s σ H Q I h
 refine isTrue_and (thn (ha pins s σ H _ I h) fun c s1 ⟨H1,I1,q1⟩=>?_)
 cases c with
 | true=>exact hb wh pins s1 σ H1 Q I1 q1
 | false=>exact ⟨H1,I1,q1⟩
theorem pw_or(ha:PT X a tA)(hb:PW X (.BoolOp .Or (b::rest) pos) tB'):PW X (.BoolOp .Or (a::b::rest) pos) (tOr tA tB'):=by
 intro wh pins s σ H Q I h
 refine isTrue_or (thn (ha pins s σ H _ I h) fun c s1 ⟨H1,I1,q1⟩=>?_)
 cases c with
 | true=>exact ⟨H1,I1,q1⟩
 | false=>exact hb wh pins s1 σ H1 Q I1 q1
theorem pt_not(ha:PT X a tA):PT X (.UnaryOp .Not a pos) (tNot tA):=by
 intro pins s σ H Q I h
 exact isTrue_not (thn (ha pins s σ H (fun c H1=>Q (!c) H1) I h) fun c s1 ⟨H1,I1,q⟩=>⟨H1,I1,q⟩)
inductive kX(tb:TE)(σ:St)(Q:VK)(x:V)(H1:Hp):Prop
 | mk (c):(x=.bl c)->(if c=true then tb σ H1 Q else Q (.bl false) H1)->kX tb σ Q x H1
noncomputable def Zf6(ta tb:TE):TE:=fun σ H Q=>ta σ H fun x H1=>kX tb σ Q x H1
inductive Zb0(tb:TE)(σ:St)(Q:VK)(x:V)(H1:Hp):Prop
 | mk (c):(x=.bl c)->(if c=true then Q (.bl true) H1 else tb σ H1 Q)->Zb0 tb σ Q x H1
noncomputable def tOrV(ta tb:TE):TE:=fun σ H Q=>ta σ H fun x H1=>Zb0 tb σ Q x H1
inductive kY(Q:VK)(x:V)(H1:Hp):Prop
 | mk (c):(x=.bl c)->(Q (.bl (!c)) H1)->kY Q x H1
noncomputable def Zf7(ta:TE):TE:=fun σ H Q=>ta σ H fun x H1=>kY Q x H1
theorem pe_one{op}{t:TE}(h:PE X a t):PE X (.BoolOp op [a] pos) t:=fun pins s σ H Q I hw=>BoolOp_one (h pins s σ H Q I hw)
theorem pe_and(ha:PE X a ta)(hb:PE X (.BoolOp .And (b::rest) pos) tb):PE X (.BoolOp .And (a::b::rest) pos) (Zf6 ta tb):=by
 intro pins s σ H Q I h
 refine BoolOp_and (thn (ha pins s σ H _ I h) fun v s1 ⟨x,H1,I1,r1,q1⟩=>?_)
 obtain ⟨c,rfl,q1⟩:=q1
 cases r1
 refine wpAny_truthy_bool ?_
 cases c with
 | true=>exact hb pins s1 σ H1 Q I1 q1
 | false=>exact ⟨.bl false,H1,I1,rfl,q1⟩
theorem pe_or(ha:PE X a ta)(hb:PE X (.BoolOp .Or (b::rest) pos) tb):PE X (.BoolOp .Or (a::b::rest) pos) (tOrV ta tb):=by
 intro pins s σ H Q I h
 refine BoolOp_or (thn (ha pins s σ H _ I h) fun v s1 ⟨x,H1,I1,r1,q1⟩=>?_)
 obtain ⟨c,rfl,q1⟩:=q1
 cases r1
 refine wpAny_truthy_bool ?_
 cases c with
 | false=>exact hb pins s1 σ H1 Q I1 q1
 | true=>exact ⟨.bl true,H1,I1,rfl,q1⟩
theorem pe_not(ha:PE X a ta):PE X (.UnaryOp .Not a pos) (Zf7 ta):=by
 intro pins s σ H Q I h
 refine UnaryOp_ (thn (ha pins s σ H _ I h) fun v s1 ⟨x,H1,I1,r1,q1⟩=>?_)
 obtain ⟨c,rfl,q1⟩:=q1
 cases r1
 exact not_of (wpAny_truthy_bool ⟨.bl (!c),H1,I1,rfl,q1⟩)
end
noncomputable def SqL(K:PySem.W.Frag)(H:Hp)(a:Addr)(xs:List V):Prop :=
 Rd H a (.lst xs) \/
  ∃(o:Obj) (its:Array Value) (n:Nat),K.lookup a=some o/\o.cls=.type "list" /\ o.dict=none/\o.data=.seq its n/\its.size<=sizeLine/\Vals xs its.toList
noncomputable def SqT(K:PySem.W.Frag)(H:Hp)(a:Addr)(xs:List V):Prop :=
 Rd H a (.tup xs) \/
  ∃(o:Obj) (its:Array Value) (n:Nat),K.lookup a=some o/\o.cls=.type "tuple" /\ o.data=.seq its n/\its.size<=sizeLine/\Vals xs its.toList
noncomputable def absV:Value->Option V
 | .none=>some .non
 | .bool b=>some (.bl b)
 | .int i _=>some (.int i)
 | .str x _=>some (.str x)
 | .bytes b _=>some (.byt b)
 | .float b _=>some (.flt b)
 | .ref a=>some (.ref a)
 | .type n=>some (.ty n)
 | _=>none
theorem RelV.abs{x:V}{u:Value}(r:RelV x u):absV u=some x:=by
 cases x with
 | non=>cases r;rfl
 | bl _=>cases r;rfl
 | int _=>obtain ⟨t,rfl⟩:=r;rfl
 | str _=>obtain ⟨t,rfl⟩:=r;rfl
 | byt _=>obtain ⟨t,rfl⟩:=r;rfl
 | flt _=>obtain ⟨t,rfl⟩:=r;rfl
 | ref _=>cases r;rfl
 | ty _=>cases r;rfl
theorem RelV.inj{x y:V}{u:Value}(r:RelV x u)(q:RelV y u):x=y:=Option.some.inj (r.abs.symm.trans q.abs)
theorem Vals.inj:∀{xs ys:List V} {us:List Value},Vals xs us->Vals ys us->xs=ys
 | _,_,_,.nil,.nil=>rfl
 | _,_,_,.cons r t,.cons r' t'=>by rw [r.inj r',Vals.inj t t']
section
variable {X:Cx}{pins:List (Addr × Obj)}{σ:St}{H:Hp}{s:Shared}{a:Addr}{xs ys:List V}
theorem SqL.of{K:PySem.W.Frag}(h:H a=some (.lst xs)):SqL K H a xs:=.inl (.inl h)
theorem SqT.of{K:PySem.W.Frag}(h:H a=some (.tup xs)):SqT K H a xs:=.inl (.inl h)
theorem Inv.list(I:Inv X pins σ H s)(h:SqL X.K H a xs):∃its:List Value,Vals xs its/\PlainL s.heap a its.toArray/\xs.length<=sizeLine:=by
 rcases h with h | ⟨o,its,n,hk,hc,hd,hs,hz,r⟩
 ·obtain ⟨z,its,n,r,e⟩:=h.ok I.hok
  exact ⟨its,r,⟨_,n,e,rfl,rfl,rfl⟩,z⟩
 ·refine ⟨its.toList,r,⟨o,n,I.kIn a o hk,hc,hd,by simpa using hs⟩,?_⟩
  have e:=r.length
  simp only [Qcc] at e
  lia
theorem Inv.tuple(I:Inv X pins σ H s)(h:SqT X.K H a xs):∃its:List Value,Vals xs its/\IsTup s.heap a its.toArray/\xs.length<=sizeLine:=by
 rcases h with h | ⟨o,its,n,hk,hc,hs,hz,r⟩
 ·obtain ⟨z,its,r,p⟩:=h.ok I.hok
  exact ⟨its,r,p,z⟩
 ·refine ⟨its.toList,r,⟨o,I.kIn a o hk,hc,n,by simpa using hs⟩,?_⟩
  have e:=r.length
  simp only [Qcc] at e
  lia
theorem Inv.list_inj(I:Inv X pins σ H s)(h:SqL X.K H a xs)(h':SqL X.K H a ys):xs=ys:=by
 obtain ⟨its,r,⟨o,n,e,_,_,d⟩,_⟩:=I.list h
 obtain ⟨its',r',⟨o',n',e',_,_,d'⟩,_⟩:=I.list h'
 rw [e] at e';cases e'
 rw [d] at d'
 injection d' with d1 _
 have:its=its':=by simpa using congrArg Array.toList d1
 subst this
 exact r.inj r'
theorem Inv.tuple_inj(I:Inv X pins σ H s)(h:SqT X.K H a xs)(h':SqT X.K H a ys):xs=ys:=by
 obtain ⟨its,r,⟨o,e,_,n,d⟩,_⟩:=I.tuple h
 obtain ⟨its',r',⟨o',e',_,n',d'⟩,_⟩:=I.tuple h'
 rw [e] at e';cases e'
 rw [d] at d'
 injection d' with d1 _
 have:its=its':=by simpa using congrArg Array.toList d1
 subst this
 exact r.inj r'
end
noncomputable abbrev Cx.wish(X:Cx)(E:Value->Shared->Prop):Cx:={ X with xe:=E }
noncomputable abbrev Cx.nox(X:Cx):Cx:=X.wish fun _ _=>False
theorem Cx.Ok.wish{X:Cx}(ok:X.Ok)(E:Value->Shared->Prop):(X.wish E).Ok :=
 ⟨ok.mod,ok.kind,ok.glob,ok.blt,ok.above,ok.inj,ok.has,ok.cab,ok.hd,ok.frames,ok.stk,ok.exf,ok.bs,ok.bsz,ok.noex,ok.exfs,ok.funs,ok.frf⟩
theorem Cx.Ok.unwish{X:Cx}{E:Value->Shared->Prop}(ok:(X.wish E).Ok):X.Ok :=
 ⟨ok.mod,ok.kind,ok.glob,ok.blt,ok.above,ok.inj,ok.has,ok.cab,ok.hd,ok.frames,ok.stk,ok.exf,ok.bs,ok.bsz,ok.noex,ok.exfs,ok.funs,ok.frf⟩
section
variable {X:Cx}{pins:List (Addr × Obj)}{σ:St}{H:Hp}{s:Shared}{E:Value->Shared->Prop}
theorem Inv.wish(I:Inv X pins σ H s)(E:Value->Shared->Prop):Inv (X.wish E) pins σ H s:=⟨I.ok.wish E,I.os,I.bare,I.base,I.loc,I.cell,I.free,I.freeC,I.pin,I.hok,I.len⟩
theorem Inv.unwish(I:Inv (X.wish E) pins σ H s):Inv X pins σ H s:=⟨I.ok.unwish,I.os,I.bare,I.base,I.loc,I.cell,I.free,I.freeC,I.pin,I.hok,I.len⟩
theorem SP.unwish{D:Ends}{f:Flow}{s':Shared}(h:SP (X.wish E) pins D f s'):SP X pins D f s':=by
 cases f with
 | next=>obtain ⟨σ',H',I,q⟩:=h;exact ⟨σ',H',I.unwish,q⟩
 | brk=>obtain ⟨σ',H',I,q⟩:=h;exact ⟨σ',H',I.unwish,q⟩
 | cont=>obtain ⟨σ',H',I,q⟩:=h;exact ⟨σ',H',I.unwish,q⟩
 | ret u=>obtain ⟨v,σ',H',I,r,q⟩:=h;exact ⟨v,σ',H',I.unwish,r,q⟩
theorem PSs.nox{st:List Stmt}{t:TS}(h:PSs X.nox st t):PSs X st t:=fun pins s σ H D I hw =>
 wpAny_mono (h pins s σ H D (I.wish _) hw) (fun _ _ q=>q.unwish) fun _ _ z=>False.elim z
end
section
variable {X:Cx}{st:Stmt}{rest:List Stmt}{t u:TS}{e:Expr}{te:TE}{pos:Pos}
noncomputable def Zdm:TS:=fun D σ H=>D.nx σ H
noncomputable def YV(t u:TS):TS:=fun D σ H=>t { D with nx:=u D } σ H
theorem Zdn:PSs X [] Zdm:=fun _ _ σ H _ I h=>wpAny_execs_nil ⟨σ,H,I,h⟩
theorem Zaa(h1:PS X st t)(h2:PSs X rest u):PSs X (st::rest) (YV t u):=by
 intro pins s σ H D I h
 refine wpAny_execs_cons (thn (h1 pins s σ H { D with nx:=u D } I h) fun f s1 q=>?_)
 cases f with
 | next =>
  obtain ⟨σ',H',I',q⟩:=q
  exact h2 pins s1 σ' H' D I' q
 | ret v=>exact q
 | brk=>exact q
 | cont=>exact q
theorem Zdo(h1:PS X st t):PSs X [st] t:=by
 intro pins s σ H D I h
 refine wpAny_execs_cons (thn (h1 pins s σ H D I h) fun f s1 q=>?_)
 cases f with
 | next=>exact wpAny_execs_nil q
 | ret v=>exact q
 | brk=>exact q
 | cont=>exact q
theorem Inv.quiet{pins:List (Addr × Obj)}{σ:St}{H:Hp}{s:Shared}(I:Inv X pins σ H s):interactive X.env=false:=by simp [interactive,I.ok.kind]
noncomputable def Zdp(te:TE):TS:=fun D σ H=>te σ H fun _ H1=>D.nx σ H1
theorem Zdq(he:PE X e te)(hs:swapsWith e none pos.line X.env=pure false:=by rfl):PS X (.Expr e pos) (Zdp te):=by
 intro pins s σ H D I h
 exact wpAny_Expr_any (thn (he pins s σ H _ I h) fun v s1 ⟨x,H1,I1,r1,q1⟩=>⟨σ,H1,I1,q1⟩) I.quiet hs
noncomputable def tRet(te:TE):TS:=fun D σ H=>te σ H D.rt
theorem ps_ret(he:PE X e te):PS X (.Return (some e) pos) (tRet te):=by
 intro pins s σ H D I h
 exact wpAny_Return_some (thn (he pins s σ H _ I h) fun v s1 ⟨x,H1,I1,r1,q1⟩=>⟨x,σ,H1,I1,r1,q1⟩)
noncomputable def Zf8(c:TT)(t u:TS):TS:=fun D σ H=>c σ H fun b H1=>if b=true then t D σ H1 else u D σ H1
theorem ps_if{c:Expr}{a b:List Stmt}{tc:TT}(hc:PT X c tc)(ha:PSs X a t)(hb:PSs X b u):PS X (.If c a b pos) (Zf8 tc t u):=by
 intro pins s σ H D I h
 refine wpAny_If (thn (hc pins s σ H _ I h) fun d s1 ⟨H1,I1,q1⟩=>?_)
 cases d with
 | true=>exact ha pins s1 σ H1 D I1 q1
 | false=>exact hb pins s1 σ H1 D I1 q1
end
noncomputable abbrev TG:=V->St->Hp->(St->Hp->Prop)->Prop
noncomputable abbrev TGs:=List V->St->Hp->(St->Hp->Prop)->Prop
noncomputable def PG(X:Cx)(target:Expr)(t:TG):Prop :=
 ∀(pins:List (Addr × Obj)) (s:Shared) (σ:St) (H:Hp) (v:V) (u:Value) (Q:St->Hp->Prop),Inv X pins σ H s->RelV v u->t v σ H Q ->
  wpAny (model X.prog X.w) X.A (assign target X.env u) (fun _ s'=>∃σ' H',Inv X pins σ' H' s'/\Q σ' H') X.xe s
noncomputable def PGs(X:Cx)(ts:List Expr)(t:TGs):Prop :=
 ∀(pins:List (Addr × Obj)) (s:Shared) (σ:St) (H:Hp) (vs:List V) (us:List Value) (Q:St->Hp->Prop),Inv X pins σ H s->Vals vs us->t vs σ H Q ->
  wpAny (model X.prog X.w) X.A (assignInOrder ((assignEach ts X.env).map (·.2)) us) (fun _ s'=>∃σ' H',Inv X pins σ' H' s'/\Q σ' H') X.xe s
section
variable {X:Cx}{pos:Pos}
noncomputable def zw(i:Nat):TG:=fun v σ H Q=>Q (σ.set i (some v)) H
theorem kZ{i:Nat}{x:Str}(hN:X.N.Nodup)(hi:X.N[i]?=some x)(hx:Loc X.env.scope x)(hf:X.fn x=true\/X.env.scope.names.lookup x=some .local:=by first | exact .inl rfl | exact .inr rfl | assumption):PG X (.Name x pos) (zw i):=by
 intro pins s σ H v u Q I r h
 exact wpAny_assign_Name (JB I hN hi hx r (fun s' I'=>⟨_,H,I',h⟩) hf)
inductive Zb1(vs:List V)(σ:St)(H:Hp)(Q:St->Hp->Prop):Prop
 | mk  : (vs=[])->(Q σ H)->Zb1 vs σ H Q
noncomputable def gNil  : TGs:=fun vs σ H Q=>Zb1 vs σ H Q
inductive wa(t:TG)(u:TGs)(vs:List V)(σ:St)(H:Hp)(Q:St->Hp->Prop):Prop
 | mk (v r):(vs=v::r)->(t v σ H fun σ' H'=>u r σ' H' Q)->wa t u vs σ H Q
noncomputable def wb(t:TG)(u:TGs):TGs:=fun vs σ H Q=>wa t u vs σ H Q
theorem Zdr:PGs X [] gNil:=by
 intro pins s σ H vs us Q I r h
 obtain ⟨e,h⟩:=h
 subst e
 cases r
 exact assignInOrder_nil ⟨σ,H,I,h⟩
theorem yT{e:Expr}{es:List Expr}{t:TG}{u:TGs}(h1:PG X e t)(h2:PGs X es u)
  (hs:(assignEach (e::es) X.env).map (·.2)=assign e X.env::(assignEach es X.env).map (·.2):=by rfl):PGs X (e::es) (wb t u):=by
 intro pins s σ H vs us Q I r h
 obtain ⟨v,vr,e1,h⟩:=h
 subst e1
 cases r with
 | cons r rr =>
  rw [hs]
  refine assignInOrder_cons (thn (h1 pins s σ H _ _ _ I r h) fun _ s1 ⟨σ1,H1,I1,q1⟩=>?_)
  exact h2 pins s1 σ1 H1 _ _ Q I1 rr q1
inductive Zb2(K:PySem.W.Frag)(n:Nat)(t:TGs)(v:V)(σ:St)(H:Hp)(Q:St->Hp->Prop):Prop
 | mk (a xs):(v=.ref a)->(SqT K H a xs)->(xs.length=n)->(t xs σ H Q)->Zb2 K n t v σ H Q
noncomputable def gTup(K:PySem.W.Frag)(n:Nat)(t:TGs):TG:=fun v σ H Q=>Zb2 K n t v σ H Q
theorem pg_tup{es:List Expr}{k:Nat}{t:TGs}{n:Nat}(hc:X.calm=true)(h:PGs X es t)
  (hn:(assignEach es X.env).length=n:=by rfl) (hst:(assignEach es X.env).findIdx? (·.1)=none:=by rfl):PG X (.Tuple es k pos) (gTup X.K n t):=by
 intro pins s σ H v u Q I r hw
 obtain ⟨a,xs,e1,hq,hl,hw⟩:=hw
 subst e1
 cases r
 obtain ⟨its,rv,ht,hz⟩:=I.tuple hq
 refine assign_Tuple_tuple (I.ok.hd hc) ht (by simp [hn,<-hl,rv.length]) hst fun h' hx=>?_
 have I1:Inv X pins σ H { s with heap:=h' }:=I.kept (t':=s.toks) fun b o e=>hx b o (Qbv (Heap.lt_size e)) e
 exact h pins _ σ H xs _ Q I1 (by simpa using rv) hw
noncomputable def tAsg(te:TE)(g:TG):TS:=fun D σ H=>te σ H fun x H1=>g x σ H1 D.nx
theorem ps_set{i:Nat}{x:Str}{e:Expr}{te:TE}{pos':Pos}(hN:X.N.Nodup)(hi:X.N[i]?=some x)(hx:Loc X.env.scope x)(he:PE X e te)(hs:swapsWith e (some (.Name x pos')) pos.line X.env=pure false:=by rfl)(hf:X.fn x=true\/X.env.scope.names.lookup x=some .local:=by first | exact .inl rfl | exact .inr rfl | assumption) :
  PS X (.Assign [.Name x pos'] e pos) (tAsg te (zw i)):=by
 intro pins s σ H D I h
 refine wpAny_Assign_Name (thn (he pins s σ H _ I h) fun v s1 ⟨y,H1,I1,r1,q1⟩=>?_) hs
 exact JB I1 hN hi hx r1 (fun s2 I2=>⟨_,H1,I2,q1⟩) hf
end
section
variable {X:Cx}{pos:Pos}
noncomputable def we(c:TT)(tb:TS):TS:=fun D σ H=>∃W:Nat->St->Hp->Prop,(∃m,W m σ H)/\∀m σ H,W m σ H ->
 c σ H fun b H1=>if b=true then ∃N:St->Hp->Prop,(∀σ' H',N σ' H'->∃m',m' < m/\W m' σ' H')/\tb { D with nx:=N,ct:=N,bk:=D.nx } σ H1 else D.nx σ H1
theorem Zab{c:Expr}{body:List Stmt}{tc:TT}{tb:TS}(hp:PassesOwn (model X.prog X.w) X.A X.env X.xe)(hc:PT X c tc)(hb:PSs X body tb):PS X (.While c body [] pos) (we tc tb):=by
 intro pins s σ H D I h
 obtain ⟨W,⟨m0,w0⟩,turn⟩:=h
 refine wpAny_While (codeAny_whileLoop (fun n s'=>∃σ' H',Inv X pins σ' H' s'/\W n σ' H') ?_ m0 ⟨σ,H,I,w0⟩)
 rintro n s1 ⟨σ1,H1,I1,w1⟩
 refine wpAny_passesOwn hp (thn (hc pins s1 σ1 H1 _ I1 (turn n σ1 H1 w1)) fun b s2 ⟨H2,I2,q2⟩=>?_)
 cases b with
 | true =>
  obtain ⟨N,hN,q2⟩:=q2
  rw [Qau rfl]
  refine wpAny_passesOwn hp (thn (hb pins s2 σ1 H2 _ I2 q2) fun f s3 q3=>?_)
  cases f with
  | next =>
   obtain ⟨σ3,H3,I3,n3⟩:=q3
   obtain ⟨m',hm,w3⟩:=hN σ3 H3 n3
   exact ⟨m',hm,σ3,H3,I3,w3⟩
  | cont =>
   obtain ⟨σ3,H3,I3,n3⟩:=q3
   obtain ⟨m',hm,w3⟩:=hN σ3 H3 n3
   exact ⟨m',hm,σ3,H3,I3,w3⟩
  | brk=>exact q3
  | ret v=>exact q3
 | false =>
  rw [Qan Qax]
  exact wpAny_execs_nil ⟨σ1,H2,I2,q2⟩
end
structure It where
 go:Nat->Hp->Prop
 yld:Nat->Hp->V->Hp->Prop
 stop:Nat->Hp->Prop
noncomputable def yU(X:Cx)(pins:List (Addr × Obj))(H:Hp)(b:Addr):Prop :=
 H b=none/\b≠X.env.locals/\b∉X.fs/\(b∈X.ex\/X.s₀.heap.objs.size<=b)/\(∀x c,X.env.cells.lookup x=some c->c≠b)/\∀p∈X.pn++pins,p.1≠b
theorem Inv.fpOk{X:Cx}{pins:List (Addr × Obj)}{σ:St}{H H':Hp}{s:Shared}{b:Addr}(I:Inv X pins σ H s)(hb:s.heap.objs.size<=b)(hn:H' b=none):yU X pins H' b:=by
 refine ⟨hn,Qc1 (Qbf I.lt hb),I.nofs hb,.inr (Qba I.sz hb),fun x c e z=>?_,fun p hp z=>?_⟩
 ·obtain ⟨v,q⟩:=I.cell x c e
  exact absurd (Qbf q.lt (by rw [z];exact hb)) (Qb3 _)
 ·exact absurd (Qbf (Heap.lt_size (I.pin p hp).1) (by rw [z];exact hb)) (Qb3 _)
structure Turn(P:Program)(w:World)(K:PySem.W.Frag)(tg:Expr)(J:It)(fp:List Addr)(it:Addr)(tn:Nat->Heap->Prop):Prop where
 mem:it∈fp
 obj:∀i h,tn i h->∀b∈fp,∃o,h.get? b=some o/\∀v,o.data≠.cell v
 keep:∀i h h',tn i h->(∀b∈fp,∀o,h.get? b=some o->h'.get? b=some o)->tn i h'
 item:∀(X:Cx),X.prog=P->X.w=w->X.K=K->X.calm=true->∀(i:Nat) (pins:List (Addr × Obj)) (s:Shared) (σ:St) (H:Hp) (E:Value->Shared->Prop),Inv X pins σ H s->(∀b∈fp,yU X pins H b)->tn i s.heap->J.go i H ->
  wpAny (model P w) X.A (pyNext (.ref it)) (fun r s1=>∃u,r=some u /\
   wpAny (model P w) X.A (letOwnedTupleGo tg (.ref it) u) (fun _ s2=>∃x H',Inv X pins σ H' s2/\RelV x u/\J.yld i H x H'/\tn (i + 1) s2.heap/\∀b∈fp,H' b=none) E s1) E s
 done:∀(X:Cx),X.prog=P->X.w=w->X.K=K->X.calm=true->∀(i:Nat) (pins:List (Addr × Obj)) (s:Shared) (σ:St) (H:Hp) (E:Value->Shared->Prop),Inv X pins σ H s->(∀b∈fp,yU X pins H b)->tn i s.heap->J.stop i H ->
  wpAny (model P w) X.A (pyNext (.ref it)) (fun r s1=>r=none/\Inv X pins σ H s1) E s
 self:∀(A:Around) (i:Nat) (s:Shared) (Q:Value->Shared->Prop) (E:Value->Shared->Prop),tn i s.heap->Q (.ref it) s->wpAny (model P w) A (pyIter (.ref it)) Q E s
noncomputable abbrev TI:=St->Hp->(It->Hp->Prop)->Prop
noncomputable def PIE(X:Cx)(pins:List (Addr × Obj))(σ:St)(tg:Expr)(R:It->Hp->Prop)(itv:Value)(s2:Shared):Prop :=
 ∃(it:Addr) (fp:List Addr) (tn:Nat->Heap->Prop) (J:It) (H':Hp),itv=.ref it/\Inv X pins σ H' s2/\Turn X.prog X.w X.K tg J fp it tn/\tn 0 s2.heap/\(∀b∈fp,yU X pins H' b)/\R J H'
noncomputable def PI(X:Cx)(tg iter:Expr)(wi:TI):Prop :=
 ∀(pins:List (Addr × Obj)) (s:Shared) (σ:St) (H:Hp) (R:It->Hp->Prop),Inv X pins σ H s->wi σ H R ->
  wpAny (model X.prog X.w) X.A (eval iter X.env) (fun v s1=>wpAny (model X.prog X.w) X.A (pyIter v) (PIE X pins σ tg R) X.xe s1) X.xe s
theorem Zac{M:Model}{A:Around}{E:Value->Shared->Prop}{s:Shared}{tg:Expr}{it:Addr}{u:Value}{o:Obj}{n:String}{vs:Array Value}{Q:Unit->Shared->Prop}(ho:s.heap.get? it=some o)(hc:o.cls=.type n)(hd:o.data=.fields vs)
    (hn:["enumerate","zip","dict_itemiterator","dict_reverseitemiterator","odict_iterator","itertools.zip_longest","itertools.pairwise"].contains n=false) (hQ:Q () s):wpAny M A (letOwnedTupleGo tg (.ref it) u) Q E s:=by
  unfold letOwnedTupleGo
  cases tg <;> first
    | exact wpAny_pure hQ
    | (cases u <;> first
        | exact wpAny_pure hQ
        | (refine wpAny_bind (wpAny_load ho ?_)
           rw [hc,hd]
           show wpAny M A (if (["enumerate","zip","dict_itemiterator","dict_reverseitemiterator","odict_iterator","itertools.zip_longest","itertools.pairwise"].contains n && vs[0]? == some (rawInt _))=true then _ else _) Q E s
           rw [Qan (by intro h;rw [hn,Bool.false_and] at h;cases h)]
           exact wpAny_pure hQ))
noncomputable def Itl(K:PySem.W.Frag)(a:Addr):It :=
 ⟨fun i H=>∃xs x,SqL K H a xs/\xs[i]?=some x,fun i H x H'=>H'=H/\∀xs,SqL K H a xs->xs[i]?=some x,fun i H=>∃xs,SqL K H a xs/\xs.length<=i⟩
noncomputable def Itt(K:PySem.W.Frag)(a:Addr):It :=
 ⟨fun i H=>∃xs x,SqT K H a xs/\xs[i]?=some x,fun i H x H'=>H'=H/\∀xs,SqT K H a xs->xs[i]?=some x,fun i H=>∃xs,SqT K H a xs/\xs.length<=i⟩
noncomputable def Itr(lo:Int)(n:Nat):It:=⟨fun i _=>i < n,fun i H x H'=>H'=H/\x=.int (lo + i),fun i _=>n<=i⟩
theorem wg{P:Program}{w:World}{K:PySem.W.Frag}{tg:Expr}(a it:Addr):Turn P w K tg (Itl K a) [it] it (fun i h=>h.IsListIter it a i) where
 mem:=by simp
 obj:=fun i h st b hb=>by
  have e:b=it:=by simpa using hb
  subst e
  obtain ⟨o,e,c,d⟩:=st
  exact ⟨o,e,fun v z=>by rw [d] at z;cases z⟩
 keep:=fun i h h' st k=>st.at fun o e=>k it (by simp) o e
 item:=by
  intro X hP hw hK hc i pins s σ H E I hf st hg
  subst hP hw hK
  obtain ⟨xs,x,hq,hx⟩:=hg
  obtain ⟨its,rv,p,hz⟩:=I.list hq
  obtain ⟨u,hu,ru⟩:=rv.get hx
  obtain ⟨f0,f1,f2,f3,f4,f5⟩:=hf it (by simp)
  refine wpAny_pyNext_list_item st p.isList (x:=u) (by simpa using hu) fun h' st' sb=>?_
  have I1:Inv X pins σ H { s with heap:=h' }:=I.turned (t':=s.toks) (fun b o hb e=>(sb.2 b hb).trans e) f0 f1 f3 f4 f5
  obtain ⟨o,e,c,d⟩:=id st'
  exact ⟨u,rfl,Zac (s:={ s with heap:=h' }) e c d (by decide) ⟨x,H,I1,ru,⟨rfl,fun ys hy=>by rw [I.list_inj hy hq];exact hx⟩,st',fun b hb=>(hf b hb).1⟩⟩
 done:=by
  intro X hP hw hK hc i pins s σ H E I hf st hg
  subst hP hw hK
  obtain ⟨xs,hq,hx⟩:=hg
  obtain ⟨its,rv,p,hz⟩:=I.list hq
  obtain ⟨f0,f1,f2,f3,f4,f5⟩:=hf it (by simp)
  have hl:=rv.length
  exact wpAny_pyNext_list_end (I.ok.hd hc) st p.isList (by simp;lia) fun h' eb=>⟨rfl,I.turned (t':=s.toks) (fun b o hb e=>eb b o hb e) f0 f1 f3 f4 f5⟩
 self:=fun _ _ _ _ _ st h=>wpAny_pyIter_listiter st h
theorem vP{P:Program}{w:World}{K:PySem.W.Frag}{tg:Expr}(a it:Addr):Turn P w K tg (Itt K a) [it] it (fun i h=>h.IsTupleIter it a i) where
 mem:=by simp
 obj:=fun i h st b hb=>by
  have e:b=it:=by simpa using hb
  subst e
  obtain ⟨o,e,c,d⟩:=st
  exact ⟨o,e,fun v z=>by rw [d] at z;cases z⟩
 keep:=fun i h h' st k=>st.at fun o e=>k it (by simp) o e
 item:=by
  intro X hP hw hK hc i pins s σ H E I hf st hg
  subst hP hw hK
  obtain ⟨xs,x,hq,hx⟩:=hg
  obtain ⟨its,rv,p,hz⟩:=I.tuple hq
  obtain ⟨u,hu,ru⟩:=rv.get hx
  obtain ⟨f0,f1,f2,f3,f4,f5⟩:=hf it (by simp)
  refine wpAny_pyNext_tuple_item st (show s.heap.IsTuple a its.toArray from p) (x:=u) (by simpa using hu) fun h' st' sb=>?_
  have I1:Inv X pins σ H { s with heap:=h' }:=I.turned (t':=s.toks) (fun b o hb e=>(sb.2 b hb).trans e) f0 f1 f3 f4 f5
  obtain ⟨o,e,c,d⟩:=id st'
  exact ⟨u,rfl,Zac (s:={ s with heap:=h' }) e c d (by decide) ⟨x,H,I1,ru,⟨rfl,fun ys hy=>by rw [I.tuple_inj hy hq];exact hx⟩,st',fun b hb=>(hf b hb).1⟩⟩
 done:=by
  intro X hP hw hK hc i pins s σ H E I hf st hg
  subst hP hw hK
  obtain ⟨xs,hq,hx⟩:=hg
  obtain ⟨its,rv,p,hz⟩:=I.tuple hq
  obtain ⟨f0,f1,f2,f3,f4,f5⟩:=hf it (by simp)
  have hl:=rv.length
  exact wpAny_pyNext_tuple_end (I.ok.hd hc) st (show s.heap.IsTuple a its.toArray from p) (by simp;lia) fun h' eb=>⟨rfl,I.turned (t':=s.toks) (fun b o hb e=>eb b o hb e) f0 f1 f3 f4 f5⟩
 self:=fun _ _ _ _ _ st h=>wpAny_pyIter_tupleiter st h
theorem vQ{P:Program}{w:World}{K:PySem.W.Frag}{tg:Expr}(it:Addr)(lo:Int)(n:Nat):Turn P w K tg (Itr lo n) [it] it (fun i h=>IsRangeIter h it (lo + (i:Nat) * 1) ((n:Int) - (i:Nat)) 1) where
 mem:=by simp
 obj:=fun i h st b hb=>by
  have e:b=it:=by simpa using hb
  subst e
  exact ⟨_,st,fun v z=>by
   have z':Data.fields _=Data.cell v:=z
   cases z'⟩
 keep:=fun i h h' st k=>k it (by simp) _ st
 item:=by
  intro X hP hw hK hc i pins s σ H E I hf st hg
  subst hP hw hK
  obtain ⟨f0,f1,f2,f3,f4,f5⟩:=hf it (by simp)
  have W:=Walks.range (prog:=X.prog) (w:=X.w) (I.ok.hd hc) it lo 1 n
  refine W.item i s _ _ hg st fun v h' tk hv st' kk=>?_
  obtain ⟨t,rfl⟩:=hv
  have I1:Inv X pins σ H { s with heap:=h',toks:=tk }:=I.turned (fun b o hb e=>kk b o (by simpa using hb) e) f0 f1 f3 f4 f5
  refine ⟨_,rfl,Zac (s:={ s with heap:=h',toks:=tk }) (n := "range_iterator") st' rfl rfl (by decide) ⟨.int (lo + i),H,I1,⟨t,?_⟩,⟨rfl,rfl⟩,st',fun b hb=>(hf b hb).1⟩⟩
  rw [Int.mul_one]
 done:=by
  intro X hP hw hK hc i pins s σ H E I hf st hg
  subst hP hw hK
  obtain ⟨f0,f1,f2,f3,f4,f5⟩:=hf it (by simp)
  exact wpAny_pyNext_range_end (I.ok.hd hc) st (by have:n<=i:=hg;lia) fun h' eb=>⟨rfl,I.turned (t':=s.toks) (fun b o hb e=>eb b o hb e) f0 f1 f3 f4 f5⟩
 self:=fun _ _ _ _ _ st h=>wpAny_pyIter_rangeiter st h
section
variable {X:Cx}{tg:Expr}
inductive wj(K:PySem.W.Frag)(R:It->Hp->Prop)(x:V)(H1:Hp):Prop
 | mk (a):(x=.ref a)->((∃xs,SqL K H1 a xs))->(R (Itl K a) H1)->wj K R x H1
noncomputable def wk(K:PySem.W.Frag)(tl:TE):TI:=fun σ H R=>tl σ H fun x H1=>wj K R x H1
inductive Zb3(K:PySem.W.Frag)(R:It->Hp->Prop)(x:V)(H1:Hp):Prop
 | mk (a):(x=.ref a)->((∃xs,SqT K H1 a xs))->(R (Itt K a) H1)->Zb3 K R x H1
noncomputable def iTup(K:PySem.W.Frag)(tl:TE):TI:=fun σ H R=>tl σ H fun x H1=>Zb3 K R x H1
theorem Zds{l:Expr}{tl:TE}(hl:PE X l tl):PI X tg l (wk X.K tl):=by
 intro pins s σ H R I h
 refine thn (hl pins s σ H _ I h) fun v s1 ⟨x,H1,I1,r1,q1⟩=>?_
 obtain ⟨a,e,⟨xs,hq⟩,q⟩:=q1
 subst e
 cases r1
 obtain ⟨its,rv,p,hz⟩:=I1.list hq
 refine wpAny_pyIter_list p.isList ?_
 refine ⟨s1.heap.objs.size,[s1.heap.objs.size],_,_,H1,rfl,I1.kept (t':=s1.toks) fun b o e=>Heap.get?_push_of_some _ e,wg a _,⟨_,Heap.get?_push_size _ rfl,rfl,rfl⟩,fun b hb=>?_,q⟩
 have e:b=s1.heap.objs.size:=by simpa using hb
 subst e
 exact I1.fpOk (Qaj _) (I1.hok.fresh (Qaj _))
theorem pi_tup{l:Expr}{tl:TE}(hl:PE X l tl):PI X tg l (iTup X.K tl):=by
 intro pins s σ H R I h
 refine thn (hl pins s σ H _ I h) fun v s1 ⟨x,H1,I1,r1,q1⟩=>?_
 obtain ⟨a,e,⟨xs,hq⟩,q⟩:=q1
 subst e
 cases r1
 obtain ⟨its,rv,p,hz⟩:=I1.tuple hq
 refine wpAny_pyIter_tuple (show s1.heap.IsTuple a its.toArray from p) ?_
 refine ⟨s1.heap.objs.size,[s1.heap.objs.size],_,_,H1,rfl,I1.kept (t':=s1.toks) fun b o e=>Heap.get?_push_of_some _ e,vP a _,⟨_,Heap.get?_push_size _ rfl,rfl,rfl⟩,fun b hb=>?_,q⟩
 have e:b=s1.heap.objs.size:=by simpa using hb
 subst e
 exact I1.fpOk (Qaj _) (I1.hok.fresh (Qaj _))
theorem yV{pins:List (Addr × Obj)}{σ:St}{H:Hp}{s:Shared}{R:It->Hp->Prop}{E:Value->Shared->Prop}{lo hi:Int}{t u v:Tok}{tk:Nat}(I:Inv X pins σ H s)(h1:-(2 ^ 62)<=lo)(h2:lo < 2 ^ 62)(h3:-(2 ^ 62)<=hi)(h4:hi < 2 ^ 62)
  (q:R (Itr lo (hi - lo).toNat) H):wpAny (model X.prog X.w) X.A (pyIter (.ref s.heap.objs.size)) (PIE X pins σ tg R) E { s with heap:=s.heap.push { cls:=.type "range",data:=.fields #[.int lo t,.int hi u,.int 1 v] },toks:=tk }:=by
 refine wpAny_pyIter_range (IsRange.new ..) (small_one h1 h2 h3 h4) ?_
 have I1:Inv X pins σ H { s with heap:=s.heap.push { cls:=.type "range",data:=.fields #[.int lo t,.int hi u,.int 1 v] },toks:=tk }:=I.kept fun b o e=>Heap.get?_push_of_some _ e
 refine ⟨(s.heap.push { cls:=.type "range",data:=.fields #[.int lo t,.int hi u,.int 1 v] }).objs.size,[(s.heap.push { cls:=.type "range",data:=.fields #[.int lo t,.int hi u,.int 1 v] }).objs.size],_,_,H,rfl,
  I1.kept (t':=tk) fun b o e=>Heap.get?_push_of_some _ e,vQ _ lo (hi - lo).toNat,?_,fun b hb=>?_,q⟩
 ·have e1:lo + ((0:Nat):Int) * 1=lo:=by simp
  have e2:(((hi - lo).toNat:Nat):Int) - ((0:Nat):Int)=Builtin.Range.rangeSize lo hi 1:=by rw [rangeSize_one];split <;> lia
  show IsRangeIter _ _ (lo + ((0:Nat):Int) * 1) ((((hi - lo).toNat:Nat):Int) - ((0:Nat):Int)) 1
  rw [e1,e2]
  exact Heap.get?_push_size _ rfl
 ·have e:b=(s.heap.push { cls:=.type "range",data:=.fields #[.int lo t,.int hi u,.int 1 v] }).objs.size:=by simpa using hb
  subst e
  exact I1.fpOk (Qaj _) (I1.hok.fresh (Qaj _))
inductive wm(R:It->Hp->Prop)(vs:List V)(H1:Hp):Prop
 | mk (j:Int):(vs=[.int j])->(-(2 ^ 62)<=j)->(j < 2 ^ 62)->(R (Itr 0 j.toNat) H1)->wm R vs H1
noncomputable def Zdt(ta:TA):TI:=fun σ H R=>ta σ H fun vs H1=>wm R vs H1
inductive wo(R:It->Hp->Prop)(vs:List V)(H1:Hp):Prop
 | mk (i j:Int):(vs=[.int i,.int j])->((-(2 ^ 62)<=i/\i < 2 ^ 62/\-(2 ^ 62)<=j/\j < 2 ^ 62))->(R (Itr i (j - i).toNat) H1)->wo R vs H1
noncomputable def Zf9(ta:TA):TI:=fun σ H R=>ta σ H fun vs H1=>wo R vs H1
theorem wq {a:Expr} {ta:TA} {p pos:Pos} (hg:Gl X "range") (hm:X.mg "range" = none) (ha:PA X [a] ta) (hs:starEach [a] X.env=[(false,eval a X.env)]:=by rfl):PI X tg (.Call (.Name "range" p) [a] [] pos) (Zdt ta):=by
 intro pins s σ H R I h
 refine Call_ (GC I hg hm boot_range (Qch (thn (ha pos pins s σ H _ I h) fun us s1 ⟨vs,H1,I1,r1,q1⟩=>?_) hs rfl))
 obtain ⟨j,e,q1,q2,q⟩:=q1
 subst e
 cases r1 with
 | cons r rr =>
  cases rr
  obtain ⟨t,rfl⟩:=r
  exact call_range_1 (yV I1 (by lia) (by lia) q1 q2 (by simpa using q))
theorem wt {a b:Expr} {ta:TA} {p pos:Pos} (hg:Gl X "range") (hm:X.mg "range" = none) (ha:PA X [a,b] ta) (hs:starEach [a,b] X.env=[(false,eval a X.env),(false,eval b X.env)]:=by rfl) (hs2:starEach [b] X.env=[(false,eval b X.env)]:=by rfl) :
  PI X tg (.Call (.Name "range" p) [a,b] [] pos) (Zf9 ta):=by
 intro pins s σ H R I h
 refine Call_ (GC I hg hm boot_range (Qch (thn (ha pos pins s σ H _ I h) fun us s1 ⟨vs,H1,I1,r1,q1⟩=>?_) (by rw [hs,hs2]) (by rw [hs2];rfl)))
 obtain ⟨i,j,e,⟨q1,q2,q3,q4⟩,q⟩:=q1
 subst e
 cases r1 with
 | cons r rr =>
  cases rr with
  | cons r' rr =>
   cases rr
   obtain ⟨t,rfl⟩:=r
   obtain ⟨t',rfl⟩:=r'
   exact call_range_2 (yV I1 q1 q2 q3 q4 q)
noncomputable def tFor(wi:TI)(g:TG)(tb:TS):TS:=fun D σ H=>wi σ H fun J H1=>∃W:Nat->Nat->St->Hp->Prop,(∃m,W 0 m σ H1)/\∀i m σ H,W i m σ H ->
 (J.stop i H/\D.nx σ H)\/(J.go i H/\∃N:St->Hp->Prop,(∀σ' H',N σ' H'->∃m',m' < m/\W (i + 1) m' σ' H')/\∀x H',J.yld i H x H'->g x σ H' fun σ2 H2=>tb { D with nx:=N,ct:=N,bk:=D.nx } σ2 H2)
noncomputable def jc(fp:List Addr)(h:Heap):List (Addr × Obj):=fp.filterMap fun b=>(h.get? b).map fun o=>(b,o)
theorem Jb{fp:List Addr}{h:Heap}{b:Addr}{o:Obj}(hb:b∈fp)(e:h.get? b=some o):(b,o)∈jc fp h:=Qei.mpr ⟨b,hb,by rw [e];rfl⟩
theorem wu{fp:List Addr}{h:Heap}{p:Addr × Obj}(hp:p∈jc fp h):p.1∈fp/\h.get? p.1=some p.2:=by
 obtain ⟨b,hb,e⟩:=Qei.mp hp
 cases q:h.get? b with
 | none=>rw [q] at e;cases e
 | some o =>
  rw [q] at e
  have e':(b,o)=p:=Option.some.inj e
  subst e'
  exact ⟨hb,q⟩
theorem Inv.pinned{pins:List (Addr × Obj)}{σ:St}{H:Hp}{s:Shared}{fp:List Addr}(I:Inv X pins σ H s)(hf:∀b∈fp,yU X pins H b)(ho:∀b∈fp,∃o,s.heap.get? b=some o/\∀v,o.data≠.cell v):Inv X (pins++jc fp s.heap) σ H s :=
 I.pins_of fun p hp=>(Qa6.mp hp).elim (fun z=>I.pin p (Qa7 _ z)) fun z=>by
  obtain ⟨hb,e⟩:=wu z
  obtain ⟨f0,f1,f2,_⟩:=hf p.1 hb
  obtain ⟨o,e',d⟩:=ho p.1 hb
  rw [e] at e';cases e'
  exact ⟨e,f0,f1,f2,d⟩
theorem Inv.unpinned{pins pl:List (Addr × Obj)}{σ:St}{H:Hp}{s:Shared}(I:Inv X (pins++pl) σ H s):Inv X pins σ H s:=I.pins_of fun p hp=>I.pin p (Qa7 _ (Qcu _ hp))
theorem ps_for{iter:Expr}{body:List Stmt}{wi:TI}{g:TG}{tb:TS}{pos:Pos}(hp:PassesOwn (model X.prog X.w) X.A X.env X.xe)(hc:X.calm=true)(hi:PI X tg iter wi)(hg:PG X tg g)(hb:PSs X body tb)
  (hs:∀x,foldedSetIterable iter X.env x=pure x:=by intro _;rfl):PS X (.For tg iter body [] pos) (tFor wi g tb):=by
 intro pins s σ H D I h
 refine wpAny_For (thn (hi pins s σ H _ I h) fun v s1 h1=>thn h1 fun itv s2 h2=>?_) hs
 obtain ⟨it,fp,tn,J,H2,e,I2,T,st2,f2,W,⟨m0,w0⟩,turn⟩:=h2
 subst e
 have stat:∀{H':Hp},(∀b∈fp,H' b=none)->∀b∈fp,yU X pins H' b:=fun hn b hb=>⟨hn b hb,(f2 b hb).2⟩
 refine codeAny_forLoop_any (fun n s'=>∃i σ' H',Inv X pins σ' H' s'/\tn i s'.heap/\(∀b∈fp,H' b=none)/\W i n σ' H') ?_ m0 ⟨0,σ,H2,I2,st2,fun b hb=>(f2 b hb).1,w0⟩
 rintro n s3 ⟨i,σ3,H3,I3,st3,fr3,w3⟩
 rcases turn i n σ3 H3 w3 with ⟨stop,qn⟩ | ⟨go,N,hN,step⟩
 ·refine wpAny_passesOwn hp (thn (T.done X rfl rfl rfl hc i pins s3 σ3 H3 X.xe I3 (stat fr3) st3 stop) fun r s4 ⟨hr,I4⟩=>?_)
  subst hr
  exact wpAny_execs_nil ⟨σ3,H3,I4,qn⟩
 ·refine wpAny_passesOwn hp (thn (T.item X rfl rfl rfl hc i pins s3 σ3 H3 X.xe I3 (stat fr3) st3 go) fun r s4 ⟨u,hr,h4⟩=>?_)
  subst hr
  refine wpAny_passesOwn hp (thn h4 fun _ s5 ⟨x,H5,I5,r5,y5,st5,fr5⟩=>?_)
  have I5':=I5.pinned (stat fr5) (T.obj _ _ st5)
  refine wpAny_passesOwn hp (thn (hg _ s5 σ3 H5 x u _ I5' r5 (step x H5 y5)) fun _ s6 ⟨σ6,H6,I6,q6⟩=>?_)
  refine wpAny_passesOwn hp (thn (hb _ s6 σ6 H6 _ I6 q6) fun f s7 q7=>?_)
  have again:∀{σ7:St} {H7:Hp},Inv X (pins++jc fp s5.heap) σ7 H7 s7->N σ7 H7->∃m,m < n/\∃i σ' H',Inv X pins σ' H' s7/\tn i s7.heap/\(∀b∈fp,H' b=none)/\W i m σ' H':=fun {σ7 H7} I7 n7=>by
   obtain ⟨m',hm,w7⟩:=hN σ7 H7 n7
   refine ⟨m',hm,i + 1,σ7,H7,I7.unpinned,T.keep _ _ _ st5 fun b hb o e=>(I7.pin (b,o) (Qa7 _ (Qa7 _ (Jb hb e)))).1,fun b hb=>?_,w7⟩
   obtain ⟨o,e,d⟩:=T.obj _ _ st5 b hb
   exact (I7.pin (b,o) (Qa7 _ (Qa7 _ (Jb hb e)))).2.1
  cases f with
  | next=>obtain ⟨σ7,H7,I7,n7⟩:=q7;exact again I7 n7
  | cont=>obtain ⟨σ7,H7,I7,n7⟩:=q7;exact again I7 n7
  | brk=>obtain ⟨σ7,H7,I7,q7⟩:=q7;exact ⟨σ7,H7,I7.unpinned,q7⟩
  | ret v=>obtain ⟨x7,σ7,H7,I7,r7,q7⟩:=q7;exact ⟨x7,σ7,H7,I7.unpinned,r7,q7⟩
end
theorem zx{K:PySem.W.Frag}{a:Addr}{xs:List V}{g:TG}{tb:TS}{D:Ends}{σ:St}{H:Hp}(Pv:Nat->St->Hp->Prop)(h0:Pv 0 σ H)(hl:∀i σ H,i<=xs.length->Pv i σ H->SqL K H a xs)
  (hs:∀i x σ H,xs[i]?=some x->Pv i σ H->g x σ H fun σ2 H2=>tb { D with nx:=Pv (i + 1),ct:=Pv (i + 1),bk:=D.nx } σ2 H2) (hd:∀σ H,Pv xs.length σ H->D.nx σ H) :
  ∃W:Nat->Nat->St->Hp->Prop,(∃m,W 0 m σ H)/\∀i m σ H,W i m σ H ->
   ((Itl K a).stop i H/\D.nx σ H)\/((Itl K a).go i H/\∃N:St->Hp->Prop,(∀σ' H',N σ' H'->∃m',m' < m/\W (i + 1) m' σ' H')/\∀x H',(Itl K a).yld i H x H'->g x σ H' fun σ2 H2=>tb { D with nx:=N,ct:=N,bk:=D.nx } σ2 H2):=by
 refine ⟨fun i m σ H=>m=xs.length - i/\i<=xs.length/\Pv i σ H,⟨xs.length,by simp,Qbg _,h0⟩,?_⟩
 rintro i m σ H ⟨rfl,hi,p⟩
 have q:=hl i σ H hi p
 by_cases hlt:i < xs.length
 ·refine .inr ⟨⟨xs,xs[i],q,by simp [hlt]⟩,Pv (i + 1),fun σ' H' p'=>⟨xs.length - (i + 1),by lia,rfl,hlt,p'⟩,fun x H' y=>?_⟩
  obtain ⟨e,y⟩:=y
  subst e
  exact hs i x σ _ (y xs q) p
 ·have e:i=xs.length:=by lia
  subst e
  exact .inl ⟨⟨xs,q,Qaj _⟩,hd σ H p⟩
theorem zy{K:PySem.W.Frag}{a:Addr}{xs:List V}{g:TG}{tb:TS}{D:Ends}{σ:St}{H:Hp}(Pv:Nat->St->Hp->Prop)(h0:Pv 0 σ H)(hl:∀i σ H,i<=xs.length->Pv i σ H->SqT K H a xs)
  (hs:∀i x σ H,xs[i]?=some x->Pv i σ H->g x σ H fun σ2 H2=>tb { D with nx:=Pv (i + 1),ct:=Pv (i + 1),bk:=D.nx } σ2 H2) (hd:∀σ H,Pv xs.length σ H->D.nx σ H) :
  ∃W:Nat->Nat->St->Hp->Prop,(∃m,W 0 m σ H)/\∀i m σ H,W i m σ H ->
   ((Itt K a).stop i H/\D.nx σ H)\/((Itt K a).go i H/\∃N:St->Hp->Prop,(∀σ' H',N σ' H'->∃m',m' < m/\W (i + 1) m' σ' H')/\∀x H',(Itt K a).yld i H x H'->g x σ H' fun σ2 H2=>tb { D with nx:=N,ct:=N,bk:=D.nx } σ2 H2):=by
 refine ⟨fun i m σ H=>m=xs.length - i/\i<=xs.length/\Pv i σ H,⟨xs.length,by simp,Qbg _,h0⟩,?_⟩
 rintro i m σ H ⟨rfl,hi,p⟩
 have q:=hl i σ H hi p
 by_cases hlt:i < xs.length
 ·refine .inr ⟨⟨xs,xs[i],q,by simp [hlt]⟩,Pv (i + 1),fun σ' H' p'=>⟨xs.length - (i + 1),by lia,rfl,hlt,p'⟩,fun x H' y=>?_⟩
  obtain ⟨e,y⟩:=y
  subst e
  exact hs i x σ _ (y xs q) p
 ·have e:i=xs.length:=by lia
  subst e
  exact .inl ⟨⟨xs,q,Qaj _⟩,hd σ H p⟩
theorem YM{lo:Int}{n:Nat}{g:TG}{tb:TS}{D:Ends}{σ:St}{H:Hp}(Pv:Nat->St->Hp->Prop)(h0:Pv 0 σ H)
  (hs:∀i σ H,i < n->Pv i σ H->g (.int (lo + i)) σ H fun σ2 H2=>tb { D with nx:=Pv (i + 1),ct:=Pv (i + 1),bk:=D.nx } σ2 H2) (hd:∀σ H,Pv n σ H->D.nx σ H) :
  ∃W:Nat->Nat->St->Hp->Prop,(∃m,W 0 m σ H)/\∀i m σ H,W i m σ H ->
   ((Itr lo n).stop i H/\D.nx σ H)\/((Itr lo n).go i H/\∃N:St->Hp->Prop,(∀σ' H',N σ' H'->∃m',m' < m/\W (i + 1) m' σ' H')/\∀x H',(Itr lo n).yld i H x H'->g x σ H' fun σ2 H2=>tb { D with nx:=N,ct:=N,bk:=D.nx } σ2 H2):=by
 refine ⟨fun i m σ H=>m=n - i/\i<=n/\Pv i σ H,⟨n,by simp,Qbg _,h0⟩,?_⟩
 rintro i m σ H ⟨rfl,hi,p⟩
 by_cases hlt:i < n
 ·refine .inr ⟨hlt,Pv (i + 1),fun σ' H' p'=>⟨n - (i + 1),by lia,rfl,hlt,p'⟩,fun x H' y=>?_⟩
  obtain ⟨e,y⟩:=y
  subst e y
  exact hs i σ _ hlt p
 ·have e:i=n:=by lia
  subst e
  exact .inl ⟨Qaj _,hd σ H p⟩
noncomputable abbrev R2:=V->V->Hp->VK->Prop
noncomputable def OpR(X:Cx)(f:Value->Value->Sem Value)(r:R2):Prop :=
 ∀(pins:List (Addr × Obj)) (s:Shared) (σ:St) (H:Hp) (x y:V) (v u:Value) (Q:VK),Inv X pins σ H s->RelV x v->RelV y u->r x y H Q ->
  wpAny (model X.prog X.w) X.A (f v u) (EP X pins σ Q) X.xe s
noncomputable def UnR(X:Cx)(f:Value->Sem Value)(r:V->Hp->VK->Prop):Prop :=
 ∀(pins:List (Addr × Obj)) (s:Shared) (σ:St) (H:Hp) (x:V) (v:Value) (Q:VK),Inv X pins σ H s->RelV x v->r x H Q ->
  wpAny (model X.prog X.w) X.A (f v) (EP X pins σ Q) X.xe s
noncomputable def WJ(X:Cx)(f:Value)(r:List V->Hp->VK->Prop):Prop :=
 ∀(pins:List (Addr × Obj)) (s:Shared) (σ:St) (H:Hp) (xs:List V) (us:List Value) (Q:VK),Inv X pins σ H s->Vals xs us->r xs H Q ->
  wpAny (model X.prog X.w) X.A (call f us) (EP X pins σ Q) X.xe s
noncomputable def tOp(r:R2)(ta tb:TE):TE:=fun σ H Q=>ta σ H fun x H1=>tb σ H1 fun y H2=>r x y H2 Q
noncomputable def tUn(r:V->Hp->VK->Prop)(ta:TE):TE:=fun σ H Q=>ta σ H fun x H1=>r x H1 Q
inductive rI_i(C:Int->Int->Prop)(g:Int->Int->V)(x:V)(y:V)(H:Hp)(Q:VK):Prop
 | mk (i j):(x=.int i)->(y=.int j)->(C i j)->(Q (g i j) H)->rI_i C g x y H Q
noncomputable def rI(C:Int->Int->Prop)(g:Int->Int->V):R2:=fun x y H Q=>rI_i C g x y H Q
inductive Zga(g:Int->Int->V)(x:V)(y:V)(H:Hp)(Q:VK):Prop
 | mk (i j):(x=.int i)->(y=.int j)->(Q (g i j) H)->Zga g x y H Q
noncomputable def rI0(g:Int->Int->V):R2:=fun x y H Q=>Zga g x y H Q
inductive rU_i(g:Int->V)(x:V)(H:Hp)(Q:VK):Prop
 | mk (i):(x=.int i)->(Q (g i) H)->rU_i g x H Q
noncomputable def rU(g:Int->V):V->Hp->VK->Prop:=fun x H Q=>rU_i g x H Q
section
variable {X:Cx}{a b c:Expr}{ta tb tc:TE}{pos:Pos}
theorem binT(ha:PE X a ta)(hb:PE X b tb){pins:List (Addr × Obj)}{s:Shared}{σ:St}{H:Hp}{R:V->V->Hp->Prop}(I:Inv X pins σ H s)
  (h:ta σ H fun x H1=>tb σ H1 fun y H2=>R x y H2) {Q:Value->Shared->Prop} {f:Value->Value->Sem Value}
  (hf:∀v u s2 x y H2,Inv X pins σ H2 s2->RelV x v->RelV y u->R x y H2->wpAny (model X.prog X.w) X.A (f v u) Q X.xe s2) :
  wpAny (model X.prog X.w) X.A (eval a X.env) (fun v s₁=>wpAny (model X.prog X.w) X.A (eval b X.env) (fun u s₂=>wpAny (model X.prog X.w) X.A (f v u) Q X.xe s₂) X.xe s₁) X.xe s:=by
 refine thn (ha pins s σ H _ I h) fun v s1 ⟨x,H1,I1,r1,q1⟩=>?_
 refine thn (hb pins s1 σ H1 _ I1 q1) fun u s2 ⟨y,H2,I2,r2,q2⟩=>?_
 exact hf v u s2 x y H2 I2 r1 r2 q2
theorem pe_op{op:Operator}{r:R2}(ho:OpR X (binaryOp op) r)(ha:PE X a ta)(hb:PE X b tb):PE X (.BinOp a op b pos) (tOp r ta tb):=by
 intro pins s σ H Q I h
 exact wpAny_BinOp (binT ha hb I h fun v u s2 x y H2 I2 rx ry q=>ho pins s2 σ H2 x y v u Q I2 rx ry q)
theorem pe_un{op:UnaryOp}{r:V->Hp->VK->Prop}(ho:UnR X (unaryOp op) r)(ha:PE X a ta):PE X (.UnaryOp op a pos) (tUn r ta):=by
 intro pins s σ H Q I h
 exact UnaryOp_ (thn (ha pins s σ H _ I h) fun v s1 ⟨x,H1,I1,r1,q1⟩=>ho pins s1 σ H1 x v Q I1 r1 q1)
theorem opI{f:Value->Value->Sem Value}{C:Int->Int->Prop}{g:Int->Int->Int}
  (rule:∀(i j:Int) (t u:Tok) (s:Shared) (Q:Value->Shared->Prop) (E:Value->Shared->Prop),C i j->Q (.int (g i j) s.toks) { s with toks:=s.toks + 1 }->wpAny (model X.prog X.w) X.A (f (.int i t) (.int j u)) Q E s) :
  OpR X f (rI C fun i j=>.int (g i j)):=by
 intro pins s σ H x y v u Q I rx ry h
 obtain ⟨i,j,rfl,rfl,hc,q⟩:=h
 obtain ⟨t,rfl⟩:=rx
 obtain ⟨t',rfl⟩:=ry
 exact rule i j t t' s _ _ hc ⟨.int (g i j),H,I.tok _,⟨_,rfl⟩,q⟩
theorem Zgb{f:Value->Value->Sem Value}{g:Int->Int->Int}
  (rule:∀(i j:Int) (t u:Tok) (s:Shared) (Q:Value->Shared->Prop) (E:Value->Shared->Prop),Q (.int (g i j) s.toks) { s with toks:=s.toks + 1 }->wpAny (model X.prog X.w) X.A (f (.int i t) (.int j u)) Q E s) :
  OpR X f (rI0 fun i j=>.int (g i j)):=by
 intro pins s σ H x y v u Q I rx ry h
 obtain ⟨i,j,rfl,rfl,q⟩:=h
 obtain ⟨t,rfl⟩:=rx
 obtain ⟨t',rfl⟩:=ry
 exact rule i j t t' s _ _ ⟨.int (g i j),H,I.tok _,⟨_,rfl⟩,q⟩
theorem Zg3{f:Value->Value->Sem Value}{g:Int->Int->Bool}
  (rule:∀(i j:Int) (t u:Tok) (s:Shared) (Q:Value->Shared->Prop) (E:Value->Shared->Prop),Q (.bool (g i j)) s->wpAny (model X.prog X.w) X.A (f (.int i t) (.int j u)) Q E s) :
  OpR X f (rI0 fun i j=>.bl (g i j)):=by
 intro pins s σ H x y v u Q I rx ry h
 obtain ⟨i,j,rfl,rfl,q⟩:=h
 obtain ⟨t,rfl⟩:=rx
 obtain ⟨t',rfl⟩:=ry
 exact rule i j t t' s _ _ ⟨.bl (g i j),H,I,rfl,q⟩
noncomputable def CPow(i j:Int):Prop:=0<=j/\j<=1000000/\i.natAbs < 2 ^ 64
noncomputable def CMul(i j:Int):Prop:=(-(2 ^ 64) < i/\i < 2 ^ 64)\/(-(2 ^ 64) < j/\j < 2 ^ 64)
theorem CMul.ok{i j:Int}(h:CMul i j):IntMulOk i j:=by
 rcases h with ⟨h1,h2⟩ | ⟨h1,h2⟩
 ·exact .of_left (intBits_le_64 h1 h2)
 ·exact .of_right (intBits_le_64 h1 h2)
theorem vR(k:Nat):(0:Int)<=2 ^ k:=by
 rw [two_pow_cast]
 exact Qbl _
theorem ZX:OpR X (binaryOp .Add) (rI0 fun i j=>.int (i + j)):=Zgb fun _ _ _ _ _ _ _ q=>add_int q
theorem X1:OpR X (binaryOp .Sub) (rI0 fun i j=>.int (i - j)):=Zgb fun _ _ _ _ _ _ _ q=>sub_int q
theorem ZF:OpR X (binaryOp .Mod) (rI (fun _ j=>0 < j) fun i j=>.int (i % j)):=opI fun i j _ _ _ _ _ hc q=>by
 have h1:(0:Int) < j:=hc
 exact mod_int' (by lia) (by rw [Int.fmod_eq_emod_of_nonneg i (by lia)];exact q)
theorem Zb4:OpR X (binaryOp .Pow) (rI CPow fun i j=>.int (i ^ j.toNat)):=opI fun _ _ _ _ _ _ _ hc q=>pow_int_small hc.1 hc.2.1 hc.2.2 q
theorem GD:OpR X (binaryOp .LShift) (rI CPow fun i j=>.int (i * 2 ^ j.toNat)):=opI fun _ _ _ _ _ _ _ hc q=>lshift_int_small hc.1 hc.2.1 hc.2.2 q
theorem GF:OpR X (binaryOp .RShift) (rI (fun _ j=>0<=j) fun i j=>.int (i / 2 ^ j.toNat)):=opI fun i j _ _ _ _ _ hc q =>
 rshift_int hc (by rw [Int.fdiv_eq_ediv_of_nonneg i (vR _)];exact q)
theorem Xl:OpR X (binaryOp .BitAnd) (rI0 fun i j=>.int (Builtin.bitAnd i j)):=Zgb fun _ _ _ _ _ _ _ q=>and_int q
theorem x8:OpR X (binaryOp .BitOr) (rI0 fun i j=>.int (Builtin.bitOr i j)):=Zgb fun _ _ _ _ _ _ _ q=>or_int q
theorem qD:OpR X (binaryOp .BitXor) (rI0 fun i j=>.int (Builtin.bitXor i j)):=Zgb fun _ _ _ _ _ _ _ q=>xor_int q
theorem unI{f:Value->Sem Value}{g:Int->Int}
  (rule:∀(i:Int) (t:Tok) (s:Shared) (Q:Value->Shared->Prop) (E:Value->Shared->Prop),Q (.int (g i) s.toks) { s with toks:=s.toks + 1 }->wpAny (model X.prog X.w) X.A (f (.int i t)) Q E s) :
  UnR X f (rU fun i=>.int (g i)):=by
 intro pins s σ H x v Q I rx h
 obtain ⟨i,rfl,q⟩:=h
 obtain ⟨t,rfl⟩:=rx
 exact rule i t s _ _ ⟨.int (g i),H,I.tok _,⟨_,rfl⟩,q⟩
theorem XS:UnR X (unaryOp .USub) (rU fun i=>.int (-i)):=unI fun _ _ _ _ _ q=>neg_int q
theorem qE:UnR X (unaryOp .Invert) (rU fun i=>.int (Builtin.bitNot i)):=unI fun _ _ _ _ _ q=>invert_int q
end
noncomputable def scal:V->V->Bool
 | .non,.non=>true | .non,.int _=>true | .int _,.non=>true | .non,.bl _=>true | .bl _,.non=>true | .non,.str _=>true | .str _,.non=>true
 | .int _,.int _=>true | .bl _,.bl _=>true | .str _,.str _=>true | .byt _,.byt _=>true
 | .int _,.str _=>true | .str _,.int _=>true | .bl _,.str _=>true | .str _,.bl _=>true
 | _,_=>false
inductive Zgc(x:V)(y:V)(H:Hp)(Q:VK):Prop
 | mk  : (scal x y=true)->(Q (.bl (decide (x=y))) H)->Zgc x y H Q
noncomputable def rEq  : R2:=fun x y H Q=>Zgc x y H Q
inductive Zgd(x:V)(y:V)(H:Hp)(Q:VK):Prop
 | mk  : (scal x y=true)->(Q (.bl (!decide (x=y))) H)->Zgd x y H Q
noncomputable def rNe  : R2:=fun x y H Q=>Zgd x y H Q
theorem wx{i j:Int}:decide (V.int i=V.int j)=(i == j):=by
 rw [Qdc]
 simp
theorem Zb5{i j:Bool}:decide (V.bl i=V.bl j)=(i == j):=by
 rw [Qdc]
 simp
theorem wy{i j:Str}:decide (V.str i=V.str j)=(i == j):=by
 rw [Qdc]
 simp
theorem wz{i j:Array UInt8}:decide (V.byt i=V.byt j)=(i.toList == j.toList):=by
 rw [Qdc]
 cases i
 cases j
 simp
section
variable {X:Cx}{a b c:Expr}{ta tb tc:TE}{pos:Pos}
theorem ZS{pins:List (Addr × Obj)}{σ:St}{H:Hp}{s:Shared}{Q:VK}{k k':Bool}(I:Inv X pins σ H s)(q:Q (.bl k) H)(e:k=k'):EP X pins σ Q (.bool k') s:=by
 subst e
 exact ⟨.bl k,H,I,rfl,q⟩
theorem Yb:OpR X (compareOp .Eq) rEq:=by
 intro pins s σ H x y v u Q I rx ry h
 obtain ⟨hs,q⟩:=h
 cases x with
 | non =>
  cases rx
  cases y with
  | non=>cases ry;exact PySem.EqNone.eq_none_none (ZS I q (by simp))
  | bl j=>cases ry;exact PySem.EqNone.eq_none_bool (ZS I q (by simp))
  | int j=>obtain ⟨t',rfl⟩:=ry;exact PySem.EqNone.eq_none_int (ZS I q (by simp))
  | str j=>obtain ⟨t',rfl⟩:=ry;exact PySem.EqNone.eq_none_str (ZS I q (by simp))
  | _=>exact absurd (show false=true from hs) Qax
 | bl i =>
  cases rx
  cases y with
  | non=>cases ry;exact PySem.EqNone.eq_bool_none (ZS I q (by simp))
  | bl j=>cases ry;exact eq_bool (ZS I q Zb5)
  | str j=>obtain ⟨t',rfl⟩:=ry;exact PySem.EqMixed.eq_bool_str (ZS I q (by simp))
  | _=>exact absurd (show false=true from hs) Qax
 | int i =>
  obtain ⟨t,rfl⟩:=rx
  cases y with
  | non=>cases ry;exact PySem.EqNone.eq_int_none (ZS I q (by simp))
  | int j=>obtain ⟨t',rfl⟩:=ry;exact eq_int (ZS I q wx)
  | str j=>obtain ⟨t',rfl⟩:=ry;exact PySem.EqMixed.eq_int_str (ZS I q (by simp))
  | _=>exact absurd (show false=true from hs) Qax
 | str i =>
  obtain ⟨t,rfl⟩:=rx
  cases y with
  | non=>cases ry;exact PySem.EqNone.eq_str_none (ZS I q (by simp))
  | bl j=>cases ry;exact PySem.EqMixed.eq_str_bool (ZS I q (by simp))
  | int j=>obtain ⟨t',rfl⟩:=ry;exact PySem.EqMixed.eq_str_int (ZS I q (by simp))
  | str j=>obtain ⟨t',rfl⟩:=ry;exact eq_str (ZS I q wy)
  | _=>exact absurd (show false=true from hs) Qax
 | byt i =>
  obtain ⟨t,rfl⟩:=rx
  cases y with
  | byt j=>obtain ⟨t',rfl⟩:=ry;exact PySem.W.eq_bytes (ZS I q wz)
  | _=>exact absurd (show false=true from hs) Qax
 | _=>cases y <;> exact absurd (show false=true from hs) Qax
theorem Zdu:OpR X (compareOp .NotEq) rNe:=by
 intro pins s σ H x y v u Q I rx ry h
 obtain ⟨hs,q⟩:=h
 cases x with
 | non =>
  cases rx
  cases y with
  | non=>cases ry;exact PySem.EqNone.ne_none_none (ZS I q (by simp))
  | bl j=>cases ry;exact PySem.EqNone.ne_none_bool (ZS I q (by simp))
  | int j=>obtain ⟨t',rfl⟩:=ry;exact PySem.EqNone.ne_none_int (ZS I q (by simp))
  | str j=>obtain ⟨t',rfl⟩:=ry;exact PySem.EqNone.ne_none_str (ZS I q (by simp))
  | _=>exact absurd (show false=true from hs) Qax
 | bl i =>
  cases rx
  cases y with
  | non=>cases ry;exact PySem.EqNone.ne_bool_none (ZS I q (by simp))
  | bl j=>cases ry;exact ne_bool (ZS I q (congrArg not Zb5))
  | str j=>obtain ⟨t',rfl⟩:=ry;exact PySem.EqMixed.ne_bool_str (ZS I q (by simp))
  | _=>exact absurd (show false=true from hs) Qax
 | int i =>
  obtain ⟨t,rfl⟩:=rx
  cases y with
  | non=>cases ry;exact PySem.EqNone.ne_int_none (ZS I q (by simp))
  | int j=>obtain ⟨t',rfl⟩:=ry;exact ne_int (ZS I q (congrArg not wx))
  | str j=>obtain ⟨t',rfl⟩:=ry;exact PySem.EqMixed.ne_int_str (ZS I q (by simp))
  | _=>exact absurd (show false=true from hs) Qax
 | str i =>
  obtain ⟨t,rfl⟩:=rx
  cases y with
  | non=>cases ry;exact PySem.EqNone.ne_str_none (ZS I q (by simp))
  | bl j=>cases ry;exact PySem.EqMixed.ne_str_bool (ZS I q (by simp))
  | int j=>obtain ⟨t',rfl⟩:=ry;exact PySem.EqMixed.ne_str_int (ZS I q (by simp))
  | str j=>obtain ⟨t',rfl⟩:=ry;exact ne_str (ZS I q (congrArg not wy))
  | _=>exact absurd (show false=true from hs) Qax
 | byt i =>
  obtain ⟨t,rfl⟩:=rx
  cases y with
  | byt j=>obtain ⟨t',rfl⟩:=ry;exact PySem.W.ne_bytes (ZS I q (congrArg not wz))
  | _=>exact absurd (show false=true from hs) Qax
 | _=>cases y <;> exact absurd (show false=true from hs) Qax
theorem qF:OpR X (compareOp .Lt) (rI0 fun i j=>.bl (decide (i < j))):=Zg3 fun _ _ _ _ _ _ _ q=>lt_int q
theorem Zge:OpR X (compareOp .LtE) (rI0 fun i j=>.bl (decide (i<=j))):=Zg3 fun _ _ _ _ _ _ _ q=>le_int q
theorem Zdv:OpR X (compareOp .Gt) (rI0 fun i j=>.bl (decide (j < i))):=Zg3 fun _ _ _ _ _ _ _ q=>gt_int q
theorem Zdw:OpR X (compareOp .GtE) (rI0 fun i j=>.bl (decide (j<=i))):=Zg3 fun _ _ _ _ _ _ _ q=>ge_int q
theorem OpR.or{f:Value->Value->Sem Value}{r r':R2}(h:OpR X f r)(h':OpR X f r'):OpR X f (fun x y H Q=>r x y H Q\/r' x y H Q):=by
 intro pins s σ H x y v u Q I rx ry q
 rcases q with q | q
 ·exact h pins s σ H x y v u Q I rx ry q
 ·exact h' pins s σ H x y v u Q I rx ry q
theorem Zx(b:Expr){op:CmpOp}(h:op≠.In:=by decide)(h2:op≠.NotIn:=by decide):behindInMarks op b=false:=by
 have e1:(op == CmpOp.In)=false:=by cases op <;> first | rfl | exact absurd rfl h
 have e2:(op == CmpOp.NotIn)=false:=by cases op <;> first | rfl | exact absurd rfl h2
 cases b <;> simp [behindInMarks,e1,e2]
theorem Zdx{op:CmpOp}{r:R2}(ho:OpR X (compareOp op) r)(ha:PE X a ta)(hb:PE X b tb)(hm:behindInMarks op b=false):PE X (.Compare a [op] [b] pos) (tOp r ta tb):=by
 intro pins s σ H Q I h
 exact wpAny_Compare1 (binT ha hb I h fun v u s2 x y H2 I2 rx ry q=>ho pins s2 σ H2 x y v u Q I2 rx ry q) hm
inductive w4(Q:Bool->Hp->Prop)(x:V)(H':Hp):Prop
 | mk (k):(x=.bl k)->(Q k H')->w4 Q x H'
noncomputable def w5(t:TE):TT:=fun σ H Q=>t σ H fun x H'=>w4 Q x H'
theorem Zdy{op:CmpOp}{r:R2}(ho:OpR X (compareOp op) r)(ha:PE X a ta)(hb:PE X b tb)(hm:behindInMarks op b=false):PT X (.Compare a [op] [b] pos) (w5 (tOp r ta tb)):=by
 intro pins s σ H Q I h
 refine wpAny_isTrue_Compare1 (thn (ha pins s σ H _ I h) fun v s1 ⟨x,H1,I1,r1,q1⟩=>thn (hb pins s1 σ H1 _ I1 q1) fun u s2 ⟨y,H2,I2,r2,q2⟩ =>
  thn (ho pins s2 σ H2 x y v u _ I2 r1 r2 q2) fun c s3 ⟨z,H3,I3,r3,k,e,q3⟩=>?_) hm
 subst e
 cases r3
 exact wpAny_truthy_bool ⟨H3,I3,q3⟩
noncomputable def Zb6(r r':R2)(ta tb tc:TE):TE:=fun σ H Q=>ta σ H fun x H1=>tb σ H1 fun y H2=>r x y H2 fun z H3=>∃k,z=.bl k /\
 (if k=true then tc σ H3 fun w' H4=>r' y w' H4 Q else Q (.bl false) H3)
theorem Zad{op op':CmpOp}{r r':R2}(ho:OpR X (compareOp op) r)(ho':OpR X (compareOp op') r')(ha:PE X a ta)(hb:PE X b tb)(hc:PE X c tc)
  (hm:lastMarks [op,op'] [b,c]=false:=by with_unfolding_all rfl):PT X (.Compare a [op,op'] [b,c] pos) (w5 (Zb6 r r' ta tb tc)):=by
 intro pins s σ H Q I h
 refine isTrue_chain (thn (ha pins s σ H _ I h) fun v s1 ⟨x,H1,I1,r1,q1⟩=>test_link (thn (hb pins s1 σ H1 _ I1 q1) fun u s2 ⟨y,H2,I2,r2,q2⟩ =>
  thn (ho pins s2 σ H2 x y v u _ I2 r1 r2 q2) fun d s3 ⟨z,H3,I3,r3,k,e,q3⟩=>?_)) hm
 subst e
 cases r3
 refine wpAny_truthy_bool ?_
 cases k with
 | false =>
  obtain ⟨k',e',q'⟩:=q3
  cases e'
  exact ite_ff ⟨H3,I3,q'⟩
 | true =>
  refine ite_tt (test_last (thn (hc pins s3 σ H3 _ I3 q3) fun w' s4 ⟨z',H4,I4,r4,q4⟩=>thn (ho' pins s4 σ H4 y z' u w' _ I4 r2 r4 q4) fun d' s5 ⟨z2,H5,I5,r5,k2,e2,q5⟩=>?_))
  subst e2
  cases r5
  exact wpAny_truthy_bool ⟨H5,I5,q5⟩
theorem qG:(sizeLine:Nat) < 2 ^ 63:=by rw [sizeLine_eq];decide
theorem Gm:OpR X (binaryOp .Add) (fun x y H Q=>∃i j,x=.str i/\y=.str j/\i.length + j.length<=sizeLine/\Q (.str (i++j)) H):=by
 intro pins s σ H x y v u Q I rx ry h
 obtain ⟨i,j,rfl,rfl,hz,q⟩:=h
 obtain ⟨t,rfl⟩:=rx
 obtain ⟨t',rfl⟩:=ry
 exact add_str (fun t' tk=>⟨.str (i++j),H,I.tok _,⟨_,rfl⟩,q⟩) hz
theorem vals1{x:V}{us:List Value}(r:Vals [x] us):∃u,us=[u]/\RelV x u:=by
 cases r with
 | cons r1 r2=>cases r2;exact ⟨_,rfl,r1⟩
theorem vals2{x y:V}{us:List Value}(r:Vals [x,y] us):∃u w',us=[u,w']/\RelV x u/\RelV y w':=by
 cases r with
 | cons r1 r2 =>
  cases r2 with
  | cons r3 r4=>cases r4;exact ⟨_,_,rfl,r1,r3⟩
theorem Zae:WJ X (.builtin "abs") (fun xs H Q=>∃i,xs=[.int i]/\Q (.int (if i < 0 then -i else i)) H):=by
 intro pins s σ H xs us Q I r h
 obtain ⟨i,rfl,q⟩:=h
 obtain ⟨u,rfl,t,rfl⟩:=vals1 r
 exact call_abs_int fun u tk=>⟨.int (if i < 0 then -i else i),H,I.tok _,⟨_,rfl⟩,q⟩
theorem w6 (hc:X.calm=true):WJ X (.builtin "min") (fun xs H Q=>∃i j,xs=[.int i,.int j]/\Q (.int (if j < i then j else i)) H):=by
 intro pins s σ H xs us Q I r h
 obtain ⟨i,j,rfl,q⟩:=h
 obtain ⟨u,w',rfl,⟨t,rfl⟩,⟨t',rfl⟩⟩:=vals2 r
 refine min_two_ints (I.ok.hd hc) fun h' tk k=>⟨_,H,I.kept k,?_,q⟩
 by_cases hj:j < i
 ·rw [Qau hj,Qau hj];exact ⟨_,rfl⟩
 ·rw [Qan hj,Qan hj];exact ⟨_,rfl⟩
end
structure ObjM(h:Heap)(x dx C:Addr)(mA:Str->Option Value):Prop where
 obj:h.get? x=some (PySem.W.instObj C dx)
 ns:h.Ns1 dx mA
 ne:dx≠x
theorem w9{h:Heap}{dx:Addr}{mA:Str->Option Value}(n:h.Ns1 dx mA):∃od,h.get? dx=some od/\∀name,PySem.W.lookIn name od=some (mA name):=by
 obtain ⟨o,es,ep,ho,hd,hk,_,hm⟩:=n
 refine ⟨o,ho,fun name=>?_⟩
 have e:=hm name
 unfold nsFind findBy at e
 rw [<-Array.find?_toList] at e
 unfold PySem.W.lookIn
 rw [hd]
 dsimp only
 split
 ·rename_i y q
  rw [q] at e
  exact congrArg some e
 ·rename_i q
  rw [q] at e
  have a:es.toList.any (·.refKey)=false:=by
   rw [List.any_eq_false]
   intro y hy
   obtain ⟨z,t,hkey⟩:=hk y (Array.mem_toList_iff.mp hy)
   simp [DictEntry.refKey,hkey]
  have a':¬es.toList.any (·.refKey)=true:=by rw [a];exact Qax
  rw [Qan a']
  exact congrArg some e
theorem ObjM.look{h:Heap}{x dx C:Addr}{mA:Str->Option Value}(I:ObjM h x dx C mA):∃od,PySem.W.InstAt h x (PySem.W.instObj C dx) C (some od)/\∀name,PySem.W.lookIn name od=some (mA name) :=
 let ⟨od,ho,hl⟩:=w9 I.ns
 ⟨od,⟨I.obj,rfl,rfl,ho⟩,hl⟩
section
variable {prog:Program}{w:World}{A:Around}{E:Value->Shared->Prop}{s:Shared}{K:PySem.W.Frag}{x dx C f:Addr}{mA:Str->Option Value}{name:Str}{v:Value}
end
theorem vO.some_of{v:V}{o:Option Value}(r:vO (some v) o):∃u,o=some u/\RelV v u:=by
 cases o with
 | none=>exact (show False from r).elim
 | some u=>exact ⟨u,rfl,r⟩
section
variable {P:Program}{w:World}{H H':Hp}{h h':Heap}{a C dx:Addr}{fs fs':List (Str × V)}
theorem Zdz(hok:HOk P w H h)(e:H a=some (.ins C dx fs)):∃mA,ObjM h a dx C mA/\(∀f,vO (fs.lookup f) (mA f))/\PySem.Within mA (fs.map (·.1))/\fs.length<=1000/\H dx=some (.own a):=by
 obtain ⟨d,z,ne,ob,mA,n,r,q⟩:=(show Y9 P w H h a (.ins C dx fs) from hok a _ e)
 exact ⟨mA,⟨ob,n,ne⟩,r,q,z,d⟩
end
structure Cls(K:PySem.W.Frag)(C:Addr):Prop where
 pg:PySem.W.plainGet K C Str.empty=true
 hd:PySem.W.hasDictIn K C=true
 po:PySem.W.plainOver K C=true
 sa:PySem.W.findIn K (.ref C) "__setattr__" = some (some (.builtin "object.__setattr__"))
theorem Cls.get{K:PySem.W.Frag}{C:Addr}(c:Cls K C)(f:Str):PySem.W.plainGet K C f=true:=c.pg
section
variable {X:Cx}{pins:List (Addr × Obj)}{σ:St}{H:Hp}{s:Shared}{a C dx:Addr}{fs:List (Str × V)}{f:Str}{v:V}{A:Around}{E:Value->Shared->Prop}
end
section
variable {X:Cx}{o e value:Expr}{f:Str}{pos pos' tpos:Pos}{ta tv:TE}
end
section
variable {X:Cx}{pins:List (Addr × Obj)}{σ:St}{H:Hp}{s:Shared}{A:Around}{E:Value->Shared->Prop}{Q:Value->Shared->Prop}{c:Value}{b:Bool}
inductive vS(K:PySem.W.Frag)(H:Hp):V->Value->Prop where
 | non:vS K H .non (.type "NoneType")
 | bl (x:Bool):vS K H (.bl x) (.type "bool")
 | int (i:Int):vS K H (.int i) (.type "int")
 | str (x:Str):vS K H (.str x) (.type "str")
 | flt (x:UInt64):vS K H (.flt x) (.type "float")
 | lst {a:Addr} {xs:List V} (e:H a=some (.lst xs)):vS K H (.ref a) (.type "list")
 | frz {a:Addr} {o:Obj} {xs:List V} (e:H a=some (.frz o (.lst xs))):vS K H (.ref a) (.type "list")
 | tup {a:Addr} {xs:List V} (e:H a=some (.tup xs)):vS K H (.ref a) (.type "tuple")
 | dK {a:Addr} {kvs:List (Key × V)} (e:H a=some (.dK kvs)):vS K H (.ref a) (.type "dict")
 | dT {a:Addr} {kvs:List (List Key × V)} (e:H a=some (.dT kvs)):vS K H (.ref a) (.type "dict")
 | ins {a C dx:Addr} {fs:List (Str × V)} (e:H a=some (.ins C dx fs)) (cl:Cls K C) (ha:PySem.W.findIn K (.ref C) "__class__" = some (some (.builtin "object.__class__")))
   (hn:PySem.W.specialIn K (.builtin "object.__class__") "__get__" = some (some (.builtin "getset_descriptor.__get__"))) (htk:PySem.W.takesIn K (.builtin "object.__class__")=some true)
   (hm:PySem.W.mroIn K C (.type "object")=some true):vS K H (.ref a) (.ref C)
theorem wA{x:V}{u t:Value}(I:Inv X pins σ H s)(rx:RelV x u)(ty:vS X.K H x t)(e:PySem.W.kitOne X.K t c=some b)(h:∀tk,Q (.bool b) { s with toks:=tk }) :
  wpAny (model X.prog X.w) A (call (.builtin "isinstance") [u,c]) Q E s:=by
 cases ty with
 | non=>cases (show u=Value.none from rx);exact Qcb PySem.W.kitx_none I.kIn True.intro e (fun z=>nomatch z) h
 | bl y=>cases (show u=Value.bool y from rx);exact Qcb PySem.W.kitx_bool I.kIn True.intro e (fun z=>nomatch z) h
 | int i=>obtain ⟨t,q⟩:=(show ∃t,u=Value.int i t from rx);cases q;exact Qcb PySem.W.kitx_int I.kIn True.intro e (fun z=>nomatch z) h
 | str y=>obtain ⟨t,q⟩:=(show ∃t,u=Value.str y t from rx);cases q;exact Qcb PySem.W.kitx_str I.kIn True.intro e (fun z=>nomatch z) h
 | flt y=>obtain ⟨t,q⟩:=(show ∃t,u=Value.float y t from rx);cases q;exact Qcb PySem.W.kitx_float I.kIn True.intro e (fun z=>nomatch z) h
 | @lst a xs ea =>
  cases (show u=Value.ref a from rx)
  obtain ⟨_,_,n,_,h1⟩:=(show Y9 X.prog X.w H s.heap a (.lst xs) from I.hok a _ ea)
  exact Qcb PySem.W.kitx_list I.kIn ⟨_,h1,rfl⟩ e (fun z=>nomatch z) h
 | @frz a ob xs ea =>
  cases (show u=Value.ref a from rx)
  obtain ⟨_,_,_,n,_,h1⟩:=(show Y9 X.prog X.w H s.heap a (.frz ob (.lst xs)) from I.hok a _ ea)
  exact Qcb PySem.W.kitx_list I.kIn ⟨_,h1,rfl⟩ e (fun z=>nomatch z) h
 | @tup a xs ea =>
  cases (show u=Value.ref a from rx)
  obtain ⟨_,_,_,p⟩:=(show Y9 X.prog X.w H s.heap a (.tup xs) from I.hok a _ ea)
  obtain ⟨o,h1,h2,_⟩:=p
  exact Qcb PySem.W.kitx_tuple I.kIn ⟨o,h1,h2⟩ e (fun z=>nomatch z) h
 | @dK a kvs ea =>
  cases (show u=Value.ref a from rx)
  obtain ⟨_,_,vs,_,p⟩:=(show Y9 X.prog X.w H s.heap a (.dK kvs) from I.hok a _ ea)
  obtain ⟨o,es,ep,h1,h2,_⟩:=p
  exact Qcb PySem.W.kitx_dict I.kIn ⟨o,h1,h2.1⟩ e (fun z=>nomatch z) h
 | @dT a kvs ea =>
  cases (show u=Value.ref a from rx)
  obtain ⟨_,_,xs,_,o,es,ep,h1,h2,_⟩:=(show Y9 X.prog X.w H s.heap a (.dT kvs) from I.hok a _ ea)
  exact Qcb PySem.W.kitx_dict I.kIn ⟨o,h1,h2.1⟩ e (fun z=>nomatch z) h
 | @ins a C dx fs ea cl ha hn htk hm =>
  cases (show u=Value.ref a from rx)
  obtain ⟨mA,O,_⟩:=Zdz I.hok ea
  obtain ⟨od,J,_⟩:=O.look
  exact Qcb (PySem.W.kitx_own (cl.get _) cl.hd ha hn htk hm) I.kIn J e (fun z=>nomatch z) h
end
structure WL(k:Nat)(A:Around):Prop where
 hd:A.handled=none
 dp:A.depth + 3 * k + 5 < recursionLimit
 un:A.units + 16 * k + 200 < cLine
theorem WL.mono{j k:Nat}{A:Around}(r:WL k A)(h:j<=k):WL j A:=⟨r.hd,by have:=r.dp;lia,by have:=r.un;lia⟩
theorem WL.deeper{k:Nat}{A:Around}(r:WL (k + 1) A)(env:Env):WL k (A.deeper env) :=
 ⟨r.hd,by have:=r.dp;show A.depth + 1 + 3 * k + 5 < _;lia,by have:=r.un;show A.units + 3 + 16 * k + 200 < _;lia⟩
theorem WL.depth{k:Nat}{A:Around}(r:WL k A):A.depth < recursionLimit:=by have:=r.dp;lia
theorem WL.units{k:Nat}{A:Around}(r:WL k A):A.units + 64 < cLine:=by have:=r.un;lia
theorem WL.units0{k:Nat}{A:Around}(r:WL k A):A.units < cLine:=by have:=r.un;lia
noncomputable def Zfx:TA:=fun _ H Q=>Q [] H
noncomputable def qH(ta:TE)(tr:TA):TA:=fun σ H Q=>ta σ H fun x H1=>tr σ H1 fun xs H2=>Q (x::xs) H2
section
variable {X:Cx}{e:Expr}{es:List Expr}{te:TE}{t:TA}{pos:Pos}
theorem pa_nil:PA X [] Zfx:=fun _ _ _ _ H Q I h=>Calls.spliced_nil ⟨[],H,I,.nil,h⟩
theorem Zd0(ha:PE X e te)(hr:PA X es t)(hs:starEach (e::es) X.env=(false,eval e X.env)::starEach es X.env:=by rfl):PA X (e::es) (qH te t):=by
 intro pos pins s σ H Q I h
 rw [hs]
 show wpAny _ _ (spliced ((false,eval e X.env)::backTo pos (starEach es X.env))) _ _ s
 refine Calls.spliced_cons (thn (ha pins s σ H _ I h) fun u s1 ⟨x,H1,I1,r1,q1⟩=>?_)
 exact thn (hr pos pins s1 σ H1 _ I1 q1) fun us s2 ⟨xs,H2,I2,r2,q2⟩=>⟨x::xs,H2,I2,.cons r1 r2,q2⟩
inductive Zb7(Q:VK)(xs:List V)(H1:Hp):Prop
 | mk  : (xs.length<=sizeLine)->(∀p,H1 p=none->Q (.ref p) (upd H1 p (.tup xs)))->Zb7 Q xs H1
noncomputable def tTup(t:TA):TE:=fun σ H Q=>t σ H fun xs H1=>Zb7 Q xs H1
inductive Zb8(Q:VK)(xs:List V)(H1:Hp):Prop
 | mk  : (xs.length<=sizeLine)->(∀p,H1 p=none->Q (.ref p) (upd H1 p (.lst xs)))->Zb8 Q xs H1
noncomputable def tLst(t:TA):TE:=fun σ H Q=>t σ H fun xs H1=>Zb8 Q xs H1
theorem pe_tup{x1}(h:PA X es t):PE X (.Tuple es x1 pos) (tTup t):=by
 intro pins s σ H Q I hq
 refine wpAny_Tuple_spliced (thn (h pos pins s σ H _ I hq) fun us s1 ⟨xs,H1,I1,r,z,q⟩=>⟨by rw [<-r.length];exact z,?_⟩)
 have hf:H1 s1.heap.objs.size=none:=I1.hok.fresh (Qaj _)
 refine ⟨.ref s1.heap.objs.size,upd H1 s1.heap.objs.size (.tup xs),I1.laid (t':=s1.toks) (fun b u e=>Heap.get?_push_of_some _ e) (Qaj _) ?_,rfl,q _ hf⟩
 exact ⟨z,us,r,⟨_,Heap.get?_push_size _ rfl,rfl,_,rfl⟩⟩
theorem pe_lst(h:PA X es t):PE X (.List es pos) (tLst t):=by
 intro pins s σ H Q I hq
 refine wpAny_List_spliced (thn (h pos pins s σ H _ I hq) fun us s1 ⟨xs,H1,I1,r,z,q⟩=>⟨by rw [<-r.length];exact z,?_⟩)
 have hf:H1 s1.heap.objs.size=none:=I1.hok.fresh (Qaj _)
 refine ⟨.ref s1.heap.objs.size,upd H1 s1.heap.objs.size (.lst xs),I1.laid (t':=s1.toks) (fun b u e=>Heap.get?_push_of_some _ e) (Qaj _) ?_,rfl,q _ hf⟩
 exact ⟨z,us,0,r,Heap.get?_push_size _ rfl⟩
end
noncomputable abbrev Sp:=List V->Hp->VK->XK->Prop
noncomputable abbrev CXT:=List Env->Hp->Shared->XK->Value->Shared->Prop
structure Zaf(P:Program)(w:World)(K:PySem.W.Frag)(mg:Str->Option Value)(base:Heap)(A:Around)(outer:List Env)(s:Shared)(H:Hp):Prop where
 frames:A.frames=some outer
 mod:Mod K mg base
 bs:∀b o,base.get? b=some o->s.heap.get? b=some o/\H b=none
 bsz:base.objs.size<=s.heap.objs.size
 funs:s.heap.FunFrames base outer
 frf:∀b∈frs outer,H b=none
 hok:HOk P w H s.heap
 bare:AllBare s.gens
noncomputable def CE(outer:List Env)(P:Program)(w:World)(H:Hp)(s:Shared)(Q:VK)(u:Value)(s':Shared):Prop :=
 ∃v H',s'.os=s.os/\AllBare s'.gens/\Un (frs outer) [] H H' s.heap s'.heap/\HOk P w H' s'.heap/\RelV v u/\Q v H'
noncomputable def CR(CX:CXT)(outer:List Env)(P:Program)(w:World)(H:Hp)(s:Shared)(Q:VK)(E:XK)(r:Result)(s':Shared):Prop :=
 match r with
 | .ok (.ret u)=>CE outer P w H s Q u s'
 | .ok _=>False
 | .error e=>CX outer H s E e s'
structure ZO(P:Program)(w:World)(K:PySem.W.Frag)(mg:Str->Option Value)(base:Heap)(CX:CXT)(k:Nat)(f:Addr)(fd:FuncData)(ps:List Str)(sp:Sp):Prop where
 len:∀vs H Q E,sp vs H Q E->vs.length=ps.length
 run:∀(A:Around) (outer:List Env) (s:Shared) (H:Hp) (args:Args) (us:List Value) (vs:List V) (Q:VK) (E:XK),WL k A->Zaf P w K mg base A outer s H->BindsTo s fd args (ps.zip us)->Vals vs us->sp vs H Q E ->
  codeAny (model P w) A (.call (.ref f) args) (CR CX outer P w H s Q E) s
section
variable {X:Cx}{pins:List (Addr × Obj)}{σ:St}{H:Hp}{s s':Shared}
theorem Inv.env0(I:Inv X pins σ H s):Zaf X.prog X.w X.K X.mg X.base X.A X.stack s H :=
 ⟨I.ok.frames,I.ok.mod,I.bs,Qba I.ok.bsz I.sz,I.stack,I.stkFree,I.hok,I.bare⟩
theorem Inv.after{Q:VK}{u:Value}(I:Inv X pins σ H s)(h:CE X.stack X.prog X.w H s Q u s'):EP X pins σ Q u s':=by
 obtain ⟨v,H',os,bare,un,hok,r,q⟩:=h
 obtain ⟨hh,g,d,t,os'⟩:=s'
 obtain rfl:os'=s.os:=os
 exact ⟨v,H',I.call (h':=hh) (g':=g) (d':=d) (t':=t) (ch:=[]) un hok bare (fun b z=>absurd z (by simp)),r,q⟩
end
noncomputable def vT(sp:Sp)(dvs:List V)(E:XK)(t:TA):TE:=fun σ H Q=>t σ H fun vs H1=>sp (vs++dvs) H1 Q E
noncomputable def Binds(K:PySem.W.Frag)(fd:FuncData)(ps:List Str)(ds:List Value):Prop :=
 ∀(s:Shared) (us:List Value),K.In s.heap->(us++ds).length=ps.length->BindsTo s fd ⟨us,[]⟩ (ps.zip (us++ds))
theorem Binds.all{K:PySem.W.Frag}{fd:FuncData}{ps:List Str}(h:∀us:List Value,us.length=ps.length->bindArgs fd ⟨us,[]⟩=pure (ps.zip us)):Binds K fd ps []:=fun s us _ hl=>by
 rw [Qbc] at hl ⊢
 exact .of_eq (h us hl)
noncomputable def Passes(CX:CXT)(X:Cx)(E:XK):Prop:=∀(pins:List (Addr × Obj)) (σ:St) (H:Hp) (s:Shared) (e:Value) (s':Shared),Inv X pins σ H s->CX X.stack H s E e s'->X.xe e s'
section
variable {X:Cx}{CX:CXT}{k:Nat}{f C:Addr}{fd:FuncData}{ps:List Str}{sp:Sp}{dvs:List V}{ds:List Value}{E:XK}{x m:Str}{p pos apos:Pos}{e o:Expr}{es:List Expr}{ta:TE}{t:TA}
theorem run_fn{pins:List (Addr × Obj)}{σ:St}{H:Hp}{s:Shared}{Q:VK}{us:List Value}{vs:List V}(F:ZO X.prog X.w X.K X.mg X.base CX k f fd ps sp)(hr:WL k X.A)(hb:Binds X.K fd ps ds)(hd:Vals dvs ds)(hx:Passes CX X E)
  (I:Inv X pins σ H s) (r:Vals vs us) (h:sp (vs++dvs) H Q E):wpAny (model X.prog X.w) X.A (call (.ref f) us) (EP X pins σ Q) X.xe s:=by
 have r2:Vals (vs++dvs) (us++ds):=r.append hd
 have hl:(us++ds).length=ps.length:=by rw [<-r2.length];exact F.len _ _ _ _ h
 refine wpAny_call (codeAny_mono (F.run X.A X.stack s H ⟨us,[]⟩ (us++ds) (vs++dvs) Q E hr I.env0 (hb s us I.kIn hl) r2 h) fun r s' hq=>?_)
 cases r with
 | error e=>exact hx pins σ H s e s' I hq
 | ok fl =>
  cases fl with
  | ret u=>exact I.after hq
  | next=>exact False.elim hq
  | brk=>exact False.elim hq
  | cont=>exact False.elim hq
theorem Zd1(F:ZO X.prog X.w X.K X.mg X.base CX k f fd ps sp)(hr:WL k X.A)(hg:Gl X x)(hm:X.mg x=some (.ref f))(hk:PySem.W.keepIn X.K (.ref f)=true)(hb:Binds X.K fd ps ds)(hd:Vals dvs ds)(hx:Passes CX X E)
  (ha:PA X (e::es) t) (hdb:(x == ("__debug__" : Str))=false:=by decide) (he:starEach (e::es) X.env=(false,eval e X.env)::starEach es X.env:=by rfl) (hpl:(backTo pos (starEach es X.env)).any (·.1)=false:=by rfl) :
  PE X (.Call (.Name x p) (e::es) [] pos) (vT sp dvs E t):=by
 intro pins s σ H Q I h
 refine wpAny_Call_Name_kw (yj I hg hm ?_ hdb)
 refine PySem.W.callWith_K (h₀:=X.base) I.ok.mod.kin hk (thn (ha pos pins s σ H _ I h) fun us s1 ⟨vs,H1,I1,r,q⟩=>⟨I1.kIn,?_⟩) he hpl
 exact run_fn F hr hb hd hx I1 r q
end
section
variable {X:Cx}{CX:CXT}{k:Nat}{f C:Addr}{fd:FuncData}{ps ks:List Str}{sp:Sp}{E:XK}{x m:Str}{p pos apos kpos:Pos}{e o:Expr}{es:List Expr}{kws:List Keyword}{te ta:TE}{t tk:TA}{nm:Option Str}
variable {g:List Value->List Value->List Value}{gV:List V->List V->List V}
end
structure Z1(N P:List Str)(sc:Scope):Prop where
 kind:sc.kind=.function
 co:sc.isCoroutine=false
 gen:sc.isGenerator=false
 nd:N.Nodup
 pre:N.take P.length=P
 par:∀x∈P,sc.names.lookup x=some .local\/sc.names.lookup x=some .cell
 nofree:∀y∈sc.names,y.2≠.free
theorem jd{kindOf:Str->Option NameKind}{x:Str}:∀{binds:List (Str × Value)} {m:Str->Option Value},(∀v,(x,v)∉binds)->bindL kindOf binds m x=m x
 | [],_,_=>rfl
 | (n,v)::r,m,h=>by
  unfold bindL
  rw [jd fun w hw=>h w (Qag _ hw)]
  split
  ·have:x≠n:=by rintro rfl;exact h v Qaf
   simp [this]
  ·rfl
theorem je{kindOf:Str->Option NameKind}{x:Str}:∀{binds:List (Str × Value)} {m:Str->Option Value},(∀v,(x,v)∉binds)->bindC kindOf binds m x=m x
 | [],_,_=>rfl
 | (n,v)::r,m,h=>by
  unfold bindC
  rw [je fun w hw=>h w (Qag _ hw)]
  split
  ·rfl
  ·have:x≠n:=by rintro rfl;exact h v Qaf
   simp [this]
theorem jf{kindOf:Str->Option NameKind}{x:Str}{v:Value}:∀{P:List Str} {vs:List Value} {i:Nat} {m:Str->Option Value},P.Nodup->P[i]?=some x->vs[i]?=some v->kindOf x=some .local ->
  bindL kindOf (P.zip vs) m x=some v
 | [],_,_,_,_,h,_,_=>by simp at h
 | _::_,[],_,_,_,_,h,_=>by simp at h
 | p::P,w::vs,0,m,nd,h1,h2,hk=>by
  simp at h1 h2;subst h1;subst h2
  show bindL kindOf ((p,w)::P.zip vs) m p=_
  unfold bindL
  rw [jd fun v hv=>(Qby.mp nd).1 (Qed hv).1,Qau hk]
  simp
 | p::P,w::vs,i + 1,m,nd,h1,h2,hk=>by
  show bindL kindOf ((p,w)::P.zip vs) m x=_
  unfold bindL
  exact jf (i:=i) (Qby.mp nd).2 (by simpa using h1) (by simpa using h2) hk
theorem jg{kindOf:Str->Option NameKind}{x:Str}{v:Value}:∀{P:List Str} {vs:List Value} {i:Nat} {m:Str->Option Value},P.Nodup->P[i]?=some x->vs[i]?=some v->kindOf x≠some .local ->
  bindC kindOf (P.zip vs) m x=some v
 | [],_,_,_,_,h,_,_=>by simp at h
 | _::_,[],_,_,_,_,h,_=>by simp at h
 | p::P,w::vs,0,m,nd,h1,h2,hk=>by
  simp at h1 h2;subst h1;subst h2
  show bindC kindOf ((p,w)::P.zip vs) m p=_
  unfold bindC
  rw [je fun v hv=>(Qby.mp nd).1 (Qed hv).1,Qan hk]
  simp
 | p::P,w::vs,i + 1,m,nd,h1,h2,hk=>by
  show bindC kindOf ((p,w)::P.zip vs) m x=_
  unfold bindC
  exact jg (i:=i) (Qby.mp nd).2 (by simpa using h1) (by simpa using h2) hk
noncomputable def start(N:List Str)(vs:List V):St:=vs.map some++List.replicate (N.length - vs.length) none
noncomputable def Zag(CX:CXT)(P:Program)(w:World)(K:PySem.W.Frag)(mg:Str->Option Value)(base:Heap)(N:List Str)(qual:Str)(scope:Scope)(f:Addr)(cd:Value)(A:Around)(outer:List Env)(s:Shared)(H:Hp)(E:XK):Cx where
 prog:=P
 w:=w
 K:=K
 mg:=mg
 base:=base
 A:=A.deeper (envOfC qual scope s.heap.objs.size f cd)
 N:=N
 s₀:=s
 H₀:=H
 env:=envOfC qual scope s.heap.objs.size f cd
 outer:=outer
 stack:=envOfC qual scope s.heap.objs.size f cd::outer
 ex:=[]
 calm:=true
 fn:=fun _=>true
 pn:=[]
 xe:=fun e s'=>wpAny (model P w) (A.deeper (envOfC qual scope s.heap.objs.size f cd)) (leaving (envOfC qual scope s.heap.objs.size f cd) e) (fun _ s''=>CX outer H s E e s'') (fun e' s''=>CX outer H s E e' s'') s'
theorem qp{sc:Scope}{n:Nat}{x:Str}(h:sc.names.lookup x=some .cell):∃c,(cellsFrom n sc.names []).lookup x=some c:=by
 have q:=PySem.W.cellsFrom_some sc.names n [] (.inl h)
 exact Option.isSome_iff_exists.mp q
theorem wB{CX:CXT}{P:Program}{w:World}{K:PySem.W.Frag}{mg:Str->Option Value}{base:Heap}{N ps:List Str}{qual:Str}{scope:Scope}{f:Addr}{cd:Value}{A:Around}{outer:List Env}{s s1:Shared}{H:Hp}{E:XK}{us:List Value}{vs:List V}
  (S:Z1 N ps scope) (hd:A.handled=none) (e0:Zaf P w K mg base A outer s H) (hl:vs.length=ps.length) (r:Vals vs us)
  (x:InCallC s s.heap.objs.size (bindL (envOfC qual scope s.heap.objs.size f cd).kindOf (ps.zip us) fun _=>none) (cellsFrom (s.heap.objs.size + 1) scope.names []) (bindC (envOfC qual scope s.heap.objs.size f cd).kindOf (ps.zip us) fun _=>none) s1) :
  Inv (Zag CX P w K mg base N qual scope f cd A outer s H E) [] (start N vs) H s1:=by
 have hpl:ps.length<=N.length:=by have:=congrArg List.length S.pre;rw [Qar] at this;lia
 obtain ⟨h1,tk,rfl,hk⟩:=x.done
 have noA:∀b:Addr,b∉(Zag CX P w K mg base N qual scope f cd A outer s H E).ex:=fun b z=>absurd (show b∈([]:List Addr) from z) (by simp)
 refine ⟨⟨e0.mod,S.kind,rfl,rfl,Qaj _,fun y z c h1 h2=>?_,fun y hy=>?_,fun y c _ h=>?_,fun _=>hd,Around.frames_deeper e0.frames,.inr ⟨rfl,rfl⟩,fun b z=>absurd z (noA b),e0.bs,e0.bsz,fun b _ _=>noA b,fun b z=>absurd z (noA b),e0.funs,e0.frf⟩,
  rfl,e0.bare,Un.kept hk,⟨_,x.toInCall.ns,fun i y v h1 h2 h3=>?_⟩,fun y c h=>⟨_,x.cell y c h⟩,e0.hok.fresh (Qaj _),fun y c h=>?_,fun p hp=>absurd (show p∈([]:List (Addr × Obj)) from hp) (by simp),e0.hok.kept hk,?_⟩
 ·exact name_of_addr x.apart (Qbx h1) (Qbx h2)
 ·have hy:scope.names.lookup y=some .cell\/scope.names.lookup y=some .free:=hy
  rcases hy with hy | hy
  ·exact qp hy
  ·exact absurd rfl (S.nofree _ (Qbx hy))
 ·exact Qaw (x.above y c (Qbx h))
 ·have hi:i < vs.length:=by
   unfold start at h2
   by_cases hi:i < vs.length
   ·exact hi
   ·rw [Qa0 (by simpa using hi)] at h2
    rw [List.getElem?_replicate] at h2
    split at h2 <;> cases h2
  have ha:vs[i]?=some v:=by
   unfold start at h2
   rw [Qa2 (by simpa using hi),Qao] at h2
   cases e:vs[i]? with
   | none=>rw [e] at h2;cases h2
   | some a=>rw [e] at h2;cases h2;rfl
  obtain ⟨u,hu,rv⟩:=r.get ha
  have hp:ps[i]?=some y:=by
   rw [<-S.pre,List.getElem?_take_of_lt (by lia)];exact h1
  have ndP:ps.Nodup:=by rw [<-S.pre];exact S.nd.sublist (Qem _ _)
  refine ⟨u,rv,?_⟩
  rcases S.par y (Qam hp) with k | k
  ·exact .inl ⟨k,jf ndP hp hu k⟩
  ·obtain ⟨c,e⟩:=qp (n:=s.heap.objs.size + 1) k
   refine .inr ⟨.inl k,c,e,?_⟩
   have q:=x.cell y c e
   rw [jg ndP hp hu (by show scope.names.lookup y≠_;rw [k];decide)] at q
   exact q
 ·exact e0.hok.fresh (Qaw (x.above y c (Qbx h)))
 ·unfold start
  show _=N.length
  rw [Qac,Qab,Qa8]
  lia
theorem Zgf{CX:CXT}{P:Program}{w:World}{K:PySem.W.Frag}{mg:Str->Option Value}{base:Heap}{k:Nat}{f:Addr}{name qual:Str}{params:Arguments}{body:List Stmt}{scope:Scope}{dV kV doc pm cdv ct oc:Value}{an od:Option Addr}
  {osl:Array (Option Value)} {N ps:List Str} {sp:Sp} (lk:K.lookup f=some ⟨oc,od,.func (PySem.W.fnOf name qual params body scope dV kV doc pm an cdv ct),osl⟩) (hcd:PySem.W.codeIn K cdv qual=true) (S:Z1 N ps scope)
  (len:∀vs H Q E,sp vs H Q E->vs.length=ps.length)
  (hbody:∀(A:Around) (outer:List Env) (s:Shared) (H:Hp) (vs:List V) (Q:VK) (E:XK),WL k (A.deeper (envOfC qual scope s.heap.objs.size f cdv))->sp vs H Q E ->
   ∃t,PSs (Zag CX P w K mg base N qual scope f cdv A outer s H E) body t/\t { nx:=fun _ H'=>Q .non H',rt:=Q } (start N vs) H) :
  ZO P w K mg base CX (k + 1) f (PySem.W.fnOf name qual params body scope dV kV doc pm an cdv ct) ps sp:=by
 refine ⟨len,fun A outer s H args us vs Q E hr e0 hb r hsp=>?_⟩
 have hl:=len _ _ _ _ hsp
 have KX:K.In s.heap:=e0.mod.kin.keeps fun b o e=>(e0.bs b o e).1
 have lim:s.heap.NoLimit:=e0.mod.nolimit.keeps fun b o e=>(e0.bs b o e).1
 have hkind:∀y∈ps.zip us,scope.names.lookup y.1=some .local\/(scope.names.lookup y.1=some .cell/\((cellsFrom (s.heap.objs.size + 1) scope.names []).lookup y.1).isSome=true):=fun ⟨n,v⟩ hy=>by
  rcases S.par n (Qed hy).1 with q | q
  ·exact .inl q
  ·exact .inr ⟨q,PySem.W.cellsFrom_some _ _ _ (.inl q)⟩
 refine codeAny_call_function hr.depth (KX _ _ lk) rfl S.co S.gen rfl (PySem.W.codeRec_of KX hcd) (hb _ _ _ _ ?_)
 refine wpAny_newFunctionEnv_cells S.kind hkind fun env he s1 x=>?_
 subst he
 refine ⟨lim.keeps x.toInCall.keep,codeAny_func ?_⟩
 obtain ⟨t,ht,hq⟩:=hbody A outer s H vs Q E (hr.deeper _) hsp
 have I:Inv (Zag CX P w K mg base N qual scope f cdv A outer s H E) [] (start N vs) H s1:=wB S hr.hd e0 hl r x
 refine wpAny_mono (ht [] s1 (start N vs) H _ I hq) (fun fl s' hs=>?_) fun e s' hs=>hs
 have fin:∀{σ':St} {H':Hp} {v:V} {u:Value},Inv (Zag CX P w K mg base N qual scope f cdv A outer s H E) [] σ' H' s'->RelV v u->Q v H'->CE outer P w H s Q u s' :=
  fun {σ' H' v u} J rv q=>⟨v,H',J.os,J.bare,J.base,J.hok,rv,q⟩
 cases fl with
 | ret u =>
  obtain ⟨v,σ',H',J,rv,q⟩:=hs
  exact fin J rv q
 | next =>
  obtain ⟨σ',H',J,q⟩:=hs
  exact fin (v:=V.non) (u:=Value.none) J rfl q
 | brk =>
  obtain ⟨_,_,_,q⟩:=hs
  exact False.elim q
 | cont =>
  obtain ⟨_,_,_,q⟩:=hs
  exact False.elim q
section
variable {X:Cx}{x:Str}{p pos:Pos}{e:Expr}{es:List Expr}{t:TA}{id T:String}{r:List V->Hp->VK->Prop}
noncomputable def tCB(r:List V->Hp->VK->Prop)(t:TA):TE:=fun σ H Q=>t σ H fun vs H1=>r vs H1 Q
theorem Zah (hc:WJ X (.builtin id) r) (hg:Gl X x) (hm:X.mg x=none) (hv:bootBuiltins x=some (.builtin id)) (ha:PA X (e::es) t) (hn:x ≠ "__name__" := by decide) (hdb:(x == ("__debug__" : Str))=false:=by decide)
  (he:starEach (e::es) X.env=(false,eval e X.env)::starEach es X.env:=by rfl) (hpl:(backTo pos (starEach es X.env)).any (·.1)=false:=by rfl):PE X (.Call (.Name x p) (e::es) [] pos) (tCB r t):=by
 intro pins s σ H Q I h
 refine wpAny_Call_Name_kw (GC I hg hm hv ?_ hn hdb)
 exact PyProof.Rows.callWith_builtin1 (thn (ha pos pins s σ H _ I h) fun us s1 ⟨vs,H1,I1,r1,q1⟩=>hc pins s1 σ H1 vs us Q I1 r1 q1) he hpl
theorem wC (hc:WJ X (.type T) r) (hg:Gl X x) (hm:X.mg x=none) (hv:bootBuiltins x=some (.type T)) (ha:PA X (e::es) t) (hn:x ≠ "__name__" := by decide) (hdb:(x == ("__debug__" : Str))=false:=by decide)
  (he:starEach (e::es) X.env=(false,eval e X.env)::starEach es X.env:=by rfl) (hpl:(backTo pos (starEach es X.env)).any (·.1)=false:=by rfl):PE X (.Call (.Name x p) (e::es) [] pos) (tCB r t):=by
 intro pins s σ H Q I h
 refine wpAny_Call_Name_kw (GC I hg hm hv ?_ hn hdb)
 exact Qch (thn (ha pos pins s σ H _ I h) fun us s1 ⟨vs,H1,I1,r1,q1⟩=>hc pins s1 σ H1 vs us Q I1 r1 q1) he hpl
end
end L2
namespace HT
open PySem PyProof.Rows
section
open PySem.SeqAt
open PySem.AutoSeq1 (wpAny_loadPart')
open PySem.MeetsSeq PySem.MeetsSeq2 PySem.MeetsSeq3
end
section
variable {prog:Program}{w:World}{A:Around}{E:Value->Shared->Prop}{s:Shared}
theorem cat_tup{t b:Addr}{vs ws:List Value}{Q:Value->Shared->Prop}(ht:IsTup s.heap t vs.toArray)(hb:IsTup s.heap b ws.toArray)(hv:vs≠[])
  (h1:ws=[]->Q (.ref t) s) (h2:ws≠[]->Q (.ref s.heap.objs.size) { s with heap:=s.heap.push { cls:=.type "tuple",data:=.seq (vs++ws).toArray } })
  (hsz:vs.length + ws.length<=sizeLine):wpAny (model prog w) A (binaryOp .Add (.ref t) (.ref b)) Q E s:=by
 obtain ⟨⟨cls,dd,data,sl⟩,ho,hc,n,hd⟩:=id ht
 obtain ⟨⟨cls2,dd2,data2,sl2⟩,ho2,hc2,n2,hd2⟩:=id hb
 simp only at hc hd hc2 hd2
 subst hc hd hc2 hd2
 have e:vs.toArray++ws.toArray=(vs++ws).toArray:=by simp
 by_cases hw:ws=[]
 ·exact concat_meets ⟨_,ho,rfl⟩ ⟨_,ho2,rfl⟩ noFill_tuple_add seq_tuple_add Qd0 Qdt (Qdp _ _)
   (tuple_addW1 t b vs.toArray ws.toArray n n2 dd dd2 sl sl2 (by simpa using hv) (by simp [hw])) ⟨ho,ho2,h1 hw⟩
 ·refine concat_meets ⟨_,ho,rfl⟩ ⟨_,ho2,rfl⟩ noFill_tuple_add seq_tuple_add Qd0 Qdt (Qdp _ _)
   (tuple_addW2 t b vs.toArray ws.toArray n n2 dd dd2 sl sl2 (by simpa using hv) (by simpa using hw) (by rw [Qas,Qas];exact hsz)) ⟨ho,ho2,?_⟩
  rw [e]
  exact h2 hw
noncomputable def sIx(n d:Nat):Option Int->Nat
 | none=>d
 | some v=>if v < 0 then (v + (n:Int)).toNat else min v.toNat n
theorem sIx_none(n d:Nat):sIx n d none=d:=rfl
theorem sIx_nat(n d k:Nat):sIx n d (some (k:Int))=min k n:=by
 show (if (k:Int) < 0 then ((k:Int) + (n:Int)).toNat else min (k:Int).toNat n)=min k n
 rw [Qan (by lia),Qat]
theorem sIx_le(n d:Nat)(hd:d<=n)(o:Option Int):sIx n d o<=n:=by
 cases o with
 | none=>exact hd
 | some v =>
  show (if v < 0 then (v + (n:Int)).toNat else min v.toNat n)<=n
  by_cases hv:v < 0
  ·rw [Qau hv];lia
  ·rw [Qan hv];exact Nat.min_le_right _ _
theorem wD(v:Int)(n d:Nat):(if v < 0 then max (v + (n:Int)) 0 else min v (n:Int))=((sIx n d (some v):Nat):Int):=by
 show (if v < 0 then max (v + (n:Int)) 0 else min v (n:Int))=(((if v < 0 then (v + (n:Int)).toNat else min v.toNat n):Nat):Int)
 by_cases hv:v < 0
 ·simp only [Qau hv];lia
 ·simp only [Qan hv];lia
theorem vU(lo hi:Option Int)(n:Nat):Builtin.Slice.sliceAdjust lo hi 1 (n:Int)=(((sIx n 0 lo:Nat):Int),((sIx n n hi:Nat):Int)):=by
 have h1:¬((1:Int) < 0):=by lia
 unfold Builtin.Slice.sliceAdjust
 simp only [h1,Qc8]
 refine Qez ?_ ?_
 ·cases lo with
  | none=>rfl
  | some v=>exact wD v n 0
 ·cases hi with
  | none=>rfl
  | some v=>exact wD v n n
theorem vV(i j:Nat):Builtin.Slice.slicePlaces (i:Int) (j:Int) 1=j - i:=by
 unfold Builtin.Slice.slicePlaces
 have h1:(1:Int) > 0:=by lia
 simp only [h1,Qd6,Qbm]
 split <;> lia
theorem xS{v:Value}{o:Option Int}{Q:Option Int->Shared->Prop}(p:IsPart v o)(h:Q o s):wpAny (model prog w) A (Builtin.Slice.slicePartIndex v) Q E s:=by
 cases p with
 | none=>exact slicePart_none h
 | int i t=>exact slicePart_int h
theorem W4{sl:Addr}{vl vu:Value}{lo hi:Option Int}{n:Nat}{Q:Int × Int × Nat->Shared->Prop}(hs:s.heap.IsSliceOf sl vl vu .none)(pl:IsPart vl lo)(pu:IsPart vu hi)
  (h:Q (((sIx n 0 lo:Nat):Int),1,sIx n n hi - sIx n 0 lo) s):wpAny (model prog w) A (Builtin.Slice.sliceApplied (.ref sl) (pure (n:Int))) Q E s:=by
 obtain ⟨os,hos,hcs,hds⟩:=id hs
 unfold Builtin.Slice.sliceApplied Builtin.Slice.sliceFields
 refine wpAny_bind (wpAny_bind (wpAny_field hos hds (x:=vl) rfl (wpAny_bind (wpAny_field hos hds (x:=vu) rfl (wpAny_bind (wpAny_field hos hds (x:=.none) rfl (wpAny_pure ?_)))))))
 refine wpAny_bind (slicePart_none ?_)
 show wpAny _ _ (if ((1:Int) == 0)=true then _ else _) _ _ s
 rw [Qan (by decide)]
 refine wpAny_bind (xS pl (wpAny_bind (xS pu (wpAny_bind (wpAny_pure ?_)))))
 show wpAny _ _ (match Builtin.Slice.sliceAdjust lo hi 1 (n:Int) with | (lo,hi)=>pure (lo,(1:Int),Builtin.Slice.slicePlaces lo hi 1)) _ _ s
 rw [vU lo hi n]
 show wpAny _ _ (pure (((sIx n 0 lo:Nat):Int),(1:Int),Builtin.Slice.slicePlaces ((sIx n 0 lo:Nat):Int) ((sIx n n hi:Nat):Int) 1)) _ _ s
 rw [vV]
 exact wpAny_pure h
theorem Zai(xs:Array Value)(i k:Nat):((List.range k).filterMap fun (m:Nat)=>xs[((i:Int) + (m:Int) * 1).toNat]?).toArray=((xs.toList.drop i).take k).toArray:=by
 have e:(fun (m:Nat)=>xs[((i:Int) + (m:Int) * 1).toNat]?)=fun m=>xs[i + m]?:=by
  funext m
  have:((i:Int) + (m:Int) * 1).toNat=i + m:=by lia
  rw [this]
 rw [e]
 have:=pick_run xs i k
 rw [List.filterMap_map] at this
 have e2:((fun x=>xs[x]?) ∘ fun x=>i + x)=fun m=>xs[i + m]?:=rfl
 rw [e2] at this
 rw [this]
theorem getItem_tuple_cut{t sl:Addr}{items:Array Value}{vl vu:Value}{lo hi:Option Int}{Q:Value->Shared->Prop}(ht:IsTup s.heap t items)(hs:s.heap.IsSliceOf sl vl vu .none)(pl:IsPart vl lo)(pu:IsPart vu hi)
  (hw:¬(sIx items.size 0 lo=0/\sIx items.size items.size hi=items.size))
  (h:Q (.ref s.heap.objs.size) { s with heap:=s.heap.push { cls:=.type "tuple",data:=.seq ((items.toList.drop (sIx items.size 0 lo)).take (sIx items.size items.size hi - sIx items.size 0 lo)).toArray } })
  (hsz:items.size<=sizeLine):wpAny (model prog w) A (getItem (.ref t) (.ref sl)) Q E s:=by
 have htake:sizeOk (.seq ((items.toList.drop (sIx items.size 0 lo)).take (sIx items.size items.size hi - sIx items.size 0 lo)).toArray):=by
  show ((items.toList.drop (sIx items.size 0 lo)).take (sIx items.size items.size hi - sIx items.size 0 lo)).toArray.size<=sizeLine
  rw [Qas,Qar,Qbd,Qcc]
  lia
 have hj:sIx items.size items.size hi<=items.size:=sIx_le _ _ (Qaj _) hi
 obtain ⟨os,hos,hcs,hds⟩:=id hs
 have hTs:s.TypeIs (.ref sl) "slice" := ⟨os,hos,hcs⟩
 unfold getItem
 try with_reducible refine wpAny_holding ?_
 first | refine wpAny_bind (wpAny_pure ?_) | skip
 refine wpAny_bind (wpAny_sequenceKey ht.typeIs (by decide) ?_)
 refine wpAny_bind (wpAny_callSpecial?_slot (name:=Str.ofString "__getitem__") ht.typeIs Qbb
  (wpAny_call_entry Qbb ht.typeIs entry_tuple_getitem ?_ (args_tuple_getitem _ _)))
 show wpAny _ _ (Builtin.Tuple.tupleItemsOf (.ref t) >>= _) _ _ s
 refine wpAny_bind (tupleItemsOf_ ht ?_)
 refine wpAny_bind (wpAny_typeOf hTs ?_)
 rw [Qau (by decide)]
 refine wpAny_bind (W4 hs pl pu ?_)
 have hno:¬((((sIx items.size 0 lo:Nat):Int) == 0 && (1:Int) == 1 && (sIx items.size items.size hi - sIx items.size 0 lo) == items.size)=true):=by
  intro q
  rw [Qbk,Qbk] at q
  have q1:((sIx items.size 0 lo:Nat):Int)=0:=eq_of_beq q.1.1
  have q2:sIx items.size items.size hi - sIx items.size 0 lo=items.size:=eq_of_beq q.2
  exact hw ⟨by lia,by lia⟩
 show wpAny _ _ (if (((sIx items.size 0 lo:Nat):Int) == 0 && (1:Int) == 1 && (sIx items.size items.size hi - sIx items.size 0 lo) == items.size)=true then _ else _) _ _ s
 rw [Qan hno,Zai]
 first
  | exact wpAny_bind (m:=Builtin.Tuple.tupleExact _) (wpAny_newObj_type (wpAny_pure ⟨_,rfl,wpAny_pure h⟩) htake)
  | exact wpAny_bind (m:=Builtin.Tuple.tupleExact _) (wpAny_newObj_type (wpAny_bind (wpAny_pure (wpAny_pure ⟨_,rfl,wpAny_pure h⟩))) htake)
  | exact wpAny_bind (wpAny_bind (m:=Builtin.Tuple.tupleExact _) (wpAny_newObj_type (wpAny_pure (wpAny_pure ⟨_,rfl,wpAny_pure h⟩)) htake))
  | exact wpAny_bind (wpAny_bind (m:=Builtin.Tuple.tupleExact _) (wpAny_newObj_type (wpAny_pure ⟨_,rfl,wpAny_pure h⟩) htake))
end
end HT
namespace L2
open PySem PySem.Spec PyProof.Rows
noncomputable abbrev TO:=St->Hp->(Option Int->Hp->Prop)->Prop
noncomputable def PO(X:Cx)(e:Option Expr)(t:TO):Prop :=
 ∀(pins:List (Addr × Obj)) (s:Shared) (σ:St) (H:Hp) (Q:Option Int->Hp->Prop),Inv X pins σ H s->t σ H Q ->
  wpAny (model X.prog X.w) X.A (evalPart e X.env) (fun u s'=>∃o H',Inv X pins σ H' s'/\IsPart u o/\Q o H') X.xe s
noncomputable def yk:TO:=fun _ H Q=>Q none H
inductive wF(Q:Option Int->Hp->Prop)(x:V)(H1:Hp):Prop
 | mk (i):(x=.int i)->(Q (some i) H1)->wF Q x H1
noncomputable def Zd2(t:TE):TO:=fun σ H Q=>t σ H fun x H1=>wF Q x H1
theorem intsAre_of{ns:List Int}:∀{us:List Value},Vals (ns.map V.int) us->IntsAre us ns:=by
 induction ns with
 | nil=>intro us r;rw [Qdq] at r;cases r;exact .nil
 | cons n ns ih =>
  intro us r
  rw [Qa1] at r
  cases r with
  | cons r1 r2 =>
   obtain ⟨t,e⟩:=r1
   subst e
   exact .cons n t (ih r2)
section
variable {X:Cx}{e:Expr}{te:TE}{lo hi:Option Expr}{tl th:TO}{pos p2:Pos}
theorem Zd3:PO X none yk:=by
 intro pins s σ H Q I h
 rw [evalPart_none]
 exact wpAny_pure ⟨none,H,I,.none,h⟩
theorem Zd4(h:PE X e te):PO X (some e) (Zd2 te):=by
 intro pins s σ H Q I hw
 rw [evalPart_some]
 refine thn (h pins s σ H _ I hw) fun u s1 ⟨x,H1,I1,r1,q1⟩=>?_
 obtain ⟨i,rfl,q⟩:=q1
 obtain ⟨t,rfl⟩:=r1
 exact ⟨some i,H1,I1,.int i t,q⟩
noncomputable def SlR(X:Cx)(r:V->Option Int->Option Int->Hp->VK->Prop):Prop :=
 ∀(pins:List (Addr × Obj)) (s:Shared) (σ:St) (H:Hp) (x:V) (v vl vu:Value) (lo hi:Option Int) (sl:Addr) (Q:VK),Inv X pins σ H s->RelV x v->s.heap.IsSliceOf sl vl vu .none->IsPart vl lo->IsPart vu hi->r x lo hi H Q ->
  ∃T id,typeLookup (.type T) "__getitem__" = pure (some (.builtin id))/\s.TypeIs v T/\wpAny (model X.prog X.w) X.A (getItem v (.ref sl)) (EP X pins σ Q) X.xe s
theorem SlR.or{r r':V->Option Int->Option Int->Hp->VK->Prop}(h:SlR X r)(h':SlR X r'):SlR X (fun x lo hi H Q=>r x lo hi H Q\/r' x lo hi H Q):=by
 intro pins s σ H x v vl vu lo hi sl Q I rx hs pl pu q
 rcases q with q | q
 ·exact h pins s σ H x v vl vu lo hi sl Q I rx hs pl pu q
 ·exact h' pins s σ H x v vl vu lo hi sl Q I rx hs pl pu q
noncomputable def tSl(r:V->Option Int->Option Int->Hp->VK->Prop)(te:TE)(tl th:TO):TE:=fun σ H Q=>te σ H fun x H1=>tl σ H1 fun l H2=>th σ H2 fun u H3=>r x l u H3 Q
theorem Zaj{r:V->Option Int->Option Int->Hp->VK->Prop}(hr:SlR X r)(he:PE X e te)(hl:PO X lo tl)(hu:PO X hi th):PE X (.Subscript e (.Slice lo hi none p2) pos) (tSl r te tl th):=by
 intro pins s σ H Q I h
 refine Subscript_ (thn (he pins s σ H _ I h) fun v s1 ⟨x,H1,I1,r1,q1⟩=>?_)
 refine wpAny_Slice (thn (hl pins s1 σ H1 _ I1 q1) fun vl s2 ⟨l,H2,I2,pl,q2⟩=>thn (hu pins s2 σ H2 _ I2 q2) fun vu s3 ⟨u,H3,I3,pu,q3⟩=>?_)
 rw [evalPart_none]
 refine wpAny_pure ?_
 have I4:Inv X pins σ H3 { s3 with heap:=s3.heap.push { cls:=.type "slice",data:=.fields #[vl,vu,.none] } }:=I3.kept (t':=s3.toks) fun b ob q=>Heap.get?_push_of_some _ q
 obtain ⟨T,id,hT,ht,hg⟩:=hr pins { s3 with heap:=s3.heap.push { cls:=.type "slice",data:=.fields #[vl,vu,.none] } } σ H3 x v vl vu l u s3.heap.objs.size Q I4 r1 (Heap.IsSliceOf.new ..) pl pu q3
 show wpAny (model X.prog X.w) X.A (subscriptTail e (.Slice lo hi none p2) v (.ref s3.heap.objs.size)) (EP X pins σ Q) X.xe { s3 with heap:=s3.heap.push { cls:=.type "slice",data:=.fields #[vl,vu,.none] } }
 exact tail_any (ops:=[.ref s3.heap.objs.size,v]) ht hT hg (by with_unfolding_all rfl)
noncomputable def J1(xs:List V)(lo hi:Option Int):List V:=(xs.drop (HT.sIx xs.length 0 lo)).take (HT.sIx xs.length xs.length hi - HT.sIx xs.length 0 lo)
theorem qI(xs:List V)(lo hi:Option Int):(J1 xs lo hi).length<=xs.length:=by
 unfold J1
 rw [Qar,Qbd]
 lia
inductive Zb9(K:PySem.W.Frag)(x:V)(lo:Option Int)(hi:Option Int)(H:Hp)(Q:VK):Prop
 | mk (a xs):(x=.ref a)->(SqT K H a xs)->(¬(HT.sIx xs.length 0 lo=0/\HT.sIx xs.length xs.length hi=xs.length))->(∀p,H p=none->Q (.ref p) (upd H p (.tup (J1 xs lo hi))))->Zb9 K x lo hi H Q
noncomputable def rSlT(K:PySem.W.Frag):V->Option Int->Option Int->Hp->VK->Prop:=fun x lo hi H Q=>Zb9 K x lo hi H Q
theorem Zca:SlR X (rSlT X.K):=by
 intro pins s σ H x v vl vu lo hi sl Q I rx hs pl pu h
 obtain ⟨a,xs,rfl,hx,hw,q⟩:=h
 cases rx
 obtain ⟨its,r,ht,hz⟩:=I.tuple hx
 have hlen:its.toArray.size=xs.length:=by rw [Qas];exact r.length.symm
 refine ⟨"tuple",_,Qbb.lookup,ht.typeIs,?_⟩
 refine HT.getItem_tuple_cut ht hs pl pu (by rw [hlen];exact hw) ?_ (by rw [hlen];exact hz)
 rw [hlen]
 refine ⟨.ref s.heap.objs.size,_,I.laid (t':=s.toks) (o:=.tup (J1 xs lo hi)) (fun b ob q=>Heap.get?_push_of_some _ q) (Qaj _) ?_,rfl,q _ (I.hok.fresh (Qaj _))⟩
 exact ⟨Qba (qI xs lo hi) hz,_,(r.drop (HT.sIx xs.length 0 lo)).take (HT.sIx xs.length xs.length hi - HT.sIx xs.length 0 lo),IsTup.new _ _⟩
theorem Vals.nil_iff{xs:List V}{us:List Value}(r:Vals xs us):us=[]↔xs=[]:=by
 cases r with
 | nil=>simp
 | cons _ _=>simp
end
end L2
namespace L2
open PySem PySem.Spec PyProof.Rows
noncomputable def ixN(n:Nat)(i:Int):Option Nat:=if 0<=i then (if i < n then some i.toNat else none) else if -(n:Int)<=i then some (i + n).toNat else none
noncomputable def atI{α:Type}(xs:List α)(i:Int):Option α:=(ixN xs.length i).bind fun j=>xs[j]?
theorem Zd5{n:Nat}{i:Int}{j:Nat}(h:ixN n i=some j):seqIndex? i n=some j/\j < n/\-(n:Int)<=i/\i < n:=by
 unfold ixN at h
 by_cases h0:0<=i
 ·rw [Qau h0] at h
  by_cases h1:i < n
  ·rw [Qau h1] at h
   have e:i.toNat=j:=Option.some.inj h
   exact ⟨by rw [seqIndex_of h0 h1,e],by lia,by lia,h1⟩
  ·rw [Qan h1] at h;cases h
 ·rw [Qan h0] at h
  by_cases h1:-(n:Int)<=i
  ·rw [Qau h1] at h
   have e:(i + n).toNat=j:=Option.some.inj h
   exact ⟨by rw [seqIndex_neg (by lia) h1,e],by lia,h1,by lia⟩
  ·rw [Qan h1] at h;cases h
theorem yl{α:Type}{xs:List α}{i:Int}{v:α}(h:atI xs i=some v):∃j,seqIndex? i xs.length=some j/\xs[j]?=some v/\j < xs.length/\-(xs.length:Int)<=i/\i < xs.length:=by
 unfold atI at h
 cases e:ixN xs.length i with
 | none=>rw [e] at h;cases h
 | some j =>
  rw [e] at h
  obtain ⟨h1,h2,h3,h4⟩:=Zd5 e
  exact ⟨j,h1,h,h2,h3,h4⟩
theorem Yl{α:Type}{xs:List α}{j:Nat}{v:α}(h:xs[j]?=some v):atI xs (j:Int)=some v:=by
 have hj:j < xs.length:=(Qah.mp h).1
 have e:ixN xs.length (j:Int)=some j:=by
  unfold ixN
  rw [Qau (by lia),Qau (by lia)];simp
 unfold atI;rw [e];exact h
theorem Zak{α:Type}(xs:List α)(v:α):atI (xs++[v]) (-1)=some v:=by
 have hl:(xs++[v]).length=xs.length + 1:=by simp
 have e:ixN (xs++[v]).length (-1)=some xs.length:=by
  unfold ixN
  rw [hl,Qan (by decide),Qau (by lia)]
  congr 1
  lia
 unfold atI
 rw [e]
 show (xs++[v])[xs.length]?=some v
 simp
noncomputable def wG(b:Expr):Prop:=∀o i,subscripted b false o i=operate [o,i] (getItem o i)
noncomputable def IxR(X:Cx)(r:R2):Prop :=
 ∀(value slice:Expr) (pins:List (Addr × Obj)) (s:Shared) (σ:St) (H:Hp) (x y:V) (v u:Value) (Q:VK),Inv X pins σ H s->RelV x v->RelV y u->r x y H Q ->
  subscripted slice false v u=operate [v,u] (getItem v u)->wpAny (model X.prog X.w) X.A (subscriptTail value slice v u) (EP X pins σ Q) X.xe s
noncomputable def MtR(X:Cx)(id:String)(r:V->List V->Hp->VK->Prop):Prop :=
 ∀(pins:List (Addr × Obj)) (s:Shared) (σ:St) (H:Hp) (x:V) (xs:List V) (v:Value) (us:List Value) (Q:VK),Inv X pins σ H s->RelV x v->Vals xs us->r x xs H Q ->
  wpAny (model X.prog X.w) X.A (call (.builtin id) (v::us)) (EP X pins σ Q) X.xe s
section
variable {X:Cx}{a b:Expr}{ta tb:TE}{pos:Pos}
theorem pe_ix{r:R2}(hr:IxR X r)(ha:PE X a ta)(hb:PE X b tb)(hs:wG b):PE X (.Subscript a b pos) (tOp r ta tb):=by
 intro pins s σ H Q I h
 exact Subscript_ (binT ha hb I h fun v u s2 x y H2 I2 rx ry q=>hr a b pins s2 σ H2 x y v u Q I2 rx ry q (hs _ _))
inductive Zcb(K:PySem.W.Frag)(x:V)(y:V)(H:Hp)(Q:VK):Prop
 | mk (p xs i v):(x=.ref p)->(y=.int i)->(SqL K H p xs)->(atI xs i=some v)->(Q v H)->Zcb K x y H Q
noncomputable def Zfy(K:PySem.W.Frag):R2:=fun x y H Q=>Zcb K x y H Q
inductive Zcc(K:PySem.W.Frag)(x:V)(y:V)(H:Hp)(Q:VK):Prop
 | mk (p xs i v):(x=.ref p)->(y=.int i)->(SqT K H p xs)->(atI xs i=some v)->(Q v H)->Zcc K x y H Q
noncomputable def Zd6(K:PySem.W.Frag):R2:=fun x y H Q=>Zcc K x y H Q
inductive Zcd(x:V)(y:V)(H:Hp)(Q:VK):Prop
 | mk (z i c):(x=.str z)->(y=.int i)->(z.length<=sizeLine)->(atI z.cps.toList i=some c)->(Q (.str ⟨#[c]⟩) H)->Zcd x y H Q
noncomputable def rIxS  : R2:=fun x y H Q=>Zcd x y H Q
theorem Zv:IxR X (Zfy X.K):=by
 intro value slice pins s σ H x y v u Q I rx ry h hs
 obtain ⟨p,xs,i,z,rfl,rfl,hq,he,q⟩:=h
 cases rx
 obtain ⟨t,rfl⟩:=ry
 obtain ⟨its,r,pl,hz⟩:=I.list hq
 obtain ⟨j,h1,h2,h3,h4,h5⟩:=yl he
 obtain ⟨w,ew,rw'⟩:=r.get h2
 have hl:=r.length
 have hn:=qG
 have fin:EP X pins σ Q w s:=⟨z,H,I,rw',q⟩
 by_cases h0:0<=i
 ·have hj:i.toNat=j:=by
   rw [seqIndex_of h0 h5] at h1
   exact Option.some.inj h1
  exact item_listR pl.isList h0 (by lia) (by rw [hj];simpa using ew) fin hs
 ·have hj:(i + (its.toArray.size:Int)).toNat=j:=by
   rw [seqIndex_neg (by lia) h4] at h1
   rw [Qas,<-hl]
   exact Option.some.inj h1
  exact subscriptTail_builtinR (x:=w) pl.isList.typeIs slot_list_getitem.lookup
   (wpAny_getItem_list_neg (Q:=fun r s'=>r=w/\EP X pins σ Q r s') pl.isList (by lia) (by rw [Qas] <;> lia) (by lia) (by rw [hj];simpa using ew) ⟨rfl,fin⟩) hs
theorem ZL:IxR X (Zd6 X.K):=by
 intro value slice pins s σ H x y v u Q I rx ry h hs
 obtain ⟨p,xs,i,z,rfl,rfl,hq,he,q⟩:=h
 cases rx
 obtain ⟨t,rfl⟩:=ry
 obtain ⟨its,r,pl,hz⟩:=I.tuple hq
 obtain ⟨j,h1,h2,h3,h4,h5⟩:=yl he
 obtain ⟨w,ew,rw'⟩:=r.get h2
 have hl:=r.length
 have hn:=qG
 have fin:EP X pins σ Q w s:=⟨z,H,I,rw',q⟩
 exact subscriptTail_builtinR (x:=w) pl.typeIs slot_tuple_getitem.lookup
  (getItem_tuple (j:=j) (Q:=fun r s'=>r=w/\EP X pins σ Q r s') pl (by lia) (by lia) (by rw [Qas,<-hl];exact h1) (by simpa using ew) ⟨rfl,fin⟩) hs
theorem wH:IxR X rIxS:=by
 intro value slice pins s σ H x y v u Q I rx ry h hs
 obtain ⟨z,i,c,rfl,rfl,hz,he,q⟩:=h
 obtain ⟨t,rfl⟩:=rx
 obtain ⟨t',rfl⟩:=ry
 obtain ⟨j,h1,h2,h3,h4,h5⟩:=yl he
 have hl:z.cps.toList.length=z.length:=by simp [Str.length]
 rw [hl] at h1 h4 h5
 have hn:=qG
 exact tail_any (typeIs_str s z t) slot_str_getitem.lookup (getItem_str (c:=c) (by
  have e1:decide (i < -(2 ^ 63:Int))=false:=Qad (by lia)
  have e2:decide (i>=2 ^ 63)=false:=Qad (by lia)
  rw [e1,e2,Bool.or_false]) (by rw [h1];simpa using h2) ⟨.str ⟨#[c]⟩,H,I.tok _,⟨_,rfl⟩,q⟩) hs
theorem jh(lo hi:Option Int)(n:Nat):(sliceBounds lo hi none n).1=((HT.sIx n 0 lo:Nat):Int)/\(sliceBounds lo hi none n).2.1=((HT.sIx n n hi:Nat):Int)/\(sliceBounds lo hi none n).2.2=1:=by
 refine ⟨?_,?_,rfl⟩
 ·cases lo with
  | none=>simp [sliceBounds,HT.sIx]
  | some i =>
   simp only [sliceBounds,HT.sIx,Option.getD_none,show (1:Int) > 0 by decide,Qd6]
   by_cases h:i < 0
   ·simp only [h,Qd6] <;> lia
   ·simp only [h,Qc8] <;> lia
 ·cases hi with
  | none=>simp [sliceBounds,HT.sIx]
  | some i =>
   simp only [sliceBounds,HT.sIx,Option.getD_none,show (1:Int) > 0 by decide,Qd6]
   by_cases h:i < 0
   ·simp only [h,Qd6] <;> lia
   ·simp only [h,Qc8] <;> lia
theorem z5(its:List Value)(lo hi:Option Int):slicePick its.toArray lo hi none=((its.drop (HT.sIx its.length 0 lo)).take (HT.sIx its.length its.length hi - HT.sIx its.length 0 lo)).toArray:=by
 obtain ⟨h1,h2,h3⟩:=jh lo hi its.toArray.size
 unfold slicePick
 rw [h1,h2,h3]
 simp only [sliceRange_one,pick_run,Qas] <;> rfl
inductive Zce(K:PySem.W.Frag)(x:V)(lo:Option Int)(hi:Option Int)(H:Hp)(Q:VK):Prop
 | mk (a xs):(x=.ref a)->(SqL K H a xs)->(∀p,H p=none->Q (.ref p) (upd H p (.lst (J1 xs lo hi))))->Zce K x lo hi H Q
noncomputable def rSlL(K:PySem.W.Frag):V->Option Int->Option Int->Hp->VK->Prop:=fun x lo hi H Q=>Zce K x lo hi H Q
theorem Xm:SlR X (rSlL X.K):=by
 intro pins s σ H x v vl vu lo hi sl Q I rx hs pl pu h
 obtain ⟨a,xs,rfl,hx,q⟩:=h
 cases rx
 obtain ⟨its,r,ht,hz⟩:=I.list hx
 have hlen:=r.length
 refine ⟨"list",_,slot_list_getitem.lookup,ht.isList.typeIs,?_⟩
 refine wpAny_getItem_list_slice ht.isList hs pl pu .none (by simp) ?_ (by rw [Qas] <;> lia)
 rw [z5,<-hlen]
 refine ⟨.ref s.heap.objs.size,_,I.laid (t':=s.toks) (o:=.lst (J1 xs lo hi)) (fun b ob q=>Heap.get?_push_of_some _ q) (Qaj _) ?_,rfl,q _ (I.hok.fresh (Qaj _))⟩
 exact ⟨Qba (qI xs lo hi) hz,_,0,(r.drop (HT.sIx xs.length 0 lo)).take (HT.sIx xs.length xs.length hi - HT.sIx xs.length 0 lo),Heap.get?_push_size _ rfl⟩
noncomputable def Xc:V->Bool
 | .non=>true
 | .bl _=>true
 | .int _=>true
 | .str _=>true
 | _=>false
noncomputable def eqV:V->V->Bool
 | .non,.non=>true
 | .bl a,.bl b=>a == b
 | .bl a,.int b=>(if a then 1 else 0) == b
 | .int a,.bl b=>a == (if b then 1 else 0)
 | .int a,.int b=>a == b
 | .str a,.str b=>a == b
 | _,_=>false
theorem ji{A:Around}{s:Shared}{y x:V}{u v:Value}(ry:RelV y u)(rx:RelV x v)(fy:Xc y=true)(fx:Xc x=true):SeqAt.EqAt A s u v (eqV y x):=by
 cases y with
 | non =>
  cases ry
  cases x with
  | non=>cases rx;exact SeqAt.EqAt.same _
  | bl b=>cases rx;exact SeqAt.EqAt.none_bool b
  | int b=>obtain ⟨t,rfl⟩:=rx;exact SeqAt.EqAt.none_int b t
  | str b=>obtain ⟨t,rfl⟩:=rx;exact SeqAt.EqAt.none_str b t
  | _=>exact absurd (show false=true from fx) Qax
 | bl a =>
  cases ry
  cases x with
  | non=>cases rx;exact SeqAt.EqAt.bool_none a
  | bl b=>cases rx;exact SeqAt.EqAt.bool_bool a b
  | int b=>obtain ⟨t,rfl⟩:=rx;exact SeqAt.EqAt.bool_int a b t
  | str b=>obtain ⟨t,rfl⟩:=rx;exact SeqAt.EqAt.bool_str a b t
  | _=>exact absurd (show false=true from fx) Qax
 | int a =>
  obtain ⟨t',rfl⟩:=ry
  cases x with
  | non=>cases rx;exact SeqAt.EqAt.int_none a t'
  | bl b=>cases rx;exact SeqAt.EqAt.int_bool a t' b
  | int b=>obtain ⟨t,rfl⟩:=rx;exact SeqAt.EqAt.int_int a t' b t
  | str b=>obtain ⟨t,rfl⟩:=rx;exact SeqAt.EqAt.int_str a t' b t
  | _=>exact absurd (show false=true from fx) Qax
 | str a =>
  obtain ⟨t',rfl⟩:=ry
  cases x with
  | non=>cases rx;exact SeqAt.EqAt.str_none a t'
  | bl b=>cases rx;exact SeqAt.EqAt.str_bool a t' b
  | int b=>obtain ⟨t,rfl⟩:=rx;exact SeqAt.EqAt.str_int a t' b t
  | str b=>obtain ⟨t,rfl⟩:=rx;exact SeqAt.EqAt.str_str a t' b t
  | _=>exact absurd (show false=true from fx) Qax
 | _=>exact absurd (show false=true from fy) Qax
noncomputable def eqU(x:V)(u:Value):Bool:=match u with
 | .none=>eqV .non x
 | .bool b=>eqV (.bl b) x
 | .int i _=>eqV (.int i) x
 | .str z _=>eqV (.str z) x
 | _=>false
theorem Zcf{x y:V}{u:Value}(r:RelV y u)(f:Xc y=true):eqU x u=eqV y x:=by
 cases y with
 | non=>cases r;rfl
 | bl b=>cases r;rfl
 | int i=>obtain ⟨t,rfl⟩:=r;rfl
 | str z=>obtain ⟨t,rfl⟩:=r;rfl
 | _=>exact absurd (show false=true from f) Qax
theorem qJ{x:V}:∀{xs:List V} {us:List Value},Vals xs us->xs.all Xc=true->us.any (eqU x)=xs.any fun y=>eqV y x
 | _,_,.nil,_=>rfl
 | y::xs,u::us,.cons r t,f=>by
  rw [Qci,Qbk] at f
  rw [Qea,Qea,Zcf r f.1,qJ t f.2]
theorem JC{A:Around}{s:Shared}{x:V}{v:Value}(rx:RelV x v)(fx:Xc x=true):∀{xs:List V} {us:List Value},Vals xs us->xs.all Xc=true->∀u∈us,SeqAt.EqAt A s u v (eqU x u)
 | _,_,.nil,_=>fun u hu=>by cases hu
 | y::xs,u::us,.cons r t,f=>fun u' hu=>by
  rw [Qci,Qbk] at f
  rcases Qak.mp hu with rfl | hu
  ·rw [Zcf r f.1];exact ji r rx f.1 fx
  ·exact JC rx fx t f.2 u' hu
noncomputable def inV(x:V)(xs:List V):Bool:=xs.any fun y=>eqV y x
inductive Zgg(K:PySem.W.Frag)(neg:Bool)(x:V)(y:V)(H:Hp)(Q:VK):Prop
 | mk (p xs):(y=.ref p)->((SqL K H p xs\/SqT K H p xs))->(Xc x=true)->(xs.all Xc=true)->(Q (.bl (if neg then !inV x xs else inV x xs)) H)->Zgg K neg x y H Q
noncomputable def rIn(K:PySem.W.Frag)(neg:Bool):R2:=fun x y H Q=>Zgg K neg x y H Q
theorem ZT:OpR X (compareOp .In) (rIn X.K false):=by
 intro pins s σ H x y v u Q I rx ry h
 obtain ⟨p,xs,rfl,hq,fx,fs,q⟩:=h
 cases ry
 rcases hq with hq | hq
 ·obtain ⟨its,r,pl,hz⟩:=I.list hq
  refine SeqAt.in_listAt (eqU x) pl.isList (fun w hw=>JC rx fx r fs w (by simpa using hw)) ⟨.bl _,H,I,rfl,?_⟩
  rw [show its.toArray.any (eqU x)=its.any (eqU x) by simp,qJ r fs]
  exact q
 ·obtain ⟨its,r,pl,hz⟩:=I.tuple hq
  refine SeqAt.in_tupleAt (eqU x) pl (fun w hw=>JC rx fx r fs w (by simpa using hw)) ⟨.bl _,H,I,rfl,?_⟩
  rw [show its.toArray.any (eqU x)=its.any (eqU x) by simp,qJ r fs]
  exact q
theorem jj:OpR X (compareOp .NotIn) (rIn X.K true):=by
 intro pins s σ H x y v u Q I rx ry h
 obtain ⟨p,xs,rfl,hq,fx,fs,q⟩:=h
 cases ry
 rcases hq with hq | hq
 ·obtain ⟨its,r,pl,hz⟩:=I.list hq
  refine SeqAt.notIn_listAt (eqU x) pl.isList (fun w hw=>JC rx fx r fs w (by simpa using hw)) ⟨.bl _,H,I,rfl,?_⟩
  rw [show its.toArray.any (eqU x)=its.any (eqU x) by simp,qJ r fs]
  exact q
 ·obtain ⟨its,r,pl,hz⟩:=I.tuple hq
  refine SeqAt.notIn_tupleAt (eqU x) pl (fun w hw=>JC rx fx r fs w (by simpa using hw)) ⟨.bl _,H,I,rfl,?_⟩
  rw [show its.toArray.any (eqU x)=its.any (eqU x) by simp,qJ r fs]
  exact q
theorem Zk:WJ X (.builtin "len") (fun xs H Q=>∃p ys,xs=[.ref p]/\(SqL X.K H p ys\/SqT X.K H p ys)/\Q (.int ys.length) H):=by
 intro pins s σ H xs us Q I r h
 obtain ⟨p,ys,rfl,hq,q⟩:=h
 obtain ⟨u,rfl,rx⟩:=vals1 r
 cases rx
 have hn:=qG
 rcases hq with hq | hq
 ·obtain ⟨its,r',pl,hz⟩:=I.list hq
  have hlen:=r'.length
  exact Calls.call_len_list pl.isList (by simp only [Qas] <;> lia) ⟨.int ys.length,H,I.tok _,⟨s.toks + 1,by rw [Qas,hlen]⟩,q⟩
 ·obtain ⟨its,r',pl,hz⟩:=I.tuple hq
  have hlen:=r'.length
  exact len_tuple pl (by simp only [Qas] <;> lia) ⟨.int ys.length,H,I.tok _,⟨s.toks + 1,by rw [Qas,hlen]⟩,q⟩
theorem jk:WJ X (.builtin "len") (fun xs H Q=>∃z,xs=[.str z]/\z.length<=sizeLine/\Q (.int z.length) H):=by
 intro pins s σ H xs us Q I r h
 obtain ⟨z,rfl,hz,q⟩:=h
 obtain ⟨u,rfl,t,rfl⟩:=vals1 r
 have hn:=qG
 exact len_str (by lia) ⟨.int z.length,H,I.tok _,⟨_,rfl⟩,q⟩
theorem ZM:WJ X (.type "tuple") (fun xs H Q=>∃p ys,xs=[.ref p]/\((SqL X.K H p ys/\∀l,H l=none->Q (.ref l) (upd H l (.tup ys)))\/(SqT X.K H p ys/\Q (.ref p) H))):=by
 intro pins s σ H xs us Q I r h
 obtain ⟨p,ys,rfl,h⟩:=h
 obtain ⟨u,rfl,rx⟩:=vals1 r
 cases rx
 rcases h with ⟨hq,q⟩ | ⟨hq,q⟩
 ·obtain ⟨its,r',pl,hz⟩:=I.list hq
  have hlen:=r'.length
  refine call_tuple_list pl.isList (fun h' kp=>?_) (by simp only [Qas] <;> lia)
  have I1:Inv X pins σ H { s with heap:=h' }:=I.kept (t':=s.toks) kp
  have I2:Inv X pins σ (upd H h'.objs.size (.tup ys)) { s with heap:=h'.push { cls:=.type "tuple",data:=.seq its.toArray } } :=
   I1.laid (t':=s.toks) (fun b o e=>Heap.get?_push_of_some _ e) (Qaj _) (show Y9 X.prog X.w _ _ _ (.tup ys) from ⟨hz,its,r',IsTup.new _ _⟩)
  exact ⟨.ref h'.objs.size,_,I2,rfl,q _ (I1.hok.fresh (Qaj _))⟩
 ·obtain ⟨its,r',pl,hz⟩:=I.tuple hq
  exact call_tuple_same pl ⟨.ref p,H,I,rfl,q⟩
noncomputable def tyV(K:PySem.W.Frag)(T:String)(x:V)(H:Hp):Prop:=match x with
 | .str _=>T = "str"
 | .int _=>T = "int"
 | .ref p=>(T = "list" /\ ∃xs,SqL K H p xs)\/(T = "tuple" /\ ∃o,K.lookup p=some o/\o.cls=.type "tuple" /\ o.dict=none) \/
   (T = "dict" /\ ((∃kvs,H p=some (.dK kvs))\/∃kvs,H p=some (.dT kvs)))\/(T = "set" /\ ∃S n,H p=some (.set S n))
 | _=>False
theorem Zcg{pins:List (Addr × Obj)}{σ:St}{H:Hp}{s:Shared}{T:String}{x:V}{v:Value}(I:Inv X pins σ H s)(r:RelV x v)(ty:tyV X.K T x H) :
  s.TypeIs v T/\∀a,v=.ref a->∃ob,s.heap.get? a=some ob/\ob.dict=none:=by
 cases x with
 | str z =>
  obtain ⟨t,rfl⟩:=r
  cases (show T = "str" from ty)
  exact ⟨typeIs_str s z t,fun _ e=>nomatch e⟩
 | int i =>
  obtain ⟨t,rfl⟩:=r
  cases (show T = "int" from ty)
  exact ⟨typeIs_int s i t,fun _ e=>nomatch e⟩
 | ref p =>
  cases r
  rcases ty with ⟨rfl,xs,hq⟩ | ⟨rfl,o,hk,hc,hd⟩ | ⟨rfl,hk⟩ | ⟨rfl,S,n,hk⟩
  ·obtain ⟨its,_,pl,_⟩:=I.list hq
   refine ⟨pl.isList.typeIs,fun a e=>?_⟩
   cases e
   obtain ⟨o,n,e,c,hd,_⟩:=pl
   exact ⟨o,e,hd⟩
  ·refine ⟨⟨o,I.kIn p o hk,hc⟩,fun a e=>?_⟩
   cases e
   exact ⟨o,I.kIn _ o hk,hd⟩
  ·have z:∃o,s.heap.get? p=some o/\o.ExactDict:=by
    rcases hk with ⟨kvs,hk⟩ | ⟨kvs,hk⟩
    ·obtain ⟨_,_,_,_,o,_,_,e,ex,_⟩:=I.hok p _ hk
     exact ⟨o,e,ex⟩
    ·obtain ⟨_,_,_,_,o,_,_,e,ex,_⟩:=I.hok p _ hk
     exact ⟨o,e,ex⟩
   obtain ⟨o,e,ex⟩:=z
   refine ⟨⟨o,e,ex.1⟩,fun a e2=>?_⟩
   cases e2
   exact ⟨o,e,ex.2.1⟩
  ·obtain ⟨o,_,_,_,e,ex,_⟩:=I.hok p _ hk
   refine ⟨⟨o,e,ex.1⟩,fun a e2=>?_⟩
   cases e2
   exact ⟨o,e,ex.2.1⟩
 | _=>exact False.elim ty
inductive Zch(K:PySem.W.Frag)(T:String)(r:V->List V->Hp->VK->Prop)(Q:VK)(x:V)(H1:Hp):Prop
 | mk  : (tyV K T x H1)->(r x [] H1 Q)->Zch K T r Q x H1
noncomputable def Zg4(K:PySem.W.Frag)(T:String)(r:V->List V->Hp->VK->Prop)(to:TE):TE:=fun σ H Q=>to σ H fun x H1=>Zch K T r Q x H1
inductive Zgh(K:PySem.W.Frag)(T:String)(r:V->List V->Hp->VK->Prop)(t:TA)(σ:St)(Q:VK)(x:V)(H1:Hp):Prop
 | mk  : (tyV K T x H1)->(t σ H1 fun xs H2=>r x xs H2 Q)->Zgh K T r t σ Q x H1
noncomputable def tBM(K:PySem.W.Frag)(T:String)(r:V->List V->Hp->VK->Prop)(to:TE)(t:TA):TE:=fun σ H Q=>to σ H fun x H1=>Zgh K T r t σ Q x H1
variable {o e:Expr}{es:List Expr}{to:TE}{t:TA}{name:Str}{apos cpos:Pos}{T id:String}{r:V->List V->Hp->VK->Prop}
theorem pe_bm0 (pa:PlainAttrs T) (slot:Slot T name id) (hty:typeOf (.builtin id)=pure (.type "method_descriptor")) (hm:MtR X id r) (ho:PE X o to)
  (hbase:attributeBase o name X.env (eval o X.env)=eval o X.env:=by rfl) (hline:(apos.endLine == cpos.line)=true:=by rfl):PE X (.Call (.Attribute o name apos) [] [] cpos) (Zg4 X.K T r to):=by
 intro pins s σ H Q I h
 refine wpAny_Call_method0_late hbase hline (thn (ho pins s σ H _ I h) fun v s1 ⟨x,H1,I1,r1,ty,q1⟩=>?_)
 obtain ⟨h1,h2⟩:=Zcg I1 r1 ty
 exact ⟨T,id,pa,slot,hty,h1,h2,Calls.callWith_builtin rfl (PySem.evalArgs_none (hm pins s1 σ H1 x [] v [] Q I1 r1 .nil q1))⟩
theorem pe_bm (pa:PlainAttrs T) (slot:Slot T name id) (hty:typeOf (.builtin id)=pure (.type "method_descriptor")) (hm:MtR X id r) (ho:PE X o to) (ha:PA X (e::es) t)
  (hbase:attributeBase o name X.env (eval o X.env)=eval o X.env:=by rfl)
  (hfew:((backTo cpos (starEach (e::es) X.env)).all (fun x=>!x.1) && (backToKw cpos (keywordEach [] X.env)).all (fun x=>x.1.isSome)
   && decide ((e::es).length + ([]:List Keyword).length + (if ([]:List Keyword).isEmpty then 0 else 1) < 30))=true:=by rfl)
  (hline:(apos.endLine == cpos.line)=true:=by rfl) (hs:starEach (e::es) X.env=(false,eval e X.env)::starEach es X.env:=by rfl) (hplain:(backTo cpos (starEach es X.env)).any (·.1)=false:=by rfl) :
  PE X (.Call (.Attribute o name apos) (e::es) [] cpos) (tBM X.K T r to t):=by
 intro pins s σ H Q I h
 refine wpAny_Call_method_late hbase hfew hline rfl (thn (ho pins s σ H _ I h) fun v s1 ⟨x,H1,I1,r1,ty,q1⟩=>?_)
 obtain ⟨h1,h2⟩:=Zcg I1 r1 ty
 refine ⟨T,id,pa,slot,hty,h1,h2,?_⟩
 have hA:=ha cpos pins s1 σ H1 _ I1 q1
 rw [hs] at hA ⊢
 refine Calls.callWith_builtin (by show (false || (backTo cpos (starEach es X.env)).any (·.1))=false;rw [hplain] <;> rfl) (Calls.evalArgs_plain ?_)
 exact thn hA fun us s2 ⟨vs,H2,I2,r2,q2⟩=>hm pins s2 σ H2 x vs v us Q I2 r1 r2 q2
/- xs.append(e), list.index on a module's tuple .. are MtR facts of 06m -/
end
end L2
namespace L2
open PySem PySem.Spec PyProof.Rows
noncomputable def MtM(X:Cx)(id:String)(r:V->List V->Hp->VK->Prop):Prop :=
 ∀(pins:List (Addr × Obj)) (s:Shared) (σ:St) (H:Hp) (x:V) (xs:List V) (v:Value) (us:List Value) (Q:VK),Inv X pins σ H s->RelV x v->Vals xs us->r x xs H Q ->
  wpAny (model X.prog X.w) X.A (call (.builtin id) (v::us)) (EP X pins σ Q) X.xe s
theorem Vals.one:∀{x:V} {us:List Value},Vals [x] us->∃u,us=[u]/\RelV x u
 | _,_,.cons r .nil=>⟨_,rfl,r⟩
theorem Vals.zero:∀{us:List Value},Vals [] us->us=[]
 | _,.nil=>rfl
theorem Vals.dropLast{xs:List V}{us:List Value}(h:Vals xs us):Vals xs.dropLast us.dropLast:=by
 induction h with
 | nil=>exact .nil
 | cons r t ih =>
  cases t with
  | nil=>exact .nil
  | cons q t'=>exact .cons r ih
theorem Vals.reverse{xs:List V}{us:List Value}(h:Vals xs us):Vals xs.reverse us.reverse:=by
 induction h with
 | nil=>exact .nil
 | cons r t ih=>rw [Qce,Qce];exact Vals.append ih (.cons r .nil)
theorem vW{α:Type}(l:List α):l.eraseIdx (l.length - 1)=l.dropLast:=by
 induction l with
 | nil=>rfl
 | cons a r ih =>
  cases r with
  | nil=>rfl
  | cons b r =>
   have e:(a::b::r).length - 1=((b::r).length - 1) + 1:=by
    have h1:(a::b::r).length=r.length + 2:=rfl
    have h2:(b::r).length=r.length + 1:=rfl
    lia
   rw [e,List.eraseIdx_cons_succ,ih]
   all_goals rfl
section
variable {X:Cx}{pins:List (Addr × Obj)}{σ:St}{H:Hp}{s:Shared}{l b:Addr}{xs ys zs:List V}
theorem Inv.lset{its its':List Value}{n:Nat}{f:Array Value->Array Value}{t':Nat}(I:Inv X pins σ H s)(hH:H l=some (.lst xs))
  (e:s.heap.get? l=some { cls:=.type "list",data:=.seq its.toArray n }) (hf:f its.toArray=its'.toArray) (hv:Vals ys its') (hz:ys.length<=sizeLine) :
  Inv X pins σ (upd H l (.lst ys)) { s with heap:=s.heap.update l (Obj.mapSeq f),toks:=t' }:=by
 have q:=PySem.IsL.update e f
 rw [hf] at q
 refine I.write (x:=l) (e:=l) (by rw [hH];exact trivial) (.inl rfl) (fun b' u hb hu=>(Heap.get?_update_other s.heap (Obj.mapSeq f) (Qc2 hb)).trans hu) ⟨_,q⟩ ?_
 exact ⟨hz,its',_,hv,q⟩
theorem Inv.lnew{its:List Value}{t':Nat}(I:Inv X pins σ H s)(hv:Vals ys its)(hz:ys.length<=sizeLine) :
  Inv X pins σ (upd H s.heap.objs.size (.lst ys)) { s with heap:=s.heap.push { cls:=.type "list",data:=.seq its.toArray },toks:=t' } :=
 I.laid (fun _ _ q=>Heap.get?_push_of_some _ q) (Qaj _) ⟨hz,its,0,hv,Heap.get?_push_size _ rfl⟩
theorem Inv.fresh(I:Inv X pins σ H s):H s.heap.objs.size=none:=I.hok.fresh (Qaj _)
theorem Inv.lstM (I:Inv X pins σ H s) (hH:H l=some (.lst xs)):xs.length<=sizeLine/\∃(its:List Value) (n:Nat),Vals xs its/\xs.length=its.length/\s.heap.get? l=some { cls:=.type "list",data:=.seq its.toArray n }:=by
 obtain ⟨z,its,n,r,e⟩:=I.hok l _ hH
 exact ⟨z,its,n,r,r.length,e⟩
end
section
variable {X:Cx}
inductive jm(x:V)(vs:List V)(H:Hp)(Q:VK):Prop
 | mk (l xs y):(x=.ref l)->(vs=[y])->(H l=some (.lst xs))->(xs.length < sizeLine)->(Q .non (upd H l (.lst (xs++[y]))))->jm x vs H Q
noncomputable def wI  : V->List V->Hp->VK->Prop:=fun x vs H Q=>jm x vs H Q
theorem Z9:MtM X "list.append" wI:=by
 intro pins s σ H x vs v us Q I rx rv h
 obtain ⟨l,xs,y,rfl,rfl,hH,hz,q⟩:=h
 cases rx
 obtain ⟨u,rfl,ru⟩:=rv.one
 obtain ⟨z,its,n,r,hl,e⟩:=I.lstM hH
 refine call_meets F.slot_list_append ⟨_,e,rfl⟩ F.entry_list_append (F.args_list_append_2 _ _) (PySem.list_append l its.toArray n u (by rw [Qas];lia)) ⟨e,?_⟩
 refine ⟨.non,_,I.lset (its':=its++[u]) hH e (by simp) (r.append (.cons ru .nil)) ?_,rfl,q⟩
 rw [Qac,List.length_singleton]
 lia
inductive Zci(x:V)(vs:List V)(H:Hp)(Q:VK):Prop
 | mk (l xs y):(x=.ref l)->(vs=[])->(H l=some (.lst xs))->(xs[xs.length - 1]?=some y)->(Q y (upd H l (.lst xs.dropLast)))->Zci x vs H Q
noncomputable def rPop  : V->List V->Hp->VK->Prop:=fun x vs H Q=>Zci x vs H Q
theorem qK:MtM X "list.pop" rPop:=by
 intro pins s σ H x vs v us Q I rx rv h
 obtain ⟨l,xs,y,rfl,rfl,hH,hy,q⟩:=h
 cases rx
 have hus:=rv.zero
 subst hus
 obtain ⟨z,its,n,r,hl,e⟩:=I.lstM hH
 obtain ⟨u,hu,ru⟩:=r.get hy
 have hy':its.toArray[its.toArray.size - 1]?=some u:=by
  show its.toArray[its.length - 1]?=some u
  rw [<-Array.getElem?_toList,<-hl]
  exact hu
 refine call_meets F.slot_list_pop ⟨_,e,rfl⟩ F.entry_list_pop (F.args_list_pop_1 _) (MeetsSeq.list_pop_last l its.toArray n u hy' (by rw [Qas];lia)) ⟨e,?_⟩
 refine ⟨y,_,I.lset (its':=its.dropLast) hH e ?_ r.dropLast ?_,ru,q⟩
 ·show its.toArray.eraseIdxIfInBounds (its.toArray.size - 1)=its.dropLast.toArray
  rw [Qas,List.eraseIdxIfInBounds_toArray,vW]
 ·rw [List.length_dropLast]
  lia
inductive Zcj(x:V)(y:V)(H:Hp)(Q:VK):Prop
 | mk (l b xs zs):(x=.ref l)->(y=.ref b)->(H l=some (.lst xs))->(H b=some (.lst zs))->(xs.length + zs.length<=sizeLine)->(∀p,H p=none->Q (.ref p) (upd H p (.lst (xs++zs))))->Zcj x y H Q
noncomputable def rCat  : R2:=fun x y H Q=>Zcj x y H Q
theorem qL:OpR X (binaryOp .Add) rCat:=by
 intro pins s σ H x y v u Q I rx ry h
 obtain ⟨l,b,xs,zs,rfl,rfl,hH,hB,hz,q⟩:=h
 cases rx
 cases ry
 obtain ⟨z,its,n,r,hl,e⟩:=I.lstM hH
 obtain ⟨z2,its2,n2,r2,hl2,e2⟩:=I.lstM hB
 refine PySem.P.add_list e e2 ?_ (by rw [Qas,Qas];lia)
 have ea:its.toArray++its2.toArray=(its++its2).toArray:=by simp
 rw [ea]
 exact ⟨.ref _,_,I.lnew (t':=s.toks) (r.append r2) (by rw [Qac];lia),rfl,q _ I.fresh⟩
end
section
variable {prog:Program}{w:World}{A:Around}{E:Value->Shared->Prop}{s:Shared}
end
section
variable {X:Cx}
end
end L2
namespace Att
open PySem PySem.W PySem.Calls PyProof.Rows
theorem qM{P:Params}{h:Heap}:∀(ns:List Int) (vs:List Value),WellAll P h vs (ns.map WData.int)->IntsAre vs ns:=by
 intro ns
 induction ns with
 | nil =>
  intro vs w
  rw [Qdq] at w
  cases w
  exact .nil
 | cons n ns ih =>
  intro vs w
  rw [Qa1] at w
  cases w with
  | cons a b =>
   cases a
   exact .cons _ _ (ih _ b)
theorem wJ{l:OpenLaw}{n:Nat}(hn:l.most=some n){P:Params}{h:Heap}{args:List WData}{vals:List Value}
  (hpre:l.row.toRowW.claim.pre args=true) (hwl:WellAll P h vals args) :
  ∃a vs ns,vals=[Value.ref a]/\args=[WData.list (ns.map WData.int)]/\h.get? a=some { cls:=.type "list",data:=.seq vs.toArray }/\IntsAre vs ns/\ns.length<=n:=by
 have hsh:WShape.hasAll [] args [.list .int]=true:=(pre_splitW hpre).1
 have hc:l.pre.holds [] { args:=args }=true:=(pre_splitW hpre).2
 obtain ⟨d,r,rfl,h1,h2⟩:=hasAllW_cons hsh
 obtain rfl:=hasAllW_nil h2
 obtain ⟨xs,rfl,h3⟩:=hasW_list h1
 obtain ⟨ns,rfl⟩:=items_int h3
 have hlen:ns.length<=n:=by
  unfold OpenLaw.pre at hc
  have h4:(WTm.not (.lt (.lit (.int (n:Int))) (.len (.arg 0)))).holds [] { args:=[.list (ns.map .int)] }=true:=by
   have h4:=(holds_andW hc).1
   rw [hn] at h4
   exact h4
  have h5:=condW_of h4 (w_not (w_lt w_lit (w_len_list (w_arg rfl))))
  rw [Qab] at h5
  refine Nat.le_of_not_lt fun q=>?_
  have q':(n:Int) < ((ns.length:Nat):Int):=by lia
  first
   | (rw [Qae q'] at h5;exact absurd h5 (by decide))
   | (simp at h5;lia)
 cases hwl with
 | cons w1 w2 =>
  cases w2
  cases w1 with
  | list ho hall=>exact ⟨_,_,ns,rfl,rfl,ho,qM ns _ hall,hlen⟩
theorem wK(l:OpenLaw)(args:List WData):l.row.toRowW.claim.post args (.bool true) args=true :=
 postW_of (r:=l.row.toRowW) (X:=(true == true))
  (show WShape.has [] (.bool true) .bool=true by first | rfl | decide | simp [WShape.has,WShape.arms,WShape.armsAll])
  (show (WTm.eq .res (.lit (.bool true))).value [] { args:=args,res:=some (.bool true),after:=args }=some (.bool (true == true)) from w_eq_bool (w_res rfl) w_lit) rfl
theorem attach_call{l:OpenLaw}{n:Nat}{q:Program}{loose:List Str}{XP:(Str->Option Value)->Heap->Prop}{YP:World->Heap->Prop}{d:DefRec}
  (hn:l.most=some n) (hdf:d.params.defaults=[])
  (call:∀(w:World) (s₀ s₁:Shared) (mg mb:Str->Option Value) (fa:Addr) (o:Obj) (pm cd doc:Value) (a:Addr) (vs:List Value) (ns:List Int),
   Ground q loose [] XP w s₀ mg mb s₁.heap->YP w s₁.heap ->
   s₁.heap.get? fa=some o->o.data=.func (docDef d.name d.params d.body d.scope pm cd doc)->s₁.heap.CodeRec cd d.name->mg d.name=some (.ref fa) ->
   s₁.heap.get? a=some { cls:=.type "list",data:=.seq vs.toArray }->IntsAre vs ns->ns.length<=n->s₁.gens=#[] ->
   codeAny (model l.prog w) callerA (.call (.ref fa) ⟨[.ref a],[]⟩) (fun r s'=>r=.ok (.ret (.bool true))/\OldK s₁.heap s'.heap/\s'.os=s₁.os/\AllBare s'.gens) s₁) :
  WalkO q loose XP YP l.row.toRowW d [] (fun f vs=>PySem.call f vs):=by
 intro w s₀ s₁ mg mb G Y fa o pm cd doc dV kV ho hd hcd hD hmg hg args vals as hpre hlay hrd hwl hlo
 obtain rfl:dV=.none:=Dflts.none hD hdf
 obtain rfl:kV=.none:=Dflts.noKw hD
 obtain ⟨a,vs,ns,rfl,rfl,hobj,hints,hlen⟩:=wJ hn hpre hwl
 refine enter_call (codeAny_mono (call w s₀ s₁ mg mb fa o pm cd doc a vs ns G Y ho (fd_plain hd) hcd hmg hobj hints hlen hg) fun r s' hq=>?_)
 obtain ⟨rfl,h2,h3,h4⟩:=hq
 exact ⟨.inl ⟨.bool true,.bool true,[],rfl,fun _=>rfl,.bool true,wK l _,fun _=>⟨List.Pairwise.nil,fun _ hm=>(nomatch hm)⟩⟩,h2,h3,h4⟩
section
variable {prog:Program}{w:World}{A:Around}{E:Value->Shared->Prop}{s:Shared}{K:Frag}
end
end Att
namespace L2
open PySem PySem.Spec PyProof.Rows
theorem jn:∀{vs:List Value} {ns:List Int},IntsAre vs ns->Vals (ns.map V.int) vs
 | _,_,.nil=>.nil
 | _,_,.cons n t h=>.cons ⟨t,rfl⟩ (jn h)
noncomputable def Zy(s:Stmt):Arguments:=match s with
 | .FunctionDef _ a _ _ _ _ _ _ _ _=>a
 | _=>{ posonlyargs:=[],args:=[],vararg:=none,kwonlyargs:=[],kw_defaults:=[],kwarg:=none,defaults:=[] }
noncomputable def Zw(s:Stmt):List Stmt:=match s with
 | .FunctionDef _ _ b _ _ _ _ _ _ _=>b
 | _=>[]
noncomputable def Zg(s:Stmt):Scope:=match s with
 | .FunctionDef _ _ _ _ _ _ sc _ _ _=>sc
 | _=>{ kind:=.function,names:=[],isGenerator:=false,isCoroutine:=false }
noncomputable abbrev CX0:CXT:=fun _ _ _ _ _ _=>False
noncomputable abbrev E0:XK:=fun _ _ _=>False
theorem ZK{X:Cx}:Passes CX0 X E0:=fun _ _ _ _ _ _ _ h=>h.elim
structure Fun(K:PySem.W.Frag)(x qual:Str)(st:Stmt)(f:Addr)(fd:FuncData):Prop where
 ex:∃(oc:Value) (od:Option Addr) (kV doc pm:Value) (an:Option Addr) (cdv ct:Value) (osl:Array (Option Value)),
  fd=PySem.W.fnOf x qual (Zy st) (Zw st) (Zg st) .none kV doc pm an cdv ct/\K.lookup f=some ⟨oc,od,.func fd,osl⟩/\PySem.W.codeIn K cdv qual=true
 kp:PySem.W.keepIn K (.ref f)=true
section
variable {P:Program}{w:World}{K:PySem.W.Frag}{mg:Str->Option Value}{base:Heap}
theorem Fun.ok{x qual:Str}{st:Stmt}{f:Addr}{fd:FuncData}{N ps:List Str}{k:Nat}{sp:Sp}(F:Fun K x qual st f fd)(S:Z1 N ps (Zg st))(len:∀vs H Q E,sp vs H Q E->vs.length=ps.length)
  (hbody:∀(cdv:Value) (A:Around) (outer:List Env) (s:Shared) (H:Hp) (vs:List V) (Q:VK) (E:XK),WL k (A.deeper (envOfC qual (Zg st) s.heap.objs.size f cdv))->sp vs H Q E ->
   ∃t,PSs (Zag CX0 P w K mg base N qual (Zg st) f cdv A outer s H E).nox (Zw st) t/\t { nx:=fun _ H'=>Q .non H',rt:=Q } (start N vs) H):ZO P w K mg base CX0 (k + 1) f fd ps sp:=by
 obtain ⟨oc,od,kV,doc,pm,an,cdv,ct,osl,rfl,lk,hcd⟩:=F.ex
 refine Zgf lk hcd S len fun A outer s H vs Q E hr hsp=>?_
 obtain ⟨t,h,q⟩:=hbody cdv A outer s H vs Q E hr hsp
 exact ⟨t,h.nox,q⟩
theorem Fun.binds{x qual:Str}{st:Stmt}{f:Addr}{fd:FuncData}{ps:List Str}(F:Fun K x qual st f fd)
  (h:∀(kV doc pm:Value) (an:Option Addr) (cdv ct:Value) (us:List Value),us.length=ps.length->bindArgs (PySem.W.fnOf x qual (Zy st) (Zw st) (Zg st) .none kV doc pm an cdv ct) ⟨us,[]⟩=pure (ps.zip us)):Binds K fd ps []:=by
 obtain ⟨oc,od,kV,doc,pm,an,cdv,ct,osl,rfl,lk,hcd⟩:=F.ex
 exact .all (h kV doc pm an cdv ct)
theorem ZD{x qual:Str}{st:Stmt}{f:Addr}{oc:Value}{od an:Option Addr}{osl:Array (Option Value)}{kV doc pm cdv ct:Value}(l:K.lookup f=some ⟨oc,od,.func (PySem.W.fnOf x qual (Zy st) (Zw st) (Zg st) .none kV doc pm an cdv ct),osl⟩)
  (c:PySem.W.codeIn K cdv qual=true) (k:PySem.W.keepIn K (.ref f)=true):Fun K x qual st f (PySem.W.fnOf x qual (Zy st) (Zw st) (Zg st) .none kV doc pm an cdv ct):=⟨⟨oc,od,kV,doc,pm,an,cdv,ct,osl,rfl,l,c⟩,k⟩
end
theorem Yj{A:Around}{k:Nat}(hr:WL k A):A.units + 1 < cLine:=Qdu (Nat.add_le_add_left (by decide:1<=64) _) hr.units
theorem Zp{n:Nat}(h:n<=1000):n < sizeLine:=Qdu h (by decide)
section
variable {X:Cx}
theorem pv (i:Nat) {x:Str} {pos:Pos} (hN:X.N[i]?=some x:=by rfl) (hv:Vis X.env.scope x:=by first | exact Or.inl rfl | exact Or.inr (Or.inl rfl) | exact Or.inr (Or.inr rfl)) (hd:(x == ("__debug__" : Str))=false:=by decide)
  (hcd:(x == ("__classdict__" : Str))=false:=by decide):PE X (.Name x pos) (jb i):=Zbz hN hv hd hcd
end
theorem ZU{A B:Prop}(h:B):if false=true then A else B:=by
 rw [Qan Qax]
 exact h
theorem YS{A B:Prop}(h:A):if true=true then A else B:=by
 rw [Qau rfl]
 exact h
theorem Gj{c A B:Prop}[Decidable c](h1:c->A)(h2:¬c->B):if c then A else B:=by
 by_cases h:c
 ·rw [Qau h]
  exact h1 h
 ·rw [Qan h]
  exact h2 h
noncomputable def ZG(H H':Hp):Prop:=∀b o,H b=some o->H' b=some o
theorem ZG.refl(H:Hp):ZG H H:=fun _ _ h=>h
theorem ZG.trans{H H1 H2:Hp}(a:ZG H H1)(b:ZG H1 H2):ZG H H2:=fun c o h=>b c o (a c o h)
theorem ZG.free{H H':Hp}(e:ZG H H'){l:Addr}(h:H' l=Option.none):H l=Option.none:=by
 cases q:H l with
 | none=>rfl
 | some o =>
  rw [e l o q] at h
  cases h
section
variable {X:Cx}
noncomputable def Zd7(i j:Int):Prop:=0 < j/\j.natAbs.log2 < 9000
theorem Ya:OpR X (binaryOp .FloorDiv) (rI Zd7 fun i j=>.int (i / j)):=opI fun i j _ _ _ _ _ hc q=>by
 have h1:(0:Int) < j:=hc.1
 exact floordiv_int (by lia) (by rw [Int.fdiv_eq_ediv_of_nonneg i (by lia)];exact q) (.inl (PyProof.noPylong_of_log2 hc.2))
theorem Zd7.of{i j:Int}(h1:0 < j)(h2:j < 2 ^ 250):Zd7 i j:=by
 refine ⟨h1,?_⟩
 have h3:j.natAbs < 2 ^ 250:=by lia
 have h4:j.natAbs≠0:=by lia
 have:=(Nat.log2_lt h4).mpr h3
 lia
noncomputable def Zal(i j:Int):Prop:=(i.natAbs < 2 ^ 250/\j.natAbs < 2 ^ 250)\/CMul i j
theorem Zal.ok{i j:Int}(h:Zal i j):IntMulOk i j:=by
 rcases h with ⟨h1,h2⟩ | h
 ·refine IntMulOk.of_bits (Qba (PyProof.Rows.intBits_le h1) (by decide)) (Qba (PyProof.Rows.intBits_le h2) (by decide))
 ·exact h.ok
theorem YT:OpR X (binaryOp .Mult) (rI Zal fun i j=>.int (i * j)):=opI fun _ _ _ _ _ _ _ hc q=>mul_int q hc.ok
inductive Zck(K:PySem.W.Frag)(xs:List V)(H:Hp)(Q:VK):Prop
 | mk (x T t b):(xs=[x,.ty T])->(vS K H x t)->(PySem.W.kitOne K t (.type T)=some b)->(Q (.bl b) H)->Zck K xs H Q
noncomputable def rIsi(K:PySem.W.Frag):List V->Hp->VK->Prop:=fun xs H Q=>Zck K xs H Q
theorem Xy:WJ X (.builtin "isinstance") (rIsi X.K):=by
 intro pins s σ H xs us Q I r h
 obtain ⟨x,T,t,b,rfl,ty,e,q⟩:=h
 obtain ⟨u,w',rfl,rx,rt⟩:=vals2 r
 cases rt
 exact wA I rx ty e fun tk=>⟨.bl b,H,I.tok tk,rfl,q⟩
end
noncomputable def Yx:Expr->Bool
 | .Starred _ _=>false
 | _=>true
theorem Z0{e:Expr}{rest:List Expr}{env:Env}(h:Yx e=true):starEach (e::rest) env=(false,eval e env)::starEach rest env:=by
 cases e <;> first
  | rfl
  | cases h
theorem Wk{pos:Pos}{env:Env}:∀{es:List Expr},es.all Yx=true->(backTo pos (starEach es env)).any (·.1)=false
 | [],_=>rfl
 | e::es,h=>by
  rw [Qci,Qbk] at h
  rw [Z0 h.1]
  show (false || (backTo pos (starEach es env)).any (·.1))=false
  rw [Wk h.2]
  rfl
theorem all_plain{pos:Pos}{env:Env}:∀{es:List Expr},es.all Yx=true->(backTo pos (starEach es env)).all (fun x=>!x.1)=true
 | [],_=>rfl
 | e::es,h=>by
  rw [Qci,Qbk] at h
  rw [Z0 h.1]
  show (true && (backTo pos (starEach es env)).all (fun x=>!x.1))=true
  rw [all_plain h.2]
  rfl
section
variable {X:Cx}{CX:CXT}{k:Nat}{f C:Addr}{fd:FuncData}{ps:List Str}{sp:Sp}{dvs:List V}{ds:List Value}{E:XK}{x m:Str}{p pos apos:Pos}{e o:Expr}{es:List Expr}{ta te:TE}{t:TA}{id T:String}{r:List V->Hp->VK->Prop}
theorem pa_c(ha:PE X e te)(hr:PA X es t)(hp:Yx e=true:=by rfl):PA X (e::es) (qH te t):=Zd0 ha hr (Z0 hp)
theorem Zam(F:ZO X.prog X.w X.K X.mg X.base CX k f fd ps sp)(hr:WL k X.A)(hg:Gl X x)(hm:X.mg x=some (.ref f))(hk:PySem.W.keepIn X.K (.ref f)=true)(hb:Binds X.K fd ps ds)(hd:Vals dvs ds)(hx:Passes CX X E)
  (ha:PA X (e::es) t) (hdb:(x == ("__debug__" : Str))=false:=by decide) (hp:(e::es).all Yx=true:=by rfl):PE X (.Call (.Name x p) (e::es) [] pos) (vT sp dvs E t):=by
 rw [Qci,Qbk] at hp
 exact Zd1 F hr hg hm hk hb hd hx ha hdb (Z0 hp.1) (Wk hp.2)
theorem wL (hc:WJ X (.builtin id) r) (hg:Gl X x) (hm:X.mg x=none) (hv:bootBuiltins x=some (.builtin id)) (ha:PA X (e::es) t) (hn:x ≠ "__name__" := by decide) (hdb:(x == ("__debug__" : Str))=false:=by decide)
  (hp:(e::es).all Yx=true:=by rfl):PE X (.Call (.Name x p) (e::es) [] pos) (tCB r t):=by
 rw [Qci,Qbk] at hp
 exact Zah hc hg hm hv ha hn hdb (Z0 hp.1) (Wk hp.2)
theorem wM (hc:WJ X (.type T) r) (hg:Gl X x) (hm:X.mg x=none) (hv:bootBuiltins x=some (.type T)) (ha:PA X (e::es) t) (hn:x ≠ "__name__" := by decide) (hdb:(x == ("__debug__" : Str))=false:=by decide)
  (hp:(e::es).all Yx=true:=by rfl):PE X (.Call (.Name x p) (e::es) [] pos) (tCB r t):=by
 rw [Qci,Qbk] at hp
 exact wC hc hg hm hv ha hn hdb (Z0 hp.1) (Wk hp.2)
theorem wN {tg a:Expr} (hg:Gl X "range") (hm:X.mg "range" = none) (ha:PA X [a] t) (hp:Yx a=true:=by rfl):PI X tg (.Call (.Name "range" p) [a] [] pos) (Zdt t) :=
 wq hg hm ha (by rw [Z0 hp];rfl)
theorem pe_bmF {name:Str} {cpos:Pos} {to:TE} {rm:V->List V->Hp->VK->Prop} (pa:PlainAttrs T) (slot:Slot T name id) (hty:typeOf (.builtin id)=pure (.type "method_descriptor")) (hm:MtR X id rm) (ho:PE X o to) (ha:PA X (e::es) t)
  (hbase:attributeBase o name X.env (eval o X.env)=eval o X.env:=by rfl) (hline:(apos.endLine == cpos.line)=true:=by rfl) (hp:(e::es).all Yx=true:=by rfl) (hl:(e::es).length < 30:=by decide) :
  PE X (.Call (.Attribute o name apos) (e::es) [] cpos) (tBM X.K T rm to t):=by
 have hp':=hp
 rw [Qci,Qbk] at hp'
 refine pe_bm pa slot hty hm ho ha hbase ?_ hline (Z0 hp'.1) (Wk hp'.2)
 rw [all_plain hp]
 show decide ((e::es).length + 0 + 0 < 30)=true
 exact Qae hl
end
theorem ZE:bootBuiltins "len" = some (.builtin "len"):=by decide +kernel
theorem ZN:bootBuiltins "isinstance" = some (.builtin "isinstance"):=by decide +kernel
theorem wO:bootBuiltins "sorted" = some (.builtin "sorted"):=by decide +kernel
theorem jo:bootBuiltins "int" = some (.type "int"):=by decide +kernel
theorem wQ:bootBuiltins "bool" = some (.type "bool"):=by decide +kernel
theorem Zd8:bootBuiltins "list" = some (.type "list"):=by decide +kernel
theorem YA:bootBuiltins "tuple" = some (.type "tuple"):=by decide +kernel
theorem ym:bootBuiltins "reversed" = some (.type "reversed"):=by decide +kernel
theorem Zan:bootBuiltins "range" = some (.type "range"):=by decide +kernel
theorem XH {K:PySem.W.Frag}:PySem.W.kitOne K (.type "int") (.type "int")=some true:=by rfl
theorem GG {K:PySem.W.Frag}:PySem.W.kitOne K (.type "int") (.type "bool")=some false:=by with_unfolding_all rfl
theorem J2 {K:PySem.W.Frag}:PySem.W.kitOne K (.type "tuple") (.type "tuple")=some true:=by rfl
theorem Xn {K:PySem.W.Frag}:PySem.W.kitOne K (.type "str") (.type "int")=some false:=by with_unfolding_all rfl
structure QE(X:Cx)(e:Expr)(t:TE):Prop where
 out:PE X e t
structure QT(X:Cx)(e:Expr)(t:TT):Prop where
 out:PT X e t
structure QW(X:Cx)(e:Expr)(t:TT):Prop where
 out:PW X e t
structure QA(X:Cx)(e:List Expr)(t:TA):Prop where
 out:PA X e t
structure QSs(X:Cx)(e:List Stmt)(t:TS):Prop where
 out:PSs X e t
structure QS(X:Cx)(e:Stmt)(t:TS):Prop where
 out:PS X e t
structure QG(X:Cx)(e:Expr)(t:TG):Prop where
 out:PG X e t
structure QI(X:Cx)(tg e:Expr)(t:TI):Prop where
 out:PI X tg e t
structure QO(X:Cx)(e:Option Expr)(t:TO):Prop where
 out:PO X e t
theorem qv {X:Cx} (i:Nat) {x:Str} {pos:Pos} (hN:X.N[i]?=some x:=by rfl) (hv:Vis X.env.scope x:=by first | exact Or.inl rfl | exact Or.inr (Or.inl rfl) | exact Or.inr (Or.inr rfl)) (hd:(x == ("__debug__" : Str))=false:=by decide) (hcd:(x == ("__classdict__" : Str))=false:=by decide):QE X (.Name x pos) (jb i):=⟨pv (i:=i) (hN:=hN) (hv:=hv) (hd:=hd) (hcd:=hcd)⟩
theorem Zd{X:Cx}{i j pos}:QE X (.Constant (.int i) j pos) (tC (.int i)):=⟨pe_int ⟩
theorem WK{X:Cx}{b j pos}:QE X (.Constant (.bool b) j pos) (tC (.bl b)):=⟨pe_bl ⟩
theorem Zh{X:Cx}{x j pos}:QE X (.Constant (.str x) j pos) (tC (.str x)):=⟨pe_str ⟩
theorem z6 {X:Cx} {x:Str} {v:V} {u:Value} {pos:Pos} (hg:Gl X x) (hm:X.mg x=some u) (r:RelV v u) (hd:(x == ("__debug__" : Str))=false:=by decide):QE X (.Name x pos) (tC v):=⟨Zdj (hg:=hg) (hm:=hm) (r:=r) (hd:=hd)⟩
theorem Wc {X:Cx} {x:Str} {v:V} {u:Value} {pos:Pos} (hg:Gl X x) (hm:X.mg x=none) (hv:bootBuiltins x=some u) (r:RelV v u) (hn:x ≠ "__name__" := by decide) (hd:(x == ("__debug__" : Str))=false:=by decide):QE X (.Name x pos) (tC v):=⟨Zdk (hg:=hg) (hm:=hm) (hv:=hv) (r:=r) (hn:=hn) (hd:=hd)⟩
theorem Zi{X:Cx}{a:Expr}{b:Expr}{ta:TE}{tb:TE}{pos:Pos}{op:Operator}{r:R2}(ho:OpR X (binaryOp op) r)(ha:QE X a ta)(hb:QE X b tb):QE X (.BinOp a op b pos) (tOp r ta tb):=⟨pe_op (ho:=ho) (ha:=ha.out) (hb:=hb.out)⟩
theorem Wd{X:Cx}{a:Expr}{ta:TE}{pos:Pos}{op:UnaryOp}{r:V->Hp->VK->Prop}(ho:UnR X (unaryOp op) r)(ha:QE X a ta):QE X (.UnaryOp op a pos) (tUn r ta):=⟨pe_un (ho:=ho) (ha:=ha.out)⟩
theorem WM{X:Cx}{a:Expr}{b:Expr}{ta:TE}{tb:TE}{pos:Pos}{op:CmpOp}{r:R2}(ho:OpR X (compareOp op) r)(ha:QE X a ta)(hb:QE X b tb)(hm:behindInMarks op b=false):QE X (.Compare a [op] [b] pos) (tOp r ta tb):=⟨Zdx (ho:=ho) (ha:=ha.out) (hb:=hb.out) (hm:=hm)⟩
theorem Zn{X:Cx}{a:Expr}{b:Expr}{ta:TE}{tb:TE}{pos:Pos}{op:CmpOp}{r:R2}(ho:OpR X (compareOp op) r)(ha:QE X a ta)(hb:QE X b tb)(hm:behindInMarks op b=false):QT X (.Compare a [op] [b] pos) (w5 (tOp r ta tb)):=⟨Zdy (ho:=ho) (ha:=ha.out) (hb:=hb.out) (hm:=hm)⟩
theorem X2{X:Cx}{e:Expr}{t:TE}(h:QE X e t)(he:∀whole,isTrue e X.env whole=(do let v <-whole;standAt e.pos;holding [v] (truthy v)):=by intro _;rfl):QT X e (tB t):=⟨pt_val (h:=h.out) (he:=he)⟩
theorem qN{X:Cx}{a:Expr}{pos:Pos}{tA:TT}(ha:QT X a tA):QW X (.BoolOp .And [a] pos) tA:=⟨Zdl (ha:=ha.out)⟩
theorem JD{X:Cx}{a:Expr}{pos:Pos}{tA:TT}(ha:QT X a tA):QW X (.BoolOp .Or [a] pos) tA:=⟨pw_or1 (ha:=ha.out)⟩
theorem jq{X:Cx}{a:Expr}{b:Expr}{pos:Pos}{tA:TT}{tB':TT}{rest:List Expr}(ha:QT X a tA)(hb:QW X (.BoolOp .And (b::rest) pos) tB'):QW X (.BoolOp .And (a::b::rest) pos) (tAnd tA tB'):=⟨pw_and (ha:=ha.out) (hb:=hb.out)⟩
theorem Gn{X:Cx}{a:Expr}{b:Expr}{pos:Pos}{tA:TT}{tB':TT}{rest:List Expr}(ha:QT X a tA)(hb:QW X (.BoolOp .Or (b::rest) pos) tB'):QW X (.BoolOp .Or (a::b::rest) pos) (tOr tA tB'):=⟨pw_or (ha:=ha.out) (hb:=hb.out)⟩
theorem WN{X:Cx}{a:Expr}{pos:Pos}{tA:TT}(ha:QT X a tA):QT X (.UnaryOp .Not a pos) (tNot tA):=⟨pt_not (ha:=ha.out)⟩
theorem xT{X:Cx}{a:Expr}{pos:Pos}{op}{t:TE}(h:QE X a t):QE X (.BoolOp op [a] pos) t:=⟨pe_one (h:=h.out)⟩
theorem yW{X:Cx}{a:Expr}{b:Expr}{ta:TE}{tb:TE}{pos:Pos}{rest:List Expr}(ha:QE X a ta)(hb:QE X (.BoolOp .And (b::rest) pos) tb):QE X (.BoolOp .And (a::b::rest) pos) (Zf6 ta tb):=⟨pe_and (ha:=ha.out) (hb:=hb.out)⟩
theorem Zgi{X:Cx}{a:Expr}{b:Expr}{ta:TE}{tb:TE}{pos:Pos}{rest:List Expr}(ha:QE X a ta)(hb:QE X (.BoolOp .Or (b::rest) pos) tb):QE X (.BoolOp .Or (a::b::rest) pos) (tOrV ta tb):=⟨pe_or (ha:=ha.out) (hb:=hb.out)⟩
theorem wR{X:Cx}{a:Expr}{ta:TE}{pos:Pos}(ha:QE X a ta):QE X (.UnaryOp .Not a pos) (Zf7 ta):=⟨pe_not (ha:=ha.out)⟩
theorem Zu{X:Cx}:QSs X [] Zdm:=⟨Zdn ⟩
theorem Zb{X:Cx}{st:Stmt}{rest:List Stmt}{t:TS}{u:TS}(h1:QS X st t)(h2:QSs X rest u):QSs X (st::rest) (YV t u):=⟨Zaa (h1:=h1.out) (h2:=h2.out)⟩
theorem Zf{X:Cx}{st:Stmt}{t:TS}(h1:QS X st t):QSs X [st] t:=⟨Zdo (h1:=h1.out)⟩
theorem ZY{X:Cx}{e:Expr}{te:TE}{pos:Pos}(he:QE X e te)(hs:swapsWith e none pos.line X.env=pure false:=by rfl):QS X (.Expr e pos) (Zdp te):=⟨Zdq (he:=he.out) (hs:=hs)⟩
theorem Zt{X:Cx}{e:Expr}{te:TE}{pos:Pos}(he:QE X e te):QS X (.Return (some e) pos) (tRet te):=⟨ps_ret (he:=he.out)⟩
theorem Z8{X:Cx}{t:TS}{u:TS}{pos:Pos}{c:Expr}{a b:List Stmt}{tc:TT}(hc:QT X c tc)(ha:QSs X a t)(hb:QSs X b u):QS X (.If c a b pos) (Zf8 tc t u):=⟨ps_if (hc:=hc.out) (ha:=ha.out) (hb:=hb.out)⟩
theorem Yc{X:Cx}{pos:Pos}{i:Nat}{x:Str}(hN:X.N.Nodup)(hi:X.N[i]?=some x)(hx:Loc X.env.scope x)(hf:X.fn x=true\/X.env.scope.names.lookup x=some .local:=by first | exact .inl rfl | exact .inr rfl | assumption):QG X (.Name x pos) (zw i):=⟨kZ (hN:=hN) (hi:=hi) (hx:=hx) (hf:=hf)⟩
theorem Zq{X:Cx}{pos:Pos}{i:Nat}{x:Str}{e:Expr}{te:TE}{pos':Pos}(hN:X.N.Nodup)(hi:X.N[i]?=some x)(hx:Loc X.env.scope x)(he:QE X e te)(hs:swapsWith e (some (.Name x pos')) pos.line X.env=pure false:=by rfl)(hf:X.fn x=true\/X.env.scope.names.lookup x=some .local:=by first | exact .inl rfl | exact .inr rfl | assumption):QS X (.Assign [.Name x pos'] e pos) (tAsg te (zw i)):=⟨ps_set (hN:=hN) (hi:=hi) (hx:=hx) (he:=he.out) (hs:=hs) (hf:=hf)⟩
theorem qr{X:Cx}{pos:Pos}{c:Expr}{body:List Stmt}{tc:TT}{tb:TS}(hp:PassesOwn (model X.prog X.w) X.A X.env X.xe)(hc:QT X c tc)(hb:QSs X body tb):QS X (.While c body [] pos) (we tc tb):=⟨Zab (hp:=hp) (hc:=hc.out) (hb:=hb.out)⟩
theorem We{X:Cx}{tg:Expr}{l:Expr}{tl:TE}(hl:QE X l tl):QI X tg l (wk X.K tl):=⟨Zds (hl:=hl.out)⟩
theorem GH{X:Cx}{tg:Expr}{l:Expr}{tl:TE}(hl:QE X l tl):QI X tg l (iTup X.K tl):=⟨pi_tup (hl:=hl.out)⟩
theorem YN{X:Cx}{tg:Expr}{iter:Expr}{body:List Stmt}{wi:TI}{g:TG}{tb:TS}{pos:Pos}(hp:PassesOwn (model X.prog X.w) X.A X.env X.xe)(hc:X.calm=true)(hi:QI X tg iter wi)(hg:QG X tg g)(hb:QSs X body tb)(hs:∀x,foldedSetIterable iter X.env x=pure x:=by intro _;rfl):QS X (.For tg iter body [] pos) (tFor wi g tb):=⟨ps_for (hp:=hp) (hc:=hc) (hi:=hi.out) (hg:=hg.out) (hb:=hb.out) (hs:=hs)⟩
theorem ZH{X:Cx}{es:List Expr}{t:TA}{pos:Pos}{x1}(h:QA X es t):QE X (.Tuple es x1 pos) (tTup t):=⟨pe_tup (h:=h.out)⟩
theorem Ys{X:Cx}{es:List Expr}{t:TA}{pos:Pos}(h:QA X es t):QE X (.List es pos) (tLst t):=⟨pe_lst (h:=h.out)⟩
theorem Ze{X:Cx}:QA X [] Zfx:=⟨pa_nil ⟩
theorem Zj{X:Cx}{e:Expr}{es:List Expr}{te:TE}{t:TA}(ha:QE X e te)(hr:QA X es t)(hp:Yx e=true:=by rfl):QA X (e::es) (qH te t):=⟨pa_c (ha:=ha.out) (hr:=hr.out) (hp:=hp)⟩
theorem Zr {X:Cx} {CX:CXT} {k:Nat} {f:Addr} {fd:FuncData} {ps:List Str} {sp:Sp} {dvs:List V} {ds:List Value} {E:XK} {x:Str} {p:Pos} {pos:Pos} {e:Expr} {es:List Expr} {t:TA} (F:ZO X.prog X.w X.K X.mg X.base CX k f fd ps sp) (hr:WL k X.A) (hg:Gl X x) (hm:X.mg x=some (.ref f)) (hk:PySem.W.keepIn X.K (.ref f)=true) (hb:Binds X.K fd ps ds) (hd:Vals dvs ds) (hx:Passes CX X E) (ha:QA X (e::es) t) (hdb:(x == ("__debug__" : Str))=false:=by decide) (hp:(e::es).all Yx=true:=by rfl):QE X (.Call (.Name x p) (e::es) [] pos) (vT sp dvs E t):=⟨Zam (F:=F) (hr:=hr) (hg:=hg) (hm:=hm) (hk:=hk) (hb:=hb) (hd:=hd) (hx:=hx) (ha:=ha.out) (hdb:=hdb) (hp:=hp)⟩
theorem Zm {X:Cx} {x:Str} {p:Pos} {pos:Pos} {e:Expr} {es:List Expr} {t:TA} {id:String} {r:List V->Hp->VK->Prop} (hc:WJ X (.builtin id) r) (hg:Gl X x) (hm:X.mg x=none) (hv:bootBuiltins x=some (.builtin id)) (ha:QA X (e::es) t) (hn:x ≠ "__name__" := by decide) (hdb:(x == ("__debug__" : Str))=false:=by decide) (hp:(e::es).all Yx=true:=by rfl):QE X (.Call (.Name x p) (e::es) [] pos) (tCB r t):=⟨wL (hc:=hc) (hg:=hg) (hm:=hm) (hv:=hv) (ha:=ha.out) (hn:=hn) (hdb:=hdb) (hp:=hp)⟩
theorem Yy {X:Cx} {x:Str} {p:Pos} {pos:Pos} {e:Expr} {es:List Expr} {t:TA} {T:String} {r:List V->Hp->VK->Prop} (hc:WJ X (.type T) r) (hg:Gl X x) (hm:X.mg x=none) (hv:bootBuiltins x=some (.type T)) (ha:QA X (e::es) t) (hn:x ≠ "__name__" := by decide) (hdb:(x == ("__debug__" : Str))=false:=by decide) (hp:(e::es).all Yx=true:=by rfl):QE X (.Call (.Name x p) (e::es) [] pos) (tCB r t):=⟨wM (hc:=hc) (hg:=hg) (hm:=hm) (hv:=hv) (ha:=ha.out) (hn:=hn) (hdb:=hdb) (hp:=hp)⟩
theorem Ym {X:Cx} {p:Pos} {pos:Pos} {t:TA} {tg a:Expr} (hg:Gl X "range") (hm:X.mg "range" = none) (ha:QA X [a] t) (hp:Yx a=true:=by rfl):QI X tg (.Call (.Name "range" p) [a] [] pos) (Zdt t):=⟨wN (hg:=hg) (hm:=hm) (ha:=ha.out) (hp:=hp)⟩
theorem Y3 {X:Cx} {apos:Pos} {e:Expr} {o:Expr} {es:List Expr} {t:TA} {id:String} {T:String} {name:Str} {cpos:Pos} {to:TE} {rm:V->List V->Hp->VK->Prop} (pa:PlainAttrs T) (slot:Slot T name id) (hty:typeOf (.builtin id)=pure (.type "method_descriptor")) (hm:MtR X id rm) (ho:QE X o to) (ha:QA X (e::es) t) (hbase:attributeBase o name X.env (eval o X.env)=eval o X.env:=by rfl) (hline:(apos.endLine == cpos.line)=true:=by rfl) (hp:(e::es).all Yx=true:=by rfl) (hl:(e::es).length < 30:=by decide):QE X (.Call (.Attribute o name apos) (e::es) [] cpos) (tBM X.K T rm to t):=⟨pe_bmF (pa:=pa) (slot:=slot) (hty:=hty) (hm:=hm) (ho:=ho.out) (ha:=ha.out) (hbase:=hbase) (hline:=hline) (hp:=hp) (hl:=hl)⟩
theorem GI {X:Cx} {o:Expr} {to:TE} {name:Str} {apos:Pos} {cpos:Pos} {T:String} {id:String} {r:V->List V->Hp->VK->Prop} (pa:PlainAttrs T) (slot:Slot T name id) (hty:typeOf (.builtin id)=pure (.type "method_descriptor")) (hm:MtR X id r) (ho:QE X o to) (hbase:attributeBase o name X.env (eval o X.env)=eval o X.env:=by rfl) (hline:(apos.endLine == cpos.line)=true:=by rfl):QE X (.Call (.Attribute o name apos) [] [] cpos) (Zg4 X.K T r to):=⟨pe_bm0 (pa:=pa) (slot:=slot) (hty:=hty) (hm:=hm) (ho:=ho.out) (hbase:=hbase) (hline:=hline)⟩
theorem YU{X:Cx}:QO X none yk:=⟨Zd3 ⟩
theorem Yu{X:Cx}{e:Expr}{te:TE}(h:QE X e te):QO X (some e) (Zd2 te):=⟨Zd4 (h:=h.out)⟩
theorem Yf{X:Cx}{e:Expr}{te:TE}{lo:Option Expr}{hi:Option Expr}{tl:TO}{th:TO}{pos:Pos}{p2:Pos}{r:V->Option Int->Option Int->Hp->VK->Prop}(hr:SlR X r)(he:QE X e te)(hl:QO X lo tl)(hu:QO X hi th):QE X (.Subscript e (.Slice lo hi none p2) pos) (tSl r te tl th):=⟨Zaj (hr:=hr) (he:=he.out) (hl:=hl.out) (hu:=hu.out)⟩
theorem Zz{X:Cx}{a:Expr}{b:Expr}{ta:TE}{tb:TE}{pos:Pos}{r:R2}(hr:IxR X r)(ha:QE X a ta)(hb:QE X b tb)(hs:wG b):QE X (.Subscript a b pos) (tOp r ta tb):=⟨pe_ix (hr:=hr) (ha:=ha.out) (hb:=hb.out) (hs:=hs)⟩
theorem JE{X:Cx}{e:Expr}{t:TT}(h:QW X e t):QT X e t:=⟨h.out.pt⟩
end L2
set_option maxHeartbeats 4000000
namespace L2
open PySem PySem.Spec PyProof.Rows
noncomputable def x9(cells:List (Str × Addr)):List (Str × NameKind)->List (Str × Addr)->List (Str × Addr)
 | [],acc=>acc
 | (n,k)::r,acc=>x9 cells r (if (k == NameKind.free)=true then (n,(cells.lookup n).getD 0)::acc else acc)
theorem xU{env:Env}:∀(names:List (Str × NameKind)) (acc:List (Str × Addr)),(∀y∈names,y.2=.free->∃c,env.cells.lookup y.1=some c) ->
  (forIn names acc fun (x:Str × NameKind) (r:List (Str × Addr))=>match x with
   | (name,kind)=>if (kind == NameKind.free)=true then do let a <-cellOf env name;pure (ForInStep.yield ((name,a)::r)) else pure (ForInStep.yield r):Sem (List (Str × Addr)))=pure (x9 env.cells names acc)
 | [],acc,_=>rfl
 | (n,k)::r,acc,h=>by
  rw [Qdd]
  have ih:=fun acc'=>xU (env:=env) r acc' fun y hy=>h y (Qag _ hy)
  by_cases hk:(k == NameKind.free)=true
  ·obtain ⟨c,hc⟩:=h (n,k) Qaf (by simpa using hk)
   have hc':env.cells.lookup n=some c:=hc
   have e:cellOf env n=pure c:=by unfold cellOf;rw [hc']
   simp only [hk,Qd6,e]
   rw [x9,Qau hk,hc']
   exact ih ((n,c)::acc)
  ·rw [x9,Qan hk]
   simp only [hk,Qc8]
   exact ih acc
theorem Gp{scope:Scope}{env:Env}(h:∀y∈scope.names,y.2=.free->∃c,env.cells.lookup y.1=some c):closureFor scope env=pure (x9 env.cells scope.names []):=by
 have e:=xU (env:=env) scope.names [] h
 unfold closureFor
 show (do let r <-_;pure r)=_
 rw [show (forIn scope.names ([]:List (Str × Addr)) fun (x:Str × NameKind) (r:List (Str × Addr))=>match x with
   | (name,kind)=>if (kind == NameKind.free)=true then do let a <-cellOf env name;pure (ForInStep.yield ((name,a)::r)) else pure (ForInStep.yield r):Sem (List (Str × Addr)))=pure (x9 env.cells scope.names []) from e]
 rfl
theorem qt{cells:List (Str × Addr)}:∀{names:List (Str × NameKind)} {acc:List (Str × Addr)},(∀y∈names,y.2=.free->∃c,cells.lookup y.1=some c)->(∀x c,acc.lookup x=some c->cells.lookup x=some c) ->
  ∀x c,(x9 cells names acc).lookup x=some c->cells.lookup x=some c
 | [],acc,_,ha,x,c,h=>ha x c h
 | (n,k)::r,acc,hf,ha,x,c,h=>by
  rw [x9] at h
  refine qt (names:=r) (fun y hy=>hf y (Qag _ hy)) (fun y d hd=>?_) x c h
  by_cases hk:(k == NameKind.free)=true
  ·rw [Qau hk] at hd
   obtain ⟨e,he⟩:=hf (n,k) Qaf (by simpa using hk)
   have he':cells.lookup n=some e:=he
   rw [he',Qbe] at hd
   cases hy:y == n with
   | true =>
    rw [hy] at hd
    have hy':y=n:=by simpa using hy
    rw [hy',he']
    exact hd
   | false =>
    rw [hy] at hd
    exact ha y d hd
  ·rw [Qan hk] at hd
   exact ha y d hd
theorem jr{cells:List (Str × Addr)}:∀{names:List (Str × NameKind)} {acc:List (Str × Addr)} {x:Str},(∃c,acc.lookup x=some c)->∃c,(x9 cells names acc).lookup x=some c
 | [],acc,x,h=>h
 | (n,k)::r,acc,x,h=>by
  rw [x9]
  refine jr (names:=r) ?_
  by_cases hk:(k == NameKind.free)=true
  ·rw [Qau hk,Qbe]
   cases hx:x == n with
   | true=>exact ⟨_,rfl⟩
   | false=>exact h
  ·rw [Qan hk];exact h
theorem JF{cells:List (Str × Addr)}:∀{names:List (Str × NameKind)} {acc:List (Str × Addr)} {x:Str},names.lookup x=some .free->∃c,(x9 cells names acc).lookup x=some c
 | [],acc,x,h=>by cases h
 | (n,k)::r,acc,x,h=>by
  rw [x9]
  rw [Qbe] at h
  cases hx:x == n with
  | true =>
   rw [hx] at h
   have hk:k=.free:=Option.some.inj h
   refine jr (names:=r) ?_
   rw [hk,Qau (show (NameKind.free == NameKind.free)=true by rfl),Qbe,hx]
   exact ⟨_,rfl⟩
  | false =>
   rw [hx] at h
   exact JF (names:=r) h
theorem GJ{scope:Scope}{env:Env}(hk:env.scope.kind=.function):∀{names:List (Str × NameKind)} {x:Str},names.lookup x=some .free->env.kindOf x=some .cell ->
  (names.map fun (n,k)=>if (k == NameKind.free && env.scope.kind == .function && env.kindOf n == some .cell)=true then (n,NameKind.cell) else (n,k)).lookup x=some .cell
 | [],_,h,_=>by cases h
 | (n,k)::r,x,h,hc=>by
  rw [Qbe] at h
  show List.lookup x ((if (k == NameKind.free && env.scope.kind == .function && env.kindOf n == some .cell)=true then (n,NameKind.cell) else (n,k))::_)=_
  cases hx:x == n with
  | true =>
   rw [hx] at h
   have hkk:k=.free:=Option.some.inj h
   have hxn:x=n:=by simpa using hx
   rw [hkk,hk,<-hxn,hc]
   simp [Qbe]
  | false =>
   rw [hx] at h
   have ih:=GJ (scope:=scope) hk (names:=r) h hc
   by_cases hq:(k == NameKind.free && env.scope.kind == .function && env.kindOf n == some .cell)=true
   ·rw [Qau hq,Qbe,hx];exact ih
   ·rw [Qan hq,Qbe,hx];exact ih
theorem JG{env:Env}:∀{names:List (Str × NameKind)} {x:Str},names.lookup x=some .free->env.kindOf x=some .free ->
  (names.map fun (n,k)=>if (k == NameKind.free && env.scope.kind == .function && env.kindOf n == some .cell)=true then (n,NameKind.cell) else (n,k)).lookup x=some .free
 | [],_,h,_=>by cases h
 | (n,k)::r,x,h,hc=>by
  rw [Qbe] at h
  show List.lookup x ((if (k == NameKind.free && env.scope.kind == .function && env.kindOf n == some .cell)=true then (n,NameKind.cell) else (n,k))::_)=_
  cases hx:x == n with
  | true =>
   rw [hx] at h
   have hkk:k=.free:=Option.some.inj h
   have hxn:x=n:=by simpa using hx
   have hq:¬(k == NameKind.free && env.scope.kind == .function && env.kindOf n == some .cell)=true:=by
    rw [<-hxn,hc,Qbk]
    exact fun z=>absurd z.2 (by decide)
   rw [Qan hq,Qbe,hx,hkk]
  | false =>
   rw [hx] at h
   have ih:=JG (names:=r) h hc
   by_cases hq:(k == NameKind.free && env.scope.kind == .function && env.kindOf n == some .cell)=true
   ·rw [Qau hq,Qbe,hx];exact ih
   ·rw [Qan hq,Qbe,hx];exact ih
theorem GK{env:Env}:∀{names:List (Str × NameKind)} {x:Str},(∀y∈names,y.2≠.cell) ->
    ((names.map fun (n,k)=>if (k == NameKind.free && env.scope.kind == .function && env.kindOf n == some .cell)=true then (n,NameKind.cell) else (n,k)).lookup x=some .cell \/
     (names.map fun (n,k)=>if (k == NameKind.free && env.scope.kind == .function && env.kindOf n == some .cell)=true then (n,NameKind.cell) else (n,k)).lookup x=some .free)->names.lookup x=some .free
  | [],_,_,h=>by rcases h with h | h <;> cases h
  | (n,k)::r,x,hn,h=>by
    have ih:=GK (env:=env) (names:=r) (x:=x) fun y hy=>hn y (Qag _ hy)
    rw [Qa1] at h
    rw [Qbe]
    by_cases hq:(k == NameKind.free && env.scope.kind == .function && env.kindOf n == some .cell)=true
    · have hk:k=.free:=by
        rw [Qbk,Qbk] at hq
        simpa using hq.1.1
      simp only [hq,Qd6,Qbe] at h
      cases hx:x == n with
      | true=>rw [hk]
      | false =>
        rw [hx] at h
        exact ih h
    · simp only [hq,Qb7,Qc8,Qbe] at h
      cases hx:x == n with
      | true =>
        rw [hx] at h
        rcases h with h | h
        · exact absurd (Option.some.inj h) (hn (n,k) Qaf)
        · exact h
      | false =>
        rw [hx] at h
        exact ih h
noncomputable def cxC(X:Cx)(N':List Str)(scope:Scope)(C:Addr)(s₂:Shared)(H₂:Hp)(ex:List Addr):Cx :=
 { X with N:=N',s₀:=s₂,H₀:=H₂,env:=compEnvC scope (x9 X.env.cells scope.names []) C X.env,outer:=X.stack,stack:=X.stack,ex:=ex,fn:=fun _=>false,pn:=[],xe:=fun _ _=>False }
noncomputable def qu(is:List Nat)(σ:St)(v:Option V):St:=v::is.map fun i=>(σ[i]?).getD none
structure YO(S scope:Scope)(N:List Str)(x:Str)(ys:List Str)(is:List Nat):Prop where
 kind:scope.kind=.function
 cell:∀y∈scope.names,y.2≠.cell
 names:∀y∈scope.names,y.2=.local->scope.names.lookup y.1=some .local
 own:scope.names.lookup x=some .local
 free:∀y∈scope.names,y.2=.free->S.names.lookup y.1=some .cell\/S.names.lookup y.1=some .free
 vis:∀p∈ys.zip is,N[p.2]?=some p.1/\scope.names.lookup p.1=some .free
 len:ys.length=is.length
 nd:(x::ys).Nodup
noncomputable def PF(X:Cx)(ifs:List Expr)(t:TT):Prop :=
 ∀(pins:List (Addr × Obj)) (s:Shared) (σ:St) (H:Hp) (Q:Bool->Hp->Prop),Inv X pins σ H s->t σ H Q ->
  wpAny (model X.prog X.w) X.A (forIn ifs true fun c r=>if r=true then do let ok <-isTrue c X.env (eval c X.env);pure (ForInStep.yield ok) else pure (ForInStep.yield r)) (TP X pins σ Q) X.xe s
structure QF(X:Cx)(ifs:List Expr)(t:TT):Prop where
 out:PF X ifs t
noncomputable def Zfz:TT:=fun _ H Q=>Q true H
theorem JH{X:Cx}:QF X [] Zfz:=⟨fun _ _ _ H _ I h=>wpAny_tests_nil ⟨H,I,h⟩⟩
theorem wU{X:Cx}{c:Expr}{t:TT}(h:QT X c t):QF X [c] t:=⟨fun pins s σ H Q I hw=>wpAny_tests_one (h.out pins s σ H Q I hw)⟩
section
variable {X:Cx}{S scope:Scope}{N:List Str}{x:Str}{ys:List Str}{is:List Nat}{pins:List (Addr × Obj)}{σ:St}{H₂:Hp}{s₂:Shared}{fp:List Addr}
theorem YO.cellOf'(K:YO S scope N x ys is)(hX:X.env.scope=S)(ok:X.Ok):∀y∈scope.names,y.2=.free->∃c,X.env.cells.lookup y.1=some c:=fun y hy h =>
 ok.has y.1 (by show X.env.scope.names.lookup y.1=_\/X.env.scope.names.lookup y.1=_;rw [hX];exact K.free y hy h)
theorem YO.cl(K:YO S scope N x ys is)(hX:X.env.scope=S)(ok:X.Ok):∀y c,(x9 X.env.cells scope.names []).lookup y=some c->X.env.cells.lookup y=some c :=
 qt (K.cellOf' hX ok) fun _ _ z=>by cases z
theorem yX{names:List (Str × NameKind)}{y:Str}{k:NameKind}(h:names.lookup y=some k):(y,k)∈names:=by
 induction names with
 | nil=>cases h
 | cons p r ih =>
  obtain ⟨n,k'⟩:=p
  rw [Qbe] at h
  cases hx:y == n with
  | true =>
   rw [hx] at h
   have e1:y=n:=by simpa using hx
   have e2:k'=k:=Option.some.inj h
   rw [e1,e2]
   exact Qaf
  | false =>
   rw [hx] at h
   exact Qag _ (ih h)
theorem wV(K:YO S scope N x ys is)(hX:X.env.scope=S)(I:Inv X pins σ H₂ s₂){C:Addr}(hC:s₂.heap.objs.size<=C)(hfp:∀b∈fp,yU X pins H₂ b)(hlt:∀b∈fp,b < s₂.heap.objs.size):(cxC X (x::ys) scope C s₂ H₂ fp).Ok where
 mod:=I.ok.mod
 kind:=K.kind
 glob:=I.ok.glob
 blt:=I.ok.blt
 above:=hC
 inj:=fun y z c h1 h2=>I.ok.inj y z c (K.cl hX I.ok y c h1) (K.cl hX I.ok z c h2)
 has:=fun y hy=>JF (GK (env:=X.env) K.cell hy)
 cab:=fun y c h=>by cases h
 hd:=I.ok.hd
 frames:=I.ok.frames
 stk:=.inl rfl
 exf:=fun b hb=>⟨fun e=>absurd (Qbf (hlt b hb) (Qba hC (Qet (Eq.symm e)))) (Qb3 _),fun y c h=>(hfp b hb).2.2.2.2.1 y c (K.cl hX I.ok y c h)⟩
 bs:=I.bs
 bsz:=Qba I.ok.bsz I.sz
 noex:=fun b o e hb=>by
  rcases (hfp b hb).2.2.2.1 with z | z
  ·exact I.ok.noex b o e z
  ·exact absurd (Qbf (Heap.lt_size e) (Qba I.ok.bsz z)) (Qb3 _)
 exfs:=fun b hb z=>by
  rcases Qak.mp (I.stkSub b z) with e | e
  ·exact (hfp b hb).2.1 e
  ·exact (hfp b hb).2.2.1 e
 funs:=I.stack
 frf:=I.stkFree
theorem Zd9(K:YO S scope N x ys is)(hX:X.env.scope=S)(hN:X.N=N)(hk:S.kind=.function)(I:Inv X pins σ H₂ s₂){C D:Addr}{h₁:Heap}{tk:Nat}{oD:Obj}(hC:s₂.heap.objs.size<=C)(hD:s₂.heap.objs.size<=D)(hDC:D≠C)
  (hfp:∀b∈fp,yU X pins H₂ b) (hlt:∀b∈fp,b < s₂.heap.objs.size) (old:∀b o,s₂.heap.get? b=some o->h₁.get? b=some o) (hn:h₁.Ns C fun _=>none) (hacc:h₁.get? D=some oD) (hod:∀v,oD.data≠.cell v) :
  Inv (cxC X (x::ys) scope C s₂ H₂ fp) [(D,oD)] (qu is σ none) H₂ { s₂ with heap:=h₁,toks:=tk }:=by
 have ok:=wV K hX I hC hfp hlt
 refine ⟨ok,rfl,I.bare,Un.kept old,⟨_,hn,fun i y v h1 h2 h3=>?_⟩,fun y c h=>?_,I.hok.fresh hC,fun y c h=>I.freeC y c (K.cl hX I.ok y c h),fun p hp=>?_,I.hok.kept old,?_⟩
 ·cases i with
  | zero =>
   have h2':some (none:Option V)=some (some v):=h2
   cases h2'
  | succ i =>
   have h1':ys[i]?=some y:=h1
   have h2':(is.map fun i=>(σ[i]?).getD none)[i]?=some (some v):=h2
   rw [Qao] at h2'
   cases hj:is[i]? with
   | none=>rw [hj] at h2';cases h2'
   | some j =>
    rw [hj] at h2'
    have h2'':(σ[j]?).getD none=some v:=Option.some.inj h2'
    have hσ:σ[j]?=some (some v):=by
     cases q:σ[j]? with
     | none=>rw [q] at h2'';cases h2''
     | some z=>rw [q] at h2'';exact congrArg some h2''
    have hz:(y,j)∈ys.zip is:=by
     obtain ⟨a1,e1⟩:=Qah.mp h1'
     obtain ⟨a2,e2⟩:=Qah.mp hj
     rw [<-e1,<-e2,<-Qes (h:=by rw [Qeu];lia)]
     exact Qbz _
    obtain ⟨v1,v2⟩:=K.vis _ hz
    have kc:X.env.kindOf y=some .cell\/X.env.kindOf y=some .free:=by show X.env.scope.names.lookup y=_\/X.env.scope.names.lookup y=_;rw [hX];exact K.free _ (yX v2) rfl
    obtain ⟨m,hm,hl⟩:=I.loc
    obtain ⟨u,r,l⟩:=hl j y v (by rw [hN];exact v1) hσ (.inr kc)
    refine ⟨u,r,.inr ?_⟩
    rcases l with ⟨l1,_⟩ | ⟨_,c,l2,l3⟩
    ·rcases kc with kc | kc <;> rw [kc] at l1 <;> cases l1
    ·obtain ⟨c',hc'⟩:=JF (cells:=X.env.cells) (acc:=[]) v2
     have e:c'=c:=by have:=K.cl hX I.ok y c' hc';rw [l2] at this;exact (Option.some.inj this).symm
     subst e
     refine ⟨kc.imp (GJ (scope:=scope) (by rw [hX];exact hk) v2) (JG v2),c',hc',?_⟩
     obtain ⟨o,ho,hd⟩:=l3
     exact ⟨o,old _ _ ho,hd⟩
 ·obtain ⟨v,o,ho,hd⟩:=I.cell y c (K.cl hX I.ok y c h)
  exact ⟨v,o,old _ _ ho,hd⟩
 ·have e:p=(D,oD):=by simpa [cxC] using hp
  subst e
  refine ⟨hacc,I.hok.fresh hD,hDC,fun z=>?_,hod⟩
  obtain ⟨_,o,ho,_⟩:=ok.funs.mem z
  exact absurd (Qbf (Heap.lt_size ho) hD) (Qb3 _)
 ·show (qu is σ none).length=(x::ys).length
  unfold qu
  rw [Qaz,Qab,Qaz,K.len]
theorem Zea(I:Inv X pins σ H₂ s₂){C D:Addr}{N':List Str}{σ':St}{H':Hp}{s':Shared}{pl:List (Addr × Obj)}(I':Inv (cxC X N' scope C s₂ H₂ fp) pl σ' H' s')(hD:s₂.heap.objs.size<=D)(hDn:H' D=none)
  (hfp:∀b∈fp,yU X pins H₂ b) {zs:List V} {its:List Value} {n:Nat} (hz:zs.length<=sizeLine) (r:Vals zs its) (hd:s'.heap.get? D=some { cls:=.type "list",data:=.seq its.toArray n }) :
  Inv X pins σ (upd H' D (.lst zs)) s':=by
 have b:Un (frs X.stack) fp H₂ H' s₂.heap s'.heap:=I'.base
 have ne:∀c o,s₂.heap.get? c=some o->c≠D:=fun c o e z=>absurd (Qbf (Heap.lt_size e) (Qba hD (Qet (Eq.symm z)))) (Qb3 _)
 have D2:H₂ D=none:=I.hok.fresh hD
 refine I.call' I'.os ⟨b.keep,b.slot,fun c o e n hx=>?_,b.there,fun c xs e=>?_,fun c o u e=>?_,fun c ps e=>?_⟩ (fun c u e=>?_) I'.bare fun c hc=>⟨(hfp c hc).2.2.2.1,(hfp c hc).2.1,(hfp c hc).2.2.2.2.1,(hfp c hc).2.2.2.2.2⟩
 ·rw [Zo (ne c o e)];exact b.free c o e n hx
 ·rw [Zo (Zs e D2)];exact b.tups c xs e
 ·rw [Zo (Zs e D2)];exact b.frzs c o u e
 ·rw [Zo (Zs e D2)];exact b.tbls c ps e
 ·by_cases hc:c=D
  ·subst hc
   rw [Za] at e
   cases e
   exact ⟨hz,its,n,r,hd⟩
  ·rw [Zo hc] at e
   exact (I'.hok c u e).stay (fun _ _ _ q=>q) (fun d q=>by rw [Zo (Zs q hDn)];exact q) fun d xs q=>by rw [Zo (Zs q hDn)];exact q
end
section
variable {prog:Program}{w:World}{A:Around}{R:Result->Shared->Prop}{s:Shared}
theorem wW{elt target iter:Expr}{ifs:List Expr}{scope:Scope}{pos:Pos}{it acc:Value}{env:Env}(I:Nat->Shared->Prop)
  (turn:∀n s,I n s->wpAny (model prog w) A (pyNext it) (fun r s₁=>match r with
   | none=>R (.ok .next) s₁
   | some v=>wpAny (model prog w) A (letOwnedTupleGo target it v) (fun _ s₁'=>wpAny (model prog w) A (assign target env v) (fun _ s₂ =>
     wpAny (model prog w) A (forIn ifs true fun c r=>if r=true then do let ok <-isTrue c env (eval c env);pure (ForInStep.yield ok) else pure (ForInStep.yield r)) (fun ok s₃ =>
      if ok=true then wpAny (model prog w) A (eval elt env) (fun x s₄ =>
       wpAny (model prog w) A (call (.builtin "list.append") [acc,x]) (fun _ s₅=>∃m,m < n/\I m s₅) (fun _ _=>False) s₄) (fun _ _=>False) s₃
      else ∃m,m < n/\I m s₃) (fun _ _=>False) s₂) (fun _ _=>False) s₁') (fun _ _=>False) s₁) (fun _ _=>False) s)
  (n:Nat) (h:I n s) :
  codeAny (model prog w) A (.compLoop (.ListComp elt [⟨target,iter,ifs,0⟩] scope pos) 0 it acc env) R s:=by
 refine codeAny_loop rfl I (fun n s hI=>?_) n h
 show wpAny _ A ((compTurn (.ListComp elt [⟨target,iter,ifs,0⟩] scope pos) 0 it acc env).onRaise (fun x=>do noteFrame x env;theTreesLotGoes x)) _ _ s
 refine wpAny_noted ?_
 rw [compTurn_list]
 have nf:∀{E:Value->Shared->Prop} (e:Value) (s':Shared),False->E e s':=fun _ _ z=>z.elim
 refine wpAny_bind (wpAny_standAt (wpAny_bind (wpAny_mono (turn n s hI) (fun r s₁ h₁=>?_) nf)))
 cases r with
 | none=>exact wpAny_pure h₁
 | some v =>
  refine wpAny_bind (wpAny_mono h₁ (fun _ s₁' h₁'=>?_) nf)
  refine wpAny_bind (wpAny_mono h₁' (fun _ s₂ h₂=>wpAny_bind (wpAny_mono h₂ (fun ok s₃ h₃=>?_) nf)) nf)
  cases ok with
  | false=>exact wpAny_pure ⟨rfl,h₃⟩
  | true =>
   exact wpAny_bind (wpAny_bind (wpAny_mono h₃ (fun x s₄ h₄=>wpAny_bind (wpAny_mono h₄ (fun _ s₅ h₅=>wpAny_pure (wpAny_pure ⟨rfl,h₅⟩)) nf)) nf))
end
noncomputable def z7(is:List Nat)(tc:TT)(te:TE)(σ:St)(Q:VK)(J:It)(H1:Hp):Prop:=∃W:Nat->Nat->List V->Hp->Prop,(∃m,W 0 m [] H1)/\∀i m zs H,W i m zs H ->
 (J.stop i H/\zs.length<=sizeLine/\∀p,H p=none->Q (.ref p) (upd H p (.lst zs))) \/
 (J.go i H/\zs.length<=sizeLine/\∀x H',J.yld i H x H'->tc (qu is σ (some x)) H' fun b H2=>if b=true then te (qu is σ (some x)) H2 fun y H3=>∃m',m' < m/\W (i + 1) m' (zs++[y]) H3 else ∃m',m' < m/\W (i + 1) m' zs H2)
noncomputable def Zgj(wi:TI)(is:List Nat)(tc:TT)(te:TE):TE:=fun σ H Q=>wi σ H (z7 is tc te σ Q)
section
variable {X:Cx}{S scope:Scope}{N:List Str}{x:Str}{ys:List Str}{is:List Nat}{pins:List (Addr × Obj)}{σ:St}{H₂:Hp}{s₂:Shared}{fp:List Addr}{elt iter:Expr}{px pos:Pos}{ifs:List Expr}{tc:TT}{te:TE}
theorem xV{J:It}{it:Addr}{tn:Nat->Heap->Prop}{Q:VK}{RR:Value->Addr->Result->Shared->Prop}{E:Value->Shared->Prop}(K:YO S scope N x ys is)(hX:X.env.scope=S)(hN:X.N=N)(hk:S.kind=.function)(hc:X.calm=true)
  (hf:∀C s₂ H₂ ex,QF (cxC X (x::ys) scope C s₂ H₂ ex) ifs tc) (he:∀C s₂ H₂ ex,QE (cxC X (x::ys) scope C s₂ H₂ ex) elt te)
  (I:Inv X pins σ H₂ s₂) (T:Turn X.prog X.w X.K (.Name x px) J fp it tn) (st:tn 0 s₂.heap) (hfp:∀b∈fp,yU X pins H₂ b)
  {W:Nat->Nat->List V->Hp->Prop} {m0:Nat} (w0:W 0 m0 [] H₂)
  (turn:∀i m zs H,W i m zs H->(J.stop i H/\zs.length<=sizeLine/\∀p,H p=none->Q (.ref p) (upd H p (.lst zs))) \/
   (J.go i H/\zs.length<=sizeLine/\∀x H',J.yld i H x H'->tc (qu is σ (some x)) H' fun b H2=>if b=true then te (qu is σ (some x)) H2 fun y H3=>∃m',m' < m/\W (i + 1) m' (zs++[y]) H3 else ∃m',m' < m/\W (i + 1) m' zs H2))
  (fin:∀D C s' H' m',Inv X pins σ H' s'->yU X pins H' C->s'.heap.Ns C m'->Q (.ref D) H'->RR (.ref D) C (.ok .next) s') :
  wpAny (model X.prog X.w) X.A (newList []) (fun acc s₃=>wpAny (model X.prog X.w) X.A (newFunctionEnv scope X.env.globals (x9 X.env.cells scope.names []) [] X.env.qual none .none (some X.env)) (fun cenv s₄ =>
   codeAny (model X.prog X.w) X.A (.compStart (.ListComp elt [⟨.Name x px,iter,ifs,0⟩] scope pos) 0 (.ref it) acc { cenv with scope:=relabel scope X.env }) (RR acc cenv.locals) s₄) E s₃) E s₂:=by
 refine wpAny_newObj_type (wpAny_newFunctionEnv K.cell (by intro y hy;simp at hy) (fun h₁ hns₁ hsb₁=>?_) K.kind)
 dsimp only at hns₁ hsb₁ ⊢
 generalize hH2:s₂.heap.push { cls:=.type "list",dict:=none,data:=.seq ([]:List Value).toArray }=H2 at hns₁ hsb₁ ⊢
 have hCs:H2.objs.size=s₂.heap.objs.size + 1:=by rw [<-hH2,Heap.size_push]
 have hDC:s₂.heap.objs.size≠H2.objs.size:=by rw [hCs];exact Qbv (Nat.lt_succ_self _)
 have hC:s₂.heap.objs.size<=H2.objs.size:=by rw [hCs];exact Qee _
 have hlt:∀b∈fp,b < s₂.heap.objs.size:=fun b hb=>by obtain ⟨o,e,_⟩:=T.obj 0 _ st b hb;exact Heap.lt_size e
 have old:∀b o,s₂.heap.get? b=some o->h₁.get? b=some o:=fun b o e=>hsb₁.extBut b o (by rw [hCs];exact Qbv (Nat.lt_succ_of_lt (Heap.lt_size e))) (Heap.get?_push_of_some _ (hH2 ▸ Heap.get?_push_of_some _ e))
 have hacc:h₁.get? s₂.heap.objs.size=some { cls:=.type "list",data:=.seq ([]:List Value).toArray 0 }:=hsb₁.extBut _ _ hDC (Heap.get?_push_of_some _ (hH2 ▸ Heap.get?_push_size _ rfl))
 have st₁:tn 0 h₁:=T.keep _ _ _ st fun b _ o e=>old b o e
 have fpC:∀{H':Hp} {pl:List (Addr × Obj)},(∀p∈pl,∀b∈fp,p.1≠b)->(∀b∈fp,H' b=none)->∀b∈fp,yU (cxC X (x::ys) scope H2.objs.size s₂ H₂ fp) pl H' b:=fun {H' pl} hpl hn b hb=>by
  have ok:=wV K hX I hC hfp hlt
  exact ⟨hn b hb,(ok.exf b hb).1,ok.exfs b hb,.inl hb,(ok.exf b hb).2,fun p hp=>hpl p hp b hb⟩
 have Dfp:∀(o:Obj),∀p∈[(s₂.heap.objs.size,o)],∀b∈fp,p.1≠b:=fun o p hp b hb e=>by
  have e1:p=(s₂.heap.objs.size,o):=by simpa using hp
  subst e1
  exact absurd (hlt b hb) (by rw [<-e];exact Qb3 _)
 have loop:∀s₃:Shared,s₃={ s₂ with heap:=h₁,toks:=s₂.toks + ([]:List (Str × Value)).length } ->
   codeAny (model X.prog X.w) X.A (.compLoop (.ListComp elt [⟨.Name x px,iter,ifs,0⟩] scope pos) 0 (.ref it) (.ref s₂.heap.objs.size) (compEnvC scope (x9 X.env.cells scope.names []) H2.objs.size X.env))
    (RR (.ref s₂.heap.objs.size) H2.objs.size) s₃:=by
  rintro s₃ rfl
  have I0:=Zd9 K hX hN hk I (tk:=s₂.toks + ([]:List (Str × Value)).length) hC (Qaj _) hDC hfp hlt old hns₁ hacc (fun v z=>by cases z)
  refine wW (fun n s'=>∃(i:Nat) (v0:Option V) (zs:List V) (its:List Value) (k:Nat) (H':Hp),Inv (cxC X (x::ys) scope H2.objs.size s₂ H₂ fp) [(s₂.heap.objs.size,{ cls:=.type "list",data:=.seq its.toArray k })] (qu is σ v0) H' s' /\
   Vals zs its/\tn i s'.heap/\(∀b∈fp,H' b=none)/\W i n zs H') ?_ m0 ⟨0,none,[],[],0,H₂,I0,.nil,st₁,fun b hb=>(hfp b hb).1,w0⟩
  rintro n s3 ⟨i,v0,zs,its,k,H3,I3,rv,st3,fr3,w3⟩
  have hD3:=I3.pin _ (Qa7 _ (Qav.mpr rfl))
  rcases turn i n zs H3 w3 with ⟨stop,hz,q⟩ | ⟨go,hz,step⟩
  ·refine thn (T.done (cxC X (x::ys) scope H2.objs.size s₂ H₂ fp) rfl rfl rfl hc i _ s3 _ H3 _ I3 (fpC (Dfp _) fr3) st3 stop) fun r s4 ⟨hr,I4⟩=>?_
   subst hr
   have hD4:=I4.pin _ (Qa7 _ (Qav.mpr rfl))
   have I5:=Zea I I4 (Qaj _) hD4.2.1 hfp hz rv hD4.1
   obtain ⟨m',hm',_⟩:=I4.loc
   refine fin _ _ s4 _ m' I5 ?_ hm' (q _ hD4.2.1)
   refine I.fpOk hC ?_
   rw [Zo (Qc2 hDC)]
   exact I4.free
  ·refine thn (T.item (cxC X (x::ys) scope H2.objs.size s₂ H₂ fp) rfl rfl rfl hc i _ s3 _ H3 _ I3 (fpC (Dfp _) fr3) st3 go) fun r s4 ⟨u,hr,h4⟩=>?_
   subst hr
   refine thn h4 fun _ s5 ⟨xv,H5,I5,r5,y5,st5,fr5⟩=>?_
   have I5':=I5.pinned (fpC (Dfp _) fr5) (T.obj _ _ st5)
   have pg:PG (cxC X (x::ys) scope H2.objs.size s₂ H₂ fp) (.Name x px) (zw 0):=kZ K.nd rfl (.inl (lookup_relabel_local K.own)) (.inr (lookup_relabel_local K.own))
   refine thn (pg _ s5 _ H5 xv u (fun σ2 H2=>σ2=qu is σ (some xv)/\H2=H5) I5' r5 ⟨rfl,rfl⟩) fun _ s6 ⟨σ6,H6,I6,e6,e6'⟩=>?_
   subst e6
   subst e6'
   have back:∀{s7:Shared} {H7:Hp},Inv (cxC X (x::ys) scope H2.objs.size s₂ H₂ fp) ([(s₂.heap.objs.size,{ cls:=.type "list",data:=.seq its.toArray k })]++jc fp s5.heap) (qu is σ (some xv)) H7 s7 ->
     tn (i + 1) s7.heap/\(∀b∈fp,H7 b=none)/\s7.heap.get? s₂.heap.objs.size=some { cls:=.type "list",data:=.seq its.toArray k }/\H7 s₂.heap.objs.size=none:=fun {s7 H7} I7=>by
    refine ⟨T.keep _ _ _ st5 fun b hb o e=>(I7.pin (b,o) (Qa7 _ (Qa7 _ (Jb hb e)))).1,fun b hb=>?_,?_,?_⟩
    ·obtain ⟨o,e,d⟩:=T.obj _ _ st5 b hb
     exact (I7.pin (b,o) (Qa7 _ (Qa7 _ (Jb hb e)))).2.1
    ·exact (I7.pin (s₂.heap.objs.size,{ cls:=.type "list",data:=.seq its.toArray k }) (Qa7 _ (Qcu _ (Qav.mpr rfl)))).1
    ·exact (I7.pin (s₂.heap.objs.size,{ cls:=.type "list",data:=.seq its.toArray k }) (Qa7 _ (Qcu _ (Qav.mpr rfl)))).2.1
   refine thn ((hf _ _ _ _).out _ s6 _ H6 _ I6 (step xv H6 y5)) fun b s7 ⟨H7,I7,q7⟩=>?_
   cases b with
   | false =>
    have q7':∃m',m' < n/\W (i + 1) m' zs H7:=by simpa using q7
    obtain ⟨m',hm',w7⟩:=q7'
    obtain ⟨b1,b2,b3,b4⟩:=back I7
    rw [Qan Qax]
    exact ⟨m',hm',i + 1,some xv,zs,its,k,H7,I7.unpinned,rv,b1,b2,w7⟩
   | true =>
    rw [Qau rfl]
    have q7':=q7
    rw [Qau rfl] at q7'
    refine thn ((he _ _ _ _).out _ s7 _ H7 _ I7 q7') fun yv s8 ⟨y,H8,I8,r8,m',hm',w8⟩=>?_
    obtain ⟨b1,b2,b3,b4⟩:=back I8
    refine append_at b3 (fun h9 sb9 e9=>?_) (by rw [Qas,<-rv.length];exact hz)
    have ok:=wV K hX I hC hfp hlt
    have I8':Inv (cxC X (x::ys) scope H2.objs.size s₂ H₂ fp) [] (qu is σ (some xv)) H8 s8:=I8.pins_of fun p hp=>by cases hp
    have I9:Inv (cxC X (x::ys) scope H2.objs.size s₂ H₂ fp) [] (qu is σ (some xv)) H8 { s8 with heap:=h9 }:=I8'.turned (t':=s8.toks) (it:=s₂.heap.objs.size) (fun b o hb e=>(sb9.2 b hb).trans e) b4 hDC (.inr (Qaj _))
     (fun y c h z=>by
      obtain ⟨v,o,ho,_⟩:=I.cell y c (K.cl hX I.ok y c h)
      have:=Heap.lt_size ho
      rw [z] at this
      exact Qb3 _ this) (fun p hp=>by cases hp)
    refine ⟨m',hm',i + 1,some xv,zs++[y],its++[yv],k + 1,H8,?_,rv.append (.cons r8 .nil),T.keep _ _ _ b1 fun b hb o e=>(sb9.2 b fun z=>absurd (hlt b hb) (by rw [z];exact Qb3 _)).trans e,b2,w8⟩
    refine I9.pins_of fun p hp=>?_
    have e1:p=(s₂.heap.objs.size,{ cls:=.type "list",data:=.seq (its++[yv]).toArray (k + 1) }):=by simpa using hp
    subst e1
    refine ⟨by rw [e9,List.push_toArray],b4,hDC,fun z=>?_,fun v z=>by cases z⟩
    obtain ⟨_,o,ho,_⟩:=ok.funs.mem z
    exact absurd (Heap.lt_size ho) (Qb3 _)
 exact codeAny_compStart_list (loop _ rfl) (T.self _ 0 _ _ _ st₁ (loop _ rfl))
end
section
variable {X:Cx}{S scope:Scope}{N:List Str}{x:Str}{ys:List Str}{is:List Nat}{elt iter:Expr}{px pos:Pos}{ifs:List Expr}{wi:TI}{tc:TT}{te:TE}
theorem Wy(K:YO S scope N x ys is)(hi:QI X (.Name x px) iter wi)(hf:∀C s₂ H₂ ex,QF (cxC X (x::ys) scope C s₂ H₂ ex) ifs tc)(he:∀C s₂ H₂ ex,QE (cxC X (x::ys) scope C s₂ H₂ ex) elt te)
  (hc:X.calm=true:=by rfl) (hX:X.env.scope=S:=by rfl) (hN:X.N=N:=by rfl) (hk:S.kind=.function:=by rfl) (hs:∀v,foldedSetIterable iter X.env v=pure v:=by intro _;rfl) :
  QE X (.ListComp elt [⟨.Name x px,iter,ifs,0⟩] scope pos) (Zgj wi is tc te):=by
 refine ⟨fun pins s σ H Q I h=>?_⟩
 rw [eval_ListComp]
 refine wpAny_comprehension_free (use:=none) rfl hs (Gp (K.cellOf' hX I.ok)) K.kind K.names (thn (hi.out pins s σ H _ I h) fun v s1 h1=>thn h1 fun itv s2 h2=>?_)
 obtain ⟨it,fp,tn,J,H2,rfl,I2,T,st2,f2,W,⟨m0,w0⟩,turn⟩:=h2
 refine xV (RR:=fun acc C=>compPost (model X.prog X.w) X.A X.xe none (EP X pins σ Q) acc C) K hX hN hk hc hf he I2 T st2 f2 w0 turn ?_
 intro D C s' H' m' I' fC hm' q
 obtain ⟨f0,f1,f3,f4,f5,f6⟩:=fC
 exact ⟨m',hm',fun h' hs'=>⟨.ref D,H',I'.turned (t':=s'.toks) (fun b o hb e=>(hs'.2 b hb).trans e) f0 f1 f4 f5 f6,rfl,q⟩⟩
theorem yo{i:Nat}{y:Str}{py spos:Pos}(hNd:X.N.Nodup)(hy:X.N[i]?=some y)(hl:X.env.scope.names.lookup y=some .local)(K:YO S scope N x ys is)(hi:QI X (.Name x px) iter wi)
  (hf:∀C s₂ H₂ ex,QF (cxC X (x::ys) scope C s₂ H₂ ex) ifs tc) (he:∀C s₂ H₂ ex,QE (cxC X (x::ys) scope C s₂ H₂ ex) elt te)
  (hsw:swapsWith (.ListComp elt [⟨.Name x px,iter,ifs,0⟩] scope pos) (some (.Name y py)) spos.line X.env=pure true:=by rfl)
  (hc:X.calm=true:=by rfl) (hX:X.env.scope=S:=by rfl) (hN:X.N=N:=by rfl) (hk:S.kind=.function:=by rfl) (hs:∀v,foldedSetIterable iter X.env v=pure v:=by intro _;rfl) :
  QS X (.Assign [.Name y py] (.ListComp elt [⟨.Name x px,iter,ifs,0⟩] scope pos) spos) (tAsg (Zgj wi is tc te) (zw i)):=by
 refine ⟨fun pins s σ H D I h=>?_⟩
 rw [exec_Assign_Name_used _ _ _ _ hsw]
 refine wpAny_bind (wpAny_standAt (wpAny_bind ?_))
 show wpAny _ X.A (do let _ <-comprehension (.ListComp elt [⟨.Name x px,iter,ifs,0⟩] scope pos) scope X.env _ (newList []) false (eval iter X.env) (some (assign (.Name y py) X.env))) _ _ s
 refine wpAny_bind (thn (wpAny_comprehension_free (use:=some (assign (.Name y py) X.env)) (Q:=fun _ s'=>SP X pins D .next s') rfl hs (Gp (K.cellOf' hX I.ok)) K.kind K.names
  (thn (hi.out pins s σ H _ I h) fun v s1 h1=>thn h1 fun itv s2 h2=>?_)) fun _ s' hq=>wpAny_pure (wpAny_pure hq))
 obtain ⟨it,fp,tn,J,H2,rfl,I2,T,st2,f2,W,⟨m0,w0⟩,turn⟩:=h2
 refine xV (RR:=fun acc C=>compPost (model X.prog X.w) X.A X.xe (some (assign (.Name y py) X.env)) (fun _ s'=>SP X pins D .next s') acc C) (Q:=fun v H=>D.nx (σ.set i (some v)) H) K hX hN hk hc hf he I2 T st2 f2 w0 turn ?_
 intro Dl C s' H' m' I' fC hm' q
 obtain ⟨f0,f1,f3,f4,f5,f6⟩:=fC
 show wpAny _ X.A (assign (.Name y py) X.env (.ref Dl)) _ _ _
 obtain ⟨oC,es,ep,hoC,hdC,hrC⟩:=hm'
 have Ip:Inv X (pins++[(C,oC)]) σ H' s':=I'.pins_of fun p hp=>(Qa6.mp hp).elim (fun z=>I'.pin p (Qa7 _ z)) fun z=>by
  have e:p=(C,oC):=by simpa using z
  subst e
  exact ⟨hoC,f0,f1,f3,fun v z=>by rw [hdC] at z;cases z⟩
 refine wpAny_assign_Name (JB Ip hNd hy (.inl hl) (v:=.ref Dl) rfl (fun s'' I''=>?_) (.inr hl))
 have hC2:=(I''.pin (C,oC) (Qa7 _ (Qa7 _ (Qav.mpr rfl)))).1
 refine ⟨m',⟨oC,es,ep,hC2,hdC,hrC⟩,fun h' hs'=>⟨_,H',I''.unpinned.turned (t':=s''.toks) (fun b o hb e=>(hs'.2 b hb).trans e) f0 f1 f4 f5 f6,q⟩⟩
end
theorem xW{lo:Int}{n:Nat}{is:List Nat}{tc:TT}{te:TE}{σ:St}{H:Hp}{Q:VK}(Pv:Nat->List V->Hp->Prop)(h0:Pv 0 [] H)(hl:∀i zs H,Pv i zs H->zs.length<=sizeLine)
  (hs:∀i zs H (R:List V->Hp->Prop),(∀zs H,Pv (i + 1) zs H->R zs H)->i < n->Pv i zs H->tc (qu is σ (some (.int (lo + i)))) H fun b H2=>if b=true then te (qu is σ (some (.int (lo + i)))) H2 fun y H3=>R (zs++[y]) H3 else R zs H2)
  (hd:∀zs H,Pv n zs H->∀p,H p=none->Q (.ref p) (upd H p (.lst zs))) :
  z7 is tc te σ Q (Itr lo n) H:=by
 refine ⟨fun i m zs H=>m=n - i/\i<=n/\Pv i zs H,⟨n,by simp,Qbg _,h0⟩,?_⟩
 rintro i m zs H ⟨rfl,hi,p⟩
 by_cases hlt:i < n
 ·refine .inr ⟨hlt,hl i zs H p,fun x H' y=>?_⟩
  obtain ⟨e,y⟩:=y
  subst e y
  exact hs i zs _ (fun zs H=>∃m',m' < n - i/\m'=n - (i + 1)/\i + 1<=n/\Pv (i + 1) zs H) (fun zs H q=>⟨n - (i + 1),by lia,rfl,hlt,q⟩) hlt p
 ·have e:i=n:=by lia
  subst e
  exact .inl ⟨Qaj _,hl _ _ _ p,hd zs H p⟩
theorem qw{K:PySem.W.Frag}{a:Addr}{xs:List V}{is:List Nat}{tc:TT}{te:TE}{σ:St}{H:Hp}{Q:VK}(Pv:Nat->List V->Hp->Prop)(h0:Pv 0 [] H)(hl:∀i zs H,Pv i zs H->zs.length<=sizeLine)(hq:∀i zs H,Pv i zs H->SqT K H a xs)
  (hs:∀i x zs H (R:List V->Hp->Prop),(∀zs H,Pv (i + 1) zs H->R zs H)->xs[i]?=some x->Pv i zs H->tc (qu is σ (some x)) H fun b H2=>if b=true then te (qu is σ (some x)) H2 fun y H3=>R (zs++[y]) H3 else R zs H2)
  (hd:∀zs H,Pv xs.length zs H->∀p,H p=none->Q (.ref p) (upd H p (.lst zs))) :
  z7 is tc te σ Q (Itt K a) H:=by
 refine ⟨fun i m zs H=>m=xs.length - i/\i<=xs.length/\Pv i zs H,⟨xs.length,by simp,Qbg _,h0⟩,?_⟩
 rintro i m zs H ⟨rfl,hi,p⟩
 by_cases hlt:i < xs.length
 ·refine .inr ⟨⟨xs,xs[i],hq i zs H p,Qaa hlt⟩,hl i zs H p,fun x H' y=>?_⟩
  obtain ⟨e,y⟩:=y
  subst e
  exact hs i x zs _ (fun zs H=>∃m',m' < xs.length - i/\m'=xs.length - (i + 1)/\i + 1<=xs.length/\Pv (i + 1) zs H) (fun zs H q=>⟨xs.length - (i + 1),by lia,rfl,hlt,q⟩) (y xs (hq i zs _ p)) p
 ·have e:i=xs.length:=by lia
  exact .inl ⟨⟨xs,hq i zs H p,by lia⟩,hl _ _ _ p,by rw [e] at p;exact hd zs H p⟩
end L2
namespace HT
open PySem PySem.Spec PyProof.Rows
section
variable {prog:Program}{w:World}{A:Around}{E:Value->Shared->Prop}{s:Shared}
theorem vX(n:Nat):Builtin.Slice.sliceAdjust none none (-1) (n:Int)=((n:Int) - 1,-1):=rfl
theorem vY(n:Nat):Builtin.Slice.slicePlaces ((n:Int) - 1) (-1) (-1)=n:=by
 unfold Builtin.Slice.slicePlaces
 have h1:¬((-1:Int) > 0):=by lia
 simp only [h1,Qc8]
 have e:(- -1:Int)=1:=by decide
 rw [e,Qbm]
 split <;> lia
theorem yY{α β:Type}{f g:α->Option β}:∀{l:List α},(∀x∈l,f x=g x)->l.filterMap f=l.filterMap g
 | [],_=>rfl
 | x::r,h=>by
  rw [Qc7,Qc7,h x Qaf,yY fun y hy=>h y (Qag _ hy)]
theorem Zao(xs:Array Value):((List.range xs.size).filterMap fun (m:Nat)=>xs[((xs.size:Int) - 1 + (m:Int) * -1).toNat]?).toArray=xs.toList.reverse.toArray:=by
 congr 1
 have e:((List.range xs.size).filterMap fun (m:Nat)=>xs[((xs.size:Int) - 1 + (m:Int) * -1).toNat]?)=((List.range xs.size).map fun k=>xs.size - 1 - k).filterMap (xs[·]?):=by
  rw [List.filterMap_map]
  refine yY fun m hm=>?_
  have:=Qek.mp hm
  have e:((xs.size:Int) - 1 + (m:Int) * -1).toNat=xs.size - 1 - m:=by lia
  rw [e]
  rfl
 rw [e,PySem.W.krv_range,List.filterMap_reverse,PySem.W.krv_all]
theorem qd{sl:Addr}{t:Tok}{n:Nat}{Q:Int × Int × Nat->Shared->Prop}(hs:s.heap.IsSliceOf sl .none .none (.int (-1) t))(h:Q ((n:Int) - 1,-1,n) s) :
  wpAny (model prog w) A (Builtin.Slice.sliceApplied (.ref sl) (pure (n:Int))) Q E s:=by
 obtain ⟨os,hos,hcs,hds⟩:=id hs
 unfold Builtin.Slice.sliceApplied Builtin.Slice.sliceFields
 refine wpAny_bind (wpAny_bind (wpAny_field hos hds (x:=.none) rfl (wpAny_bind (wpAny_field hos hds (x:=.none) rfl (wpAny_bind (wpAny_field hos hds (x:=.int (-1) t) rfl (wpAny_pure ?_)))))))
 refine wpAny_bind (slicePart_int ?_)
 show wpAny _ _ (if ((-1:Int) == 0)=true then _ else _) _ _ s
 rw [Qan (by decide)]
 refine wpAny_bind (slicePart_none (wpAny_bind (slicePart_none (wpAny_bind (wpAny_pure ?_)))))
 show wpAny _ _ (match Builtin.Slice.sliceAdjust none none (-1) (n:Int) with | (lo,hi)=>pure (lo,(-1:Int),Builtin.Slice.slicePlaces lo hi (-1))) _ _ s
 rw [vX n]
 show wpAny _ _ (pure ((n:Int) - 1,(-1:Int),Builtin.Slice.slicePlaces ((n:Int) - 1) (-1) (-1))) _ _ s
 rw [vY]
 exact wpAny_pure h
theorem getItem_tuple_rev{t sl:Addr}{u:Tok}{items:Array Value}{Q:Value->Shared->Prop}(ht:IsTup s.heap t items)(hs:s.heap.IsSliceOf sl .none .none (.int (-1) u))
  (h:Q (.ref s.heap.objs.size) { s with heap:=s.heap.push { cls:=.type "tuple",data:=.seq items.toList.reverse.toArray } })
  (hsz:items.size<=sizeLine):wpAny (model prog w) A (getItem (.ref t) (.ref sl)) Q E s:=by
 have htake:sizeOk (.seq items.toList.reverse.toArray):=by
  show items.toList.reverse.toArray.size<=sizeLine
  rw [Qas,Qb2,Qcc]
  exact hsz
 obtain ⟨os,hos,hcs,hds⟩:=id hs
 have hTs:s.TypeIs (.ref sl) "slice" := ⟨os,hos,hcs⟩
 unfold getItem
 try with_reducible refine wpAny_holding ?_
 first | refine wpAny_bind (wpAny_pure ?_) | skip
 refine wpAny_bind (wpAny_sequenceKey ht.typeIs (by decide) ?_)
 refine wpAny_bind (wpAny_callSpecial?_slot (name:=Str.ofString "__getitem__") ht.typeIs Qbb
  (wpAny_call_entry Qbb ht.typeIs entry_tuple_getitem ?_ (args_tuple_getitem _ _)))
 show wpAny _ _ (Builtin.Tuple.tupleItemsOf (.ref t) >>= _) _ _ s
 refine wpAny_bind (tupleItemsOf_ ht ?_)
 refine wpAny_bind (wpAny_typeOf hTs ?_)
 rw [Qau (by decide)]
 refine wpAny_bind (qd hs ?_)
 have hno:¬((((items.size:Int) - 1) == 0 && (-1:Int) == 1 && items.size == items.size)=true):=by
  intro q
  rw [Qbk,Qbk] at q
  have q1:(-1:Int)=1:=eq_of_beq q.1.2
  lia
 show wpAny _ _ (if ((((items.size:Int) - 1) == 0 && (-1:Int) == 1 && items.size == items.size))=true then _ else _) _ _ s
 rw [Qan hno,Zao]
 first
  | exact wpAny_bind (m:=Builtin.Tuple.tupleExact _) (wpAny_newObj_type (wpAny_pure ⟨_,rfl,wpAny_pure h⟩) htake)
  | exact wpAny_bind (m:=Builtin.Tuple.tupleExact _) (wpAny_newObj_type (wpAny_bind (wpAny_pure (wpAny_pure ⟨_,rfl,wpAny_pure h⟩))) htake)
  | exact wpAny_bind (wpAny_bind (m:=Builtin.Tuple.tupleExact _) (wpAny_newObj_type (wpAny_pure (wpAny_pure ⟨_,rfl,wpAny_pure h⟩)) htake))
  | exact wpAny_bind (wpAny_bind (m:=Builtin.Tuple.tupleExact _) (wpAny_newObj_type (wpAny_pure ⟨_,rfl,wpAny_pure h⟩) htake))
end
end HT
namespace L2
open PySem PySem.Spec PyProof.Rows
section
variable {X:Cx}{e st:Expr}{te ts:TE}{pos p2:Pos}
noncomputable def RvR(X:Cx)(r:V->Hp->VK->Prop):Prop :=
 ∀(pins:List (Addr × Obj)) (s:Shared) (σ:St) (H:Hp) (x:V) (v:Value) (t:Tok) (sl:Addr) (Q:VK),Inv X pins σ H s->RelV x v->s.heap.IsSliceOf sl .none .none (.int (-1) t)->r x H Q ->
  ∃T id,typeLookup (.type T) "__getitem__" = pure (some (.builtin id))/\s.TypeIs v T/\wpAny (model X.prog X.w) X.A (getItem v (.ref sl)) (EP X pins σ Q) X.xe s
noncomputable def tRv(r:V->Hp->VK->Prop)(te ts:TE):TE:=fun σ H Q=>te σ H fun x H1=>ts σ H1 fun y H2=>y=.int (-1)/\r x H2 Q
theorem qe_rev{r:V->Hp->VK->Prop}(hr:RvR X r)(he:QE X e te)(hst:QE X st ts):QE X (.Subscript e (.Slice none none (some st) p2) pos) (tRv r te ts):=by
 refine ⟨fun pins s σ H Q I h=>?_⟩
 refine Subscript_ (thn (he.out pins s σ H _ I h) fun v s1 ⟨x,H1,I1,r1,q1⟩=>?_)
 refine wpAny_Slice ?_
 rw [evalPart_none]
 refine wpAny_pure ?_
 refine wpAny_pure ?_
 rw [evalPart_some]
 refine thn (hst.out pins s1 σ H1 _ I1 q1) fun vs s3 ⟨y,H3,I3,r3,e3,q3⟩=>?_
 subst e3
 obtain ⟨t,rfl⟩:=r3
 have I4:Inv X pins σ H3 { s3 with heap:=s3.heap.push { cls:=.type "slice",data:=.fields #[.none,.none,.int (-1) t] } }:=I3.kept (t':=s3.toks) fun b ob q=>Heap.get?_push_of_some _ q
 obtain ⟨T,id,hT,ht,hg⟩:=hr pins { s3 with heap:=s3.heap.push { cls:=.type "slice",data:=.fields #[.none,.none,.int (-1) t] } } σ H3 x v t s3.heap.objs.size Q I4 r1 (Heap.IsSliceOf.new ..) q3
 show wpAny (model X.prog X.w) X.A (subscriptTail e (.Slice none none (some st) p2) v (.ref s3.heap.objs.size)) (EP X pins σ Q) X.xe { s3 with heap:=s3.heap.push { cls:=.type "slice",data:=.fields #[.none,.none,.int (-1) t] } }
 exact tail_any (ops:=[v,.ref s3.heap.objs.size]) ht hT hg (by with_unfolding_all rfl)
noncomputable def rRvT(K:PySem.W.Frag):V->Hp->VK->Prop:=fun x H Q=>∃a xs,x=.ref a/\SqT K H a xs/\∀p,H p=none->Q (.ref p) (upd H p (.tup xs.reverse))
theorem rv_tup:RvR X (rRvT X.K):=by
 intro pins s σ H x v t sl Q I rx hs h
 obtain ⟨a,xs,rfl,hx,q⟩:=h
 cases rx
 obtain ⟨its,r,ht,hz⟩:=I.tuple hx
 have hlen:its.toArray.size=xs.length:=by rw [Qas];exact r.length.symm
 refine ⟨"tuple",_,Qbb.lookup,ht.typeIs,?_⟩
 refine HT.getItem_tuple_rev ht hs ?_ (by rw [hlen];exact hz)
 refine ⟨.ref s.heap.objs.size,_,I.laid (t':=s.toks) (o:=.tup xs.reverse) (fun b ob q=>Heap.get?_push_of_some _ q) (Qaj _) ?_,rfl,q _ (I.hok.fresh (Qaj _))⟩
 exact ⟨by rw [Qb2];exact hz,_,r.reverse,IsTup.new _ _⟩
theorem wX{A:Around}{s:Shared}{xs:List V}{its its2:List Value}(r:Vals xs its)(r2:Vals xs its2)(f:xs.all Xc=true):∀j (h1:j < its.toArray.size) (h2:j < its2.toArray.size),SeqAt.EqAt A s its.toArray[j] its2.toArray[j] true:=by
 intro j h1 h2
 have l1:=r.length
 have hj:j < xs.length:=by rw [l1];simpa using h1
 obtain ⟨u,e1,q1⟩:=r.get (Qaa hj)
 obtain ⟨u2,e2,q2⟩:=r2.get (Qaa hj)
 have f1:Xc xs[j]=true:=Qck.mp f _ (Qbz hj)
 have e1':its.toArray[j]=u:=by
  have:its[j]?=some its[j]:=Qaa (by simpa using h1)
  rw [e1] at this
  simpa using (Option.some.inj this).symm
 have e2':its2.toArray[j]=u2:=by
  have:its2[j]?=some its2[j]:=Qaa (by simpa using h2)
  rw [e2] at this
  simpa using (Option.some.inj this).symm
 rw [e1',e2']
 have z:=ji (A:=A) (s:=s) q1 q2 f1 f1
 have e:eqV xs[j] xs[j]=true:=by
  cases h:xs[j] with
  | non=>rfl
  | bl b=>simp [eqV]
  | int i=>simp [eqV]
  | str x=>simp [eqV]
  | _=>rw [h] at f1;cases f1
 rw [e] at z
 exact z
noncomputable def rSameT(K:PySem.W.Frag)(b:Bool):R2:=fun x y H Q=>∃a c xs,x=.ref a/\y=.ref c/\SqT K H a xs/\SqT K H c xs/\xs.all Xc=true/\Q (.bl b) H
theorem all_true(n:Nat):((List.range n).all fun _=>true)=true:=by simp
theorem op_neT(hu:X.A.units < cLine):OpR X (compareOp .NotEq) (rSameT X.K false):=by
 intro pins s σ H x y v u Q I rx ry h
 obtain ⟨a,c,xs,rfl,rfl,ha,hc,f,q⟩:=h
 cases rx
 cases ry
 obtain ⟨its,r,p,_⟩:=I.tuple ha
 obtain ⟨its2,r2,p2,_⟩:=I.tuple hc
 refine SeqAt.RcNeAt.tuples (e:=fun _=>true) p p2 hu (wX r r2 f) X.prog X.w _ _ (ZS I q ?_)
 rw [all_true,Qas,Qas,<-r.length,<-r2.length]
 simp
end
theorem yZ{k:Nat}{A:Around}(hr:WL k A):A.units < cLine:=hr.units0
end L2
namespace RvT
open PySem PySem.Spec PyProof.Rows
theorem jt:Manifest.owners.lookup (String.ofList ['d','e','s','r','e','v','e','r'].reverse)=some Manifest.sig_reversed:=by kernel_rfl
theorem slot_next:Slot "reversed" "__next__" "reversed.__next__" :=
 .of (owner := "reversed") (n := "__next__") (by rw [typeLookup_type,builtinLookup_eq_fast];kernel_rfl) (by decide +kernel) (by decide +kernel) (by decide +kernel)
  (by first | exact .inl (by decide +kernel) | exact .inr (by decide +kernel)) (by rw [isSubtype_type];kernel_rfl)
theorem entry_next:entryFor table "reversed.__next__" = some Builtin.«reversed.__next__»:=entryFor_of_tree (by kernel_rfl)
theorem args_next (a:Value):argsOk "reversed.__next__" ⟨[a],[]⟩:=by
 unfold argsOk;rw [signature?_of (id := "reversed.__next__") (n:=['_','_','t','x','e','n','_','_']) (o:=['d','e','s','r','e','v','e','r']) (by kernel_rfl) jt];kernel_rfl
theorem ju:Slot "reversed" "__iter__" "reversed.__iter__" :=
 .of (owner := "reversed") (n := "__iter__") (by rw [typeLookup_type,builtinLookup_eq_fast];kernel_rfl) (by decide +kernel) (by decide +kernel) (by decide +kernel)
  (by first | exact .inl (by decide +kernel) | exact .inr (by decide +kernel)) (by rw [isSubtype_type];kernel_rfl)
theorem wY (a:Value):argsOk "reversed.__iter__" ⟨[a],[]⟩:=by
 unfold argsOk;rw [signature?_of (id := "reversed.__iter__") (n:=['_','_','r','e','t','i','_','_']) (o:=['d','e','s','r','e','v','e','r']) (by kernel_rfl) jt];kernel_rfl
theorem vZ:entryFor table "reversed.__iter__" = some Builtin.«dict_keyiterator.__iter__» :=
 entryFor_alias (id' := "dict_keyiterator.__iter__") (by kernel_rfl) (by first | rfl | decide +kernel | (unfold String.splitOn;simp +decide [String.splitOnAux])) (by decide +kernel) (by kernel_rfl)
theorem wZ:Slot "reversed" "__init__" "object.__init__" :=
 .of (owner := "object") (n := "__init__") (by rw [typeLookup_type,builtinLookup_eq_fast];kernel_rfl) (by decide +kernel) (by decide +kernel) (by decide +kernel)
  (by first | exact .inl (by decide +kernel) | exact .inr (by decide +kernel)) (by rw [isSubtype_type];kernel_rfl)
theorem called:TypeCalled "reversed" "reversed.__new__" "object.__init__" :=
 ⟨by decide +kernel,F.create_reversed,⟨_,_,F.mro_reversed⟩,F.made_reversed,F.plain_reversed_new,F.sub_reversed_self,wZ⟩
theorem yp:typeLookup (.type "tuple") "__reversed__" = pure none:=by rw [typeLookup_type,builtinLookup_eq_fast];kernel_rfl
theorem sub_tuple_dict:isSubtype (.type "tuple") (.type "dict")=pure false:=by rw [isSubtype_type];kernel_rfl
noncomputable def revObj (t:Addr) (i:Int):Obj:={ cls:=.type "reversed",data:=.fields #[.ref t,rawInt i] }
noncomputable def IsRev (h:Heap) (a t:Addr) (i:Int):Prop:=∃o,h.get? a=some o/\o.cls=.type "reversed" /\ o.data=.fields #[.ref t,rawInt i]
theorem IsRev.typeIs {s:Shared} {a t:Addr} {i:Int} (x:IsRev s.heap a t i):s.TypeIs (.ref a) "reversed" := let ⟨o,ho,hc,_⟩:=x;⟨o,ho,hc⟩
theorem IsRev.at{h h':Heap}{a t:Addr}{i:Int}(x:IsRev h a t i)(e:∀o,h.get? a=some o->h'.get? a=some o):IsRev h' a t i:=let ⟨o,ho,r⟩:=x;⟨o,e _ ho,r⟩
section
variable {prog:Program}{w:World}{A:Around}{E:Value->Shared->Prop}{s:Shared}
theorem XI(t:Addr)(items:Array Value)(hz:items.size < 2 ^ 63) :
  Meets (Builtin.«reversed.__new__» ⟨[.type "reversed",.ref t],[]⟩) (fun _ R s=>IsTup s.heap t items/\∀tk,R (.ok (.ret (.ref s.heap.objs.size))) { s with heap:=s.heap.push (revObj t ((items.size:Int) - 1)),toks:=tk }) :=
 .of_wp fun prog w A R s h=>by
  obtain ⟨ht,h⟩:=h
  unfold Builtin.«reversed.__new__»
  refine wpAny_bind (wpAny_of_eq (newClass_reversed _) ?_)
  try dsimp only
  refine wpAny_bind (wpAny_of_eq (a:=()) (by first | rfl | kernel_rfl) ?_)
  refine wpAny_bind (wpAny_of_eq (a:=()) (by first | rfl | kernel_rfl) ?_)
  try dsimp only
  refine wpAny_bind (wpAny_specialOf ht.typeIs yp ?_)
  try dsimp only
  refine wpAny_bind ?_
  show wpAny _ _ (isInstance (Value.ref t) (.type "dict") >>= _) _ _ _
  refine wpAny_bind (wpAny_isInstance (T := "tuple") (b:=false) ht.typeIs sub_tuple_dict ?_)
  simp only [Qb7,Qc8]
  refine wpAny_bind (wpAny_specialOf ht.typeIs Qbb.lookup ?_)
  try dsimp only
  rw [Qau (by decide +kernel)]
  refine wpAny_pure ?_
  simp only [Bool.not_true,Qb7,Qc8]
  refine wpAny_bind (len_tuple ht (by lia) ?_)
  refine wpAny_bind (wpAny_of_eq (a:=some (items.size:Int)) rfl ?_)
  try dsimp only
  refine wpAny_bind (m:=newObj (.type "reversed") (.fields #[.ref t,rawInt ((items.size:Int) - 1)])) (wpAny_newObj_type ?_)
  exact wpAny_pure ⟨_,rfl,h _⟩
theorem call_rev{t:Addr}{items:Array Value}{Q:Value->Shared->Prop}(ht:IsTup s.heap t items)(hz:items.size < 2 ^ 63)(h:∀tk,Q (.ref s.heap.objs.size) { s with heap:=s.heap.push (revObj t ((items.size:Int) - 1)),toks:=tk }) :
  wpAny (model prog w) A (call (.type "reversed") [.ref t]) Q E s :=
 callType_new called (by decide) (F.typeCall_reversed_1 _) (F.newCall_reversed_1 _) (fun obj=>F.args_object_init_2 obj _) F.entry_reversed_new (XI t items hz)
  ⟨ht,fun tk=>⟨⟨_,Heap.get?_push_size _ rfl,rfl⟩,h tk⟩⟩
theorem next_item{it t:Addr}{i:Nat}{items:Array Value}{x:Value}{Q:Option Value->Shared->Prop}(hit:IsRev s.heap it t (i:Int))(ht:IsTup s.heap t items)(hi:(i:Int) < 2 ^ 63)(hx:items[i]?=some x)(hne:t≠it)
  (hQ:∀h' tk,IsRev h' it t ((i:Int) - 1)->Heap.SameBut it s.heap h'->Q (some x) { s with heap:=h',toks:=tk }):wpAny (model prog w) A (pyNext (.ref it)) Q E s:=by
 obtain ⟨o,ho,hc,hd⟩:=id hit
 unfold pyNext
 refine wpAny_bind (wpAny_attempt (wpAny_callSpecial?_slot (name:=Str.ofString "__next__") hit.typeIs slot_next
  (wpAny_call_entry slot_next hit.typeIs entry_next ?_ (args_next _))))
 unfold Builtin.«reversed.__next__»
 refine wpAny_bind (wpAny_of_eq (a:=(Value.ref it,[])) rfl ?_)
 try dsimp only
 refine wpAny_bind (wpAny_field ho hd (x:=.ref t) rfl ?_)
 refine wpAny_bind (wpAny_field ho hd (x:=rawInt (i:Int)) rfl ?_)
 show wpAny _ _ (if (i:Int) < 0 then _ else _) _ _ s
 rw [Qan (by lia)]
 refine wpAny_bind (wpAny_specialOf ht.typeIs Qbb.lookup ?_)
 simp only [Option.isNone_some,Qb7,Qc8]
 refine wpAny_bind (wpAny_mkInt ?_)
 have hsz:=(Array.getElem?_eq_some_iff.mp hx).1
 refine wpAny_bind (wpAny_attempt (getItem_tuple (s:={ s with toks:=s.toks + 1 }) (j:=i) ht (by lia) hi (by rw [seqIndex_of (by lia) (by lia),Qat]) hx ?_))
 show wpAny _ _ (field (.ref it) 1 >>= _) _ _ _
 refine wpAny_bind (wpAny_field (s:={ s with toks:=s.toks + 1 }) ho hd (x:=rawInt (i:Int)) rfl ?_)
 show wpAny _ _ (setField (.ref it) 1 (rawInt ((i:Int) - 1)) >>= _) _ _ _
 refine wpAny_bind (wpAny_setField (s:={ s with toks:=s.toks + 1 }) ho hd (by simp) ?_)
 refine wpAny_pure ⟨x,rfl,wpAny_pure (hQ _ _ ?_ (Heap.SameBut.update ..))⟩
 exact ⟨_,Heap.get?_update_self _ ho (Obj.isFreed_of_fields (Obj.data_mapFields hd _)),(Obj.cls_mapFields ..).trans hc,by
  rw [Obj.data_mapFields hd];simp⟩
theorem next_end{it t:Addr}{Q:Option Value->Shared->Prop}(hh:A.handled=none)(hit:IsRev s.heap it t (-1))
  (hQ:∀h',(∀b o,b≠it->s.heap.get? b=some o->h'.get? b=some o)->Q none { s with heap:=h' }):wpAny (model prog w) A (pyNext (.ref it)) Q E s:=by
 obtain ⟨o,ho,hc,hd⟩:=id hit
 unfold pyNext
 refine wpAny_bind (wpAny_attempt (wpAny_callSpecial?_slot (name:=Str.ofString "__next__") hit.typeIs slot_next
  (wpAny_call_entry slot_next hit.typeIs entry_next ?_ (args_next _))))
 unfold Builtin.«reversed.__next__»
 refine wpAny_bind (wpAny_of_eq (a:=(Value.ref it,[])) rfl ?_)
 try dsimp only
 refine wpAny_bind (wpAny_field ho hd (x:=.ref t) rfl ?_)
 refine wpAny_bind (wpAny_field ho hd (x:=rawInt (-1)) rfl ?_)
 show wpAny _ _ (if (-1:Int) < 0 then _ else _) _ _ s
 rw [Qau (by decide)]
 refine wpAny_bind (wpAny_rule ?_)
 refine wpAny_bind ?_
 show wpAny _ _ (setField (.ref it) 1 (rawInt (-1)) >>= _) _ _ _
 refine wpAny_bind (wpAny_setField ho hd (by simp) ?_)
 have ho2:=Heap.get?_update_self (Obj.mapFields (·.setIfInBounds 1 (rawInt (-1)))) ho (Obj.isFreed_of_fields (Obj.data_mapFields hd _))
 refine wpAny_setField ho2 (Obj.data_mapFields hd _) (by simp) ?_
 first
 | show wpAny _ _ (newExc (.type "StopIteration") [] >>= _) _ _ _
 | (refine wpAny_bind ?_;show wpAny _ _ (newExc (.type "StopIteration") [] >>= _) _ _ _)
 refine wpAny_bind ?_
 simp only [newExc,newTuple]
 refine wpAny_bind (wpAny_newObj_type ?_ (by size_fits))
 refine wpAny_bind (m:=firstArgMember _ _) (wpAny_of_eq (a:=Value.none) (by first | rfl | (simp only [firstArgMember];rfl)) ?_)
 refine wpAny_newObj_type ?_ (by size_fits)
 simp only [raiseNew]
 refine wpAny_bind (wpAny_handled ?_)
 first | rw [show A.in1.handled=none from hh] | rw [hh]
 refine wpAny_bind (wpAny_pure (wpAny_throw ?_))
 refine wpAny_bind (wpAny_isInstance (T := "StopIteration") (b:=true) ⟨_,Heap.get?_push_size _ rfl,rfl⟩ isSubtype_stop ?_)
 refine wpAny_pure (hQ _ fun b ob hb e=>?_)
 exact Heap.get?_push_of_some _ (Heap.get?_push_of_some _ ((Heap.get?_update_other _ _ (Qc2 hb)).trans ((Heap.get?_update_other _ _ (Qc2 hb)).trans e)))
theorem iter_self{it t:Addr}{i:Int}{Q:Value->Shared->Prop}(hit:IsRev s.heap it t i)(h:Q (.ref it) s):wpAny (model prog w) A (pyIter (.ref it)) Q E s:=by
 refine wpAny_pyIter_slot hit.typeIs ju (wpAny_call_entry ju hit.typeIs vZ ?_ (wY _))
 show wpAny _ _ (ret (.ref it)) _ _ s
 exact wpAny_pure ⟨_,rfl,"reversed",_,hit.typeIs,slot_next.lookup,h⟩
end
end RvT
namespace L2
open PySem PySem.Spec PyProof.Rows
noncomputable def Itv(K:PySem.W.Frag)(a:Addr)(n:Nat):It :=
 ⟨fun i H=>∃xs x,SqT K H a xs/\xs.length=n/\xs.reverse[i]?=some x,fun i H x H'=>H'=H/\∀xs,SqT K H a xs->xs.reverse[i]?=some x,fun i _=>i=n⟩
theorem Zap{P:Program}{w:World}{K:PySem.W.Frag}{tg:Expr}(a it:Addr)(n:Nat)(hne:a≠it):Turn P w K tg (Itv K a n) [it] it (fun i h=>RvT.IsRev h it a ((n:Int) - 1 - (i:Int))) where
 mem:=by simp
 obj:=fun i h st b hb=>by
  have e:b=it:=by simpa using hb
  subst e
  obtain ⟨o,e,c,d⟩:=st
  exact ⟨o,e,fun v z=>by rw [d] at z;cases z⟩
 keep:=fun i h h' st k=>st.at fun o e=>k it (by simp) o e
 item:=by
  intro X hP hw hK hc i pins s σ H E I hf st hg
  subst hP hw hK
  obtain ⟨xs,x,hq,hn,hx⟩:=hg
  obtain ⟨its,rv,p,hz⟩:=I.tuple hq
  have hi:i < xs.length:=by
   have:=(Qah.mp hx).1
   rw [Qb2] at this
   exact this
  have hx':xs[xs.length - 1 - i]?=some x:=by rw [<-List.getElem?_reverse hi];exact hx
  obtain ⟨u,hu,ru⟩:=rv.get hx'
  obtain ⟨f0,f1,f2,f3,f4,f5⟩:=hf it (by simp)
  have e0:(n:Int) - 1 - (i:Int)=((xs.length - 1 - i:Nat):Int):=by lia
  have hl:=qG
  rw [e0] at st
  refine RvT.next_item (items:=its.toArray) (x:=u) st p (by lia) (by simpa using hu) hne fun h' tk st' sb=>?_
  have I1:Inv X pins σ H { s with heap:=h',toks:=tk }:=I.turned (fun b o hb e=>(sb.2 b hb).trans e) f0 f1 f3 f4 f5
  have e1:((xs.length - 1 - i:Nat):Int) - 1=(n:Int) - 1 - ((i + 1:Nat):Int):=by lia
  rw [e1] at st'
  obtain ⟨o,e,c,d⟩:=id st'
  exact ⟨u,rfl,Zac (s:={ s with heap:=h',toks:=tk }) e c d (by decide) ⟨x,H,I1,ru,⟨rfl,fun ys hy=>by rw [I.tuple_inj hy hq];exact hx⟩,st',fun b hb=>(hf b hb).1⟩⟩
 done:=by
  intro X hP hw hK hc i pins s σ H E I hf st hg
  subst hP hw hK
  obtain ⟨f0,f1,f2,f3,f4,f5⟩:=hf it (by simp)
  have hg':i=n:=hg
  have e0:(n:Int) - 1 - (i:Int)=-1:=by lia
  rw [e0] at st
  exact RvT.next_end (I.ok.hd hc) st fun h' eb=>⟨rfl,I.turned (t':=s.toks) (fun b o hb e=>eb b o hb e) f0 f1 f3 f4 f5⟩
 self:=fun _ _ _ _ _ st h=>RvT.iter_self st h
inductive Zcm(K:PySem.W.Frag)(R:It->Hp->Prop)(x:V)(H1:Hp):Prop
 | mk (a xs):(x=.ref a)->(SqT K H1 a xs)->(R (Itv K a xs.length) H1)->Zcm K R x H1
noncomputable def iRev(K:PySem.W.Frag)(te:TE):TI:=fun σ H R=>te σ H fun x H1=>Zcm K R x H1
theorem gc {X:Cx} {tg e:Expr} {te:TE} {p pos:Pos} (hg:Gl X "reversed") (hm:X.mg "reversed" = none) (he:QE X e te) (hp:Yx e=true:=by rfl):QI X tg (.Call (.Name "reversed" p) [e] [] pos) (iRev X.K te):=by
 refine ⟨fun pins s σ H R I h=>?_⟩
 have hs:starEach [e] X.env=[(false,eval e X.env)]:=by rw [Z0 hp];rfl
 refine Call_ (GC I hg hm ym (Qch ?_ hs rfl))
 rw [hs]
 show wpAny _ _ (spliced ((false,eval e X.env)::[])) _ _ s
 refine Calls.spliced_cons (thn (he.out pins s σ H _ I h) fun u s1 ⟨x,H1,I1,ru,q1⟩=>?_)
 refine Calls.spliced_nil ?_
 obtain ⟨a,xs,rfl,hq,q⟩:=q1
 cases ru
 obtain ⟨its,rv,pt,hz⟩:=I1.tuple hq
 have hl:=qG
 have hlen:=rv.length
 refine RvT.call_rev pt (by rw [Qas];lia) fun tk=>?_
 have I2:Inv X pins σ H1 { s1 with heap:=s1.heap.push (RvT.revObj a ((its.toArray.size:Int) - 1)),toks:=tk }:=I1.kept fun b o e=>Heap.get?_push_of_some _ e
 have e0:(xs.length:Int) - 1 - ((0:Nat):Int)=(its.toArray.size:Int) - 1:=by rw [Qas,<-hlen];lia
 have st:RvT.IsRev (s1.heap.push (RvT.revObj a ((its.toArray.size:Int) - 1))) s1.heap.objs.size a ((xs.length:Int) - 1 - ((0:Nat):Int)):=by
  rw [e0]
  exact ⟨_,Heap.get?_push_size _ rfl,rfl,rfl⟩
 refine RvT.iter_self st ⟨s1.heap.objs.size,[s1.heap.objs.size],_,_,H1,rfl,I2,Zap a _ xs.length (Qbv pt.lt),st,fun b hb=>?_,q⟩
 have e:b=s1.heap.objs.size:=by simpa using hb
 subst e
 exact I1.fpOk (Qaj _) (I1.hok.fresh (Qaj _)) |> fun f=>f
theorem gg{K:PySem.W.Frag}{a:Addr}{xs:List V}{g:TG}{tb:TS}{D:Ends}{σ:St}{H:Hp}(Pv:Nat->St->Hp->Prop)(h0:Pv 0 σ H)(hl:∀i σ H,i<=xs.length->Pv i σ H->SqT K H a xs)
  (hs:∀i x σ H,xs.reverse[i]?=some x->Pv i σ H->g x σ H fun σ2 H2=>tb { D with nx:=Pv (i + 1),ct:=Pv (i + 1),bk:=D.nx } σ2 H2) (hd:∀σ H,Pv xs.length σ H->D.nx σ H) :
  ∃W:Nat->Nat->St->Hp->Prop,(∃m,W 0 m σ H)/\∀i m σ H,W i m σ H ->
   ((Itv K a xs.length).stop i H/\D.nx σ H)\/((Itv K a xs.length).go i H/\∃N:St->Hp->Prop,(∀σ' H',N σ' H'->∃m',m' < m/\W (i + 1) m' σ' H')/\∀x H',(Itv K a xs.length).yld i H x H'->g x σ H' fun σ2 H2=>tb { D with nx:=N,ct:=N,bk:=D.nx } σ2 H2):=by
 refine ⟨fun i m σ H=>m=xs.length - i/\i<=xs.length/\Pv i σ H,⟨xs.length,by simp,Qbg _,h0⟩,?_⟩
 rintro i m σ H ⟨rfl,hi,p⟩
 by_cases hlt:i < xs.length
 ·have hlt':i < xs.reverse.length:=by rw [Qb2];exact hlt
  refine .inr ⟨⟨xs,xs.reverse[i],hl i σ H hi p,rfl,Qaa hlt'⟩,Pv (i + 1),fun σ' H' p'=>⟨xs.length - (i + 1),by lia,rfl,hlt,p'⟩,fun x H' y=>?_⟩
  obtain ⟨e,y⟩:=y
  subst e
  exact hs i x σ _ (y xs (hl i σ _ hi p)) p
 ·have e:i=xs.length:=by lia
  exact .inl ⟨e,by rw [e] at p;exact hd σ H p⟩
end L2
namespace HT
open PySem PySem.Spec PyProof.Rows
section
variable {prog:Program}{w:World}{A:Around}{E:Value->Shared->Prop}{s:Shared}
theorem getItem_tuple_whole{t sl:Addr}{items:Array Value}{vl vu:Value}{lo hi:Option Int}{Q:Value->Shared->Prop}(ht:IsTup s.heap t items)(hs:s.heap.IsSliceOf sl vl vu .none)(pl:IsPart vl lo)(pu:IsPart vu hi)
  (hw:sIx items.size 0 lo=0/\sIx items.size items.size hi=items.size) (h:Q (.ref t) s):wpAny (model prog w) A (getItem (.ref t) (.ref sl)) Q E s:=by
 obtain ⟨os,hos,hcs,hds⟩:=id hs
 have hTs:s.TypeIs (.ref sl) "slice" := ⟨os,hos,hcs⟩
 unfold getItem
 try with_reducible refine wpAny_holding ?_
 first | refine wpAny_bind (wpAny_pure ?_) | skip
 refine wpAny_bind (wpAny_sequenceKey ht.typeIs (by decide) ?_)
 refine wpAny_bind (wpAny_callSpecial?_slot (name:=Str.ofString "__getitem__") ht.typeIs Qbb
  (wpAny_call_entry Qbb ht.typeIs entry_tuple_getitem ?_ (args_tuple_getitem _ _)))
 show wpAny _ _ (Builtin.Tuple.tupleItemsOf (.ref t) >>= _) _ _ s
 refine wpAny_bind (tupleItemsOf_ ht ?_)
 refine wpAny_bind (wpAny_typeOf hTs ?_)
 rw [Qau (by decide)]
 refine wpAny_bind (W4 hs pl pu ?_)
 have hyes:(((sIx items.size 0 lo:Nat):Int) == 0 && (1:Int) == 1 && (sIx items.size items.size hi - sIx items.size 0 lo) == items.size)=true:=by
  rw [hw.1,hw.2]
  simp
 show wpAny _ _ (if (((sIx items.size 0 lo:Nat):Int) == 0 && (1:Int) == 1 && (sIx items.size items.size hi - sIx items.size 0 lo) == items.size)=true then _ else _) _ _ s
 rw [Qau hyes]
 refine wpAny_bind (m:=Builtin.Tuple.tupleIsExact (.ref t)) (wpAny_bind (wpAny_typeOf ht.typeIs (wpAny_pure ?_)))
 rw [Qau (by decide)]
 first
  | exact wpAny_bind (wpAny_rule (wpAny_bind (wpAny_pure (wpAny_pure ⟨_,rfl,wpAny_pure h⟩))))
  | exact wpAny_bind (wpAny_rule (wpAny_pure ⟨_,rfl,wpAny_pure h⟩))
  | exact wpAny_bind (wpAny_rule (wpAny_bind (wpAny_pure ⟨_,rfl,wpAny_pure h⟩)))
end
end HT
namespace L2
open PySem PySem.Spec PyProof.Rows
section
variable {X:Cx}
inductive Zcn(K:PySem.W.Frag)(x:V)(lo:Option Int)(hi:Option Int)(H:Hp)(Q:VK):Prop
 | mk (a xs):(x=.ref a)->(SqT K H a xs)->((HT.sIx xs.length 0 lo=0/\HT.sIx xs.length xs.length hi=xs.length))->(Q (.ref a) H)->Zcn K x lo hi H Q
noncomputable def rSlW(K:PySem.W.Frag):V->Option Int->Option Int->Hp->VK->Prop:=fun x lo hi H Q=>Zcn K x lo hi H Q
theorem gh:SlR X (rSlW X.K):=by
 intro pins s σ H x v vl vu lo hi sl Q I rx hs pl pu h
 obtain ⟨a,xs,rfl,hx,hw,q⟩:=h
 cases rx
 obtain ⟨its,r,ht,hz⟩:=I.tuple hx
 have hlen:its.toArray.size=xs.length:=by rw [Qas];exact r.length.symm
 refine ⟨"tuple",_,Qbb.lookup,ht.typeIs,?_⟩
 exact HT.getItem_tuple_whole ht hs pl pu (by rw [hlen];exact hw) ⟨.ref a,H,I,rfl,q⟩
end
section
variable {X:Cx}
theorem Zco:SlR X (fun x lo hi H Q=>∃z,x=.str z/\z.length<=sizeLine/\Q (.str (Txt.slice z lo hi)) H):=by
 intro pins s σ H x v vl vu lo hi sl Q I rx hs pl pu h
 obtain ⟨z,rfl,hz,q⟩:=h
 obtain ⟨t,rfl⟩:=rx
 refine ⟨"str",_,F.slot_str_getitem.lookup,typeIs_str _ _ _,?_⟩
 have fin:∀t' k,EP X pins σ Q (.str (Txt.slice z lo hi) t') { s with toks:=k }:=fun t' k=>⟨.str _,H,I.tok _,⟨_,rfl⟩,q⟩
 cases pl with
 | none =>
  cases pu with
  | none=>exact wpAny_getItem_str_slice (l:=none) (u:=none) (st:=none) hs rfl (post_val_or_str ⟨Qba (Txt.slice_le z _ _) hz,fin⟩)
  | int j uj=>exact wpAny_getItem_str_slice (l:=none) (u:=some (j,uj)) (st:=none) hs rfl (post_val_or_str ⟨Qba (Txt.slice_le z _ _) hz,fin⟩)
 | int i ui =>
  cases pu with
  | none=>exact wpAny_getItem_str_slice (l:=some (i,ui)) (u:=none) (st:=none) hs rfl (post_val_or_str ⟨Qba (Txt.slice_le z _ _) hz,fin⟩)
  | int j uj=>exact wpAny_getItem_str_slice (l:=some (i,ui)) (u:=some (j,uj)) (st:=none) hs rfl (post_val_or_str ⟨Qba (Txt.slice_le z _ _) hz,fin⟩)
theorem xX{ys:List Str}:∀{us:List Value},Vals (ys.map V.str) us->StrsAre us ys:=by
 induction ys with
 | nil=>intro us r;rw [Qdq] at r;cases r;exact .nil
 | cons n ns ih =>
  intro us r
  rw [Qa1] at r
  cases r with
  | cons r1 r2 =>
   obtain ⟨t,e⟩:=r1
   subst e
   exact .cons n t (ih r2)
theorem Zeb:MtR X "str.join" (fun x vs H Q=>∃(z:Str) (p:Addr) (ys:List Str),x=.str z/\vs=[.ref p]/\SqL X.K H p (ys.map V.str)/\(ys.map (·.length)).sum + ys.length * z.length<=16777216/\Q (.str (Txt.join z ys)) H):=by
 intro pins s σ H x vs v us Q I rx rv h
 obtain ⟨z,p,ys,rfl,rfl,hq,hok,q⟩:=h
 obtain ⟨t,rfl⟩:=rx
 obtain ⟨u,rfl,ru⟩:=vals1 rv
 cases ru
 obtain ⟨its,r',pl,hz⟩:=I.list hq
 exact join_list pl.isList (xX r') hok fun t' k=>⟨.str _,H,I.tok _,⟨_,rfl⟩,q⟩
end
theorem JI{K:PySem.W.Frag}{a:Addr}{xs:List V}{is:List Nat}{tc:TT}{te:TE}{σ:St}{H:Hp}{Q:VK}(Pv:Nat->List V->Hp->Prop)(h0:Pv 0 [] H)(hl:∀i zs H,Pv i zs H->zs.length<=sizeLine)(hq:∀i zs H,Pv i zs H->SqL K H a xs)
  (hs:∀i x zs H (R:List V->Hp->Prop),(∀zs H,Pv (i + 1) zs H->R zs H)->xs[i]?=some x->Pv i zs H->tc (qu is σ (some x)) H fun b H2=>if b=true then te (qu is σ (some x)) H2 fun y H3=>R (zs++[y]) H3 else R zs H2)
  (hd:∀zs H,Pv xs.length zs H->∀p,H p=none->Q (.ref p) (upd H p (.lst zs))) :
  z7 is tc te σ Q (Itl K a) H:=by
 refine ⟨fun i m zs H=>m=xs.length - i/\i<=xs.length/\Pv i zs H,⟨xs.length,by simp,Qbg _,h0⟩,?_⟩
 rintro i m zs H ⟨rfl,hi,p⟩
 by_cases hlt:i < xs.length
 ·refine .inr ⟨⟨xs,xs[i],hq i zs H p,Qaa hlt⟩,hl i zs H p,fun x H' y=>?_⟩
  obtain ⟨e,y⟩:=y
  subst e
  exact hs i x zs _ (fun zs H=>∃m',m' < xs.length - i/\m'=xs.length - (i + 1)/\i + 1<=xs.length/\Pv (i + 1) zs H) (fun zs H q=>⟨xs.length - (i + 1),by lia,rfl,hlt,q⟩) (y xs (hq i zs _ p)) p
 ·have e:i=xs.length:=by lia
  exact .inl ⟨⟨xs,hq i zs H p,by lia⟩,hl _ _ _ p,by rw [e] at p;exact hd zs H p⟩
section
variable {X:Cx}
end
section
variable {X:Cx}
theorem GL:∀{us:List Value} {ys:List Str},StrsAre us ys->Vals (ys.map V.str) us
 | _,_,.nil=>.nil
 | _,_,.cons y t h=>.cons ⟨t,rfl⟩ (GL h)
theorem jv:WJ X (.builtin "sorted") (fun xs H Q=>∃(p:Addr) (ss:List Str),xs=[.ref p]/\SqL X.K H p (ss.map V.str)/\ss.length < 64 /\
  ∀(l:Addr) (ms:List Str),H l=none->ms.Perm ss->sortedS ms=true->Q (.ref l) (upd H l (.lst (ms.map V.str)))):=by
 intro pins s σ H xs us Q I r h
 obtain ⟨p,ss,rfl,hq,hn,q⟩:=h
 obtain ⟨u,rfl,rx⟩:=vals1 r
 cases rx
 obtain ⟨its,r',pl,hz⟩:=I.list hq
 have hlen:=r'.length
 rw [Qab] at hlen
 refine sorted_strs pl.isList (xX r') (by lia) fun out ms hi hp hs=>?_
 obtain ⟨e,he⟩:=sortedAll_at s.heap its out
 refine ⟨.ref (s.heap.objs.size + 1),_,I.laid (t':=s.toks) (o:=.lst (ms.map V.str)) (fun b o e=>sortedAll_old e) (Qee _) ?_,rfl,q _ ms (I.hok.fresh (Qee _)) hp hs⟩
 have hm:ms.length=ss.length:=hp.length_eq
 exact ⟨by rw [Qab];exact Qaw (Zp (by lia)),out.toList,e,GL hi,by simpa using he⟩
end
theorem bt_abs:bootBuiltins "abs" = some (.builtin "abs"):=by decide +kernel
theorem bt_max:bootBuiltins "max" = some (.builtin "max"):=by decide +kernel
theorem bt_min:bootBuiltins "min" = some (.builtin "min"):=by decide +kernel
theorem jw {K:PySem.W.Frag}:PySem.W.kitOne K (.type "bool") (.type "int")=some true:=by with_unfolding_all rfl
theorem z8 {K:PySem.W.Frag}:PySem.W.kitOne K (.type "bool") (.type "bool")=some true:=by rfl
noncomputable def Zgk(K:PySem.W.Frag):List V->Hp->VK->Prop:=fun xs H Q=>∃p ys,xs=[.ref p]/\(SqL K H p ys\/SqT K H p ys)/\Q (.int ys.length) H
theorem gi {X:Cx}:WJ X (.builtin "len") (Zgk X.K):=Zk
theorem Jc{t u:TS}{D:Ends}{σ:St}{H:Hp}(J:St->Hp->Prop)(h1:∀N:St->Hp->Prop,(∀σ H,J σ H->N σ H)->t { D with nx:=N } σ H)(h2:∀σ H,J σ H->u D σ H):YV t u D σ H:=h1 _ h2
theorem take_snoc{α:Type}{xs:List α}{i:Nat}{x:α}(h:xs[i]?=some x):xs.take (i + 1)=xs.take i++[x]:=by
 rw [List.take_succ,h]
 rfl
theorem yq{K:PySem.W.Frag}{a:Addr}{xs:List V}{is:List Nat}{tc:TT}{te:TE}{σ:St}{H:Hp}{Q:VK}(p:V->Bool)(f:V->V)(hx:SqL K H a xs)(hz:xs.length<=sizeLine)
  (hc:∀x∈xs,∀R:Bool->Hp->Prop,R (p x) H->tc (qu is σ (some x)) H R)
  (he:∀x∈xs,p x=true->∀R:VK,R (f x) H->te (qu is σ (some x)) H R)
  (hd:∀l,H l=none->Q (.ref l) (upd H l (.lst ((xs.filter p).map f)))):z7 is tc te σ Q (Itl K a) H:=by
 refine JI (xs:=xs) (fun i zs H'=>zs=((xs.take i).filter p).map f/\H'=H) ⟨rfl,rfl⟩ ?_ ?_ ?_ ?_
 ·rintro i zs H' ⟨rfl,rfl⟩
  rw [Qab]
  exact Qba (Qde _ _) (by rw [Qar];lia)
 ·rintro i zs H' ⟨rfl,rfl⟩
  exact hx
 ·rintro i x zs H' R hR hxi ⟨rfl,rfl⟩
  have hm:=Qam hxi
  have e:=take_snoc hxi
  refine hc x hm _ ?_
  cases hp:p x with
  | true =>
   refine (Qau rfl:(if true=true then _ else _)=_) ▸ he x hm hp _ (hR _ _ ⟨?_,rfl⟩)
   rw [e,Qdb,Qbh,Qcl,Qau hp]
   rfl
  | false =>
   refine (Qan Qax:(if false=true then _ else _)=_) ▸ hR _ _ ⟨?_,rfl⟩
   rw [e,Qdb,Qbh,Qcl,Qan (by rw [hp];exact Qax)]
   simp
 ·rintro zs H' ⟨rfl,rfl⟩ l hl
  rw [Qbr]
  exact hd l hl
theorem comp_map{K:PySem.W.Frag}{a:Addr}{xs:List V}{is:List Nat}{te:TE}{σ:St}{H:Hp}{Q:VK}(f:V->V)(hx:SqL K H a xs)(hz:xs.length<=sizeLine)
  (he:∀x∈xs,∀R:VK,R (f x) H->te (qu is σ (some x)) H R)
  (hd:∀l,H l=none->Q (.ref l) (upd H l (.lst (xs.map f)))):z7 is Zfz te σ Q (Itl K a) H:=by
 refine yq (fun _=>true) f hx hz (fun x _ R h=>h) (fun x hm _=>he x hm) fun l hl=>?_
 rw [List.filter_eq_self.mpr fun _ _=>rfl]
 exact hd l hl
section
variable {κ:Type}[DecidableEq κ]
noncomputable def YW(kvs:List (κ × V))(k:κ):Option V:=(kvs.find? fun kv=>decide (kv.1=k)).map (·.2)
noncomputable def putK(kvs:List (κ × V))(k:κ)(v:V):List (κ × V) :=
 if (kvs.any fun kv=>decide (kv.1=k))=true then kvs.map (fun kv=>if kv.1=k then (kv.1,v) else kv) else kvs++[(k,v)]
theorem Y4{p:κ × V}{r:List (κ × V)}{k:κ}(e:p.1=k):YW (p::r) k=some p.2:=by simp [YW,Qcx,e]
theorem Y5{p:κ × V}{r:List (κ × V)}{k:κ}(e:¬p.1=k):YW (p::r) k=YW r k:=by simp [YW,Qcx,e]
theorem qx(k:κ):∀kvs:List (κ × V),(kvs.any fun kv=>decide (kv.1=k))=(YW kvs k).isSome
 | []=>rfl
 | p::r=>by
  rw [Qea]
  by_cases e:p.1=k
  ·simp only [Y4 e,Qae e,Bool.true_or,Option.isSome_some]
  ·rw [Y5 e,Qad e,Bool.false_or];exact qx k r
theorem va(k j:κ)(y:V):∀kvs:List (κ × V),YW (kvs.map fun kv=>if kv.1=k then (kv.1,y) else kv) j=(YW kvs j).map fun x=>if j=k then y else x
 | []=>rfl
 | p::r=>by
  have ih:=va k j y r
  rw [Qa1]
  by_cases h:p.1=k
  ·rw [Qau h]
   by_cases e:p.1=j
   ·rw [Y4 (p:=(p.1,y)) e,Y4 e,Qef,Qau (e.symm.trans h)]
   ·rw [Y5 (p:=(p.1,y)) e,Y5 e,ih]
  ·rw [Qan h]
   by_cases e:p.1=j
   ·rw [Y4 (p:=p) e,Y4 e,Qef,Qan (fun z=>h (e.trans z))]
   ·rw [Y5 (p:=p) e,Y5 e,ih]
theorem jx(k j:κ)(y:V):∀kvs:List (κ × V),YW kvs k=none->YW (kvs++[(k,y)]) j=if j=k then some y else YW kvs j
 | [],_=>by
  by_cases e:k=j
  ·rw [Qau e.symm];exact Y4 (p:=(k,y)) e
  ·rw [Qan (fun z=>e z.symm)];exact Y5 (p:=(k,y)) e
 | p::r,hn=>by
  rw [Qcz]
  have hk:¬p.1=k:=fun z=>by rw [Y4 z] at hn;cases hn
  rw [Y5 hk] at hn
  have ih:=jx k j y r hn
  by_cases e:p.1=j
  ·rw [Y4 e,Y4 e,Qan (fun z=>hk (e.trans z))]
  ·rw [Y5 e,Y5 e,ih]
theorem JJ(kvs:List (κ × V))(k j:κ)(y:V):YW (putK kvs k y) j=if j=k then some y else YW kvs j:=by
 unfold putK
 by_cases a:(kvs.any fun kv=>decide (kv.1=k))=true
 ·rw [Qau a,va]
  rw [qx] at a
  by_cases e:j=k
  ·obtain ⟨x,hx⟩:=Option.isSome_iff_exists.mp a
   rw [Qau e,e,hx,Qef,Qau rfl]
  ·rw [Qan e]
   cases YW kvs j with
   | none=>rfl
   | some x=>rw [Qef,Qan e]
 ·rw [Qan a]
  refine jx k j y kvs ?_
  rw [qx] at a
  cases q:YW kvs k with
  | none=>rfl
  | some x=>rw [q] at a;exact (a rfl).elim
theorem XJ(kvs:List (κ × V))(k:κ)(v:V):(putK kvs k v).length<=kvs.length + 1:=by
 unfold putK
 split
 ·rw [Qab];lia
 ·rw [Qac,Qaz,Qc3];lia
theorem vO.isSome_eq{o:Option V}{u:Option Value}(r:vO o u):o.isSome=u.isSome:=by
 cases o with
 | none=>cases u with
  | none=>rfl
  | some _=>exact (show False from r).elim
 | some _=>cases u with
  | none=>exact (show False from r).elim
  | some _=>rfl
theorem vO.getD{o:Option V}{u:Option Value}{d:V}{d':Value}(r:vO o u)(rd:RelV d d'):RelV (o.getD d) (u.getD d'):=by
 cases o with
 | none=>cases u with
  | none=>exact rd
  | some _=>exact (show False from r).elim
 | some _=>cases u with
  | none=>exact (show False from r).elim
  | some _=>exact r
theorem KV.val{kvs:List (κ × V)}{vs:List (κ × Value)}(r:KV kvs vs)(k:κ):vO (YW kvs k) (valueAt vs k):=by
 unfold KV at r
 induction r with
 | nil=>exact True.intro
 | @cons p q ps qs h t ih =>
  obtain ⟨h1,h2⟩:=h
  by_cases e:p.1=k
  ·have e':q.1=k:=h1.symm.trans e
   have b:valueAt (q::qs) k=some q.2:=by simp [valueAt,Qcx,e']
   rw [Y4 e,b];exact h2
  ·have e':¬q.1=k:=fun z=>e (h1.trans z)
   have b:valueAt (q::qs) k=valueAt qs k:=by simp [valueAt,Qcx,e']
   rw [Y5 e,b];exact ih
theorem KV.any{kvs:List (κ × V)}{vs:List (κ × Value)}(r:KV kvs vs)(k:κ):(kvs.any fun kv=>decide (kv.1=k))=vs.any fun kv=>decide (kv.1=k):=by
 unfold KV at r
 induction r with
 | nil=>rfl
 | cons h t ih=>rw [Qea,Qea,ih,h.1]
theorem KV.repl{kvs:List (κ × V)}{vs:List (κ × Value)}(r:KV kvs vs)(k:κ){y:V}{u:Value}(ry:RelV y u) :
  KV (kvs.map fun kv=>if kv.1=k then (kv.1,y) else kv) (vs.map fun kv=>if kv.1=k then (kv.1,u) else kv):=by
 unfold KV at r ⊢
 induction r with
 | nil=>exact .nil
 | @cons p q ps qs h t ih =>
  rw [Qa1,Qa1]
  refine .cons ?_ ih
  obtain ⟨h1,h2⟩:=h
  by_cases e:p.1=k
  ·rw [Qau e,Qau (h1.symm.trans e)];exact ⟨h1,ry⟩
  ·rw [Qan e,Qan (fun z=>e (h1.trans z))];exact ⟨h1,h2⟩
theorem KV.put{kvs:List (κ × V)}{vs:List (κ × Value)}(r:KV kvs vs)(k:κ){y:V}{u:Value}(ry:RelV y u):KV (putK kvs k y) (stored vs k u):=by
 unfold putK stored
 rw [r.any k]
 by_cases e:(vs.any fun kv=>decide (kv.1=k))=true
 ·rw [Qau e,Qau e];exact r.repl k ry
 ·rw [Qan e,Qan e];exact Paired.snoc r ⟨rfl,ry⟩
theorem KV.keys{kvs:List (κ × V)}{vs:List (κ × Value)}(r:KV kvs vs):kvs.map (·.1)=vs.map (·.1):=by
 unfold KV at r
 induction r with
 | nil=>rfl
 | cons h t ih=>rw [Qa1,Qa1,ih,h.1]
theorem KV.length{kvs:List (κ × V)}{vs:List (κ × Value)}(r:KV kvs vs):kvs.length=vs.length:=Paired.length r
end
theorem yr{P:Program}{w:World}{k:Key}{u:Value}(r:RelV (kV k) u):(Yk P w).is k u=true:=by
 cases k with
 | inl i=>obtain ⟨t,e⟩:=(show ∃t,u=Value.int i t from r);subst e;exact yh P w i t
 | inr x=>obtain ⟨t,e⟩:=(show ∃t,u=Value.str x t from r);subst e;exact J0 P w x t
theorem jy{P:Program}{w:World}:∀{ks:List Key} {us:List Value},Vals (ks.map kV) us->ItemsAre (Yk P w) ks us
 | [],_,r=>by rw [Qdq] at r;cases r;exact .nil
 | k::ks,_,r=>by
  rw [Qa1] at r
  cases r with
  | cons h t=>exact .cons (yr h) (jy t)
noncomputable abbrev KT(H:Hp):List (List Key × V)->List (List Key × Addr × Value)->Prop:=Paired fun p q=>p.1=q.1/\H q.2.1=some (.tup (p.1.map kV))/\RelV p.2 q.2.2
theorem KT.val{H:Hp}{kvs:List (List Key × V)}{xs:List (List Key × Addr × Value)}(r:KT H kvs xs)(k:List Key):vO (YW kvs k) ((atKey xs k).map (·.2)):=by
 induction r with
 | nil=>exact True.intro
 | @cons p q ps qs h t ih =>
  obtain ⟨h1,_,h2⟩:=h
  by_cases e:p.1=k
  ·have e':q.1=k:=h1.symm.trans e
   have b:atKey (q::qs) k=some q.2:=by simp [atKey,Qcx,e']
   rw [Y4 e,b];exact h2
  ·have e':¬q.1=k:=fun z=>e (h1.trans z)
   have b:atKey (q::qs) k=atKey qs k:=by simp [atKey,Qcx,e']
   rw [Y5 e,b];exact ih
theorem KT.repl{H:Hp}{kvs:List (List Key × V)}{xs:List (List Key × Addr × Value)}(r:KT H kvs xs)(k:List Key){y:V}{u:Value}(ry:RelV y u) :
  KT H (kvs.map fun kv=>if kv.1=k then (kv.1,y) else kv) (xs.map (putAt k u)):=by
 induction r with
 | nil=>exact .nil
 | @cons p q ps qs h t ih =>
  rw [Qa1,Qa1]
  refine .cons ?_ ih
  obtain ⟨h1,h2,h3⟩:=h
  unfold putAt
  by_cases e:p.1=k
  ·rw [Qau e,Qau (h1.symm.trans e)];exact ⟨h1,h2,ry⟩
  ·rw [Qan e,Qan (fun z=>e (h1.trans z))];exact ⟨h1,h2,h3⟩
theorem KT.put{H:Hp}{kvs:List (List Key × V)}{xs:List (List Key × Addr × Value)}(r:KT H kvs xs)(k:List Key){b:Addr}{y:V}{u:Value}(hb:H b=some (.tup (k.map kV)))(ry:RelV y u) :
  KT H (putK kvs k y) (storedH xs k b u):=by
 have e:(kvs.any fun kv=>decide (kv.1=k))=(atKey xs k).isSome:=by
  rw [qx,(r.val k).isSome_eq,Qen]
 unfold putK storedH
 rw [e]
 by_cases q:(atKey xs k).isSome=true
 ·rw [Qau q,Qau q];exact r.repl k ry
 ·rw [Qan q,Qan q];exact Paired.snoc r ⟨rfl,hb,ry⟩
theorem KT.keeps{H H':Hp}{kvs:List (List Key × V)}{xs:List (List Key × Addr × Value)}(r:KT H kvs xs)(ht:∀b ys,H b=some (.tup ys)->H' b=some (.tup ys)):KT H' kvs xs :=
 Paired.mapP r fun _ _ z=>⟨z.1,ht _ _ z.2.1,z.2.2⟩
section
variable {P:Program}{w:World}{H:Hp}{h:Heap}{a:Addr}
theorem Zgl{u:HO}(ok:HOk P w H h)(e:Rd H a u):Y9 P w H h a u:=e.ok ok
theorem gj{kvs:List (Key × V)}(ok:HOk P w H h)(e:Rd H a (.dK kvs)):kvs.length<=sizeLine/\(a == sysModules)=false/\∃vs,KV kvs vs/\h.DictOf (Yk P w) a vs :=
 show Y9 P w H h a (.dK kvs) from Zgl ok e
theorem Zec{kvs:List (Key × V)}(ok:HOk P w H h)(e:H a=some (.dK kvs)):kvs.length<=sizeLine/\(a == sysModules)=false/\∃vs,KV kvs vs/\h.DictOf (Yk P w) a vs:=gj ok (.inl e)
theorem jz{ks:List Key}(ok:HOk P w H h)(e:H a=some (.tup (ks.map kV))):(tupleKind (Yk P w)).is h ks a:=by
 obtain ⟨_,its,r,o,h1,h2,n,h3⟩:=(show Y9 P w H h a (.tup (ks.map kV)) from ok a _ e)
 exact ⟨o,its.toArray,n,h1,h2,h3,by simpa using jy r⟩
theorem gk{kvs:List (List Key × V)}(ok:HOk P w H h)(e:Rd H a (.dT kvs)):kvs.length<=sizeLine/\(a == sysModules)=false /\
  ∃xs,KT H kvs xs/\h.DictOfH (tupleKind (Yk P w)) a xs:=by
 obtain ⟨z,y,xs,r,o,es,ep,h1,h2,h3,h4,h5⟩:=(show Y9 P w H h a (.dT kvs) from Zgl ok e)
 refine ⟨z,y,xs,r,o,es,ep,h1,h2,h3,h4,fun x hx=>?_,h5⟩
 have all:∀{l:List (List Key × V)} {m:List (List Key × Addr × Value)},KT H l m->∀x∈m,(tupleKind (Yk P w)).is h x.1 x.2.1:=by
  intro l m q
  induction q with
  | nil=>intro x hx;exact nomatch hx
  | @cons p q ps qs hq t ih =>
   intro x hx
   rcases Qak.mp hx with e | hx
   ·subst e
    exact jz ok (by rw [<-hq.1];exact hq.2.1)
   ·exact ih x hx
 exact all r x hx
theorem dt_of{kvs:List (List Key × V)}(ok:HOk P w H h)(e:H a=some (.dT kvs)):kvs.length<=sizeLine/\(a == sysModules)=false /\
  ∃xs,KT H kvs xs/\h.DictOfH (tupleKind (Yk P w)) a xs:=gk ok (.inl e)
end
noncomputable def Zf0(H:Hp)(a:Addr)(y:V)(r:Option V):Prop :=
 (∃kvs k,Rd H a (.dK kvs)/\y=kV k/\r=YW kvs k)\/∃kvs k b,Rd H a (.dT kvs)/\y=.ref b/\H b=some (.tup (k.map kV))/\r=YW kvs k
noncomputable def Zaq(H:Hp)(a:Addr)(y v:V)(H':Hp):Prop :=
 (∃kvs k,H a=some (.dK kvs)/\y=kV k/\kvs.length < sizeLine/\H'=upd H a (.dK (putK kvs k v))) \/
 ∃kvs k b,H a=some (.dT kvs)/\y=.ref b/\H b=some (.tup (k.map kV))/\kvs.length < sizeLine/\H'=upd H a (.dT (putK kvs k v))
theorem Zaq.k{H:Hp}{a:Addr}{kvs:List (Key × V)}{k:Key}{v:V}(e:H a=some (.dK kvs))(hl:kvs.length < sizeLine):Zaq H a (kV k) v (upd H a (.dK (putK kvs k v))):=.inl ⟨kvs,k,e,rfl,hl,rfl⟩
section
variable {X:Cx}{pins:List (Addr × Obj)}{σ:St}{H:Hp}{s:Shared}{a:Addr}{y v:V}{u r:Value}{o:Option V}{A:Around}{E:Value->Shared->Prop}
theorem Inv.big(I:Inv X pins σ H s):sysModules < s.heap.objs.size:=by
 have h:mainGlobals < s.heap.objs.size:=(I.mod.glob.keeps I.bk).lt
 exact Nat.lt_trans (by decide) h
theorem gm{Q:Value->Shared->Prop}(hu:A.units + 1 < cLine)(I:Inv X pins σ H s)(g:Zf0 H a y (some v))(ry:RelV y u)(h:∀w' s',Inv X pins σ H s'->RelV v w'->Q w' s') :
  wpAny (model X.prog X.w) A (getItem (.ref a) u) Q E s:=by
 rcases g with ⟨kvs,k,e,ey,l⟩ | ⟨kvs,k,b,e,ey,eb,l⟩
 ·subst ey
  obtain ⟨z,hd,vs,rel,dd⟩:=gj I.hok e
  obtain ⟨w',hw,rw'⟩:=vO.some_of (v:=v) (o:=valueAt vs k) (by rw [l];exact rel.val k)
  exact wpAny_getItem_of (yr ry) dd.mapOf hw (h w' _ (I.tok _) rw')
 ·subst ey
  cases (show u=Value.ref b from ry)
  obtain ⟨z,hd,xs,rel,dd⟩:=gk I.hok e
  obtain ⟨w',hw,rw'⟩:=vO.some_of (v:=v) (o:=(atKey xs k).map (·.2)) (by rw [l];exact rel.val k)
  obtain ⟨p,hp,hp2⟩:=Qco.mp hw
  refine wpAny_getItem_heap (tupleKind_room_in1 hu) (jz I.hok eb) dd hp ?_
  rw [hp2]
  exact h w' _ (I.tok _) rw'
theorem d_in{Q:Value->Shared->Prop}(hu:A.units + 1 < cLine)(I:Inv X pins σ H s)(g:Zf0 H a y o)(ry:RelV y u)(h:∀s',Inv X pins σ H s'->Q (.bool o.isSome) s') :
  wpAny (model X.prog X.w) A (compareOp .In u (.ref a)) Q E s:=by
 rcases g with ⟨kvs,k,e,ey,l⟩ | ⟨kvs,k,b,e,ey,eb,l⟩
 ·subst ey
  obtain ⟨z,hd,vs,rel,dd⟩:=gj I.hok e
  refine wpAny_in_of (yr ry) hd dd.mapOf ?_
  rw [<-(rel.val k).isSome_eq,<-l]
  exact h _ (I.tok _)
 ·subst ey
  cases (show u=Value.ref b from ry)
  obtain ⟨z,hd,xs,rel,dd⟩:=gk I.hok e
  refine wpAny_in_heap (tupleKind_room_in1 hu) (jz I.hok eb) hd dd ?_
  have q:=(rel.val k).isSome_eq
  rw [Qen] at q
  rw [<-q,<-l]
  exact h _ (I.tok _)
theorem Zed{Q:Value->Shared->Prop}(hu:A.units + 1 < cLine)(I:Inv X pins σ H s)(g:Zf0 H a y o)(ry:RelV y u)(h:∀s',Inv X pins σ H s'->Q (.bool (!o.isSome)) s') :
  wpAny (model X.prog X.w) A (compareOp .NotIn u (.ref a)) Q E s:=by
 rcases g with ⟨kvs,k,e,ey,l⟩ | ⟨kvs,k,b,e,ey,eb,l⟩
 ·subst ey
  obtain ⟨z,hd,vs,rel,dd⟩:=gj I.hok e
  refine wpAny_notIn_of (yr ry) hd dd.mapOf ?_
  rw [<-(rel.val k).isSome_eq,<-l]
  exact h _ (I.tok _)
 ·subst ey
  cases (show u=Value.ref b from ry)
  obtain ⟨z,hd,xs,rel,dd⟩:=gk I.hok e
  refine wpAny_notIn_heap (tupleKind_room_in1 hu) (jz I.hok eb) hd dd ?_
  have q:=(rel.val k).isSome_eq
  rw [Qen] at q
  rw [<-q,<-l]
  exact h _ (I.tok _)
theorem z9{h':Heap}{t':Nat}{ob:HO}(I:Inv X pins σ H s)(mu:Mut (H a))(hs:Heap.SameBut a s.heap h')(he:∃q,h'.get? a=some q)(new:Y9 X.prog X.w (upd H a ob) h' a ob) :
  Inv X pins σ (upd H a ob) { s with heap:=h',toks:=t' } :=
 I.write (x:=a) (e:=a) mu (.inl rfl) (fun b q hb z=>(hs.2 b hb).trans z) he new
theorem Zcp{P:Program}{w:World}{H':Hp}{h':Heap}{kvs:List (Key × V)}{vs:List (Key × Value)}(z:kvs.length<=sizeLine)(hd:(a == sysModules)=false)(rel:KV kvs vs)(dd:h'.DictOf (Yk P w) a vs) :
  Y9 P w H' h' a (.dK kvs):=⟨z,hd,vs,rel,dd⟩
theorem gn{H':Hp}{Q:Unit->Shared->Prop}(hu:A.units + 1 < cLine)(I:Inv X pins σ H s)(g:Zaq H a y v H')(ry:RelV y u)(rv:RelV v r)(h:∀s',Inv X pins σ H' s'->Q () s') :
  wpAny (model X.prog X.w) A (setItem (.ref a) u r) Q E s:=by
 rcases g with ⟨kvs,k,e,ey,l,eH⟩ | ⟨kvs,k,b,e,ey,eb,l,eH⟩
 ·subst ey eH
  obtain ⟨z,hd,vs,rel,dd⟩:=Zec I.hok e
  have hz:vs.length<=sizeLine:=by rw [<-rel.length];exact z
  have hl:(putK kvs k v).length<=sizeLine:=by have:=XJ kvs k v;lia
  refine wpAny_setItem_pairs (hsz:=hz) (yr ry) dd fun h' dd' hs=>h _ ?_
  have he:∃q,h'.get? a=some q:=let ⟨q,_,_,hq,_⟩:=dd';⟨q,hq⟩
  exact z9 I (by rw [e];exact True.intro) hs he (Zcp hl hd (rel.put k rv) dd')
 ·subst ey eH
  cases (show u=Value.ref b from ry)
  obtain ⟨z,hd,xs,rel,dd⟩:=dt_of I.hok e
  have hz:xs.length<=sizeLine:=by rw [<-Paired.length rel];exact z
  have hl:(putK kvs k v).length<=sizeLine:=by have:=XJ kvs k v;lia
  refine wpAny_setItem_heap (hsz:=hz) (tupleKind_room_in1 hu) (jz I.hok eb) dd fun h' dd' hs=>h _ ?_
  obtain ⟨q,es,ep,hq,h2,h3,h4,_,h5⟩:=dd'
  refine z9 I (by rw [e];exact True.intro) hs ⟨q,hq⟩ ⟨hl,hd,_,(rel.put k eb rv).keeps fun c ys ec=>?_,q,es,ep,hq,h2,h3,h4,h5⟩
  rw [Zo (XG ec e (fun z=>nomatch z))]
  exact ec
end
section
variable {X:Cx}{pins:List (Addr × Obj)}{σ:St}{H:Hp}{s:Shared}{a:Addr}{kvs:List (Key × V)}{k:Key}{u:Value}{A:Around}{E:Value->Shared->Prop}
end
noncomputable def Zg5(i:Expr):Prop:=∀ov iv,subscripted i false ov iv=operate [ov,iv] (getItem ov iv)
theorem gp{prog:Program}{w:World}{A:Around}{E:Value->Shared->Prop}{s:Shared}{env:Env}{value slice:Expr}{pos:Pos}{T id:String}{Q:Value->Shared->Prop}
  (hl:typeLookup (.type T) "__getitem__" = pure (some (.builtin id))) (hs:Zg5 slice)
  (h:wpAny (model prog w) A (eval value env) (fun o s₁=>wpAny (model prog w) A (eval slice env) (fun i s₂=>s₂.TypeIs o T/\wpAny (model prog w) A (getItem o i) Q E s₂) E s₁) E s) :
  wpAny (model prog w) A (eval (.Subscript value slice pos) env) Q E s:=by
 refine Subscript_ (wpAny_mono h (fun o s₁ h₁=>wpAny_mono h₁ (fun i s₂ h₂=>?_) fun _ _ x=>x) fun _ _ x=>x)
 obtain ⟨hT,h₂⟩:=h₂
 unfold subscriptTail
 refine wpAny_bind ?_
 rw [getitemInPython_of_ne hT.not_modules]
 refine wpAny_bind (wpAny_specialOf hT hl ?_)
 have fin:wpAny (model prog w) A (subscripted slice false o i) (fun r s₃=>wpAny (model prog w) A (letTemporaryGo value o r >>= fun _=>pure r) Q E s₃) E s₂:=by
  rw [hs o i]
  exact wpAny_operating (wpAny_mono h₂ (fun r s₃ h₃=>wpAny_bind (wpAny_letTemporaryGo (wpAny_pure h₃))) fun _ _ x=>x)
 first
  | exact wpAny_pure (wpAny_bind fin)
  | exact wpAny_bind (wpAny_pure (wpAny_bind fin))
  | exact wpAny_bind fin
theorem yt {X:Cx} {pins:List (Addr × Obj)} {σ:St} {H:Hp} {s:Shared} {a:Addr} {y:V} {o:Option V} (I:Inv X pins σ H s) (g:Zf0 H a y o):s.TypeIs (.ref a) "dict" := by
 rcases g with ⟨kvs,k,e,_,_⟩ | ⟨kvs,k,b,e,_,_,_⟩
 ·obtain ⟨_,_,vs,_,dd⟩:=gj I.hok e
  exact dd.typeIs
 ·obtain ⟨_,_,xs,_,dd⟩:=gk I.hok e
  exact dd.typeIs
inductive gq(Q:VK)(x:V)(y:V)(H2:Hp):Prop
 | mk (a v):(x=.ref a)->(Zf0 H2 a y (some v))->(Q v H2)->gq Q x y H2
noncomputable def Zgm(td ty:TE):TE:=fun σ H Q=>td σ H fun x H1=>ty σ H1 fun y H2=>gq Q x y H2
inductive gr(D:Ends)(σ:St)(v:V)(x:V)(y:V)(H3:Hp):Prop
 | mk (a H4):(x=.ref a)->(Zaq H3 a y v H4)->(D.nx σ H4)->gr D σ v x y H3
noncomputable def Zgn(td ty tv:TE):TS:=fun D σ H=>tv σ H fun v H1=>td σ H1 fun x H2=>ty σ H2 fun y H3=>gr D σ v x y H3
section
variable {X:Cx}{o i e value:Expr}{pos pos' tpos:Pos}{td ty tv:TE}
theorem Zee(hu:X.A.units + 1 < cLine)(ho:PE X o td)(hi:PE X i ty)(hs:Zg5 i):PE X (.Subscript o i pos) (Zgm td ty):=by
 intro pins s σ H Q I h
 refine gp PySem.F.slot_dict_getitem.lookup hs (thn (ho pins s σ H _ I h) fun u s1 ⟨x,H1,I1,rx,q1⟩=>thn (hi pins s1 σ H1 _ I1 q1) fun iv s2 ⟨y,H2,I2,ry,a,v,ex,g,q2⟩=>?_)
 subst ex
 obtain rfl:u=Value.ref a:=rx
 exact ⟨yt I2 g,gm hu I2 g ry fun w' s3 I3 rw'=>⟨v,H2,I3,rw',q2⟩⟩
theorem Zef(hu:X.A.units + 1 < cLine)(ho:PE X o td)(hi:PE X i ty)(hv:PE X value tv)(hs:swapsWith value (some (.Subscript o i pos')) pos.line X.env=pure false) :
  PS X (.Assign [.Subscript o i pos'] value pos) (Zgn td ty tv):=by
 intro pins s σ H D I h
 refine wpAny_Assign_Subscript (thn (hv pins s σ H _ I h) fun r s1 ⟨v,H1,I1,rv,q1⟩=>thn (ho pins s1 σ H1 _ I1 q1) fun u s2 ⟨x,H2,I2,rx,q2⟩=>thn (hi pins s2 σ H2 _ I2 q2) fun iv s3 ⟨y,H3,I3,ry,a,H4,ex,g,q3⟩=>?_) hs
 subst ex
 obtain rfl:u=Value.ref a:=rx
 exact gn hu I3 g ry rv fun s4 I4=>⟨σ,H4,I4,q3⟩
end
theorem zA {P:Program} {w:World} {H:Hp} (h:Heap) (hb:sysModules < h.objs.size):Y9 P w H (h.push { cls:=.type "dict",data:=.dict #[] }) h.objs.size (.dK []) :=
 ⟨Qbg _,Qb1.mpr (Qc2 (Qbv hb)),[],.nil,Heap.DictOf.new h⟩
noncomputable def Zcq:TE:=fun _ H Q=>∀p,H p=none->Q (.ref p) (upd H p (.dK []))
section
variable {X:Cx}{pos:Pos}
theorem Zar:PE X (.Dict [] [] pos) Zcq:=fun pins s σ H Q I h =>
 wpAny_Dict_empty ⟨.ref s.heap.objs.size,_,I.laid (a:=s.heap.objs.size) (o:=.dK []) (t':=s.toks) (fun _ _ q=>Heap.get?_push_of_some _ q) (Qaj _) (zA s.heap I.big),rfl,h _ (I.hok.fresh (Qaj _))⟩
end
noncomputable def gs:List (TE × TE)->St->Hp->(List (V × V)->Hp->Prop)->Prop
 | [],_,H,Q=>Q [] H
 | (tk,tv)::r,σ,H,Q=>tk σ H fun x H1=>tv σ H1 fun y H2=>gs r σ H2 fun ps H3=>Q ((x,y)::ps) H3
noncomputable abbrev VV:List (V × V)->List (Value × Value)->Prop:=Paired fun p q=>RelV p.1 q.1/\RelV p.2 q.2
noncomputable def PPs(X:Cx)(pos:Pos)(keys:List (Option Expr))(values:List Expr)(trs:List (TE × TE)):Prop :=
 ∀(pins:List (Addr × Obj)) (s:Shared) (σ:St) (H:Hp) (Q:List (V × V)->Hp->Prop),Inv X pins σ H s->gs trs σ H Q ->
  wpAny (model X.prog X.w) X.A (evalPairs (pairTrees keys values X.env pos)) (fun vs s'=>∃ps H',Inv X pins σ H' s'/\VV ps vs/\Q ps H') X.xe s
theorem Zeg{X:Cx}{pos:Pos}:PPs X pos [] [] []:=fun pins s σ H Q I h=>pairTrees_nil_walk ⟨[],H,I,.nil,h⟩
theorem Zas{X:Cx}{pos:Pos}{k v:Expr}{ks:List (Option Expr)}{vs:List Expr}{tk tv:TE}{trs:List (TE × TE)}(hk:PE X k tk)(hv:PE X v tv)(hr:PPs X pos ks vs trs) :
  PPs X pos (some k::ks) (v::vs) ((tk,tv)::trs):=fun pins s σ H Q I h =>
 pairTrees_cons_walk (thn (hk pins s σ H _ I h) fun u s1 ⟨x,H1,I1,rx,q1⟩=>thn (hv pins s1 σ H1 _ I1 q1) fun w2 s2 ⟨y,H2,I2,ry,q2⟩ =>
  thn (hr pins s2 σ H2 _ I2 q2) fun ws s3 ⟨ps,H3,I3,rel,q3⟩=>⟨(x,y)::ps,H3,I3,.cons ⟨rx,ry⟩ rel,q3⟩)
noncomputable def qO(kvs more:List (Key × V)):List (Key × V):=more.foldl (fun acc kv=>putK acc kv.1 kv.2) kvs
theorem KV.merge:∀{more:List (Key × V)} {rs:List (Key × Value)} {kvs:List (Key × V)} {vs:List (Key × Value)},KV more rs->KV kvs vs->KV (qO kvs more) (merged vs rs):=by
 intro more rs kvs vs r
 unfold KV at r
 induction r generalizing kvs vs with
 | nil=>intro q;exact q
 | @cons p q ps qs h t ih =>
  intro r0
  have e:KV (putK kvs p.1 p.2) (stored vs q.1 q.2):=by
   have:=r0.put p.1 h.2
   rw [<-h.1];exact this
  exact ih e
theorem JK:∀(more kvs:List (Key × V)),(qO kvs more).length<=kvs.length + more.length
 | [],kvs=>by show kvs.length<=kvs.length + 0;lia
 | p::r,kvs=>by
  have h1:=JK r (putK kvs p.1 p.2)
  have h2:=XJ kvs p.1 p.2
  show (qO (putK kvs p.1 p.2) r).length<=_
  rw [Qaz];lia
theorem xY{P:Program}{w:World}:∀{kvs:List (Key × V)} {ws:List (Value × Value)},VV (kvs.map fun kv=>(kV kv.1,kv.2)) ws->∃rs,Carries (Yk P w) ws rs/\KV kvs rs
 | [],_,r=>by rw [Qdq] at r;cases r;exact ⟨[],True.intro,.nil⟩
 | p::kvs,_,r=>by
  rw [Qa1] at r
  cases r with
  | @cons a b as bs h t =>
   obtain ⟨rs,c,q⟩:=xY (P:=P) (w:=w) t
   obtain ⟨b1,b2⟩:=b
   exact ⟨(p.1,b2)::rs,⟨yr h.1,rfl,c⟩,.cons ⟨rfl,h.2⟩ q⟩
noncomputable def Zgo(trs:List (TE × TE)):TE:=fun σ H Q=>∀p,H p=none->gs trs σ (upd H p (.dK [])) fun ps H2=>H2 p=some (.dK [])/\∃kvs:List (Key × V),ps=kvs.map (fun kv=>(kV kv.1,kv.2))/\kvs.length<=15/\Q (.ref p) (upd H2 p (.dK (qO [] kvs)))
theorem Zeh{X:Cx}{pos:Pos}{keys:List (Option Expr)}{values:List Expr}{trs:List (TE × TE)}(h:PPs X pos keys values trs)(hall:keys.all (·.isSome)=true)(hl:keys.length=values.length)(h0:keys≠[])
  (h15:keys.length<=15):PE X (.Dict keys values pos) (Zgo trs):=by
 intro pins s σ H Q I q
 have hn:=I.hok.fresh (Qaj s.heap.objs.size)
 have I1:=I.laid (a:=s.heap.objs.size) (o:=.dK []) (h':=s.heap.push { cls:=.type "dict",data:=.dict #[] }) (t':=s.toks) (fun _ _ q=>Heap.get?_push_of_some _ q) (Qaj _) (zA s.heap I.big)
 refine wpAny_Dict_walk (knd:=Yk X.prog X.w) hall hl h0 h15 (thn (h pins _ σ _ _ I1 (q _ hn)) fun ws s2 ⟨ps,H2,I2,rel,e,kvs,ep,lk,q2⟩=>?_)
 subst ep
 obtain ⟨rs,c,rk⟩:=xY (P:=X.prog) (w:=X.w) rel
 obtain ⟨z,hd,vs0,r0,dd⟩:=Zec I2.hok e
 cases r0
 refine ⟨rs,c,dd,fun h' dd' hs=>⟨.ref s.heap.objs.size,_,?_,rfl,q2⟩⟩
 have hz:(qO [] kvs).length<=sizeLine:=by
  have h1:=JK kvs []
  rw [Qc3] at h1
  rw [sizeLine_eq];lia
 have he:∃q,h'.get? s.heap.objs.size=some q:=let ⟨q,_,_,hq,_⟩:=dd';⟨q,hq⟩
 exact z9 I2 (by rw [e];exact True.intro) hs he (Zcp hz hd (rk.merge .nil) dd')
structure M2(X:Cx)(o:Expr)(m:Str)(apos:Pos)(e f:Expr)(cpos:Pos):Prop where
 base:attributeBase o m X.env (eval o X.env)=eval o X.env
 few:((backTo cpos (starEach [e,f] X.env)).all (fun x=>!x.1) && (backToKw cpos (keywordEach [] X.env)).all (fun x=>x.1.isSome)
  && decide (([e,f]:List Expr).length + ([]:List Keyword).length + (if ([]:List Keyword).isEmpty then 0 else 1) < 30))=true
 line:(apos.endLine == cpos.line)=true
 trees:backTo cpos (starEach [e,f] X.env)=[(false,eval e X.env),(false,eval f X.env)]
section
variable {X:Cx}{pins:List (Addr × Obj)}{σ:St}{H:Hp}{s:Shared}{a:Addr}{y d:V}{u r:Value}{o:Option V}{A:Around}{E:Value->Shared->Prop}
end
section
variable {X:Cx}{o e f:Expr}{apos cpos:Pos}{td ty tx:TE}
end
section
variable {X:Cx}{pins:List (Addr × Obj)}{σ:St}{H:Hp}{s:Shared}{a:Addr}{kvs:List (Key × V)}{A:Around}{E:Value->Shared->Prop}
end
section
variable {X:Cx}{pins:List (Addr × Obj)}{σ:St}{H:Hp}{s:Shared}{a:Addr}{y:V}{u:Value}{A:Around}{E:Value->Shared->Prop}
end
section
variable {X:Cx}
end
end L2
namespace EnT
open PySem PySem.Spec PyProof.Rows
open AutoSeq1 (wpAny_loadPart')
noncomputable def tIt (l:Addr):Obj:={ cls:=.type "tuple_iterator",data:=.fields #[.ref l,.int 0 0] }
noncomputable def enO (it:Addr):Obj:={ cls:=.type "enumerate",data:=.fields #[.none,.bool false,.ref it,rawInt 0,.none,.none] }
theorem XI(l:Addr)(items:Array Value) :
  Meets (Builtin.«enumerate.__new__» ⟨[.type "enumerate",.ref l],[]⟩) (fun _ R s=>s.heap.IsTuple l items /\
   R (.ok (.ret (.ref (s.heap.push (tIt l)).objs.size))) { s with heap:=(s.heap.push (tIt l)).push (enO s.heap.objs.size) }) :=
 .of_wp fun prog w A R s h=>by
  obtain ⟨hp,g,d,tk,os⟩:=s;obtain ⟨hL,h⟩:=h
  have hsub:=sub_enumerate
  obtain ⟨⟨oc,od,oda,osl⟩,hl,hc,n,hd⟩:=id hL
  simp only at hc hd
  subst hc hd
  wp_walk using wpAny_loadPart' hl
  refine wpAny_stack_any fun st=>wpAny_pure ?_
  split
  ·rename_i c _ _ _ _ _
   cases (c == Value.type "enumerate")
   ·wp_walk using wpAny_loadPart' hl,wpAny_pyIter_tuple hL
    exact ⟨_,rfl,h⟩
   ·wp_walk using wpAny_loadPart' hl,wpAny_pyIter_tuple hL
    exact ⟨_,rfl,h⟩
  ·wp_walk using wpAny_loadPart' hl,wpAny_pyIter_tuple hL
   exact ⟨_,rfl,h⟩
section
variable {prog:Program}{w:World}{A:Around}{E:Value->Shared->Prop}{s:Shared}
theorem next_of{it l:Addr}{i:Nat}{items}{x:Value}{Q:Value->Shared->Prop}(hit:s.heap.IsTupleIter it l i)(hl:s.heap.IsTuple l items)(hx:items[i]?=some x)
  (hQ:∀h',h'.IsTupleIter it l (i + 1)->Heap.SameBut it s.heap h'->Q x { s with heap:=h' }):wpAny (model prog w) A (Builtin.SmallTypes.nextOf (.ref it)) Q E s:=by
 obtain ⟨o,ho,hc,hd⟩:=id hit
 obtain ⟨ol,hol,_,nl,hdl⟩:=hl
 unfold Builtin.SmallTypes.nextOf
 refine wpAny_bind (wpAny_callSpecial?_slot (name:=Str.ofString "__next__") hit.typeIs F.slot_tuple_iterator_next (wpAny_call_entry F.slot_tuple_iterator_next hit.typeIs F.entry_tuple_iterator_next ?_ (F.args_tuple_iterator_next_1 _)))
 show wpAny _ _ (field (.ref it) 0 >>= _) _ _ s
 refine wpAny_bind (wpAny_field ho hd (x:=.ref l) rfl ?_)
 show wpAny _ _ (if (Value.ref l == Value.none)=true then _ else _) _ _ s
 rw [Qan (show ¬((Value.ref l == Value.none)=true) from Qax)]
 show wpAny _ _ (field (.ref it) 1 >>= _) _ _ s
 refine wpAny_bind (wpAny_field ho hd (x:=.int i 0) rfl ?_)
 show wpAny _ _ (seqItems? (.ref l) >>= _) _ _ s
 refine wpAny_bind (wpAny_seqItems hol hdl ?_)
 simp only [Qat,hx]
 refine wpAny_bind (wpAny_setField ho hd (by simp) (wpAny_pure ⟨x,rfl,wpAny_pure (hQ _ ⟨_,Heap.get?_update_self _ ho (Obj.isFreed_of_fields (Obj.data_mapFields hd _)),(Obj.cls_mapFields ..).trans hc,?_⟩ (Heap.SameBut.update ..))⟩))
 rw [Obj.data_mapFields hd]
 simp [rawInt]
theorem next_no{it l:Addr}{i:Nat}{items}{Q:Value->Shared->Prop}(hh:A.handled=none)(hit:s.heap.IsTupleIter it l i)(hl:s.heap.IsTuple l items)(hx:items[i]?=none)
  (hE:∀h' e,Heap.ExtBut it s.heap h'->(∃o,h'.get? e=some o/\o.cls=.type "StopIteration")->E (.ref e) { s with heap:=h' }):wpAny (model prog w) A (Builtin.SmallTypes.nextOf (.ref it)) Q E s:=by
 obtain ⟨o,ho,hc,hd⟩:=id hit
 obtain ⟨ol,hol,_,nl,hdl⟩:=hl
 unfold Builtin.SmallTypes.nextOf
 refine wpAny_bind (wpAny_callSpecial?_slot (name:=Str.ofString "__next__") hit.typeIs F.slot_tuple_iterator_next (wpAny_call_entry F.slot_tuple_iterator_next hit.typeIs F.entry_tuple_iterator_next ?_ (F.args_tuple_iterator_next_1 _)))
 show wpAny _ _ (field (.ref it) 0 >>= _) _ _ s
 refine wpAny_bind (wpAny_field ho hd (x:=.ref l) rfl ?_)
 show wpAny _ _ (if (Value.ref l == Value.none)=true then _ else _) _ _ s
 rw [Qan (show ¬((Value.ref l == Value.none)=true) from Qax)]
 show wpAny _ _ (field (.ref it) 1 >>= _) _ _ s
 refine wpAny_bind (wpAny_field ho hd (x:=.int i 0) rfl ?_)
 show wpAny _ _ (seqItems? (.ref l) >>= _) _ _ s
 refine wpAny_bind (wpAny_seqItems hol hdl ?_)
 simp only [Qat,hx]
 refine wpAny_bind (wpAny_rule (wpAny_bind (wpAny_setField ho hd (by simp) ?_)))
 show wpAny _ _ (newExc (.type "StopIteration") [] >>= _) _ _ _
 refine wpAny_bind ?_
 simp only [newExc,newTuple]
 refine wpAny_bind (wpAny_newObj_type ?_ (by size_fits))
 refine wpAny_bind (m:=firstArgMember _ _) (wpAny_of_eq (a:=Value.none) (by first | rfl | (simp only [firstArgMember];rfl)) ?_)
 refine wpAny_newObj_type ?_ (by size_fits)
 simp only [raiseNew]
 refine wpAny_bind (wpAny_handled ?_)
 first | rw [show A.in1.handled=none from hh] | rw [hh]
 refine wpAny_bind (wpAny_pure (wpAny_throw ?_))
 exact hE _ _ (((Heap.SameBut.update ..).extBut.push _).push _) ⟨_,Heap.get?_push_size _ rfl,rfl⟩
theorem yu{e it l:Addr}{i:Nat}{items:Array Value}{x old:Value}{Q:Value->Shared->Prop}
  (he:IsEnum s.heap e it i old) (hit:s.heap.IsTupleIter it l i) (hl:s.heap.IsTuple l items) (hx:items[i]?=some x) (hne:e≠it)
  (hQ:∀h',IsEnumOut h' e it ((i:Int) + 1) x s.heap.objs.size->h'.IsTupleIter it l (i + 1) ->
   h'.get? s.heap.objs.size=some { cls:=.type "tuple",data:=.seq #[.int i s.toks,x] }->h'.objs.size=s.heap.objs.size + 1 ->
   (∀b o,b≠e->b≠it->s.heap.get? b=some o->h'.get? b=some o)->Q (.ref s.heap.objs.size) { s with heap:=h',toks:=s.toks + 1 }) :
  wpAny (model prog w) A (Builtin.«enumerate.__next__» ⟨[.ref e],[]⟩) (fun fin s'=>∃v,fin=.done (.ret v)/\Q v s') E s:=by
 obtain ⟨hp,g,d,tk,os⟩:=s
 show wpAny _ _ (field (.ref e) 2 >>= _) _ _ _
 refine wpAny_bind (wpAny_field he rfl (x:=.ref it) rfl ?_)
 refine wpAny_bind (next_of hit hl hx fun h₁ hit₁ hs₁=>?_)
 replace hs₁:Heap.SameBut it hp h₁:=hs₁
 have he₁:IsEnum h₁ e it i old:=(hs₁.2 e hne).trans he
 show wpAny _ _ (field (.ref e) 3 >>= _) _ _ ⟨h₁,g,d,tk,os⟩
 refine wpAny_bind (wpAny_field he₁ rfl (x:=rawInt i) rfl ?_)
 show wpAny _ _ (field (.ref e) 4 >>= _) _ _ ⟨h₁,g,d,tk,os⟩
 refine wpAny_bind (wpAny_field he₁ rfl (x:=.none) rfl ?_)
 show wpAny _ _ (mkInt i >>= _) _ _ ⟨h₁,g,d,tk,os⟩
 refine wpAny_bind (wpAny_mkInt ?_)
 show wpAny _ _ (setField (.ref e) 3 (rawInt ((i:Int) + 1)) >>= _) _ _ ⟨h₁,g,d,tk + 1,os⟩
 refine wpAny_bind (wpAny_setField_rec he₁ (by simp) fun h₂ he₂ hs₂=>?_)
 replace hs₂:Heap.SameBut e h₁ h₂:=hs₂
 replace he₂:IsEnum h₂ e it ((i:Int) + 1) old:=he₂
 show wpAny _ _ (setField (.ref e) 4 .none >>= _) _ _ ⟨h₂,g,d,tk + 1,os⟩
 refine wpAny_bind (wpAny_setField_rec he₂ (by simp) fun h₃ he₃ hs₃=>?_)
 replace hs₃:Heap.SameBut e h₂ h₃:=hs₃
 replace he₃:IsEnum h₃ e it ((i:Int) + 1) old:=he₃
 show wpAny _ _ (newTuple [.int i tk,x] >>= _) _ _ ⟨h₃,g,d,tk + 1,os⟩
 refine wpAny_bind (wpAny_newTuple ?_)
 have he₄:IsEnum (h₃.push { cls:=.type "tuple",data:=.seq #[.int i tk,x] }) e it ((i:Int) + 1) old:=Heap.get?_push_of_some _ he₃
 generalize hh₄:h₃.push { cls:=.type "tuple",data:=.seq #[.int i tk,x] }=h₄ at he₄
 have hsz:h₃.objs.size=hp.objs.size:=by rw [hs₃.1,hs₂.1,hs₁.1]
 have hel:e < hp.objs.size:=Heap.lt_size he
 have ht₄:h₄.get? hp.objs.size=some { cls:=.type "tuple",data:=.seq #[.int i tk,x] }:=by rw [<-hh₄,<-hsz];exact Heap.get?_push_size _ rfl
 have hz₄:h₄.objs.size=hp.objs.size + 1:=by rw [<-hh₄,Heap.size_push,hsz]
 have hk₄:∀b o,b≠e->b≠it->hp.get? b=some o->h₄.get? b=some o:=fun b o hbe hbi hb=>by
  rw [<-hh₄];exact Heap.get?_push_of_some _ (hs₃.extBut b o hbe (hs₂.extBut b o hbe (hs₁.extBut b o hbi hb)))
 have hit₄:h₄.IsTupleIter it l (i + 1):=by
  rw [<-hh₄];obtain ⟨o,ho,r⟩:=(hit₁.extBut hs₂.extBut (Qc2 hne)).extBut hs₃.extBut (Qc2 hne);exact ⟨o,Heap.get?_push_of_some _ ho,r⟩
 show wpAny _ _ (Builtin.SmallTypes.ownedTupleIsFree (.ref e) >>= _) _ _ ⟨h₄,g,d,tk + 1,os⟩
 rw [hsz]
 clear hh₄ he₃ hs₃ he₂ hs₂ he₁ hs₁ hit₁ hsz h₃ h₂ h₁
 refine wpAny_bind ?_
 ·unfold Builtin.SmallTypes.ownedTupleIsFree
  refine wpAny_bind (wpAny_field he₄ rfl (x:=.none) rfl (wpAny_pure ?_))
  simp only [Qd6]
  refine wpAny_bind (wpAny_rule ?_)
  refine wpAny_bind (wpAny_field he₄ rfl (x:=old) rfl ?_)
  refine wpAny_bind (wpAny_setField_rec he₄ (by simp) fun h₅ he₅ hs₅=>?_)
  replace hs₅:Heap.SameBut e h₄ h₅:=hs₅
  replace he₅:IsEnum h₅ e it ((i:Int) + 1) x:=he₅
  show wpAny _ _ (Builtin.SmallTypes.ownedTupleHandOut (.ref e) (.ref hp.objs.size) >>= _) _ _ ⟨h₅,g,d,tk + 1,os⟩
  refine wpAny_bind ?_
  ·unfold Builtin.SmallTypes.ownedTupleHandOut
   refine wpAny_bind (wpAny_setField_rec he₅ (by simp) fun h₆ he₆ hs₆=>?_)
   replace hs₆:Heap.SameBut e h₅ h₆:=hs₆
   replace he₆:IsEnumOut h₆ e it ((i:Int) + 1) x hp.objs.size:=he₆
   refine wpAny_setField_rec he₆ (by simp) fun h₇ he₇ hs₇=>?_
   replace hs₇:Heap.SameBut e h₆ h₇:=hs₇
   replace he₇:IsEnumOut h₇ e it ((i:Int) + 1) x hp.objs.size:=he₇
   refine wpAny_bind (wpAny_letGo (wpAny_pure ⟨_,rfl,hQ h₇ he₇ ?_ ?_ ?_ ?_⟩))
   ·exact ((hit₄.extBut hs₅.extBut (Qc2 hne)).extBut hs₆.extBut (Qc2 hne)).extBut hs₇.extBut (Qc2 hne)
   ·exact hs₇.extBut _ _ (Qc1 hel) (hs₆.extBut _ _ (Qc1 hel) (hs₅.extBut _ _ (Qc1 hel) ht₄))
   ·rw [hs₇.1,hs₆.1,hs₅.1,hz₄]
   ·exact fun b o hbe hbi hb=>hs₇.extBut b o hbe (hs₆.extBut b o hbe (hs₅.extBut b o hbe (hk₄ b o hbe hbi hb)))
theorem next_item{e it l:Addr}{i:Nat}{items:Array Value}{x old:Value}{Q:Option Value->Shared->Prop}
  (he:IsEnum s.heap e it i old) (hit:s.heap.IsTupleIter it l i) (hl:s.heap.IsTuple l items) (hx:items[i]?=some x) (hne:e≠it)
  (hQ:∀h',IsEnumOut h' e it ((i:Int) + 1) x s.heap.objs.size->h'.IsTupleIter it l (i + 1) ->
   h'.get? s.heap.objs.size=some { cls:=.type "tuple",data:=.seq #[.int i s.toks,x] }->h'.objs.size=s.heap.objs.size + 1 ->
   (∀b o,b≠e->b≠it->s.heap.get? b=some o->h'.get? b=some o)->Q (some (.ref s.heap.objs.size)) { s with heap:=h',toks:=s.toks + 1 }) :
  wpAny (model prog w) A (pyNext (.ref e)) Q E s:=by
 have hT:s.TypeIs (.ref e) "enumerate" := ⟨_,he,rfl⟩
 unfold pyNext
 exact wpAny_bind (wpAny_attempt (wpAny_callSpecial?_slot (name:=Str.ofString "__next__") hT F.slot_enumerate_next (wpAny_call_entry F.slot_enumerate_next hT F.entry_enumerate_next
   (yu he hit hl hx hne fun h' a b c d k=>wpAny_pure (hQ h' a b c d k)) (F.args_enumerate_next_1 _))))
theorem next_end{e it l:Addr}{i:Nat}{items:Array Value}{old:Value}{Q:Option Value->Shared->Prop}(hh:A.handled=none)
  (he:IsEnum s.heap e it i old) (hit:s.heap.IsTupleIter it l i) (hl:s.heap.IsTuple l items) (hx:items[i]?=none)
  (hQ:∀h',Heap.ExtBut it s.heap h'->Q none { s with heap:=h' }):wpAny (model prog w) A (pyNext (.ref e)) Q E s:=by
 have hT:s.TypeIs (.ref e) "enumerate" := ⟨_,he,rfl⟩
 unfold pyNext
 refine wpAny_bind (wpAny_attempt (wpAny_callSpecial?_slot (name:=Str.ofString "__next__") hT F.slot_enumerate_next (wpAny_call_entry F.slot_enumerate_next hT F.entry_enumerate_next ?_ (F.args_enumerate_next_1 _))))
 show wpAny _ _ (field (.ref e) 2 >>= _) _ _ _
 refine wpAny_bind (wpAny_field he rfl (x:=.ref it) rfl ?_)
 refine wpAny_bind (next_no hh hit hl hx fun h' x he' hx'=>?_)
 obtain ⟨o,ho,hc⟩:=hx'
 refine wpAny_bind (wpAny_isInstance (T := "StopIteration") (b:=true) ⟨o,ho,hc⟩ isSubtype_stop ?_)
 exact wpAny_pure (hQ _ he')
theorem call_new{l:Addr}{items:Array Value}{Q:Value->Shared->Prop}(hl:s.heap.IsTuple l items)
  (h:∀h',IsEnum h' (s.heap.objs.size + 1) s.heap.objs.size 0 .none->h'.IsTupleIter s.heap.objs.size l 0->h'.objs.size=s.heap.objs.size + 2 ->
   (∀b o,s.heap.get? b=some o->h'.get? b=some o)->Q (.ref (s.heap.objs.size + 1)) { s with heap:=h' }):wpAny (model prog w) A (call (.type "enumerate") [.ref l]) Q E s:=by
 refine callType_new F.called_enumerate (by decide) (F.typeCall_enumerate_1 _) (F.newCall_enumerate_1 _) (fun obj=>F.args_object_init_2 obj _) F.entry_enumerate_new (XI l items) ⟨hl,?_⟩
 have hz:(s.heap.push (tIt l)).objs.size=s.heap.objs.size + 1:=Heap.size_push ..
 show _/\_
 rw [hz]
 have he:IsEnum ((s.heap.push (tIt l)).push (enO s.heap.objs.size)) (s.heap.objs.size + 1) s.heap.objs.size 0 .none:=by
  have:=Heap.get?_push_size (s.heap.push (tIt l)) (o:=enO s.heap.objs.size) rfl
  rw [hz] at this
  exact this
 refine ⟨⟨_,he,rfl⟩,h _ he ⟨_,Heap.get?_push_of_some _ (Heap.get?_push_size _ rfl),rfl,rfl⟩ (by rw [Heap.size_push,hz]) fun b o x=>Heap.get?_push_of_some _ (Heap.get?_push_of_some _ x)⟩
end
end EnT
namespace L2
open PySem PySem.Spec PyProof.Rows
theorem kb{X:Cx}{pins:List (Addr × Obj)}{σ:St}{H:Hp}{s:Shared}{h':Heap}{t':Nat}{fp:List Addr}(I:Inv X pins σ H s)(hf:∀b∈fp,yU X pins H b)(k:∀b o,b∉fp->s.heap.get? b=some o->h'.get? b=some o):Inv X pins σ H { s with heap:=h',toks:=t' }:=by
 have nit:∀b u,H b=some u->b∉fp:=fun b u e z=>by rw [(hf b z).1] at e;cases e
 refine I.step (g':=s.gens) (d':=s.drawn) (ch:=fp) (fun b hb=>⟨(hf b hb).2.2.2.1,(hf b hb).2.1,(hf b hb).2.2.2.2.1,(hf b hb).2.2.2.2.2⟩) (fun b o _ _ hc e _=>k b o hc e) (fun b o _ _ hc e _=>⟨o.slots,k b o hc e⟩) (fun _ _ _ _ n=>n)
  (fun b o hc e=>⟨o,k b o hc e⟩) (fun _ _ e=>e) (fun _ _ _ e=>e) (fun b ps e=>⟨#[],by rw [e];simp⟩) (fun m hm=>?_) (fun b u e=>?_) I.bare
 ·obtain ⟨o,es,ep,ho,r⟩:=hm
  exact ⟨o,es,ep,k _ o (fun z=>(hf _ z).2.1 rfl) ho,r⟩
 ·refine (I.hok b u e).stay (fun c v hc q=>k c v ?_ q) (fun _ q=>q) fun _ _ q=>q
  rcases hc with z | z
  ·rw [z]
   exact nit b u e
  ·exact nit c _ z
noncomputable def Ite(K:PySem.W.Frag)(a:Addr)(n:Nat):It :=
 ⟨fun i H=>∃xs x,SqT K H a xs/\xs.length=n/\xs[i]?=some x,fun i H v H'=>∃p,H p=none/\v=.ref p/\∀xs x,SqT K H a xs->xs[i]?=some x->H'=upd H p (.tup [.int i,x]),fun i H=>∃xs,SqT K H a xs/\xs.length=n/\n<=i⟩
theorem gu{P:Program}{w:World}{K:PySem.W.Frag}{es:List Expr}{q:Nat}{ps:Pos}(a e it:Addr)(n:Nat)(hei:e≠it):Turn P w K (.Tuple es q ps) (Ite K a n) [e,it] e (fun i h=>(∃old,IsEnum h e it i old)/\h.IsTupleIter it a i) where
 mem:=by simp
 obj:=fun i h st b hb=>by
  obtain ⟨⟨old,he⟩,o,ho,hc,hd⟩:=st
  rcases Qak.mp hb with rfl | hb
  ·exact ⟨_,he,fun v z=>by
    have z':Data.fields _=Data.cell v:=z
    cases z'⟩
  ·have:b=it:=by simpa using hb
   subst this
   exact ⟨o,ho,fun v z=>by rw [hd] at z;cases z⟩
 keep:=fun i h h' st k=>by
  obtain ⟨⟨old,he⟩,hit⟩:=st
  exact ⟨⟨old,k e (by simp) _ he⟩,hit.at fun o x=>k it (by simp) o x⟩
 item:=by
  intro X hP hw hK hc i pins s σ H E I hf st hg
  subst hP hw hK
  obtain ⟨xs,x,hq,hn,hx⟩:=hg
  obtain ⟨its,rv,p,hz⟩:=I.tuple hq
  obtain ⟨u,hu,ru⟩:=rv.get hx
  obtain ⟨⟨old,he⟩,hit⟩:=st
  obtain ⟨f0,f1,f2,f3,f4,f5⟩:=hf e (by simp)
  obtain ⟨g0,g1,g2,g3,g4,g5⟩:=hf it (by simp)
  have hlt:e < s.heap.objs.size:=Heap.lt_size he
  have hilt:it < s.heap.objs.size:=by obtain ⟨_,z,_⟩:=hit;exact Heap.lt_size z
  refine EnT.next_item he hit (show s.heap.IsTuple a its.toArray from p) (x:=u) (by simpa using hu) hei fun h' ho hit' hT hsz hk=>?_
  refine ⟨_,rfl,wpAny_letOwnedTupleGo_enum (s:={ s with heap:=h',toks:=s.toks + 1 }) ho fun h2 he2 hs2=>?_⟩
  have hs2':Heap.SameBut e h' h2:=hs2
  have I1:Inv X pins σ (upd H s.heap.objs.size (.tup [.int i,x])) { s with heap:=s.heap.push { cls:=.type "tuple",data:=.seq #[.int i s.toks,u] },toks:=s.toks + 1 } :=
   I.laid (fun b o y=>Heap.get?_push_of_some _ y) (Qaj _) ⟨by show 2<=sizeLine;decide,[.int i s.toks,u],.cons ⟨_,rfl⟩ (.cons ru .nil),IsTup.new _ _⟩
  have fp':∀b∈[e,it],yU X pins (upd H s.heap.objs.size (.tup [.int i,x])) b:=fun b hb=>by
   have hlb:b≠s.heap.objs.size:=by
    rcases Qak.mp hb with rfl | hb
    ·exact Qbv hlt
    ·have:b=it:=by simpa using hb
     rw [this]
     exact Qbv hilt
   obtain ⟨a0,ar⟩:=hf b hb
   exact ⟨by rw [Zo hlb];exact a0,ar⟩
  have I2:Inv X pins σ (upd H s.heap.objs.size (.tup [.int i,x])) { s with heap:=h2,toks:=s.toks + 1 }:=by
   refine kb (s:={ s with heap:=s.heap.push { cls:=.type "tuple",data:=.seq #[.int i s.toks,u] },toks:=s.toks + 1 }) I1 fp' fun b o hb y=>?_
   have hbe:b≠e:=fun z=>hb (by simp [z])
   have hbi:b≠it:=fun z=>hb (by simp [z])
   rcases Heap.get?_push_cases y with ⟨rfl,rfl⟩ | y
   ·exact (hs2'.2 _ hbe).trans hT
   ·exact (hs2'.2 b hbe).trans (hk b o hbe hbi y)
  refine ⟨.ref s.heap.objs.size,_,I2,rfl,⟨_,I.hok.fresh (Qaj _),rfl,fun ys y hy hyi=>?_⟩,⟨⟨u,?_⟩,hit'.at fun o y=>(hs2'.2 it hei.symm).trans y⟩,fun b hb=>(fp' b hb).1⟩
  ·rw [I.tuple_inj hy hq,hx] at hyi
   cases hyi
   rfl
  ·have e1:((i + 1:Nat):Int)=(i:Int) + 1:=by lia
   show IsEnum h2 e it ((i + 1:Nat):Int) u
   rw [e1]
   exact he2
 done:=by
  intro X hP hw hK hc i pins s σ H E I hf st hg
  subst hP hw hK
  obtain ⟨xs,hq,hn,hx⟩:=hg
  obtain ⟨its,rv,p,hz⟩:=I.tuple hq
  obtain ⟨⟨old,he⟩,hit⟩:=st
  obtain ⟨g0,g1,g2,g3,g4,g5⟩:=hf it (by simp)
  have hl:=rv.length
  exact EnT.next_end (I.ok.hd hc) he hit (show s.heap.IsTuple a its.toArray from p) (by simp;lia) fun h' eb=>⟨rfl,I.turned (t':=s.toks) (fun b o hb e=>eb b o hb e) g0 g1 g3 g4 g5⟩
 self:=fun _ _ _ _ _ st h=>let ⟨⟨_,he⟩,_⟩:=st;wpAny_pyIter_enum he h
noncomputable def iEnum(K:PySem.W.Frag)(te:TE):TI:=fun σ H R=>te σ H fun x H1=>∃a xs,x=.ref a/\SqT K H1 a xs/\R (Ite K a xs.length) H1
theorem j4:bootBuiltins "enumerate" = some (.type "enumerate"):=by decide +kernel
theorem Zat {X:Cx} {e:Expr} {es:List Expr} {q:Nat} {ps:Pos} {te:TE} {p pos:Pos} (hg:Gl X "enumerate") (hm:X.mg "enumerate" = none) (he:QE X e te) (hp:Yx e=true:=by rfl):QI X (.Tuple es q ps) (.Call (.Name "enumerate" p) [e] [] pos) (iEnum X.K te):=by
 refine ⟨fun pins s σ H R I h=>?_⟩
 have hs:starEach [e] X.env=[(false,eval e X.env)]:=by rw [Z0 hp];rfl
 refine Call_ (GC I hg hm j4 (Qch ?_ hs rfl))
 rw [hs]
 show wpAny _ _ (spliced ((false,eval e X.env)::[])) _ _ s
 refine Calls.spliced_cons (thn (he.out pins s σ H _ I h) fun u s1 ⟨x,H1,I1,ru,q1⟩=>?_)
 refine Calls.spliced_nil ?_
 obtain ⟨a,xs,rfl,hq,r⟩:=q1
 cases ru
 obtain ⟨its,rv,pt,hz⟩:=I1.tuple hq
 refine EnT.call_new (show s1.heap.IsTuple a its.toArray from pt) fun h' he' hit' hsz hk=>?_
 have I2:Inv X pins σ H1 { s1 with heap:=h' }:=I1.kept (t':=s1.toks) hk
 refine wpAny_pyIter_enum he' ⟨s1.heap.objs.size + 1,[s1.heap.objs.size + 1,s1.heap.objs.size],_,_,H1,rfl,I2,gu a (s1.heap.objs.size + 1) s1.heap.objs.size xs.length (Nat.succ_ne_self _),⟨⟨_,he'⟩,hit'⟩,fun b hb=>?_,r⟩
 rcases Qak.mp hb with rfl | hb
 ·exact I1.fpOk (Qee _) (I1.hok.fresh (Qee _))
 ·have:b=s1.heap.objs.size:=by simpa using hb
  subst this
  exact I1.fpOk (Qaj _) (I1.hok.fresh (Qaj _))
theorem Zei{X:Cx}{x y:Str}{p1 p2 pos:Pos}{k:Nat}{t1 t2:TG}(hc:X.calm=true)(h1:QG X (.Name x p1) t1)(h2:QG X (.Name y p2) t2):QG X (.Tuple [.Name x p1,.Name y p2] k pos) (gTup X.K 2 (wb t1 (wb t2 gNil))) :=
 ⟨pg_tup hc (yT h1.out (yT h2.out Zdr))⟩
theorem Zau{K:PySem.W.Frag}{a:Addr}{xs:List V}{j k:Nat}{tb:TS}{D:Ends}{σ:St}{H:Hp}(Pv:Nat->St->Hp->Prop)(h0:Pv 0 σ H)(hl:∀i σ H,i<=xs.length->Pv i σ H->SqT K H a xs)
  (hs:∀i x σ H p,xs[i]?=some x->H p=none->Pv i σ H->tb { D with nx:=Pv (i + 1),ct:=Pv (i + 1),bk:=D.nx } ((σ.set j (some (.int i))).set k (some x)) (upd H p (.tup [.int i,x]))) (hd:∀σ H,Pv xs.length σ H->D.nx σ H) :
  ∃W:Nat->Nat->St->Hp->Prop,(∃m,W 0 m σ H)/\∀i m σ H,W i m σ H ->
   ((Ite K a xs.length).stop i H/\D.nx σ H)\/((Ite K a xs.length).go i H/\∃N:St->Hp->Prop,(∀σ' H',N σ' H'->∃m',m' < m/\W (i + 1) m' σ' H')/\∀x H',(Ite K a xs.length).yld i H x H'->(gTup K 2 (wb (zw j) (wb (zw k) gNil))) x σ H' fun σ2 H2=>tb { D with nx:=N,ct:=N,bk:=D.nx } σ2 H2):=by
 refine ⟨fun i m σ H=>m=xs.length - i/\i<=xs.length/\Pv i σ H,⟨xs.length,by simp,Qbg _,h0⟩,?_⟩
 rintro i m σ H ⟨rfl,hi,p⟩
 have hq:=hl i σ H hi p
 by_cases hlt:i < xs.length
 ·have hx:=Qaa hlt
  refine .inr ⟨⟨xs,xs[i],hq,rfl,hx⟩,Pv (i + 1),fun σ' H' p'=>⟨xs.length - (i + 1),by lia,rfl,hlt,p'⟩,fun v H' y=>?_⟩
  obtain ⟨t,ht,rfl,y⟩:=y
  have e:=y xs _ hq hx
  subst e
  exact ⟨t,_,rfl,SqT.of Za,rfl,_,_,rfl,_,_,rfl,rfl,hs i _ σ H t hx ht p⟩
 ·have e:i=xs.length:=by lia
  exact .inl ⟨⟨xs,hq,rfl,by lia⟩,by rw [e] at p;exact hd σ H p⟩
section
variable {X:Cx}
theorem zB{o i:Expr}{td ty:TE}{pos:Pos}(hu:X.A.units + 1 < cLine)(ho:QE X o td)(hi:QE X i ty)(hs:Zg5 i):QE X (.Subscript o i pos) (Zgm td ty):=⟨Zee hu ho.out hi.out hs⟩
theorem yw{pos:Pos}:QE X (.Dict [] [] pos) Zcq:=⟨Zar⟩
theorem qP{o i value:Expr}{td ty tv:TE}{pos pos':Pos}(hu:X.A.units + 1 < cLine)(ho:QE X o td)(hi:QE X i ty)(hv:QE X value tv)(hs:swapsWith value (some (.Subscript o i pos')) pos.line X.env=pure false) :
  QS X (.Assign [.Subscript o i pos'] value pos) (Zgn td ty tv):=⟨Zef hu ho.out hi.out hv.out hs⟩
inductive Zcr(neg:Bool)(y:V)(x:V)(H:Hp)(Q:VK):Prop
 | mk (a o):(x=.ref a)->(Zf0 H a y o)->(Q (.bl (if neg then !o.isSome else o.isSome)) H)->Zcr neg y x H Q
noncomputable def rDIn(neg:Bool):R2:=fun y x H Q=>Zcr neg y x H Q
theorem xZ(hu:X.A.units + 1 < cLine):OpR X (compareOp .In) (rDIn false):=by
 intro pins s σ H x y v u Q I rx ry h
 obtain ⟨a,o,rfl,g,q⟩:=h
 cases ry
 exact d_in hu I g rx fun s' I'=>⟨.bl o.isSome,H,I',rfl,q⟩
theorem JL(hu:X.A.units + 1 < cLine):OpR X (compareOp .NotIn) (rDIn true):=by
 intro pins s σ H x y v u Q I rx ry h
 obtain ⟨a,o,rfl,g,q⟩:=h
 cases ry
 exact Zed hu I g rx fun s' I'=>⟨.bl (!o.isSome),H,I',rfl,q⟩
theorem zC{κ:Type}[DecidableEq κ]:∀{kvs:List (κ × V)},(kvs.map (·.1)).Nodup->∀p∈kvs,YW kvs p.1=some p.2
 | [],_,_,h=>nomatch h
 | q::r,nd,p,h=>by
  rw [Qa1,Qby] at nd
  rcases Qak.mp h with rfl | h
  ·exact Y4 rfl
  ·have hne:¬q.1=p.1:=fun z=>nd.1 (by rw [z];exact Qbi h)
   rw [Y5 hne]
   exact zC nd.2 p h
theorem vc{x:V}(h:Xc x=true):eqV x x=true:=by
 cases x <;> first
  | exact Qbs _
  | rfl
  | cases h
end
inductive KTab(P:Params):List DictEntry->List (Str × Int)->Prop
 | nil:KTab P [] []
 | cons {k:Str} {v:Int} {t u:Tok} {es:List DictEntry} {l:List (Str × Int)}:KTab P es l->KTab P ({ hash:=PyData.keyHash P k,key:=.str k t,val:=.int v u }::es) ((k,v)::l)
structure KD(K:PySem.W.Frag)(w:World)(a:Addr)(l:List (Str × Int)):Prop where
 ex:∃es ep,K.lookup a=some { cls:=.type "dict",dict:=none,data:=.dict es ep,slots:=#[] }/\KTab w.params es.toList l
 nd:(l.map (·.1)).Nodup
 ns:(a == sysModules)=false
noncomputable def kvsOf(l:List (Str × Int)):List (Key × V):=l.map fun p=>((Sum.inr p.1:Key),V.int p.2)
theorem KTab.pairs{P:Program}{w:World}{es:List DictEntry}{l:List (Str × Int)}(h:KTab w.params es l):(∃vs,KV (kvsOf l) vs/\Pairs (Yk P w) es vs)/\∀e∈es,∃k,(Yk P w).is k e.key=true/\e.hash=(Yk P w).hash k:=by
 induction h with
 | nil=>exact ⟨⟨[],.nil,.nil⟩,fun _ h=>nomatch h⟩
 | @cons k v t u es l _ ih =>
  obtain ⟨⟨vs,r,p⟩,q⟩:=ih
  refine ⟨⟨(.inr k,.int v u)::vs,.cons ⟨rfl,⟨u,rfl⟩⟩ r,.cons (J0 P w k t) rfl p⟩,fun e he=>?_⟩
  rcases Qak.mp he with rfl | he
  ·exact ⟨.inr k,J0 P w k t,rfl⟩
  ·exact q e he
section
variable {X:Cx}{pins:List (Addr × Obj)}{σ:St}{H:Hp}{s:Shared}{a:Addr}{l:List (Str × Int)}{k:Key}{u:Value}{A:Around}{E:Value->Shared->Prop}
theorem KD.of(I:Inv X pins σ H s)(d:KD X.K X.w a l):∃vs,KV (kvsOf l) vs/\s.heap.DictOf (Yk X.prog X.w) a vs:=by
 obtain ⟨es,ep,hk,t⟩:=d.ex
 obtain ⟨⟨vs,r,p⟩,q⟩:=t.pairs (P:=X.prog)
 refine ⟨vs,r,_,es,ep,I.kIn a _ hk,⟨rfl,rfl,rfl⟩,rfl,fun e he=>q e (by simpa using he),p,?_⟩
 rw [<-r.keys]
 unfold kvsOf
 rw [Qbn]
 have:=d.nd
 rw [List.nodup_iff_pairwise_ne] at *
 rw [Qeo] at *
 exact this.imp fun h z=>h (Sum.inr.inj z)
theorem Zej{z:V}{r:Value}{Q:Value->Shared->Prop}(I:Inv X pins σ H s)(d:KD X.K X.w a l)(ry:RelV (kV k) u)(rz:RelV z r)(h:∀w' s',Inv X pins σ H s'->RelV ((YW (kvsOf l) k).getD z) w'->Q w' s') :
  wpAny (model X.prog X.w) A (call (.builtin "dict.get") [.ref a,u,r]) Q E s:=by
 obtain ⟨vs,rel,dd⟩:=d.of I
 exact call_meetsIn PySem.F.slot_dict_get dd.typeIs PySem.F.entry_dict_get (PySem.F.args_dict_get_3 _ _ _) (meets_dict_get_default (Yk X.prog X.w) a (yr ry) d.ns r) ⟨_,dd.mapOf,h _ _ (I.tok _) ((rel.val k).getD rz)⟩
end
section
variable {X:Cx}
noncomputable def tKGet(K:PySem.W.Frag)(w:World)(td ty tx:TE):TE:=fun σ H Q=>td σ H fun x H1=>∃a l,x=.ref a/\KD K w a l/\ty σ H1 fun y H2=>tx σ H2 fun z H3=>∃k,y=kV k/\Q ((YW (kvsOf l) k).getD z) H3
theorem m2_of{o e f:Expr}{m:Str}{apos cpos:Pos}(he:Yx e=true)(hf:Yx f=true)(hb:attributeBase o m X.env (eval o X.env)=eval o X.env)(hl:(apos.endLine == cpos.line)=true):M2 X o m apos e f cpos where
 base:=hb
 few:=by
  rw [all_plain (by rw [Qci,he,Qci,hf];rfl)]
  rfl
 line:=hl
 trees:=by
  rw [Z0 he,Z0 hf]
  rfl
theorem yx {o e f:Expr} {apos cpos:Pos} {td ty tx:TE} (ho:QE X o td) (he:QE X e ty) (hf:QE X f tx) (h1:Yx e=true:=by rfl) (h2:Yx f=true:=by rfl) (hb:attributeBase o "get" X.env (eval o X.env)=eval o X.env:=by rfl) (hl:(apos.endLine == cpos.line)=true:=by rfl) :
  QE X (.Call (.Attribute o "get" apos) [e,f] [] cpos) (tKGet X.K X.w td ty tx):=by
 have m:=m2_of (X:=X) (m := "get") (o:=o) h1 h2 hb hl
 refine ⟨fun pins s σ H Q I h=>?_⟩
 refine wpAny_Call_method m.base m.few m.line PySem.F.plainAttrs_dict PySem.F.slot_dict_get PySem.F.type_dict_get (thn (ho.out pins s σ H _ I h) fun u s1 ⟨x,H1,I1,rx,a,l,ex,d,q1⟩=>?_)
 subst ex
 obtain rfl:u=Value.ref a:=rx
 obtain ⟨vs,rel,dd⟩:=d.of I1
 refine ⟨dd.typeIs,fun b q=>?_,?_⟩
 ·cases q
  obtain ⟨ob,_,_,g1,g2,_⟩:=dd
  exact ⟨ob,g1,g2.2.1⟩
 rw [m.trees]
 refine Calls.callWith_builtin rfl (Calls.evalArgs_plain (Calls.spliced_cons (thn (he.out pins s1 σ H1 _ I1 q1) fun iv s2 ⟨y,H2,I2,ry,q2⟩=>Calls.spliced_cons (thn (hf.out pins s2 σ H2 _ I2 q2) fun fv s3 ⟨z,H3,I3,rz,k,ey,q3⟩=>Calls.spliced_nil ?_))))
 subst ey
 exact Zej I3 d ry rz fun w' s4 I4 rw'=>⟨_,H3,I4,rw',q3⟩
end
noncomputable def gv:List V->List V->Bool
 | [],[]=>true
 | x::xs,y::ys=>eqV x y && gv xs ys
 | _,_=>false
noncomputable def eqJ(xs ys:List V)(j:Nat):Bool:=match xs[j]?,ys[j]? with
 | some a,some b=>eqV a b
 | _,_=>true
theorem za:∀xs ys:List V,((List.range (min xs.length ys.length)).all (eqJ xs ys) && xs.length == ys.length)=gv xs ys
 | [],[]=>rfl
 | [],y::ys=>by simp [gv]
 | x::xs,[]=>by simp [gv]
 | x::xs,y::ys=>by
  have ih:=za xs ys
  have e1:min (x::xs).length (y::ys).length=min xs.length ys.length + 1:=by
   simp only [Qaz]
   lia
  have e2:((x::xs).length == (y::ys).length)=(xs.length == ys.length):=by simp
  rw [e1,e2,List.range_succ_eq_map,Qci,List.all_map,Bool.and_assoc]
  show (eqV x y && ((List.range (min xs.length ys.length)).all (eqJ xs ys) && xs.length == ys.length))=(eqV x y && gv xs ys)
  rw [ih]
theorem gw{A:Around}{s:Shared}{xs ys:List V}{its its2:List Value}(r:Vals xs its)(r2:Vals ys its2)(f:xs.all Xc=true)(f2:ys.all Xc=true):∀j (h1:j < its.toArray.size) (h2:j < its2.toArray.size),SeqAt.EqAt A s its.toArray[j] its2.toArray[j] (eqJ xs ys j):=by
 intro j h1 h2
 have l1:=r.length
 have l2:=r2.length
 have hj:j < xs.length:=by rw [l1];simpa using h1
 have hj2:j < ys.length:=by rw [l2];simpa using h2
 obtain ⟨u,e1,q1⟩:=r.get (Qaa hj)
 obtain ⟨u2,e2,q2⟩:=r2.get (Qaa hj2)
 have g1:Xc xs[j]=true:=Qck.mp f _ (Qbz hj)
 have g2:Xc ys[j]=true:=Qck.mp f2 _ (Qbz hj2)
 have e1':its.toArray[j]=u:=by
  have:its[j]?=some its[j]:=Qaa (by simpa using h1)
  rw [e1] at this
  simpa using (Option.some.inj this).symm
 have e2':its2.toArray[j]=u2:=by
  have:its2[j]?=some its2[j]:=Qaa (by simpa using h2)
  rw [e2] at this
  simpa using (Option.some.inj this).symm
 have e3:eqJ xs ys j=eqV xs[j] ys[j]:=by
  unfold eqJ
  rw [Qaa hj,Qaa hj2]
 rw [e1',e2',e3]
 exact ji (A:=A) (s:=s) q1 q2 g1 g2
section
variable {X:Cx}
inductive Zcs(K:PySem.W.Frag)(neg:Bool)(x:V)(y:V)(H:Hp)(Q:VK):Prop
 | mk (a c xs ys):(x=.ref a)->(y=.ref c)->(SqT K H a xs)->(SqT K H c ys)->(xs.all Xc=true)->(ys.all Xc=true)->(Q (.bl (if neg then !gv xs ys else gv xs ys)) H)->Zcs K neg x y H Q
noncomputable def rEqT(K:PySem.W.Frag)(neg:Bool):R2:=fun x y H Q=>Zcs K neg x y H Q
theorem Zek(hu:X.A.units < cLine):OpR X (compareOp .NotEq) (rEqT X.K true):=by
 intro pins s σ H x y v u Q I rx ry h
 obtain ⟨a,c,xs,ys,rfl,rfl,ha,hc,f,f2,q⟩:=h
 cases rx
 cases ry
 obtain ⟨its,r,p,_⟩:=I.tuple ha
 obtain ⟨its2,r2,p2,_⟩:=I.tuple hc
 refine SeqAt.RcNeAt.tuples (e:=eqJ xs ys) p p2 hu (gw r r2 f f2) X.prog X.w _ _ (ZS I q ?_)
 show (!gv xs ys)=_
 rw [Qas,Qas,<-r.length,<-r2.length,za]
end
section
variable {prog:Program}{w:World}{A:Around}{E:Value->Shared->Prop}{s:Shared}
end
section
variable {prog:Program}{w:World}{A:Around}{R:Result->Shared->Prop}{I:Addr}{fp wr:List Addr}{G:Array GenState->Array GenState->Prop}{n:Nat}{P:Nat->Value->Prop}{St:Nat->Shared->Prop}
end
section
variable {prog:Program}{w:World}{A:Around}{E:Value->Shared->Prop}{s:Shared}
end
section
variable {prog:Program}{w:World}{A:Around}{E:Value->Shared->Prop}{s:Shared}
end
section
variable {prog:Program}{w:World}{A:Around}{E:Value->Shared->Prop}{s:Shared}
end
section
variable {prog:Program}{w:World}{A:Around}{E:Value->Shared->Prop}{s:Shared}
end
section
variable {prog:Program}{w:World}{A:Around}{E:Value->Shared->Prop}{s:Shared}
end
section
variable {prog:Program}{w:World}{A:Around}{E:Value->Shared->Prop}{s:Shared}
end
section
variable {prog:Program}{w:World}{A:Around}{E:Value->Shared->Prop}{s:Shared}
end
section
variable {X:Cx}
end
section
variable {prog:Program}{w:World}{A:Around}{E:Value->Shared->Prop}{s:Shared}
end
section
variable {X:Cx}
end
section
variable {X:Cx}
end
noncomputable abbrev JA(o:Obj):HO:=.frz o (.ext fun _=>True)
theorem qQ{P:Program}{w:World}{H:Hp}{h:Heap}{a:Addr}{o:Obj}(e:h.get? a=some o):Y9 P w H h a (JA o):=⟨e,trivial,⟨o,e⟩,fun _ _ _ _=>trivial⟩
noncomputable def hide(cs:List Addr)(H:Hp):Hp:=fun b=>if b∈cs then none else H b
noncomputable def JM(cs:List Addr)(H H':Hp):Hp:=fun b=>if b∈cs then H b else H' b
theorem Wg{cs:List Addr}{H:Hp}{b:Addr}(h:b∈cs):hide cs H b=none:=Qau h
theorem ZV{cs:List Addr}{H:Hp}{b:Addr}(h:b∉cs):hide cs H b=H b:=Qan h
theorem JN{cs:List Addr}{H H':Hp}{b:Addr}(h:b∈cs):JM cs H H' b=H b:=Qau h
theorem YB{cs:List Addr}{H H':Hp}{b:Addr}(h:b∉cs):JM cs H H' b=H' b:=Qan h
theorem of_hide{cs:List Addr}{H:Hp}{b:Addr}{o:HO}(h:hide cs H b=some o):b∉cs/\H b=some o:=by
 by_cases m:b∈cs
 ·rw [Wg m] at h;cases h
 ·rw [ZV m] at h;exact ⟨m,h⟩
noncomputable def Gq(H H1:Hp):Prop:=∀b o u,H b=some (.frz o u)->H1 b=some (.frz o u)
theorem Gq.refl(H:Hp):Gq H H:=fun _ _ _ h=>h
theorem Gq.trans{H H1 H2:Hp}(a:Gq H H1)(b:Gq H1 H2):Gq H H2:=fun c o u h=>b c o u (a c o u h)
theorem ZG.frz{H H1:Hp}(a:ZG H H1):Gq H H1:=fun b o u h=>a b _ h
noncomputable def XT(P:Program)(w:World)(K:PySem.W.Frag)(mg:Str->Option Value)(base:Heap)(k:Nat)(f:Addr)(H:Hp)(τ:Sp):Prop :=
 (∃o fd,H f=some (JA o)/\o.data=.func fd) /\
 ∀(A:Around) (outer:List Env) (s:Shared) (H1:Hp) (us:List Value) (vs:List V) (Q:VK) (E:XK),Gq H H1->WL k A->Zaf P w K mg base A outer s H1->Vals vs us->τ vs H1 Q E ->
  codeAny (model P w) A (.call (.ref f) ⟨us,[]⟩) (CR CX0 outer P w H1 s Q E) s
theorem XT.frz{P:Program}{w:World}{K:PySem.W.Frag}{mg:Str->Option Value}{base:Heap}{k:Nat}{f:Addr}{H H1:Hp}{τ:Sp}(c:XT P w K mg base k f H τ)(h:Gq H H1):XT P w K mg base k f H1 τ :=
 ⟨let ⟨o,fd,e,d⟩:=c.1;⟨o,fd,h _ _ _ e,d⟩,fun A outer s H2 us vs Q E fz=>c.2 A outer s H2 us vs Q E (h.trans fz)⟩
section
variable {P:Program}{w:World}{H H':Hp}{h h':Heap}{cs:List Addr}
theorem gx(x:HOk P w H h)(hcs:∀c∈cs,∃o,H c=some (JA o)):HOk P w (hide cs H) h:=fun a o e=>by
 obtain ⟨_,e'⟩:=of_hide e
 refine (x a o e').stay (fun _ _ _ q=>q) (fun d q=>?_) fun d xs q=>?_
 ·by_cases m:d∈cs
  ·obtain ⟨ob,z⟩:=hcs d m
   rw [q] at z;cases z
  ·rw [ZV m];exact q
 ·by_cases m:d∈cs
  ·obtain ⟨ob,z⟩:=hcs d m
   rw [q] at z;cases z
  ·rw [ZV m];exact q
theorem gy(x:HOk P w H' h')(hn:∀c∈cs,H' c=none)(hcs:∀c∈cs,∃o,H c=some (JA o)/\h'.get? c=some o):HOk P w (JM cs H H') h':=fun a o e=>by
 by_cases m:a∈cs
 ·rw [JN m] at e
  obtain ⟨ob,z,g⟩:=hcs a m
  rw [z] at e;cases e
  exact qQ g
 ·rw [YB m] at e
  refine (x a o e).stay (fun _ _ _ q=>q) (fun d q=>?_) fun d xs q=>?_
  ·by_cases m:d∈cs
   ·rw [hn d m] at q;cases q
   ·rw [YB m];exact q
  ·by_cases m:d∈cs
   ·rw [hn d m] at q;cases q
   ·rw [YB m];exact q
end
theorem kd{ps:List Str}{us:List Value}(nd:ps.Nodup){i:Nat}{x:Str}{u:Value}(h1:ps[i]?=some x)(h2:us[i]?=some u)(hl:ps.length=us.length):(ps.zip us).reverse.lookup x=some u:=by
 have hm:(x,u)∈ps.zip us:=by
  obtain ⟨a1,e1⟩:=Qah.mp h1
  obtain ⟨a2,e2⟩:=Qah.mp h2
  rw [<-e1,<-e2,<-Qes (h:=by rw [Qeu];lia)]
  exact Qbz _
 have ndz:((ps.zip us).map (·.1)).Nodup:=by
  rw [List.map_fst_zip (by lia)]
  exact nd
 have ndr:((ps.zip us).reverse.map (·.1)).Nodup:=by
  rw [List.map_reverse]
  unfold List.Nodup at ndz ⊢
  rw [List.pairwise_reverse]
  exact ndz.imp fun h=>h.symm
 have hr:(x,u)∈(ps.zip us).reverse:=List.mem_reverse.mpr hm
 generalize (ps.zip us).reverse=l at ndr hr
 induction l with
 | nil=>cases hr
 | cons p r ih =>
  obtain ⟨n,v⟩:=p
  rw [Qbe]
  rcases Qak.mp hr with e | hr'
  ·injection e with e1 e2
   subst e1;subst e2
   simp
  ·have hne:x≠n:=fun e=>by
    rw [Qa1,Qby] at ndr
    exact ndr.1 (by rw [<-e];exact Qbi (f:=(·.1)) hr')
   have:(x == n)=false:=by simpa using hne
   rw [this]
   rw [Qa1,Qby] at ndr
   exact ih ndr.2 hr'
section
variable {P:Program}{w:World}{K:PySem.W.Frag}{mg:Str->Option Value}{base:Heap}
end
noncomputable def vd(oc:Obj)(qual:Str):Prop:=∃vs t,oc.data=.fields vs/\vs[1]?=some (.str qual t)
noncomputable def J3(H:Hp)(P:Addr)(pos:Pos)(qual:Str):Prop :=
 H P=some (.tbl #[])\/∃c' oc,H P=some (.tbl #[rawInt pos.line,rawInt pos.col,.ref c'])/\H c'=some (JA oc)/\vd oc qual
theorem J3.ex{H:Hp}{P:Addr}{pos:Pos}{qual:Str}(h:J3 H P pos qual):∃ps,H P=some (.tbl ps):=by
 rcases h with h | ⟨_,_,h,_⟩ <;> exact ⟨_,h⟩
structure zD(mg:Str->Option Value)(base:Heap):Prop where
 ex:∃bm ob,mg "__builtins__" = some (.ref bm)/\bm≠builtinsNs/\base.get? bm=some ob/\ob.cls=.type "module" /\ ob.dict=some builtinsNs/\ob.data=.plain
theorem Zav{X:Cx}{pins:List (Addr × Obj)}{σ:St}{H:Hp}{s:Shared}{P c':Addr}{lpos:Pos}{oc fo:Obj}{h':Heap}{tk:Nat}(I:Inv X pins σ H s)(hT:H P=some (.tbl #[]))(hx:Heap.ExtBut P s.heap h')(hge:s.heap.objs.size<=c')(hlt:c' < h'.objs.size)(hoc:h'.get? c'=some oc)
  (htb:h'.get? P=some (PySem.W.tabObj #[rawInt lpos.line,rawInt lpos.col,.ref c'])) (hfo:fo.isFreed=false:=by rfl):Inv X pins σ (upd (upd (upd H P (.tbl #[rawInt lpos.line,rawInt lpos.col,.ref c'])) c' (JA oc)) h'.objs.size (JA fo)) { s with heap:=h'.push fo,toks:=tk }:=by
 have cn:H c'=none:=I.hok.fresh hge
 have cP:c'≠P:=fun e=>by rw [e,hT] at cn;cases cn
 have hsz:s.heap.objs.size<=h'.objs.size:=Qba hge (Qaw hlt)
 have lo:∀{b:Addr} {o:Obj},s.heap.get? b=some o->b≠c':=fun e z=>absurd (Heap.lt_size e) (by rw [z];exact Qe0.mpr hge)
 have I1:Inv X pins σ (upd (upd H P (.tbl #[rawInt lpos.line,rawInt lpos.col,.ref c'])) c' (JA oc)) { s with heap:=h',toks:=tk }:=by
  refine I.un ⟨fun b o e n _ _=>hx b o (fun z=>by rw [z,hT] at n;cases n) e,fun b o e n _ _=>⟨o.slots,hx b o (fun z=>by rw [z,hT] at n;cases n) e⟩,fun b o e n _=>?_,fun b o e _=>?_,fun b xs e=>?_,fun b o u e=>?_,fun b pz e=>?_⟩ fun b u e=>?_
  ·rw [Zo (lo e),Zo (fun z=>by rw [z,hT] at n;cases n)];exact n
  ·by_cases hbP:b=P
   ·rw [hbP];exact ⟨_,htb⟩
   ·exact ⟨o,hx b o hbP e⟩
  ·rw [Zo (Zs e cn),Zo (XG e hT (fun z=>nomatch z))];exact e
  ·rw [Zo (Zs e cn),Zo (XG e hT (fun z=>nomatch z))];exact e
  ·by_cases hbP:b=P
   ·subst hbP
    rw [hT] at e
    cases e
    exact ⟨#[rawInt lpos.line,rawInt lpos.col,.ref c'],by rw [Zo cP.symm,Za];rfl⟩
   ·exact ⟨#[],by rw [Zo (Zs e cn),Zo hbP,e];simp⟩
  ·by_cases hbc:b=c'
   ·subst hbc
    rw [Za] at e;cases e
    exact qQ hoc
   ·rw [Zo hbc] at e
    by_cases hbP:b=P
    ·subst hbP
     rw [Za] at e;cases e
     exact htb
    ·rw [Zo hbP] at e
     refine (I.hok b u e).stay (fun d v hd q=>hx d v ?_ q) (fun d q=>?_) fun d xs q=>?_
     ·rcases hd with z | z
      ·rw [z];exact hbP
      ·exact XG z hT (fun z=>nomatch z)
     ·rw [Zo (Zs q cn),Zo (XG q hT (fun z=>nomatch z))];exact q
     ·rw [Zo (Zs q cn),Zo (XG q hT (fun z=>nomatch z))];exact q
 exact I1.laid (h':=h'.push fo) (t':=tk) (a:=h'.objs.size) (o:=JA fo) (fun b u e=>Heap.get?_push_of_some _ e) (Qaj _) (qQ (Heap.get?_push_size _ hfo))
section
variable {X:Cx}{params:Arguments}{body:Expr}{scope:Scope}{lpos:Pos}{c P:Addr}{qual:Str}
end
noncomputable def cellsOf(cells:List (Str × Addr)):List Addr:=(cells.map (·.1)).filterMap fun x=>cells.lookup x
theorem XM{cells:List (Str × Addr)}{c:Addr}:c∈cellsOf cells↔∃x,cells.lookup x=some c:=by
 unfold cellsOf
 rw [Qei]
 constructor
 ·rintro ⟨x,_,h⟩
  exact ⟨x,h⟩
 ·rintro ⟨x,h⟩
  exact ⟨x,Qa5.mpr ⟨(x,c),Qbx h,rfl⟩,h⟩
section
variable {X:Cx}{params:Arguments}{body a:Expr}{scope:Scope}{lpos p pos:Pos}{c P g:Addr}{qual x:Str}{k kl:Nat}{gd:FuncData}{pg ps ys:List Str}{is:List Nat}{sp:Sp}{ta te:TE}
theorem j5{cs:List Addr}{H2 H1:Hp}{b:Addr}{u:HO}(hcs:∀c∈cs,∃o,H2 c=some (JA o))(s:ZG H2 H1)(h:H1 b=some u)(hu:∀o,u≠JA o):hide cs H1 b=some u:=by
 rw [ZV fun m=>?_]
 ·exact h
 ·obtain ⟨o,e⟩:=hcs b m
  rw [s _ _ e] at h
  exact hu o (Option.some.inj h).symm
theorem J3.same{H H':Hp}{P:Addr}{pos:Pos}{qual:Str}(h:J3 H P pos qual)(s:ZG H H'):J3 H' P pos qual:=by
 rcases h with h | ⟨c,oc,h1,h2,h3⟩
 ·exact .inl (s _ _ h)
 ·exact .inr ⟨c,oc,s _ _ h1,s _ _ h2,h3⟩
noncomputable def tCallV(Pg:Program)(w:World)(K:PySem.W.Frag)(mg:Str->Option Value)(base:Heap)(k:Nat)(i:Nat)(t:TA):TE:=fun σ H Q=>∃(f:Addr) (τ:Sp),σ[i]?=some (some (.ref f))/\XT Pg w K mg base k f H τ /\
 t σ H fun vs H1=>Gq H H1/\τ vs H1 Q E0
theorem gz{P:Program}{w:World}{K:PySem.W.Frag}{mg:Str->Option Value}{base:Heap}{k:Nat}{f:Addr}{H H1:Hp}{τ:Sp}{h:Heap}(c:XT P w K mg base k f H τ)(fz:Gq H H1)(hok:HOk P w H1 h):PySem.W.FnAt f h:=by
 obtain ⟨o,fd,e,d⟩:=c.1
 have g:=(hok f _ (fz _ _ _ e)).1
 obtain ⟨oc,od,dt,sl⟩:=o
 cases d
 exact ⟨oc,od,fd,sl,g⟩
theorem Zaw(i:Nat){e:Expr}{es:List Expr}{t:TA}(hr:WL k X.A)(ha:QA X (e::es) t)(hN:X.N[i]?=some x:=by rfl)(hv:Vis X.env.scope x:=by first | exact Or.inl rfl | exact Or.inr (Or.inl rfl) | exact Or.inr (Or.inr rfl))
  (hdb:(x == ("__debug__" : Str))=false:=by decide) (hcd:(x == ("__classdict__" : Str))=false:=by decide) (he:starEach (e::es) X.env=(false,eval e X.env)::starEach es X.env:=by rfl) (hpl:(backTo pos (starEach es X.env)).any (·.1)=false:=by rfl) :
  QE X (.Call (.Name x p) (e::es) [] pos) (tCallV X.prog X.w X.K X.mg X.base k i t):=by
 refine ⟨?_⟩
 intro pins s σ H Q I hw
 obtain ⟨f,τ,hσ,hc,ht⟩:=hw
 refine wpAny_Call_Name_kw (thn (Zbz hN hv hdb hcd pins s σ H (fun v H'=>v=.ref f/\H'=H) I ⟨.ref f,hσ,rfl,rfl⟩) fun u s1 ⟨v,H',I1,r,hv',hH⟩=>?_)
 subst hv'
 subst hH
 cases r
 refine PySem.W.callWith_F (gz hc (Gq.refl _) I1.hok) (thn (ha.out pos pins s1 σ H' _ I1 ht) fun us s2 ⟨vs,H1,I2,rv,fz,hτ⟩=>⟨gz hc fz I2.hok,?_⟩) he hpl
 refine wpAny_call (codeAny_mono (hc.2 X.A X.stack s2 H1 us vs Q E0 fz hr I2.env0 rv hτ) fun r s' hq=>?_)
 cases r with
 | error e=>exact hq.elim
 | ok fl =>
  cases fl with
  | ret u=>exact I2.after hq
  | next=>exact False.elim hq
  | brk=>exact False.elim hq
  | cont=>exact False.elim hq
end
theorem g9{P:Program}{w:World}{K:PySem.W.Frag}{mg mb:Str->Option Value}{CX:CXT}{k:Nat}{fa a:Addr}{fd:FuncData}{x:Str}{sp:Sp}{s₁:Shared}{vs:List Value}{ns:List Int}{tabs:List (Addr × Addr)}
  (KX:K.In s₁.heap) (hns:s₁.heap.Ns mainGlobals mg) (hb:s₁.heap.Ns builtinsNs mb) (hbb:∀x:Str,x ≠ "__name__" -> mb x=bootBuiltins x) (hlim:s₁.heap.NoLimit) (hg:s₁.gens=#[])
  (ha:s₁.heap.get? a=some { cls:=.type "list",data:=.seq vs.toArray }) (hi:IntsAre vs ns) (hl:ns.length<=sizeLine) (hr:WL k callerA)
  (hT:PySem.W.TabsAt tabs s₁.heap) (hKt:PySem.W.noTabs K=true) (hbm:zD mg s₁.heap)
  (F:∀base:Heap,K.In base->base.Ns mainGlobals mg->(∀q∈tabs,PySem.W.CodeHd base q.1 q.2)->zD mg base->ZO P w K mg base CX k fa fd [x] sp) (hbind:∀(s:Shared) (u:Value),BindsTo s fd ⟨[u],[]⟩ [(x,u)])
  (hsp:∀H:Hp,(∀q∈tabs,H q.2=some (.tbl #[]))->SqL K H a (ns.map V.int)->sp [.ref a] H (fun v _=>v=.bl true) fun _ _ _=>False)
  (hCX:∀H e s',CX [] H s₁ (fun _ _ _=>False) e s'->False) :
  codeAny (model P w) callerA (.call (.ref fa) ⟨[.ref a],[]⟩) (fun r s'=>r=.ok (.ret (.bool true))/\OldK s₁.heap s'.heap/\s'.os=s₁.os/\AllBare s'.gens) s₁:=by
 have rv:=jn hi
 have lenV:=hi.length
 have tabGet:∀b,b∈tabs.map (·.2)->s₁.heap.get? b=some (PySem.W.tabObj #[]):=fun b m=>by
  obtain ⟨q,hq,rfl⟩:=Qa5.mp m
  exact (hT q hq).2
 have aT:a∉tabs.map (·.2):=fun m=>by
  have e:=tabGet a m
  rw [ha] at e
  cases e
 have core:∀H:Hp,(∀q∈tabs,H q.2=some (.tbl #[]))->(∀b,H b=none\/(b=a/\∃o xs,H b=some (.frz o (.lst xs)))\/(b∈tabs.map (·.2)/\H b=some (.tbl #[])))->SqL K H a (ns.map V.int)->HOk P w H s₁.heap->(H a≠none->K.lookup a=none) ->
   codeAny (model P w) callerA (.call (.ref fa) ⟨[.ref a],[]⟩) (fun r s'=>r=.ok (.ret (.bool true))/\OldK s₁.heap s'.heap/\s'.os=s₁.os/\AllBare s'.gens) s₁:=by
  intro H hTb hO hS hok hK
  have base_of:∀{b:Addr} {o:Obj},s₁.heap.get? b=some o->H b=none->(kT s₁.heap H).get? b=some o:=fun e n=>uZ e n
  have noA:∀{b:Addr} {o:Obj},s₁.heap.get? b=some o->(∀its n,o.data≠.seq its n)->o.cls≠.none->H b=none:=fun {b o} e d1 d2=>by
   rcases hO b with z | ⟨rfl,_⟩ | ⟨m,_⟩
   ·exact z
   ·rw [ha] at e;cases e
    exact absurd rfl (d1 _ _)
   ·rw [tabGet b m] at e;cases e
    exact absurd rfl d2
  have nsK:∀{b:Addr} {m:Str->Option Value},s₁.heap.Ns b m->(kT s₁.heap H).Ns b m:=fun {b m} ⟨o,es,ep,e,d,r⟩=>⟨o,es,ep,base_of e (by
   rcases hO b with z | ⟨rfl,_⟩ | ⟨m,_⟩
   ·exact z
   ·rw [ha] at e;cases e
    have d':Data.seq vs.toArray _=Data.dict es ep:=d
    cases d'
   ·rw [tabGet b m] at e;cases e
    have d':Data.fields #[]=Data.dict es ep:=d
    cases d'),d,r⟩
  have hKb:K.In (kT s₁.heap H):=fun b o e=>base_of (KX b o e) (by
   rcases hO b with z | ⟨rfl,ob,xs,z⟩ | ⟨m,_⟩
   ·exact z
   ·rw [hK (by rw [z];simp)] at e;cases e
   ·have g:=KX b o e
    rw [tabGet b m] at g
    cases g
    have h2:=Qck.mp hKt (b,_) (PySem.W.mem_of_lookupK e)
    exact absurd (show false=true from h2) Qax)
  have hM:Mod K mg (kT s₁.heap H):=⟨hKb,nsK hns,⟨mb,nsK hb,hbb⟩,let ⟨mc,h1,h2⟩:=hlim;⟨mc,nsK h1,h2⟩⟩
  have hB:zD mg (kT s₁.heap H):=by
   obtain ⟨bm,ob,b1,b2,b3,b4,b5,b6⟩:=hbm.ex
   exact ⟨bm,ob,b1,b2,base_of b3 (noA b3 (fun its n z=>by rw [b6] at z;cases z) (fun z=>by rw [b4] at z;cases z)),b4,b5,b6⟩
  have hC:∀q∈tabs,PySem.W.CodeHd (kT s₁.heap H) q.1 q.2:=fun q hq=>by
   obtain ⟨o,vs',file,tf,flags,tg,inF,text,tt,e1,r1,r2,r3⟩:=(hT q hq).1
   exact ⟨o,vs',file,tf,flags,tg,inF,text,tt,base_of e1 (noA e1 (fun its n z=>by rw [r2] at z;cases z) (fun z=>by rw [r1] at z;cases z)),r1,r2,r3⟩
  have e0:Zaf P w K mg (kT s₁.heap H) callerA [] s₁ H:=⟨rfl,hM,fun b o e=>Zdh e,Qet (kU _ _),trivial,fun b hb=>absurd (show b∈([]:List Addr) from hb) (by simp),hok,.of_eq hg⟩
  refine codeAny_mono ((F _ hKb (nsK hns) hC hB).run callerA [] s₁ H ⟨[.ref a],[]⟩ [.ref a] [.ref a] _ _ hr e0 (hbind s₁ (.ref a)) (.cons rfl .nil) (hsp H hTb hS)) fun r s' h=>?_
  cases r with
  | error e=>exact (hCX H e s' h).elim
  | ok fl =>
   cases fl with
   | next=>exact False.elim h
   | brk=>exact False.elim h
   | cont=>exact False.elim h
   | ret u =>
    obtain ⟨v,H',os,bare,un,hok',r',q⟩:=h
    have q':v=.bl true:=q
    subst q'
    obtain rfl:u=Value.bool true:=r'
    have all:∀b o,s₁.heap.get? b=some o->s'.heap.get? b=some o\/∃more,b∈tabs.map (·.2)/\o=PySem.W.tabObj #[]/\s'.heap.get? b=some (PySem.W.tabObj (#[]++more)):=fun b o e=>by
     rcases hO b with z | ⟨_,ob,xs,z⟩ | ⟨m,z⟩
     ·exact .inl (un.keep b o e z (by intro z;exact absurd (show b∈([]:List Addr) from z) (by simp)) (by simp))
     ·have z2:=un.frzs b ob _ z
      obtain ⟨e1,_⟩:=hok b _ z
      obtain ⟨e2,_⟩:=hok' b _ z2
      rw [e] at e1;cases e1
      exact .inl e2
     ·obtain ⟨more,z2⟩:=un.tbls b _ z
      rw [tabGet b m] at e
      cases e
      exact .inr ⟨more,m,rfl,hok' b _ z2⟩
    refine ⟨rfl,⟨fun b o e=>?_,fun b o e=>?_⟩,os,bare⟩
    ·rcases all b o e with z | ⟨more,m,rfl,z⟩
     ·exact .inl z
     ·obtain ⟨q,hq,rfl⟩:=Qa5.mp m
      exact .inr (.inl ⟨((hT q hq).1.tab (hT q hq).2).isCodeTable,rfl,#[],more,rfl,z⟩)
    ·rcases all b o e with z | ⟨more,_,_,z⟩
     ·exact ⟨_,z⟩
     ·exact ⟨_,z⟩
 have tm:∀q∈tabs,q.2∈tabs.map (·.2):=fun q hq=>Qbi hq
 cases hk:K.lookup a with
 | some o =>
  have e:=KX a o hk
  rw [ha] at e
  cases e
  refine core (fun b=>if b∈tabs.map (·.2) then some (.tbl #[]) else none) (fun q hq=>Qau (tm q hq)) (fun b=>?_) (.inr ⟨_,vs.toArray,_,hk,rfl,rfl,rfl,by rw [Qas,lenV];exact hl,by simpa using rv⟩) (fun b u z=>?_) (fun z=>absurd (Qan aT) z)
  ·by_cases m:b∈tabs.map (·.2)
   ·exact .inr (.inr ⟨m,Qau m⟩)
   ·exact .inl (Qan m)
  ·by_cases m:b∈tabs.map (·.2)
   ·have z':=(Qau m).symm.trans z
    cases z'
    exact tabGet b m
   ·have z':=(Qan m).symm.trans z
    cases z'
 | none =>
  refine core (fun b=>if b∈tabs.map (·.2) then some (.tbl #[]) else if b=a then some (.frz { cls:=.type "list",data:=.seq vs.toArray } (.lst (ns.map V.int))) else none) (fun q hq=>Qau (tm q hq)) (fun b=>?_) (.inl (.inr ⟨{ cls:=.type "list",data:=.seq vs.toArray },(Qan aT).trans (Qau rfl)⟩)) (fun b u z=>?_) fun _=>hk
  ·by_cases m:b∈tabs.map (·.2)
   ·exact .inr (.inr ⟨m,Qau m⟩)
   ·by_cases hb:b=a
    ·exact .inr (.inl ⟨hb,_,_,(Qan m).trans (Qau hb)⟩)
    ·exact .inl ((Qan m).trans (Qan hb))
  ·by_cases m:b∈tabs.map (·.2)
   ·have z':=(Qau m).symm.trans z
    cases z'
    exact tabGet b m
   ·by_cases hb:b=a
    ·have z':=((Qan m).trans (Qau hb)).symm.trans z
     cases z'
     subst hb
     exact ⟨ha,by rw [Qab];exact hl,vs,_,rv,ha⟩
    ·have z':=((Qan m).trans (Qan hb)).symm.trans z
     cases z'
theorem walk_ofT{l:PySem.W.OpenLaw}{n k:Nat}{q:Program}{loose:List Str}{XP:(Str->Option Value)->Heap->Prop}{YP:World->Heap->Prop}{d:DefRec}{K:Params->PySem.W.Frag}{CX:World->CXT}{sp:World->Sp}{x:Str}{tabs:List (Addr × Addr)}
  (hn:l.most=some n) (hn2:n<=sizeLine) (hdf:d.params.defaults=[]) (hr:WL k callerA)
  (hY:∀(w:World) (h:Heap),YP w h->(K w.params).In h)
  (hTab:∀(w:World) (mean:ExcName->Option Value) (mg mb:Str->Option Value) (h:Heap),Top q (PySem.W.looseW q loose) mean mg mb h->(K w.params).In h->PySem.W.TabsAt tabs h) (hKt:∀w:World,PySem.W.noTabs (K w.params)=true)
  (F:∀(w:World) (mg:Str->Option Value) (fa:Addr) (h:Heap),(K w.params).In h->h.Ns mainGlobals mg->mg d.name=some (.ref fa) ->
   ∃fd:FuncData,(∀(s:Shared) (u:Value),BindsTo s fd ⟨[u],[]⟩ [(x,u)]) /\
    ∀base:Heap,(K w.params).In base->base.Ns mainGlobals mg->(∀q∈tabs,PySem.W.CodeHd base q.1 q.2)->zD mg base->ZO l.prog w (K w.params) mg base (CX w) k fa fd [x] (sp w))
  (hsp:∀(w:World) (H:Hp) (a:Addr) (ns:List Int),ns.length<=n->(∀q∈tabs,H q.2=some (.tbl #[]))->SqL (K w.params) H a (ns.map V.int)->sp w [.ref a] H (fun v _=>v=.bl true) fun _ _ _=>False)
  (hCX:∀(w:World) (H:Hp) (s:Shared) (e:Value) (s':Shared),CX w [] H s (fun _ _ _=>False) e s'->False) :
  PySem.W.WalkO q loose XP YP l.row.toRowW d [] (fun f vs=>PySem.call f vs):=by
 refine Att.attach_call hn hdf fun w s₀ s₁ mg mb fa o pm cd doc a vs ns G Y ho hd hcd hmg hobj hints hlen hg=>?_
 have KX:=hY w _ Y
 obtain ⟨fd,hb,hF⟩:=F w mg fa _ KX G.T.g hmg
 exact g9 KX G.T.g G.T.b G.T.builtins G.T.nolimit hg hobj hints (Qba hlen hn2) hr (hTab w _ mg mb _ G.T KX) (hKt w) ⟨G.T.bmain⟩ hF hb (fun H hTb hS=>hsp w H a ns hlen hTb hS) fun H e s'=>hCX w H s₁ e s'
theorem Fun.okC{P:Program}{w:World}{K:PySem.W.Frag}{mg:Str->Option Value}{base:Heap}{x qual:Str}{st:Stmt}{f:Addr}{fd:FuncData}{N ps:List Str}{k:Nat}{sp:Sp}(F:Fun K x qual st f fd)(S:Z1 N ps (Zg st))(len:∀vs H Q E,sp vs H Q E->vs.length=ps.length)
  (hbody:∀(A:Around) (outer:List Env) (s:Shared) (H:Hp) (vs:List V) (Q:VK) (E:XK),WL k (A.deeper (envOfC qual (Zg st) s.heap.objs.size f fd.code))->sp vs H Q E ->
   ∃t,PSs (Zag CX0 P w K mg base N qual (Zg st) f fd.code A outer s H E).nox (Zw st) t/\t { nx:=fun _ H'=>Q .non H',rt:=Q } (start N vs) H):ZO P w K mg base CX0 (k + 1) f fd ps sp:=by
 obtain ⟨oc,od,kV,doc,pm,an,cdv,ct,osl,rfl,lk,hcd⟩:=F.ex
 refine Zgf lk hcd S len fun A outer s H vs Q E hr hsp=>?_
 obtain ⟨t,h,q⟩:=hbody A outer s H vs Q E hr hsp
 exact ⟨t,h.nox,q⟩
section
variable {X:Cx}
end
section
variable {prog:Program}{w:World}{A:Around}{E:Value->Shared->Prop}{s:Shared}
end
section
variable {X:Cx}
end
section
variable {prog:Program}{w:World}{K:Type}[DecidableEq K]{knd:KeyKind prog w K}{A:Around}{R:Result->Shared->Prop}{d l it:Addr}{items:List Value}
end
section
variable {X:Cx}
end
structure QPs(X:Cx)(pos:Pos)(keys:List (Option Expr))(values:List Expr)(trs:List (TE × TE)):Prop where
 out:PPs X pos keys values trs
section
variable {X:Cx}
theorem gB{pos:Pos}:QPs X pos [] [] []:=⟨Zeg⟩
theorem ve{pos:Pos}{k v:Expr}{ks:List (Option Expr)}{vs:List Expr}{tk tv:TE}{trs:List (TE × TE)}(hk:QE X k tk)(hv:QE X v tv)(hr:QPs X pos ks vs trs):QPs X pos (some k::ks) (v::vs) ((tk,tv)::trs):=⟨Zas hk.out hv.out hr.out⟩
theorem gC{pos:Pos}{keys:List (Option Expr)}{values:List Expr}{trs:List (TE × TE)}(h:QPs X pos keys values trs)(hall:keys.all (·.isSome)=true)(hl:keys.length=values.length)(h0:keys≠[])(h15:keys.length<=15):QE X (.Dict keys values pos) (Zgo trs):=⟨Zeh h.out hall hl h0 h15⟩
end
end L2
namespace ZpT
open PySem PySem.Spec PyProof.Rows
noncomputable def Y6:Bool->Heap->Addr->Addr->Nat->Prop
 | true,h,it,l,k=>h.IsTupleIter it l k
 | false,h,it,l,k=>h.IsListIter it l k
noncomputable def SeqAt:Bool->Heap->Addr->Array Value->Prop
 | true,h,l,xs=>h.IsTuple l xs
 | false,h,l,xs=>h.IsList l xs
noncomputable def zO (f0:Value) (b:Bool) (TI TO:Addr):Obj:={ cls:=.type "zip",dict:=none,data:=.fields #[f0,.bool b,.bool false,.ref TI,.ref TO],slots:=#[] }
noncomputable def F0(f0:Value):Prop:=f0=.none\/∃T:Addr,f0=rawInt T
structure Ap(z TI TO i1 i2:Addr):Prop where
 TIz:TI≠z
 TOz:TO≠z
 i1z:i1≠z
 i2z:i2≠z
 TITO:TI≠TO
 TIi1:TI≠i1
 TIi2:TI≠i2
 TOi1:TO≠i1
 TOi2:TO≠i2
 i12:i1≠i2
section
variable {prog:Program}{w:World}{A:Around}{E:Value->Shared->Prop}{s:Shared}
end
end ZpT
namespace ZpT
open PySem PySem.Spec PyProof.Rows
structure Of(z TO i1 i2 l:Addr):Prop where
 z:l≠z
 o:l≠TO
 i:l≠i1
 j:l≠i2
structure St(b1 b2:Bool)(z TI TO i1 i2 l1 l2:Addr)(k1 k2:Nat)(h:Heap):Prop where
 z:∃f0 fb,h.get? z=some (zO f0 fb TI TO)/\F0 f0
 I:IsPair h TI (.ref i1) (.ref i2)
 O:∃a b,IsPair h TO a b
 n1:Y6 b1 h i1 l1 k1
 n2:Y6 b2 h i2 l2 k2
section
variable {prog:Program}{w:World}{A:Around}{E:Value->Shared->Prop}{s:Shared}
end
end ZpT
namespace ZpT
open PySem PySem.Spec PyProof.Rows
section
variable {prog:Program}{w:World}{A:Around}{E:Value->Shared->Prop}{s:Shared}
end
end ZpT
namespace ZpT
open PySem PySem.Spec PyProof.Rows
section
variable {prog:Program}{w:World}{A:Around}{E:Value->Shared->Prop}{s:Shared}
end
section
variable {prog:Program}{w:World}{A:Around}{E:Value->Shared->Prop}{s:Shared}
end
end ZpT
namespace L2
open PySem PySem.Spec PyProof.Rows
open ZpT (St Ap Of SeqAt Y6)
end L2
namespace L2
open PySem PySem.Spec PyProof.Rows
open ZpT (Ap Of SeqAt Y6)
section
variable {X:Cx}{A:Around}{b1 b2:Bool}{z TI TO i1 i2 a1 a2 S:Addr}{xs ys:List V}{pins:List (Addr × Obj)}{σ:St}{R:Result->Shared->Prop}
end
end L2
namespace L2
open PySem PySem.Spec PyProof.Rows
open ZpT (Ap Of SeqAt Y6)
section
variable {X:Cx}{e1 e2:Expr}{t:TA}{p pos:Pos}{b1 b2:Bool}
end
end L2
namespace L2
open PySem PySem.Spec PyProof.Rows
section
variable {X:Cx}{S scope:Scope}{N:List Str}{x x2:Str}{ys:List Str}{is:List Nat}{pins:List (Addr × Obj)}{σ:St}{H₂:Hp}{s₂:Shared}{fp:List Addr}{elt iter:Expr}{px px2 pp pos:Pos}{pq:Nat}{ifs:List Expr}{tc:TT}{te:TE}{wi:TI}
end
end L2
namespace L2
open PySem PySem.Spec PyProof.Rows PySem.W
section
variable {prog:Program}{w:World}{A:Around}{E:Value->Shared->Prop}{s:Shared}
end
section
variable {prog:Program}{w:World}{h:Heap}
end
section
variable {X:Cx}
end
end L2
namespace L2
open PySem PySem.Spec PyProof.Rows
section
variable {prog:Program}{w:World}{A:Around}{E:Value->Shared->Prop}{s:Shared}{c it:Addr}{oc:Obj}{es:Array DictEntry}{ep i:Nat}
end
section
variable {X:Cx}
theorem Zax{a b c:Expr}{ta tb tc:TE}{pos:Pos}{op op':CmpOp}{r r':R2}(ho:OpR X (compareOp op) r)(ho':OpR X (compareOp op') r')(ha:QE X a ta)(hb:QE X b tb)(hc:QE X c tc)
  (hm:lastMarks [op,op'] [b,c]=false:=by with_unfolding_all rfl):QT X (.Compare a [op,op'] [b,c] pos) (w5 (Zb6 r r' ta tb tc)):=⟨Zad ho ho' ha.out hb.out hc.out hm⟩
end
section
variable {X:Cx}
noncomputable def PP1(X:Cx)(pos:Pos)(k v:Expr)(tk tv:TE):Prop:=∀pins s σ H (R:V->V->Hp->Prop),Inv X pins σ H s->(tk σ H fun x H1=>tv σ H1 fun y H2=>R x y H2) ->
 wpAny (model X.prog X.w) X.A (evalPairs (pairTrees [some k] [v] X.env pos)) (fun ws s2=>∃x y u r H2,ws=[(u,r)]/\Inv X pins σ H2 s2/\RelV x u/\RelV y r/\R x y H2) X.xe s
theorem pp1{pos:Pos}{k v:Expr}{tk tv:TE}(hk:QE X k tk)(hv:QE X v tv):PP1 X pos k v tk tv:=by
 intro pins s σ H R I q
 refine pairTrees_cons_walk (thn (hk.out pins s σ H _ I q) fun u s1 ⟨x,H1,I1,rx,q1⟩=>thn (hv.out pins s1 σ H1 _ I1 q1) fun r s2 ⟨y,H2,I2,ry,q2⟩=>pairTrees_nil_walk ⟨x,y,u,r,H2,rfl,I2,rx,ry,q2⟩)
end
section
variable {X:Cx}
theorem HT.cat_tup0{prog:Program}{w:World}{A:Around}{E:Value->Shared->Prop}{s:Shared}{t b:Addr}{ws:List Value}{Q:Value->Shared->Prop}(ht:IsTup s.heap t #[])(hb:IsTup s.heap b ws.toArray)(q:Q (.ref b) s) :
  wpAny (model prog w) A (binaryOp .Add (.ref t) (.ref b)) Q E s:=by
 obtain ⟨⟨cls,dd,data,sl⟩,ho,hc,n,hd⟩:=id ht
 obtain ⟨⟨cls2,dd2,data2,sl2⟩,ho2,hc2,n2,hd2⟩:=id hb
 simp only at hc hd hc2 hd2
 subst hc hd hc2 hd2
 exact concat_meets ⟨_,ho,rfl⟩ ⟨_,ho2,rfl⟩ noFill_tuple_add seq_tuple_add Qd0 Qdt (Qdp _ _)
  (tuple_addW0 t b #[] ws.toArray n n2 dd dd2 sl sl2 rfl) ⟨ho,ho2,q⟩
inductive gE(x:V)(y:V)(H:Hp)(Q:VK):Prop
 | mk (a b xs ys):(x=.ref a)->(y=.ref b)->(H a=some (.tup xs))->(H b=some (.tup ys))->(xs.length + ys.length<=sizeLine)->(∀p H',H' p=some (.tup (xs++ys))->ZG H H'->Q (.ref p) H')->gE x y H Q
noncomputable def rCatG  : R2:=fun x y H Q=>gE x y H Q
theorem YJ:OpR X (binaryOp .Add) rCatG:=by
 intro pins s σ H x y v u Q I rx ry h
 obtain ⟨a,b,xs,ys,rfl,rfl,ha,hb,hz,q⟩:=h
 cases rx
 cases ry
 obtain ⟨its,r1,p1,_⟩:=I.tuple (SqT.of ha:SqT X.K H a xs)
 obtain ⟨its2,r2,p2,_⟩:=I.tuple (SqT.of hb:SqT X.K H b ys)
 by_cases hx:xs=[]
 ·have e:=r1.nil_iff.mpr hx
  subst e hx
  exact HT.cat_tup0 p1 p2 ⟨.ref b,H,I,rfl,q b H hb fun _ _ z=>z⟩
 ·refine HT.cat_tup p1 p2 (fun z=>hx (r1.nil_iff.mp z)) (fun z=>⟨.ref a,H,I,rfl,q a H ?_ fun _ _ z=>z⟩) (fun z=>?_) (by rw [<-r1.length,<-r2.length];exact hz)
  ·rw [r2.nil_iff.mp z,Qbc]
   exact ha
  ·have hn:=I.hok.fresh (Qaj s.heap.objs.size)
   refine ⟨.ref s.heap.objs.size,_,I.laid (t':=s.toks) (o:=.tup (xs++ys)) (fun b ob q=>Heap.get?_push_of_some _ q) (Qaj _) ?_,rfl,q _ _ Za fun c o z=>by rw [Zo (fun e=>by rw [e,hn] at z;cases z)];exact z⟩
   exact ⟨by rw [Qac];exact hz,_,r1.append r2,IsTup.new _ _⟩
end
open PySem.W (hideAll of_hideAll hideAll_get hideAll_none funFrames_hide)
section
variable {P:Program}{w:World}{X:Cx}{pins:List (Addr × Obj)}{σ:St}{H:Hp}{s:Shared}
end
end L2
namespace L2
open PySem PySem.Spec PyProof.Rows
open PySem.W (hideAll of_hideAll hideAll_get hideAll_none funFrames_hide)
section
variable {X:Cx}{E:XK}
end
end L2
namespace L2
open PySem PySem.Spec PyProof.Rows
section
variable {X:Cx}{E:XK}{x:Str}{C:Addr}{np cpos pos:Pos}{e₀:Expr}{rest:List Expr}{t:TA}
end
section
variable {M:Model}{A:Around}{E:Value->Shared->Prop}
variable {nm q nm' q':Str}{C N D N':Addr}{bs bm bs' bm':List Value}{hdct hdct':Bool}{sn sn':List Str}{sub sub':List Value}{ab ab':Bool}{col col':Option Bool}{dd dd':Option Addr}{k0 k1 k2 k3 k5 k0' k1' k2' k3' k5':Option Value}{newId newId':String}
end
section
variable {X:Cx}{pins:List (Addr × Obj)}{σ:St}{H H':Hp}{s s':Shared}
end
section
variable {X:Cx}{pins:List (Addr × Obj)}{σ:St}{H H':Hp}{s s':Shared}
end
section
variable {prog:Program}{w:World}{A:Around}{E:Value->Shared->Prop}{s:Shared}{env:Env}
end
section
variable {X:Cx}{pins:List (Addr × Obj)}{σ:St}{H:Hp}{s:Shared}
variable {k:Nat}{f:Addr}{fd:FuncData}{ps:List Str}{sp:Sp}{g x y n:Str}{p np p0 cpos spos hpos pos:Pos}{e₀:Expr}{es:List Expr}{t:TA}{b₀:Stmt}{suite:List Stmt}{i j:Nat}{Dc:Addr}{ts:TS}
end
end L2
namespace L2
open PySem PySem.Spec PyProof.Rows PySem.Calls
open PySem.W (Frag InstAt findObj plainGet plainGet_of kin_open kin_hooked class_get handed_on mroIn clsIn Looks subIn typeIn looks_typeIn looks_subIn isIn isi_call)
section
variable {prog:Program}{w:World}{A:Around}{E:Value->Shared->Prop}{s:Shared}{K:Frag}{e C D:Addr}{oe:Obj}{od:Option Obj}
end
end L2
namespace L2
open PySem PySem.Spec PyProof.Rows PySem.Calls
open PySem.W Builtin Builtin.ObjectAttr Builtin.Getset_descriptor
section
variable {prog:Program}{w:World}{A:Around}{E:Value->Shared->Prop}{s:Shared}{K:Frag}{e C D:Addr}
end
end L2
namespace L2
open PySem PySem.Spec PyProof.Rows PySem.Calls
open PySem.W Builtin Builtin.ObjectAttr
section
variable {prog:Program}{w:World}{A:Around}{E:Value->Shared->Prop}{s:Shared}{K:Frag}{x C:Addr}{name:Str}{v:Value}
end
section
variable {X:Cx}{pins:List (Addr × Obj)}{σ:St}{H:Hp}{s:Shared}{e C d:Addr}{f:Str}{v:V}{u:Value}{A:Around}{E:Value->Shared->Prop}
end
section
variable {X:Cx}{o value:Expr}{ta tv:TE}{f:Str}{pos pos':Pos}
end
end L2
namespace L2
open PySem PySem.Spec PyProof.Rows PySem.Calls
open PySem.W
section
variable {prog:Program}{w:World}{A:Around}{E:Value->Shared->Prop}{hh:Heap}{g:Array GenState}{dr:Drawn}{t:Nat}{os:OsState}{K:Frag}
variable {nm q:Str}{C N fI:Addr}{bs tl:List Value}{hdct:Bool}{sn:List Str}{sub:List Value}{ab:Bool}{col:Option Bool}{dd:Option Addr}{k0 k1 k2 k3 k5:Option Value}
end
end L2
namespace L2
open PySem PySem.Spec PyProof.Rows PySem.Calls
open PySem.W
section
variable {X:Cx}{x:Str}{C f:Addr}{k:Nat}{fd:FuncData}{ps:List Str}{sp:Sp}{p pos:Pos}{e₀:Expr}{es:List Expr}{t:TA}
end
end L2
namespace L2
open PySem PySem.Spec PyProof.Rows PySem.Calls
open Builtin Builtin.Str
section
variable {X:Cx}{e b:Expr}{es:List Expr}{te tb:TE}{t:TA}
end
section
variable {X:Cx}{o:Expr}{to:TE}{y z:Str}{j1 j2 j3:Nat}{p1 p2 p3 apos cpos:Pos}
end
end L2
namespace L2
open PySem PySem.Spec PyProof.Rows PySem.Calls
open Builtin Builtin.Str
section
variable {X:Cx}{e:Expr}{ta:TE}{c:Str}{j:Nat}{p1 p2 pos:Pos}
end
section
variable {X:Cx}
end
end L2
namespace L2
open PySem PySem.Spec PyProof.Rows PySem.Calls
open PySem.W
end L2
namespace L2
open PySem PySem.Spec PyProof.Rows PySem.Calls
open Builtin Builtin.Str
end L2
namespace L2
open PySem PySem.Spec PyProof.Rows PySem.Calls
section
variable {M:Model}{A:Around}{E:Value->Shared->Prop}{s:Shared}{B:Heap}{env:Env}{outer:List Env}{L e:Addr}{φ:Obj->Prop}{Q:Unit->Shared->Prop}
end
section
variable {prog:Program}{w:World}{A:Around}{E:Value->Shared->Prop}{s:Shared}{env:Env}{x:Sem Value}{Q:Flow->Shared->Prop}{C e1:Addr}{j:Nat}{p pos:Pos}
end
open PySem.W (hideAll of_hideAll hideAll_get hideAll_none funFrames_hide)
section
variable {X:Cx}{E:XK}
end
end L2
namespace L2
open PySem PySem.Spec PyProof.Rows PySem.Calls
section
variable {prog:Program}{w:World}{A:Around}{E:Value->Shared->Prop}{s:Shared}{env:Env}
end
section
variable {X:Cx}{E:XK}
end
section
variable {X:Cx}{E:XK}{k:Nat}{f:Addr}{fd:FuncData}{ps:List Str}{sp:Sp}{g y x2:Str}{p np np2 cpos cpos2 spos hpos pos p9 rpos:Pos}{j:Nat}{e₀ a₀:Expr}{es as:List Expr}{t t2:TA}{Dc C2:Addr}
end
section
variable {prog:Program}{w:World}{A:Around}{E:Value->Shared->Prop}{s:Shared}{a:Addr}{oa:Obj}{x:Value}{l:List Value}{na:Nat}{ts:List Str}
end
section
variable {X:Cx}{e:Expr}{ta:TE}{c:Str}{j:Nat}{p1 p2 pos:Pos}
end
open PySem.W
section
variable {X:Cx}{pins:List (Addr × Obj)}{σ:St}{H:Hp}{s:Shared}{e C d:Addr}{f:Str}{v:V}{u:Value}{A:Around}{E:Value->Shared->Prop}{arr:Array Value}
end
section
variable {X:Cx}{E:XK}
end
end L2
namespace L2
open PySem PySem.Spec PyProof.Rows PySem.Calls
open PySem.W (hideAll of_hideAll hideAll_get hideAll_none funFrames_hide)
section
variable {X:Cx}{E:XK}
end
section
variable {prog:Program}{w:World}{A:Around}{E:Value->Shared->Prop}{s:Shared}{env:Env}{x:Sem Value}{Q:Flow->Shared->Prop}{C:Addr}
end
section
variable {X:Cx}{E:XK}{x:Str}{C f:Addr}{k:Nat}{fd:FuncData}{ps:List Str}{sp:Sp}{np cpos pos:Pos}{e₀:Expr}{es:List Expr}{t:TA}
end
end L2
namespace L2
open PySem PySem.Spec PyProof.Rows PySem.Calls
section
variable {X:Cx}{k:Nat}{f:Addr}{fd:FuncData}{ps:List Str}{sp:Sp}{g y n:Str}{p np cpos spos hpos pos:Pos}{e₀:Expr}{es:List Expr}{t:TA}{b₀:Stmt}{suite:List Stmt}{j:Nat}{Dc:Addr}{ts:TS}
end
section
variable {X:Cx}
end
end L2
namespace L2
open PySem
theorem Z5{G0:Prop}(h:∀G:Prop,(G0->G)->G):G0:=h G0 fun z=>z
theorem uW{α:Type}{P:List α->Prop}(h:∀a,P [a]):∀us:List α,us.length=1->P us
 | [a],_=>h a
theorem yy{α:Type}{P:List α->Prop}(h:∀a b,P [a,b]):∀us:List α,us.length=2->P us
 | [a,b],_=>h a b
theorem kP{α:Type}{P:List α->Prop}(h:∀a b c,P [a,b,c]):∀us:List α,us.length=3->P us
 | [a,b,c],_=>h a b c
theorem Zg7{α:Type}{P:List α->Prop}(h:∀a b c d,P [a,b,c,d]):∀us:List α,us.length=4->P us
 | [a,b,c,d],_=>h a b c d
theorem len5{α:Type}{P:List α->Prop}(h:∀a b c d e,P [a,b,c,d,e]):∀us:List α,us.length=5->P us
 | [a,b,c,d,e],_=>h a b c d e
theorem zb{lo:Int}{n:Nat}{g:TG}{tb:TS}{D:Ends}{σ:St}{H:Hp}(Pv:Nat->St->Hp->Prop)(h0:Pv 0 σ H)
  (hs:∀i σ H,i < n->Pv i σ H->∀(N b:St->Hp->Prop) (r:VK),(∀σ H,Pv (i + 1) σ H->N σ H)->g (.int (lo + i)) σ H fun σ2 H2=>tb { nx:=N,rt:=r,bk:=b,ct:=N } σ2 H2) (hd:∀σ H,Pv n σ H->D.nx σ H) :
  ∃W:Nat->Nat->St->Hp->Prop,(∃m,W 0 m σ H)/\∀i m σ H,W i m σ H ->
   ((Itr lo n).stop i H/\D.nx σ H)\/((Itr lo n).go i H/\∃N:St->Hp->Prop,(∀σ' H',N σ' H'->∃m',m' < m/\W (i + 1) m' σ' H')/\∀x H',(Itr lo n).yld i H x H'->g x σ H' fun σ2 H2=>tb { D with nx:=N,ct:=N,bk:=D.nx } σ2 H2) :=
 YM Pv h0 (fun i σ H hi p=>hs i σ H hi p _ _ _ fun _ _ z=>z) hd
theorem walk_X{q:Program}{loose:List Str}{XP:(Str->Option Value)->Heap->Prop}{K:Params->PySem.W.Frag}{as:List Addr}{n t:Nat}{r:PySem.W.RowW}{d:DefRec}{kwd:List (Str × Expr)}{run:Value->List Value->Sem Value}
  (e:∀P,as=(K P).map (·.1)) (W:PySem.W.WalkO q loose XP (PySem.W.InK K) r d kwd run):PySem.W.WalkX q loose XP (PySem.W.X.obsZ as) (PySem.W.X.valZ K n t) r d kwd run :=
 fun w s₀ s₁ mg mb G y a o pm cd doc dV kV e1 e2 e3 e4 e5 e6 args vals as L p l R W' nn =>
  W w s₀ s₁ mg mb G (PySem.W.InK.keeps w _ _ (PySem.W.X.z_facts e y).2.1 L.keeps) a o pm cd doc dV kV e1 e2 e3 e4 e5 e6 args vals as p l R W' nn
noncomputable def noT(K:PySem.W.Frag):PySem.W.Frag:=K.filter fun p=>match p.2.cls,p.2.data with
 | .none,.fields _=>false
 | _,_=>true
theorem noT_ok(K:PySem.W.Frag):PySem.W.noTabs (noT K)=true:=by
 unfold PySem.W.noTabs noT
 rw [Qck]
 intro p hp
 exact (Qec.mp hp).2
noncomputable def nodB:List Nat->Bool
 | []=>true
 | a::r=>r.all (fun b=>!(Nat.beq a b)) && nodB r
theorem lookup_mem{a:Addr}{o:Obj}:∀{K:PySem.W.Frag},K.lookup a=some o->(a,o)∈K
 | (b,u)::r,h=>by
  rw [Qbe] at h
  by_cases e:(a == b)=true
  ·rw [e] at h
   cases h
   rw [eq_of_beq e]
   exact Qaf
  ·rw [Bool.eq_false_iff.mpr e] at h
   exact Qag _ (lookup_mem h)
theorem mem_lookup{a:Addr}{o:Obj}:∀{K:PySem.W.Frag},nodB (K.map (·.1))=true->(a,o)∈K->K.lookup a=some o
 | (b,u)::r,hn,h=>by
  rw [Qbe]
  rw [Qa1] at hn
  have hn':=Bool.and_eq_true_iff.mp hn
  rcases Qak.mp h with e | e
  ·cases e
   rw [Qbs]
  ·have hb:(a == b)=false:=by
    rw [Qb1]
    intro z
    have:=Qck.mp hn'.1 a (Qbi e)
    rw [z,show Nat.beq b b=true from Nat.beq_refl b] at this
    cases this
   rw [hb]
   exact mem_lookup hn'.2 e
theorem in_noT{K:PySem.W.Frag}{h:Heap}(hn:nodB (K.map (·.1))=true)(X:K.In h):(noT K).In h:=fun a o e =>
 X a o (mem_lookup hn (Qec.mp (lookup_mem e)).1)
theorem ns_tr{K:PySem.W.Frag}{m:Addr}{x:Str}{r:Option (Option Value)}(e:PySem.W.nsIn (noT K) m x=PySem.W.nsIn K m x)(h:PySem.W.nsIn K m x=r):PySem.W.nsIn (noT K) m x=r:=e.trans h
theorem lk_tr{K:PySem.W.Frag}{a:Addr}{r:Option Obj}(e:(noT K).lookup a=K.lookup a)(h:K.lookup a=r):(noT K).lookup a=r:=e.trans h
theorem cd_tr{K:PySem.W.Frag}{c:Value}{x:Str}(e:PySem.W.codeIn (noT K) c x=PySem.W.codeIn K c x)(h:PySem.W.codeIn K c x=true):PySem.W.codeIn (noT K) c x=true:=e.trans h
theorem kp_tr{K:PySem.W.Frag}{c:Value}(e:PySem.W.keepIn (noT K) c=PySem.W.keepIn K c)(h:PySem.W.keepIn K c=true):PySem.W.keepIn (noT K) c=true:=e.trans h
theorem cxK{CX:CXT}{P:Program}{w:World}{K:PySem.W.Frag}{mg:Str->Option Value}{base:Heap}{N:List Str}{qual:Str}{scope:Scope}{f:Addr}{cd:Value}{A:Around}{outer:List Env}{s:Shared}{H:Hp}{E:XK}:(Zag CX P w K mg base N qual scope f cd A outer s H E).nox.K=K:=rfl
theorem cxK2{CX:CXT}{P:Program}{w:World}{K:PySem.W.Frag}{mg:Str->Option Value}{base:Heap}{N:List Str}{qual:Str}{scope:Scope}{f:Addr}{cd:Value}{A:Around}{outer:List Env}{s:Shared}{H:Hp}{E:XK}:(Zag CX P w K mg base N qual scope f cd A outer s H E).K=K:=rfl
theorem let2{s1 s2:TS}{D:Ends}{σ:St}{H:Hp}(h:let U1:=s2;YV s1 U1 D σ H):YV s1 s2 D σ H:=h
theorem let3{s1 s2 s3:TS}{D:Ends}{σ:St}{H:Hp}(h:let U2:=s3;let U1:=YV s2 U2;YV s1 U1 D σ H):YV s1 (YV s2 s3) D σ H:=h
theorem let4{s1 s2 s3 s4:TS}{D:Ends}{σ:St}{H:Hp}(h:let U3:=s4;let U2:=YV s3 U3;let U1:=YV s2 U2;YV s1 U1 D σ H):YV s1 (YV s2 (YV s3 s4)) D σ H:=h
theorem let5{s1 s2 s3 s4 s5:TS}{D:Ends}{σ:St}{H:Hp}(h:let U4:=s5;let U3:=YV s4 U4;let U2:=YV s3 U3;let U1:=YV s2 U2;YV s1 U1 D σ H):YV s1 (YV s2 (YV s3 (YV s4 s5))) D σ H:=h
theorem let6{s1 s2 s3 s4 s5 s6:TS}{D:Ends}{σ:St}{H:Hp}(h:let U5:=s6;let U4:=YV s5 U5;let U3:=YV s4 U4;let U2:=YV s3 U3;let U1:=YV s2 U2;YV s1 U1 D σ H):YV s1 (YV s2 (YV s3 (YV s4 (YV s5 s6)))) D σ H:=h
theorem let7{s1 s2 s3 s4 s5 s6 s7:TS}{D:Ends}{σ:St}{H:Hp}(h:let U6:=s7;let U5:=YV s6 U6;let U4:=YV s5 U5;let U3:=YV s4 U4;let U2:=YV s3 U3;let U1:=YV s2 U2;YV s1 U1 D σ H):YV s1 (YV s2 (YV s3 (YV s4 (YV s5 (YV s6 s7))))) D σ H:=h
theorem let8{s1 s2 s3 s4 s5 s6 s7 s8:TS}{D:Ends}{σ:St}{H:Hp}(h:let U7:=s8;let U6:=YV s7 U7;let U5:=YV s6 U6;let U4:=YV s5 U5;let U3:=YV s4 U4;let U2:=YV s3 U3;let U1:=YV s2 U2;YV s1 U1 D σ H):YV s1 (YV s2 (YV s3 (YV s4 (YV s5 (YV s6 (YV s7 s8)))))) D σ H:=h
end L2
namespace ZpT
open PySem PySem.Spec PyProof.Rows
noncomputable abbrev Zct (h:Heap) (T:Addr) (a b c:Value):Prop:=h.get? T=some { cls:=.type "tuple",data:=.seq #[a,b,c] }
structure Ap3(z TI TO i1 i2 i3:Addr):Prop where
 TIz:TI≠z
 TOz:TO≠z
 i1z:i1≠z
 i2z:i2≠z
 i3z:i3≠z
 TITO:TI≠TO
 TIi1:TI≠i1
 TIi2:TI≠i2
 TIi3:TI≠i3
 TOi1:TO≠i1
 TOi2:TO≠i2
 TOi3:TO≠i3
 i12:i1≠i2
 i13:i1≠i3
 i23:i2≠i3
structure Of3(z TO i1 i2 i3 l:Addr):Prop where
 z:l≠z
 o:l≠TO
 i:l≠i1
 j:l≠i2
 m:l≠i3
structure St3(z TI TO i1 i2 i3 l1 l2 l3:Addr)(k:Nat)(h:Heap):Prop where
 z:∃f0 fb,h.get? z=some (zO f0 fb TI TO)/\F0 f0
 I:Zct h TI (.ref i1) (.ref i2) (.ref i3)
 O:∃a b c,Zct h TO a b c
 n1:Y6 false h i1 l1 k
 n2:Y6 false h i2 l2 k
 n3:Y6 false h i3 l3 k
section
variable {prog:Program}{w:World}{A:Around}{E:Value->Shared->Prop}{s:Shared}
end
end ZpT
namespace L2
open PySem PySem.Spec PyProof.Rows
section
variable {X:Cx}{S scope:Scope}{N:List Str}{x x2 x3:Str}{ys:List Str}{is:List Nat}{pins:List (Addr × Obj)}{σ:St}{H₂:Hp}{s₂:Shared}{fp:List Addr}{elt iter:Expr}{px px2 px3 pp pos:Pos}{pq:Nat}{ifs:List Expr}{tc:TT}{te:TE}{wi:TI}
end
end L2
namespace ZpT
open PySem PySem.Spec PyProof.Rows
section
variable {prog:Program}{w:World}{A:Around}{E:Value->Shared->Prop}{s:Shared}
end
end ZpT
namespace L2
open PySem PySem.Spec PyProof.Rows
open ZpT (St3 Ap3 Of3 SeqAt Y6)
section
variable {X:Cx}{e1 e2 e3:Expr}{t:TA}{p pos:Pos}
end
end L2
namespace L2
open PySem PySem.Spec PyProof.Rows
section
variable {prog:Program}{w:World}{A:Around}{s:Shared}
end
section
variable {X:Cx}
end
noncomputable def b2i(b:Bool):Int:=if b=true then 1 else 0
noncomputable def Zgp(k:Int):Value->Bool
 | .int i _=>i == k
 | .bool b=>b2i b == k
 | _=>false
theorem Xo{k:Int}{v:Value}(h:Zgp k v=true):(∃t,v=.int k t)\/∃b,v=.bool b/\k=b2i b:=by
 cases v with
 | int i t=>exact .inl ⟨t,by rw [show i=k from eq_of_beq h]⟩
 | bool b=>exact .inr ⟨b,rfl,(eq_of_beq h).symm⟩
 | _=>cases h
section
variable {prog:Program}{w:World}
theorem yz{A:Around}{E:Value->Shared->Prop}{s:Shared}{b:Bool}{Q:Int->Shared->Prop}(h:Q (hashInt (b2i b)) { s with toks:=s.toks + 1 }):wpAny (model prog w) A (pyHash (.bool b)) Q E s:=by
 show wpAny _ _ (pyHashByItsType (.bool b)) _ _ s
 refine PySem.W.pyHash_slot (T := "bool") (id := "int.__hash__") (B:=Builtin.«int.__hash__») rfl F.slot_bool_hash F.entry_int_hash (F.args_int_hash_1 _) (by decide +kernel) (.inl rfl) ?_
 cases b
 ·exact wpAny_bind (wpAny_of_eq (a:=(Value.bool false,(0:Int))) rfl (wpAny_bind (wpAny_mkInt (wpAny_pure ⟨0,_,rfl,h⟩))))
 ·exact wpAny_bind (wpAny_of_eq (a:=(Value.bool true,(1:Int))) rfl (wpAny_bind (wpAny_mkInt (wpAny_pure ⟨1,_,rfl,h⟩))))
end
theorem Zcu(a b:Int):decide (a=b)=(a == b):=by
 by_cases e:a=b
 ·rw [Qae e,e,Qbs]
 ·rw [Qad e,Qb1.mpr e]
noncomputable def YK(prog:Program)(w:World):KeyKind prog w Int where
 is:=Zgp
 hash:=hashInt
 inj:=fun v a b ha hb=>by
  rcases Xo ha with ⟨t,rfl⟩ | ⟨x,rfl,rfl⟩
  ·exact (eq_of_beq (show (a == b)=true from hb))
  ·exact (eq_of_beq (show (b2i x == b)=true from hb))
 byValue:=fun k v h=>by
  rcases Xo h with ⟨t,rfl⟩ | ⟨x,rfl,rfl⟩ <;> rfl
 pyHash:=fun hv h=>by
  rcases Xo hv with ⟨t,rfl⟩ | ⟨x,rfl,rfl⟩
  ·exact wpAny_pyHash_int h
  ·exact yz h
 eqBool:=fun hu hv h=>by
  rw [Zcu] at h
  rcases Xo hu with ⟨t,rfl⟩ | ⟨x,rfl,rfl⟩
  ·rcases Xo hv with ⟨u,rfl⟩ | ⟨y,rfl,rfl⟩
   ·exact wpAny_eqBool_int h
   ·exact SeqAt.EqAt.int_bool _ t y _ _ _ _ h
  ·rcases Xo hv with ⟨u,rfl⟩ | ⟨y,rfl,rfl⟩
   ·exact SeqAt.EqAt.bool_int x _ u _ _ _ _ h
   ·refine SeqAt.EqAt.bool_bool x y _ _ _ _ ?_
    have e:(b2i x == b2i y)=(x == y):=by cases x <;> cases y <;> rfl
    rw [e] at h
    exact h
 «strs»:=fun k x t v h=>by cases h
section
variable {prog:Program}{w:World}
noncomputable def IsPair(prog:Program)(w:World)(h:Heap)(k:Int × List Int)(a:Addr):Prop :=
 ∃o n t tk,h.get? a=some o/\o.cls=.type "tuple" /\ o.data=.seq #[.int k.1 tk,.ref t] n/\IsTupleKey (YK prog w) h k.2 t
noncomputable def zE(prog:Program)(w:World)(k:Int × List Int):Int:=reduceHash (Builtin.Tuple.tupleHashOf [hashInt k.1,tupleKeyHash (YK prog w) k.2])
theorem IsPair.inj{h:Heap}{a:Addr}{x y:Int × List Int}(p:IsPair prog w h x a)(q:IsPair prog w h y a):x=y:=by
 obtain ⟨o,n,t,tk,e,c,d,k⟩:=p
 obtain ⟨o',n',t',tk',e',c',d',k'⟩:=q
 rw [e] at e'
 cases e'
 rw [d] at d'
 injection d' with d1 d2
 have d3:=congrArg Array.toList d1
 injection d3 with d4 d5
 injection d4 with d6 _
 injection d5 with d7 _
 injection d7 with d8
 subst d8
 have:=(tupleKind (YK prog w)).inj k k'
 exact Qez d6 this
theorem IsPair.keeps{h h':Heap}{k:Int × List Int}{a d:Addr}{o:Obj}{es:Array DictEntry}{ep:Nat}(p:IsPair prog w h k a)(e:h.get? d=some o)(hd:o.data=.dict es ep)(s:Heap.SameBut d h h'):IsPair prog w h' k a:=by
 obtain ⟨o1,n,t,tk,e1,c1,d1,k1⟩:=p
 have hne:a≠d:=fun z=>by
  rw [z,e] at e1
  cases e1
  rw [hd] at d1
  cases d1
 exact ⟨o1,n,t,tk,(s.2 a hne).trans e1,c1,d1,(tupleKind (YK prog w)).keeps k1 e hd s⟩
theorem IsPair.pyHash{A:Around}{E:Value->Shared->Prop}{s:Shared}{k:Int × List Int}{a:Addr}{Q:Int->Shared->Prop}(hu:A.units + 1 < cLine)(p:IsPair prog w s.heap k a)
  (h:Q (zE prog w k) { s with toks:=s.toks + (k.2.length + 3) }):wpAny (model prog w) A (PySem.pyHash (.ref a)) Q E s:=by
 obtain ⟨o,n,t,tk,e,c,d,kt⟩:=p
 show wpAny _ _ (pyHashByItsType (.ref a)) _ _ s
 refine PySem.W.pyHash_slot (T := "tuple") (id := "tuple.__hash__") (B:=Builtin.«tuple.__hash__») ⟨o,e,c⟩ F.slot_tuple_hash F.entry_tuple_hash (F.args_tuple_hash_1 _) (by decide +kernel) (.inr (by lia)) ?_
 unfold Builtin.«tuple.__hash__»
 refine wpAny_bind (wpAny_of_eq (a:=(Value.ref a,[])) rfl ?_)
 try dsimp only
 refine wpAny_bind (wpAny_tupleItemsOf e d ?_)
 refine wpAny_bind (wpAny_forIn_array' _ (fun rest hs s'=>(rest=[.int k.1 tk,.ref t]/\hs=#[]/\s'=s)\/(rest=[.ref t]/\hs=#[hashInt k.1]/\s'={ s with toks:=s.toks + 1 })\/(rest=[]/\hs=#[hashInt k.1,tupleKeyHash (YK prog w) k.2]/\s'={ s with toks:=s.toks + 1 + (k.2.length + 1) })) _ ?_ ?_ _ _ (.inl ⟨rfl,rfl,rfl⟩))
 ·rintro x rest b s' (⟨e1,rfl,rfl⟩ | ⟨e1,rfl,rfl⟩ | ⟨e1,_,_⟩)
  ·cases e1
   exact wpAny_bind (wpAny_pyHash_int (wpAny_pure (.inr (.inl ⟨rfl,rfl,rfl⟩))))
  ·cases e1
   refine wpAny_bind (wpAny_pyHash_tuple (knd:=YK prog w) (ks:=k.2) (s:={ s with toks:=s.toks + 1 }) (by show A.units + 1 < cLine;exact hu) kt (wpAny_pure (.inr (.inr ⟨rfl,rfl,rfl⟩))))
  ·cases e1
 ·rintro b s' (⟨e1,_,_⟩ | ⟨e1,_,_⟩ | ⟨_,rfl,rfl⟩)
  ·cases e1
  ·cases e1
  ·refine wpAny_bind (wpAny_mkInt (wpAny_pure ⟨_,_,rfl,?_⟩))
   have e5:s.toks + 1 + (k.2.length + 1) + 1=s.toks + (k.2.length + 3):=by lia
   show Q (zE prog w k) { s with toks:=s.toks + 1 + (k.2.length + 1) + 1 }
   rw [e5]
   exact h
theorem _root_.PySem.IsTupleKey.any{h:Heap}{ks:List Int}{a:Addr}(k:IsTupleKey (YK prog w) h ks a)(prog':Program)(w':World):IsTupleKey (YK prog' w') h ks a:=by
 obtain ⟨o,items,n,e,c,d,it⟩:=k
 have go:∀{ks:List Int} {vs:List Value},ItemsAre (YK prog w) ks vs->ItemsAre (YK prog' w') ks vs:=by
  intro ks vs hh
  induction hh with
  | nil=>exact .nil
  | cons h1 _ ih=>exact .cons h1 ih
 exact ⟨o,items,n,e,c,d,go it⟩
theorem IsPair.eqBool{A:Around}{E:Value->Shared->Prop}{s:Shared}{x y:Int × List Int}{a b:Addr}{Q:Bool->Shared->Prop}(hu:A.units + 1 < cLine)(p:IsPair prog w s.heap x a)(q:IsPair prog w s.heap y b)
  (h:Q (decide (x=y)) s):wpAny (model prog w) A (PySem.eqBool (.ref a) (.ref b)) Q E s:=by
 by_cases hab:a=b
 ·subst hab
  have:=p.inj q
  rw [Qae this] at h
  exact SeqAt.EqAt.same (.ref a) prog w E Q h
 ·obtain ⟨o,n,t,tk,e,c,d,kt⟩:=p
  obtain ⟨o',n',t',tk',e',c',d',kt'⟩:=q
  have it:∀j (h1:j < (#[Value.int x.1 tk,.ref t]).size) (h2:j < (#[Value.int y.1 tk',.ref t']).size),SeqAt.EqAt A.in1 s (#[Value.int x.1 tk,.ref t])[j] (#[Value.int y.1 tk',.ref t'])[j] (if j=0 then x.1 == y.1 else decide (x.2=y.2)):=by
   intro j h1 h2
   match j,h1,h2 with
   | 0,_,_=>exact SeqAt.EqAt.int_int x.1 tk y.1 tk'
   | 1,_,_=>exact fun prog' w' E' Q' h'=>wpAny_eqBool_tuple (knd:=YK prog' w') (by show A.units + 1 < cLine;exact hu) (kt.any prog' w') (kt'.any prog' w') h'
  have r:=SeqAt.RcAt.tuples (A:=A) (s:=s) (e:=fun j=>if j=0 then x.1 == y.1 else decide (x.2=y.2)) ⟨o,e,c,n,d⟩ ⟨o',e',c',n',d'⟩ (by lia) it
  have ee:((List.range (min (#[Value.int x.1 tk,.ref t]).size (#[Value.int y.1 tk',.ref t']).size)).all (fun j=>if j=0 then x.1 == y.1 else decide (x.2=y.2)) && (#[Value.int x.1 tk,.ref t]).size == (#[Value.int y.1 tk',.ref t']).size)=decide (x=y):=by
   show ((x.1 == y.1) && (decide (x.2=y.2) && true) && true)=decide (x=y)
   rw [Bool.and_true,Bool.and_true,<-Zcu]
   by_cases h1:x.1=y.1
   ·by_cases h2:x.2=y.2
    ·rw [Qae h1,Qae h2,Qae (Qez h1 h2)]
     rfl
    ·rw [Qad h2,Bool.and_false,Qad fun z=>h2 (by rw [z])]
   ·rw [Qad h1,Bool.false_and,Qad fun z=>h1 (by rw [z])]
  rw [ee] at r
  exact SeqAt.EqAt.of_refs hab r prog w E Q h
theorem ke{A:Around}{E:Value->Shared->Prop}{s:Shared}{ks:List Int}{a:Addr}{Q:Bool->Shared->Prop}(m:Nat)(k:IsTupleKey (YK prog w) s.heap ks a)(h:Q true s):wpAny (model prog w) A (eqIsQuiet (m + 1) (.ref a)) Q E s:=by
 obtain ⟨o,items,n,e,c,d,it⟩:=k
 rw [eqIsQuiet.eq_2]
 have hT:s.TypeIs (.ref a) "tuple" := ⟨o,e,c⟩
 refine wpAny_bind (wpAny_specialOf hT F.slot_tuple_eq.lookup ?_)
 refine wpAny_bind (wpAny_isInstance (T := "tuple") (b:=true) hT (by rw [isSubtype_type];kernel_rfl) ?_)
 rw [Qan (by decide)]
 refine wpAny_bind (wpAny_seqItems e d ?_)
 refine wpAny_bind (wpAny_forIn_array' _ (fun rest b s'=>(∀v∈rest,carriedByValue v=true)/\b=(none,())/\s'=s) _ ?_ ?_ _ _ ⟨fun v hv=>?_,rfl,rfl⟩)
 ·rintro x rest b s' ⟨hv,rfl,rfl⟩
  refine wpAny_bind ?_
  rw [eqIsQuiet_byValue m (hv x Qaf)]
  exact wpAny_pure (wpAny_pure ⟨fun v hm=>hv v (Qag _ hm),rfl,rfl⟩)
 ·rintro b s' ⟨_,rfl,rfl⟩
  exact wpAny_pure h
 ·have go:∀{ks:List Int} {vs:List Value},ItemsAre (YK prog w) ks vs->∀v∈vs,carriedByValue v=true:=by
   intro ks vs hh
   induction hh with
   | nil=>exact fun v hv=>nomatch hv
   | cons h1 _ ih =>
    intro v hv
    rcases Qak.mp hv with rfl | hv
    ·exact (YK prog w).byValue _ _ h1
    ·exact ih v hv
  exact go it v hv
theorem IsPair.quiet{A:Around}{E:Value->Shared->Prop}{s:Shared}{k:Int × List Int}{a:Addr}{Q:Bool->Shared->Prop}(p:IsPair prog w s.heap k a)(h:Q true s):wpAny (model prog w) A (eqIsQuiet 8 (.ref a)) Q E s:=by
 obtain ⟨o,n,t,tk,e,c,d,kt⟩:=p
 rw [eqIsQuiet.eq_2]
 have hT:s.TypeIs (.ref a) "tuple" := ⟨o,e,c⟩
 refine wpAny_bind (wpAny_specialOf hT F.slot_tuple_eq.lookup ?_)
 refine wpAny_bind (wpAny_isInstance (T := "tuple") (b:=true) hT (by rw [isSubtype_type];kernel_rfl) ?_)
 rw [Qan (by decide)]
 refine wpAny_bind (wpAny_seqItems e d ?_)
 refine wpAny_bind (wpAny_forIn_array' _ (fun rest b s'=>(rest=[.int k.1 tk,.ref t]\/rest=[.ref t]\/rest=[])/\b=(none,())/\s'=s) _ ?_ ?_ _ _ ⟨.inl rfl,rfl,rfl⟩)
 ·rintro x rest b s' ⟨hr,rfl,rfl⟩
  rcases hr with e1 | e1 | e1
  ·cases e1
   refine wpAny_bind ?_
   rw [eqIsQuiet_byValue 7 rfl]
   exact wpAny_pure (wpAny_pure ⟨.inr (.inl rfl),rfl,rfl⟩)
  ·cases e1
   exact wpAny_bind (ke 6 kt (wpAny_pure ⟨.inr (.inr rfl),rfl,rfl⟩))
  ·cases e1
 ·rintro b s' ⟨_,rfl,rfl⟩
  exact wpAny_pure h
end
noncomputable def Zay(prog:Program)(w:World):HeapKind prog w (Int × List Int) where
 is:=IsPair prog w
 hash:=zE prog w
 draws:=fun k=>k.2.length + 3
 room:=fun A=>A.units + 1 < cLine
 inj:=fun p q=>p.inj q
 keeps:=fun p e hd s=>p.keeps e hd s
 pyHash:=fun hu p h=>p.pyHash hu h
 eqBool:=fun hu p q h=>p.eqBool hu q h
 quiet:=fun p h=>p.quiet h
section
variable {prog:Program}{w:World}{K:Type}[DecidableEq K]
end
structure KN(Kk:Type)[DecidableEq Kk] where
 knd:∀(P:Program) (w:World),HeapKind P w Kk
 hsh:Kk->Int
 at_:Hp->Kk->Addr->Prop
 hash_eq:∀P w k,(knd P w).hash k=hsh k
 ok:∀(P:Program) (w:World) (H:Hp) (h:Heap) (k:Kk) (a:Addr),HOk P w H h->at_ H k a->(knd P w).is h k a
 room:∀(P:Program) (w:World) (A:Around),A.units + 2 < cLine->(knd P w).room A.in1
 room0:∀(P:Program) (w:World) (A:Around),A.units + 2 < cLine->(knd P w).room A
 keep:∀(H H':Hp) (k:Kk) (a:Addr),(∀b xs,H b=some (.tup xs)->H' b=some (.tup xs))->at_ H k a->at_ H' k a
section
variable {Kk:Type}[DecidableEq Kk](kn:KN Kk)
noncomputable def entN(x:Kk × Addr × Value):DictEntry:={ hash:=kn.hsh x.1,key:=.ref x.2.1,val:=x.2.2 }
noncomputable def Zel(d:Addr)(xs:List (Kk × Addr × Value))(h:Heap):Prop:=(d == sysModules)=false/\∃o es ep,h.get? d=some o/\o.ExactDict/\o.data=.dict es ep/\es.toList=xs.map (entN kn)
noncomputable def yg(H:Hp)(d:Addr)(kvs:List (Kk × V)):Prop:=(kvs.map (·.1)).Nodup/\kvs.length < sizeLine /\
 ((kvs=[]/\H d=some (.dK []))\/∃xs,H d=some (.ext (Zel kn d xs))/\Paired (fun (p:Kk × V) (q:Kk × Addr × Value)=>p.1=q.1/\kn.at_ H q.1 q.2.1/\RelV p.2 q.2.2) kvs xs)
variable {kn}
theorem Zcv{P:Program}{w:World}(xs:List (Kk × Addr × Value)):xs.map (entryOfKey (kn.knd P w))=xs.map (entN kn):=by
 refine Qcd fun x _=>?_
 show DictEntry.mk _ _ _=DictEntry.mk _ _ _
 rw [kn.hash_eq]
theorem Zem{P:Program}{w:World}{H:Hp}{h:Heap}{d:Addr}{xs:List (Kk × Addr × Value)}(x:Zel kn d xs h):Y9 P w H h d (.ext (Zel kn d xs)):=by
 obtain ⟨hm,o,es,ep,e,r⟩:=id x
 refine ⟨x,⟨o,e⟩,fun h1 h2 y k=>?_⟩
 obtain ⟨hm',o',es',ep',e',r'⟩:=y
 exact ⟨hm',o',es',ep',k _ e',r'⟩
theorem yg.dict{X:Cx}{pins:List (Addr × Obj)}{σ:St}{H:Hp}{s:Shared}{d:Addr}{kvs:List (Kk × V)}(n:yg kn H d kvs)(I:Inv X pins σ H s) :
  ∃xs,Heap.DictOfH (kn.knd X.prog X.w) s.heap d xs/\Paired (fun (p:Kk × V) (q:Kk × Addr × Value)=>p.1=q.1/\kn.at_ H q.1 q.2.1/\RelV p.2 q.2.2) kvs xs/\Mut (H d)/\(d == sysModules)=false:=by
 obtain ⟨hn,hl,h | h⟩:=n
 ·obtain ⟨rfl,e⟩:=h
  obtain ⟨z,hd,vs,rel,dd⟩:=Zec I.hok e
  cases rel
  obtain ⟨o,es,ep,e1,ex,e2,_,pr,_⟩:=dd
  have hes:es.toList=[]:=by
   generalize es.toList=l at pr
   cases pr
   rfl
  exact ⟨[],⟨o,es,ep,e1,ex,e2,hes,(fun x hx=>nomatch hx),Qdm⟩,.nil,by rw [e];exact True.intro,hd⟩
 ·obtain ⟨xs,e,pr⟩:=h
  obtain ⟨⟨hm,o,es,ep,e1,ex,e2,hes⟩,_,_⟩:=(show Y9 X.prog X.w H s.heap d (.ext (Zel kn d xs)) from I.hok d _ e)
  refine ⟨xs,⟨o,es,ep,e1,ex,e2,by rw [hes,Zcv],fun x hx=>?_,?_⟩,pr,by rw [e];exact True.intro,hm⟩
  ·have go:∀{l:List (Kk × V)} {m:List (Kk × Addr × Value)},Paired (fun (p:Kk × V) (q:Kk × Addr × Value)=>p.1=q.1/\kn.at_ H q.1 q.2.1/\RelV p.2 q.2.2) l m->∀x∈m,kn.at_ H x.1 x.2.1:=by
    intro l m pr
    induction pr with
    | nil=>exact fun x hx=>nomatch hx
    | cons h _ ih =>
     intro x hx
     rcases Qak.mp hx with rfl | hx
     ·exact h.2.1
     ·exact ih x hx
   exact kn.ok _ _ _ _ _ _ I.hok (go pr x hx)
  ·have go:∀{l:List (Kk × V)} {m:List (Kk × Addr × Value)},Paired (fun (p:Kk × V) (q:Kk × Addr × Value)=>p.1=q.1/\kn.at_ H q.1 q.2.1/\RelV p.2 q.2.2) l m->m.map (·.1)=l.map (·.1):=by
    intro l m pr
    induction pr with
    | nil=>rfl
    | cons h _ ih=>rw [Qa1,Qa1,ih,h.1]
   rw [go pr]
   exact hn
theorem JO{P:Kk × V->Kk × Addr × Value->Prop}(hP:∀p q,P p q->p.1=q.1):∀{l:List (Kk × V)} {m:List (Kk × Addr × Value)},Paired P l m->∀k,(∀v,YW l k=some v->∃q,atKey m k=some q/\∃p,P p (k,q)/\p.2=v)/\(YW l k=none->atKey m k=none)
 | [],[],_,k=>⟨fun v h=>(by cases h),fun _=>rfl⟩
 | p::l,q::m,.cons h t,k=>by
  have ih:=JO hP t k
  have e:=hP p q h
  by_cases hk:p.1=k
  ·have hq:q.1=k:=e.symm.trans hk
   have a1:atKey (q::m) k=some q.2:=by
    unfold atKey
    rw [Qcx,Qae hq]
    rfl
   have v1:YW (p::l) k=some p.2:=Y4 hk
   refine ⟨fun v hv=>?_,fun hv=>?_⟩
   ·rw [v1] at hv
    cases hv
    exact ⟨q.2,a1,p,by rw [<-hq];exact h,rfl⟩
   ·rw [v1] at hv
    cases hv
  ·have hq:¬q.1=k:=fun z=>hk (e.trans z)
   have a1:atKey (q::m) k=atKey m k:=by
    unfold atKey
    rw [Qcx,Qad hq]
   have v1:YW (p::l) k=YW l k:=Y5 hk
   rw [a1,v1]
   exact ih
theorem vh{X:Cx}{pins:List (Addr × Obj)}{σ:St}{H:Hp}{s:Shared}{d a:Addr}{k:Kk}{v:V}{u:Value}{kvs:List (Kk × V)}{xs:List (Kk × Addr × Value)}{h':Heap}{tk:Nat}(I:Inv X pins σ H s)(n:yg kn H d kvs)(hk:kn.at_ H k a)(rv:RelV v u)(hz:kvs.length + 1 < sizeLine)
  (pr:Paired (fun (p:Kk × V) (q:Kk × Addr × Value)=>p.1=q.1/\kn.at_ H q.1 q.2.1/\RelV p.2 q.2.2) kvs xs) (mu:Mut (H d)) (hm:(d == sysModules)=false) (hv:YW kvs k=none) (dd':Heap.DictOfH (kn.knd X.prog X.w) h' d (xs++[(k,a,u)])) (sb:Heap.SameBut d s.heap h') :
  ∃H',yg kn H' d (kvs++[(k,v)])/\(∀b o,H b=some o->b≠d->H' b=some o)/\(∃o,H'=upd H d o)/\Inv X pins σ H' { s with heap:=h',toks:=tk }:=by
 obtain ⟨o,es,ep,e1,ex,e2,hes,_,_⟩:=dd'
 have df:Zel kn d (xs++[(k,a,u)]) h':=⟨hm,o,es,ep,e1,ex,e2,by rw [hes,Zcv]⟩
 have tp:∀b ys,H b=some (.tup ys)->upd H d (.ext (Zel kn d (xs++[(k,a,u)]))) b=some (.tup ys):=fun b ys e=>by
  rw [Zo fun z=>by rw [<-z,e] at mu;exact mu]
  exact e
 refine ⟨_,⟨?_,?_,.inr ⟨_,Za,?_⟩⟩,fun b o e hb=>by rw [Zo hb];exact e,⟨_,rfl⟩,z9 I mu sb ⟨o,e1⟩ (Zem df)⟩
 ·rw [Qbh,Qep]
  refine ⟨n.1,Qby.mpr ⟨Qa3,Qdm⟩,fun y hy z hz q=>?_⟩
  rw [Qa1,Qdq,Qav] at hz
  rw [q,hz] at hy
  obtain ⟨x,hx,ex⟩:=Qa5.mp hy
  have ex2:x.1=k:=ex
  have:=zC n.1 x hx
  rw [ex2,hv] at this
  cases this
 ·rw [Qac]
  exact hz
 ·have go:∀{l:List (Kk × V)} {m:List (Kk × Addr × Value)},Paired (fun (p:Kk × V) (q:Kk × Addr × Value)=>p.1=q.1/\kn.at_ H q.1 q.2.1/\RelV p.2 q.2.2) l m->Paired (fun (p:Kk × V) (q:Kk × Addr × Value)=>p.1=q.1/\kn.at_ (upd H d (.ext (Zel kn d (xs++[(k,a,u)])))) q.1 q.2.1/\RelV p.2 q.2.2) (l++[(k,v)]) (m++[(k,a,u)]):=by
   intro l m pr
   induction pr with
   | nil=>exact .cons ⟨rfl,kn.keep _ _ _ _ tp hk,rv⟩ .nil
   | cons h _ ih=>exact .cons ⟨h.1,kn.keep _ _ _ _ tp h.2.1,h.2.2⟩ ih
  exact go pr
end
noncomputable def vB:V->Option Int
 | .int i=>some i
 | .bl b=>some (b2i b)
 | _=>none
theorem vi{P:Program}{w:World}:∀{vs:List V} {us:List Value} {ks:List Int},Vals vs us->vs.map vB=ks.map some->ItemsAre (YK P w) ks us
 | [],_,[],r,_=>by cases r;exact .nil
 | v::vs,_,k::ks,.cons h t,e=>by
  rw [Qa1,Qa1] at e
  injection e with e1 e2
  refine .cons ?_ (vi t e2)
  cases v with
  | int i =>
   obtain ⟨t,rfl⟩:=h
   cases e1
   exact Qbs _
  | bl b =>
   cases (show _=Value.bool b from h)
   cases e1
   exact Qbs _
  | _=>cases e1
noncomputable def gF(H:Hp)(ks:List Int)(a:Addr):Prop:=∃vs,H a=some (.tup vs)/\vs.map vB=ks.map some
theorem gF.is{P:Program}{w:World}{H:Hp}{h:Heap}{ks:List Int}{a:Addr}(ok:HOk P w H h)(b:gF H ks a):IsTupleKey (YK P w) h ks a:=by
 obtain ⟨vs,e,hv⟩:=b
 obtain ⟨_,its,r,o,h1,h2,n,h3⟩:=(show Y9 P w H h a (.tup vs) from ok a _ e)
 exact ⟨o,its.toArray,n,h1,h2,h3,by simpa using vi r hv⟩
noncomputable def Zcw(H:Hp)(k:Int × List Int)(a:Addr):Prop:=∃t,H a=some (.tup [.int k.1,.ref t])/\gF H k.2 t
noncomputable def knP:KN (Int × List Int) where
 knd:=Zay
 hsh:=fun k=>reduceHash (Builtin.Tuple.tupleHashOf [hashInt k.1,reduceHash (Builtin.Tuple.tupleHashOf (k.2.map hashInt))])
 at_:=Zcw
 hash_eq:=fun P w k=>rfl
 ok:=fun P w H h k a ok ⟨t,e,b⟩=>by
  obtain ⟨_,its,r,o,h1,h2,n,h3⟩:=(show Y9 P w H h a (.tup [.int k.1,.ref t]) from ok a _ e)
  cases r with
  | cons r1 r2 =>
  cases r2 with
  | cons r2 r3 =>
  cases r3
  obtain ⟨tk,rfl⟩:=r1
  cases (show _=Value.ref t from r2)
  exact ⟨o,n,t,tk,h1,h2,h3,b.is ok⟩
 room:=fun P w A hu=>by show A.units + 1 + 1 < cLine;lia
 room0:=fun P w A hu=>by show A.units + 1 < cLine;lia
 keep:=fun H H' k a hk ⟨t,e,vs,e2,hv⟩=>⟨t,hk _ _ e,vs,hk _ _ e2,hv⟩
section
variable {X:Cx}
variable {o e:Expr}{es:List Expr}{to:TE}{t:TA}{name:Str}{apos cpos:Pos}
end
section
variable {X:Cx}
noncomputable def rRngV:List V->Hp->VK->Prop:=fun xs H Q=>∃j:Int,xs=[.int j]/\∀p,H p=none->Q (.ref p) (upd H p (.rng 0 j))
theorem y0:WJ X (.type "range") rRngV:=by
 intro pins s σ H xs us Q I r h
 obtain ⟨j,rfl,q⟩:=h
 obtain ⟨u,rfl,ru⟩:=vals1 r
 obtain ⟨t,rfl⟩:=ru
 refine call_range_1 ⟨.ref s.heap.objs.size,_,I.laid (fun b u e=>Heap.get?_push_of_some _ e) (Qaj _) ?_,rfl,q _ I.fresh⟩
 exact ⟨_,_,_,Heap.get?_push_size _ rfl⟩
noncomputable def Zen:List V->Hp->VK->Prop:=fun xs H Q=>∃(p:Addr) (n:Nat),xs=[.ref p]/\H p=some (.rng 0 (n:Int))/\n<=1000000/\∀l,H l=none->Q (.ref l) (upd H l (.lst ((List.range n).map fun i:Nat=>V.int (i:Int))))
theorem y6 (hc:X.calm=true):WJ X (.type "list") Zen:=by
 intro pins s σ H xs us Q I r h
 obtain ⟨p,n,rfl,e,hn,q⟩:=h
 obtain ⟨u,rfl,ru⟩:=vals1 r
 cases ru
 obtain ⟨t,u,v,hp⟩:=(show Y9 X.prog X.w H s.heap p (.rng 0 (n:Int)) from I.hok p _ e)
 have hsz:Builtin.Range.rangeSize 0 (n:Int) 1=(n:Int):=by
  unfold Builtin.Range.rangeSize
  rw [Qau (by decide)]
  split
  ·rw [Qbm]
   lia
  ·lia
 have hfit:∀z:Int,0<=z->z<=1000000->Builtin.Range.rangeFitsLong z=true:=fun z h1 h2=>by
  unfold Builtin.Range.rangeFitsLong
  simp only [Qbk,decide_eq_true_eq]
  lia
 have hsm:Builtin.Range.small 0 (n:Int) 1=true:=by
  unfold Builtin.Range.small
  rw [hsz,hfit 0 (by decide) (by decide),hfit n (by lia) (by lia),hfit 1 (by decide) (by decide),Qau (by decide),show (n:Int) + (1 - 1)=n by lia,hfit n (by lia) (by lia)]
  simp
 refine call_list_range (I.ok.hd hc) hp hsm hsz (by lia) fun h' tk acc c' hk hl it=>?_
 refine ⟨.ref s.heap.objs.size,_,I.laid hk (Qaj _) ?_,rfl,q _ I.fresh⟩
 have hlen:acc.toList.length=n:=by rw [Qcc];exact it.1
 refine ⟨by rw [Qab,Qbp,sizeLine_eq];lia,acc.toList,c',?_,by simpa using hl⟩
 have go:∀(m:Nat) (us:List Value) (k:Nat),us.length=m->(∀j v,us[j]?=some v->∃t,v=Value.int ((k + j:Nat):Int) t)->Vals ((List.range' k m).map fun i:Nat=>V.int (i:Int)) us:=by
  intro m
  induction m with
  | zero =>
   intro us k hl _
   rw [Qda hl]
   exact .nil
  | succ m ih =>
   intro us k hl hh
   cases us with
   | nil=>cases hl
   | cons u us =>
    rw [List.range'_succ,Qa1]
    refine .cons ?_ (ih us (k + 1) (by simpa using hl) fun j v hj=>?_)
    ·obtain ⟨t,e⟩:=hh 0 u rfl
     exact ⟨t,e⟩
    ·obtain ⟨t,e⟩:=hh (j + 1) v (by simpa using hj)
     exact ⟨t,by rw [e,show k + (j + 1)=k + 1 + j by lia]⟩
 rw [List.range_eq_range']
 refine go n acc.toList 0 hlen fun j v hj=>?_
 obtain ⟨t,e⟩:=it.2 j v (by rw [<-Array.getElem?_toList];exact hj)
 exact ⟨t,by rw [e,show (0:Int) + (j:Int) * 1=((0 + j:Nat):Int) by lia]⟩
end
end L2
namespace L2
theorem vj{A:PySem.Around}{k:Nat}(hr:WL k A):A.units + 2 < PySem.cLine:=Qdu (Nat.add_le_add_left (by decide:2<=64) _) hr.units
open PySem PySem.Spec PyProof.Rows
section
variable {X:Cx}{params:Arguments}{body a:Expr}{scope:Scope}{lpos p pos:Pos}{c P g:Addr}{qual x:Str}{k kl:Nat}{gd:FuncData}{pg ps ys:List Str}{is:List Nat}{sp:Sp}{ta te:TE}{b:Expr}{tb:TE}
end
section
variable {κ:Type}[DecidableEq κ]
noncomputable def Xe(l:List κ)(k:κ):List κ:=if k∈l then l else l++[k]
theorem Jd{l:List κ}(h:l.Nodup)(k:κ):(Xe l k).Nodup:=by
 unfold Xe
 split
 ·exact h
 ·rename_i hk
  rw [Qep]
  exact ⟨h,Qby.mpr ⟨Qa3,Qdm⟩,fun a ha b hb e=>hk (by rw [Qav] at hb;rw [<-hb,<-e];exact ha)⟩
theorem qy{l:List κ}{k x:κ}:x∈Xe l k↔x∈l\/x=k:=by
 unfold Xe
 split
 ·rename_i h
  exact ⟨.inl,fun z=>z.elim id fun e=>e ▸ h⟩
 ·rw [Qa6,Qav]
theorem vk(l:List κ)(k:κ):(Xe l k).length<=l.length + 1:=by
 unfold Xe
 split
 ·lia
 ·rw [Qac];exact Qaj _
theorem Zaz(l:List κ)(k:κ):∃r,Xe l k=l++r:=by
 unfold Xe
 split
 ·exact ⟨[],(Qbc _).symm⟩
 ·exact ⟨[k],rfl⟩
theorem qz(ks:List κ):∀l:List κ,∃r,ks.foldl Xe l=l++r:=by
 induction ks with
 | nil=>exact fun l=>⟨[],(Qbc _).symm⟩
 | cons k r ih =>
  intro l
  obtain ⟨a,ha⟩:=Zaz l k
  obtain ⟨b,hb⟩:=ih (Xe l k)
  exact ⟨a++b,by rw [Qc4,hb,ha,Qb0]⟩
theorem gG{l r:List κ}{k:κ}(h:k∈l):(l++r).idxOf k=l.idxOf k:=by rw [List.idxOf_append,Qau h]
theorem idx_map{α β:Type}[DecidableEq α][DecidableEq β](f:α->β)(hf:∀a b,f a=f b->a=b)(s:α):∀l:List α,(l.map f).idxOf (f s)=l.idxOf s
 | []=>rfl
 | x::r=>by
  rw [Qa1,Qeg,Qeg,idx_map f hf s r]
  by_cases h:x=s
  ·subst h
   rw [Qbs,Qbs]
  ·rw [Qb1.mpr h,Qb1.mpr fun z=>h (hf _ _ z)]
noncomputable def Wz(l:List κ):List (κ × V):=l.zipIdx.map fun p=>(p.1,V.int (p.2:Int))
theorem Gs(l:List κ):(Wz l).map (·.1)=l:=by
 unfold Wz
 rw [Qbn]
 exact List.zipIdx_map_fst 0 l
theorem j7(l:List κ):(Wz l).length=l.length:=by
 unfold Wz
 rw [Qab,List.length_zipIdx]
theorem zc(l:List κ)(k:κ):Wz (l++[k])=Wz l++[(k,V.int (l.length:Int))]:=by
 unfold Wz
 rw [List.zipIdx_append,Qbh]
 simp
theorem qR:∀(l:List κ) (k:κ),k∈l->l.Nodup->YW (Wz l) k=some (V.int (l.idxOf k:Int)):=by
 intro l k hk hn
 have hi:=Qdf hk
 have hm:(k,V.int (l.idxOf k:Int))∈Wz l:=by
  unfold Wz
  refine Qa5.mpr ⟨(k,l.idxOf k),?_,rfl⟩
  rw [List.mem_zipIdx_iff_getElem?]
  simp [hi,Qaa]
 have:=zC (kvs:=Wz l) (by rw [Gs];exact hn) _ hm
 exact this
theorem zd(l:List κ)(k:κ)(hk:k∉l):YW (Wz l) k=none:=by
 unfold YW
 rw [Option.map_eq_none_iff,Qdv]
 intro x hx z
 have:x.1∈(Wz l).map (·.1):=Qbi hx
 rw [Gs,Qa9 z] at this
 exact hk this
end
end L2
namespace EnL
open PySem PySem.Spec PyProof.Rows
open AutoSeq1 (wpAny_loadPart')
section
variable {prog:Program}{w:World}{A:Around}{E:Value->Shared->Prop}{s:Shared}
end
end EnL
namespace L2
open PySem PySem.Spec PyProof.Rows
section
variable {κ β:Type}[DecidableEq κ][DecidableEq β]
theorem vm(f:κ->β)(l:List κ)(k:κ)(h:∀a∈l,f a=f k->a=k):Xe (l.map f) (f k)=(Xe l k).map f:=by
 unfold Xe
 by_cases hk:k∈l
 ·rw [Qau hk,Qau (Qbi hk)]
 ·rw [Qan hk,Qan,Qbh]
  ·rfl
  ·intro z
   obtain ⟨a,ha,e⟩:=Qa5.mp z
   exact hk (h a ha e ▸ ha)
theorem Zcx(f:κ->β)(s:κ):∀l:List κ,(∀a∈l,f a=f s->a=s)->(l.map f).idxOf (f s)=l.idxOf s
 | [],_=>rfl
 | x::r,h=>by
  rw [Qa1,Qeg,Qeg,Zcx f s r fun a ha=>h a (Qag _ ha)]
  by_cases e:x=s
  ·subst e
   rw [Qbs,Qbs]
  ·rw [Qb1.mpr e,Qb1.mpr fun z=>e (h x Qaf z)]
theorem Gu:∀{l1 l2:List κ},l1.Nodup->(∀x∈l1,x∈l2)->l1.length<=l2.length
 | [],_,_,_=>Qbg _
 | a::r,l2,h1,hs=>by
  rw [Qby] at h1
  have ha:=hs a Qaf
  have:=Gu (l1:=r) (l2:=l2.erase a) h1.2 fun x hx=>(List.mem_erase_of_ne (show x≠a from fun z=>h1.1 (z ▸ hx))).mpr (hs x (Qag _ hx))
  rw [List.length_erase_of_mem ha] at this
  have hp:=Qd1 ha
  rw [Qaz]
  lia
end
noncomputable def EqD(H:Hp):Nat->V->V->Prop
 | 0,x,y=>Xc x=true/\x=y
 | n + 1,x,y=>(Xc x=true/\x=y)\/∃a c xs ys,x=.ref a/\y=.ref c/\H a=some (.tup xs)/\H c=some (.tup ys)/\xs.length=ys.length/\∀(j:Nat) (u v:V),xs[j]?=some u->ys[j]?=some v->EqD H n u v
theorem Zcy{X:Cx}{pins:List (Addr × Obj)}{σ:St}{H:Hp}{s:Shared}(I:Inv X pins σ H s):∀(n:Nat) (A:Around) (x y:V) (v u:Value),RelV x v->RelV y u->EqD H n x y->A.units + n < cLine->SeqAt.EqAt A s v u true
 | 0,A,x,y,v,u,rx,ry,h,hu=>by
  obtain ⟨f,rfl⟩:=h
  have z:=ji (A:=A) (s:=s) rx ry f f
  rw [vc f] at z
  exact z
 | n + 1,A,x,y,v,u,rx,ry,h,hu=>by
  rcases h with ⟨f,rfl⟩ | ⟨a,c,xs,ys,rfl,rfl,ha,hc,hl,he⟩
  ·have z:=ji (A:=A) (s:=s) rx ry f f
   rw [vc f] at z
   exact z
  ·cases rx
   cases ry
   by_cases hac:a=c
   ·subst hac
    exact SeqAt.EqAt.same _
   obtain ⟨its,r,p,_⟩:=I.tuple (SqT.of ha)
   obtain ⟨its2,r2,p2,_⟩:=I.tuple (SqT.of hc)
   refine SeqAt.EqAt.of_refs hac ?_
   have q:=SeqAt.RcAt.tuples (A:=A) (e:=fun _=>true) p p2 (by lia) fun j h1 h2=>?_
   ·rw [all_true,Qas,Qas,<-r.length,<-r2.length,hl,Qbs] at q
    exact q
   ·have hj:j < xs.length:=by rw [r.length];simpa using h1
    have hj2:j < ys.length:=by rw [r2.length];simpa using h2
    obtain ⟨u,e1,q1⟩:=r.get (Qaa hj)
    obtain ⟨u2,e2,q2⟩:=r2.get (Qaa hj2)
    have e1':its.toArray[j]=u:=by
     have:its[j]?=some its[j]:=Qaa (by simpa using h1)
     rw [e1] at this
     simpa using (Option.some.inj this).symm
    have e2':its2.toArray[j]=u2:=by
     have:its2[j]?=some its2[j]:=Qaa (by simpa using h2)
     rw [e2] at this
     simpa using (Option.some.inj this).symm
    rw [e1',e2']
    exact Zcy I n A.in1 _ _ _ _ q1 q2 (he j _ _ (Qaa hj) (Qaa hj2)) (by show A.units + 1 + n < _;lia)
theorem gH{k:Nat}{A:Around}(r:WL k A):A.units + 4 < cLine:=by have:=r.un;lia
section
variable {X:Cx}
noncomputable def rEqD:R2:=fun x y H Q=>∃a c xs ys,x=.ref a/\y=.ref c/\H a=some (.tup xs)/\H c=some (.tup ys)/\xs.length=ys.length/\(∀(j:Nat) (u v:V),xs[j]?=some u->ys[j]?=some v->EqD H 3 u v)/\Q (.bl true) H
theorem op_eqD(hu:X.A.units + 4 < cLine):OpR X (compareOp .Eq) rEqD:=by
 intro pins s σ H x y v u Q I rx ry h
 obtain ⟨a,c,xs,ys,rfl,rfl,ha,hc,hl,he,q⟩:=h
 cases rx
 cases ry
 obtain ⟨its,r,p,_⟩:=I.tuple (SqT.of ha)
 obtain ⟨its2,r2,p2,_⟩:=I.tuple (SqT.of hc)
 refine SeqAt.eq_tupleAt (e:=fun _=>true) p p2 (by lia) (fun j h1 h2=>?_) (ZS I q ?_)
 ·have hj:j < xs.length:=by rw [r.length];simpa using h1
  have hj2:j < ys.length:=by rw [r2.length];simpa using h2
  obtain ⟨u,e1,q1⟩:=r.get (Qaa hj)
  obtain ⟨u2,e2,q2⟩:=r2.get (Qaa hj2)
  have e1':its.toArray[j]=u:=by
   have:its[j]?=some its[j]:=Qaa (by simpa using h1)
   rw [e1] at this
   simpa using (Option.some.inj this).symm
  have e2':its2.toArray[j]=u2:=by
   have:its2[j]?=some its2[j]:=Qaa (by simpa using h2)
   rw [e2] at this
   simpa using (Option.some.inj this).symm
  rw [e1',e2']
  exact Zcy I 3 _ _ _ _ _ q1 q2 (he j _ _ (Qaa hj) (Qaa hj2)) (by show X.A.units + 1 + 3 < _;lia)
 ·rw [all_true,Qas,Qas,<-r.length,<-r2.length,hl,Qbs]
  rfl
end
section
variable {X:Cx}
end
section
variable {X:Cx}
theorem Za0{Kk:Type}[DecidableEq Kk]{kn:KN Kk}{H:Hp}{kvs:List (Kk × V)}{xs:List (Kk × Addr × Value)}(pr:Paired (fun (p:Kk × V) (q:Kk × Addr × Value)=>p.1=q.1/\kn.at_ H q.1 q.2.1/\RelV p.2 q.2.2) kvs xs)(k:Kk):(atKey xs k).isSome=(YW kvs k).isSome:=by
 have pa:=JO (fun p q h=>h.1) pr k
 cases hv:YW kvs k with
 | none=>rw [pa.2 hv];rfl
 | some x =>
  obtain ⟨q,hq,_⟩:=pa.1 x hv
  rw [hq]
  rfl
noncomputable def rNInN:R2:=fun x y H Q=>∃(Kk:Type) (_:DecidableEq Kk) (kn:KN Kk) (d a:Addr) (k:Kk) (kvs:List (Kk × V)),x=.ref a/\y=.ref d/\yg kn H d kvs/\kn.at_ H k a/\Q (.bl (!(YW kvs k).isSome)) H
theorem gI(hu:X.A.units + 2 < cLine):OpR X (compareOp .NotIn) rNInN:=by
 intro pins s σ H x y v u Q I rx ry h
 obtain ⟨Kk,_,kn,d,a,k,kvs,rfl,rfl,n,hk,q⟩:=h
 cases rx
 cases ry
 obtain ⟨xs,dd,pr,mu,hm⟩:=n.dict I
 refine wpAny_notIn_heap (kn.room _ _ _ hu) (kn.ok _ _ _ _ _ _ I.hok hk) hm dd ?_
 rw [Za0 pr]
 exact ⟨.bl _,H,I.tok _,rfl,q⟩
noncomputable def tNGet(td ty:TE):TE:=fun σ H Q=>td σ H fun x H1=>ty σ H1 fun y H2=>∃(Kk:Type) (_:DecidableEq Kk) (kn:KN Kk) (d a:Addr) (k:Kk) (kvs:List (Kk × V)) (v:V),x=.ref d/\y=.ref a/\yg kn H2 d kvs/\kn.at_ H2 k a/\YW kvs k=some v/\Q v H2
theorem Zeo{o i:Expr}{td ty:TE}{pos:Pos}(hu:X.A.units + 2 < cLine)(ho:QE X o td)(hi:QE X i ty)(hs:Zg5 i):QE X (.Subscript o i pos) (tNGet td ty):=⟨by
 intro pins s σ H Q I h
 refine gp PySem.F.slot_dict_getitem.lookup hs (thn (ho.out pins s σ H _ I h) fun u s1 ⟨x,H1,I1,rx,q1⟩=>thn (hi.out pins s1 σ H1 _ I1 q1) fun iv s2 ⟨y,H2,I2,ry,Kk,_,kn,d,a,k,kvs,v,ex,ey,n,hk,hv,q2⟩=>?_)
 subst ex
 subst ey
 obtain rfl:u=Value.ref d:=rx
 obtain rfl:iv=Value.ref a:=ry
 obtain ⟨xs,dd,pr,mu,hm⟩:=n.dict I2
 obtain ⟨q,hq,p',hp',e⟩:=(JO (fun p q h=>h.1) pr k).1 v hv
 refine ⟨dd.typeIs,wpAny_getItem_heap (kn.room _ _ _ hu) (kn.ok _ _ _ _ _ _ I2.hok hk) dd hq ⟨v,H2,I2.tok _,e ▸ hp'.2.2,q2⟩⟩⟩
noncomputable def sNPut(td ty tv:TE):TS:=fun D σ H=>tv σ H fun v H1=>td σ H1 fun x H2=>ty σ H2 fun y H3=>∃(Kk:Type) (_:DecidableEq Kk) (kn:KN Kk) (d a:Addr) (k:Kk) (kvs:List (Kk × V)),x=.ref d/\y=.ref a/\yg kn H3 d kvs/\kn.at_ H3 k a/\YW kvs k=none/\kvs.length + 1 < sizeLine /\
 ∀H',yg kn H' d (kvs++[(k,v)])->(∀b o,H3 b=some o->b≠d->H' b=some o)->(∃o,H'=upd H3 d o)->D.nx σ H'
theorem Zep{o i value:Expr}{td ty tv:TE}{pos pos':Pos}(hu:X.A.units + 2 < cLine)(ho:QE X o td)(hi:QE X i ty)(hv:QE X value tv)(hs:swapsWith value (some (.Subscript o i pos')) pos.line X.env=pure false):QS X (.Assign [.Subscript o i pos'] value pos) (sNPut td ty tv):=⟨by
 intro pins s σ H D I h
 refine wpAny_Assign_Subscript (thn (hv.out pins s σ H _ I h) fun r s1 ⟨v,H1,I1,rv,q1⟩=>thn (ho.out pins s1 σ H1 _ I1 q1) fun u s2 ⟨x,H2,I2,rx,q2⟩=>thn (hi.out pins s2 σ H2 _ I2 q2) fun iv s3 ⟨y,H3,I3,ry,Kk,_,kn,d,a,k,kvs,ex,ey,n,hk,hv,hz,q3⟩=>?_) hs
 subst ex
 subst ey
 obtain rfl:u=Value.ref d:=rx
 obtain rfl:iv=Value.ref a:=ry
 obtain ⟨xs,dd,pr,mu,hm⟩:=n.dict I3
 have hno:atKey xs k=none:=(JO (fun p q h=>h.1) pr k).2 hv
 refine wpAny_setItem_heap (kn.room _ _ _ hu) (kn.ok _ _ _ _ _ _ I3.hok hk) dd (fun h' dd' sb=>?_) (by rw [<-Paired.length pr];lia)
 rw [storedH_new hno] at dd'
 obtain ⟨H',n',k',o',I'⟩:=vh I3 n hk rv hz pr mu hm hv dd' sb
 exact ⟨σ,H',I',q3 H' n' k' o'⟩⟩
end
theorem Yg:∀(names:List (Str × NameKind)) (n:Nat) (acc:List (Str × Addr)),cellsFrom n names acc=cellsFrom n names []++acc
 | [],_,_=>rfl
 | (x,k)::r,n,acc=>by
  unfold cellsFrom
  split
  ·rw [Yg r (n + 1) ((x,n)::acc),Yg r (n + 1) [(x,n)],Qb0]
   rfl
  ·exact Yg r n acc
theorem Gv:∀(names:List (Str × NameKind)) (n:Nat) {x:Str} {c:Addr},(x,c)∈cellsFrom n names []->(x,NameKind.cell)∈names
 | [],_,_,_,h=>nomatch h
 | (y,k)::r,n,x,c,h=>by
  unfold cellsFrom at h
  split at h
  ·rename_i hk
   rw [Yg] at h
   rcases Qa6.mp h with h | h
   ·exact Qag _ (Gv r (n + 1) h)
   ·rcases Qak.mp h with e | e
    ·cases e
     rw [beq_iff_eq.mp hk]
     exact Qaf
    ·cases e
  ·exact Qag _ (Gv r n h)
theorem Wl{α:Type}{x:Str}:∀{l r:List (Str × α)},(l++r).lookup x=match l.lookup x with | some c=>some c | none=>r.lookup x
 | [],r=>rfl
 | (y,c)::l,r=>by
  rw [Qcz,Qbe,Qbe]
  cases x == y with
  | true=>rfl
  | false=>exact Wl
section
variable {M:Model}{A:Around}{E:Value->Shared->Prop}{s:Shared}
theorem Zeq{scope:Scope}{globals:Addr}{closure:List (Str × Addr)}{binds:List (Str × Value)}{qual:Str}{func:Option Addr}{code:Value}{builtins:Addr}{Q:Env->Shared->Prop}
  (hk:scope.kind=.function) (hl:∀x∈binds,scope.names.lookup x.1=some .local)
  (hQ:∀h' tk,h'.Ns s.heap.objs.size (fun x=>binds.reverse.lookup x)->(∀b o,s.heap.get? b=some o->h'.get? b=some o)->(∀n c,(n,c)∈cellsFrom (s.heap.objs.size + 1) scope.names []->h'.IsCell c none/\s.heap.objs.size < c) ->
   ((cellsFrom (s.heap.objs.size + 1) scope.names []).Pairwise fun x y=>x.2≠y.2)->Q (newEnv scope s.heap.objs.size globals (cellsFrom (s.heap.objs.size + 1) scope.names closure) qual func code none builtins) { s with heap:=h',toks:=tk }) :
  wpAny M A (newFunctionEnv scope globals closure binds qual func code none builtins) Q E s:=by
 simp only [newFunctionEnv,Option.isSome_none,Qb7,Qc8]
 refine wpAny_bind (wpAny_alloc ?_)
 refine wpAny_bind (wpAny_layCells _ (fun name kind cells=>by cases hkc:kind == NameKind.cell <;> simp [hkc]) _ _ _ _ ?_)
 have ok:=cellsFrom_ok scope.names (s.heap.push { cls:=.type "frame",data:=.dict #[] }) (s.heap.objs.size + 1) [] ⟨fun _ _ hm=>(nomatch hm),List.Pairwise.nil⟩ (by rw [Heap.size_push];exact Qaj _)
 rw [Heap.size_push] at ok
 rw [show ({ s with heap:=s.heap.push { cls:=.type "frame",data:=.dict #[] } }:Shared).heap.objs.size=s.heap.objs.size + 1 from Heap.size_push ..]
 refine wpAny_bind (wpAny_forIn_list _
  (fun rest _ s'=>∃done h',binds=done++rest/\s'={ s with heap:=h',toks:=s.toks + done.length }/\h'.Ns s.heap.objs.size (fun x=>done.reverse.lookup x) /\
   Heap.SameBut s.heap.objs.size (pushCells (s.heap.push { cls:=.type "frame",data:=.dict #[] }) scope.names) h') _ ?_ ?_ binds _
  ⟨[],_,rfl,rfl,(Heap.Ns.new s.heap (.type "frame")).keeps (pushCells_keeps _ _),Heap.SameBut.refl ..⟩)
 ·rintro ⟨name,v⟩ rest _ s' ⟨done,h',hb,rfl,hns,hsb⟩
  have hk':Env.kindOf { scope,locals:=s.heap.objs.size,globals,cells:=cellsFrom (s.heap.objs.size + 1) scope.names closure,qual,func,code,frame:=some s.heap.objs.size,builtins } name=some .local:=hl (name,v) (by rw [hb];simp)
  have hp:((scope.kind == .class) || ((scope.kind == .module) && (s.heap.objs.size != globals)))=false:=by rw [hk];rfl
  simp only [storeName_local hk' hp]
  refine wpAny_bind (wpAny_nsSet hns fun h'' hns' hsb'=>wpAny_pure ⟨done++[(name,v)],h'',by simp [hb],?_,?_,hsb.trans hsb'⟩)
  ·simp [Nat.add_assoc]
  ·rw [lookup_reverse_snoc];exact hns'
 ·rintro _ s' ⟨done,h',hb,rfl,hns,hsb⟩
  rw [Qbc] at hb;subst hb
  refine wpAny_pure (hQ h' _ hns (fun b o e=>?_) (fun n c hm=>?_) ok.apart)
  ·exact hsb.extBut b o (Qbv (Heap.lt_size e)) (pushCells_keeps _ _ b o (Heap.get?_push_of_some _ e))
  ·obtain ⟨q1,q2⟩:=ok.empty n c hm
   exact ⟨q1.sameBut hsb (Qc1 q2),q2⟩
end
structure Zer(scope:Scope)(ps ls ys:List Str):Prop where
 kind:scope.kind=.function
 co:scope.isCoroutine=false
 gen:scope.isGenerator=false
 par:∀p∈ps,scope.names.lookup p=some .local
 free:∀y∈ys,scope.names.lookup y=some .free
 nd:(ps++(ls++ys)).Nodup
 ndn:(scope.names.map (·.1)).Nodup
noncomputable def cxN(P:Program)(w:World)(K:PySem.W.Frag)(mg:Str->Option Value)(base:Heap)(N:List Str)(qual:Str)(scope:Scope)(f:Addr)(cd:Value)(cl:List (Str × Addr))(A:Around)(outer:List Env)(s:Shared)(H:Hp):Cx where
 prog:=P
 w:=w
 K:=K
 mg:=mg
 base:=base
 A:=A.deeper (PySem.W.envX qual scope s.heap.objs.size f cd (cellsFrom (s.heap.objs.size + 1) scope.names cl))
 N:=N
 s₀:=s
 H₀:=H
 env:=PySem.W.envX qual scope s.heap.objs.size f cd (cellsFrom (s.heap.objs.size + 1) scope.names cl)
 outer:=outer
 stack:=PySem.W.envX qual scope s.heap.objs.size f cd (cellsFrom (s.heap.objs.size + 1) scope.names cl)::outer
 ex:=[]
 calm:=true
 fn:=fun x=>scope.names.lookup x == some .cell
 pn:=[]
 xe:=fun _ _=>False
noncomputable def Zcz(n m:Nat)(ts:TS)(cs:List Addr)(cv:List (Option V)):Sp:=fun vs H Q _=>vs.length=n/\ts { nx:=fun _ H'=>(∀c∈cs,H' c=none)->Q .non (JM cs H H'),rt:=fun v H'=>(∀c∈cs,H' c=none)->Q v (JM cs H H') } (vs.map some++(List.replicate m none++cv)) (hide cs H)
section
variable {P:Program}{w:World}{K:PySem.W.Frag}{mg:Str->Option Value}{base:Heap}
theorem zF{k:Nat}{f c':Addr}{name qual:Str}{params:Arguments}{body:List Stmt}{scope:Scope}{cl:List (Str × Addr)}{doc pm ctv:Value}{oc:Obj}{ps ls ys:List Str}{cv:List (Option V)}{ts:TS}{H:Hp}{cs:List Addr}
  (S:Zer scope ps ls ys) (hf:H f=some (JA (PySem.W.fnMade name qual params body scope cl doc pm c' ctv))) (hc:H c'=some (JA oc)) (hoc:vd oc qual)
  (hcl:∀x c,cl.lookup x=some c->c∈cs) (hcs:∀c∈cs,∃o v,H c=some (JA o)/\o.data=.cell v)
  (inj:∀x y c,cl.lookup x=some c->cl.lookup y=some c->x=y) (has:∀x,scope.names.lookup x=some .free->∃c,cl.lookup x=some c)
  (hcv:cv.length=ys.length) (hval:∀(i:Nat) (y:Str) (v:V),ys[i]?=some y->cv[i]?=some (some v)->∃c o u,cl.lookup y=some c/\H c=some (JA o)/\o.data=.cell (some u)/\RelV v u)
  (hb:∀us:List Value,us.length=ps.length->bindArgs (PySem.W.fnX name qual params body scope cl .none .none doc pm none (.ref c') ctv) ⟨us,[]⟩=pure (ps.zip us))
  (hbody:∀(A:Around) (outer:List Env) (s:Shared) (H1:Hp),WL k (A.deeper (PySem.W.envX qual scope s.heap.objs.size f (.ref c') (cellsFrom (s.heap.objs.size + 1) scope.names cl)))->PSs (cxN P w K mg base (ps++(ls++ys)) qual scope f (.ref c') cl A outer s H1) body ts) :
  XT P w K mg base (k + 1) f H (Zcz ps.length ls.length ts cs cv):=by
 refine ⟨⟨_,_,hf,rfl⟩,?_⟩
 intro A outer s H1 us vs Q E fz hr e0 r ht
 obtain ⟨hl,ht⟩:=ht
 have gf:s.heap.get? f=some (PySem.W.fnMade name qual params body scope cl doc pm c' ctv):=(e0.hok f _ (fz _ _ _ hf)).1
 have hcs1:∀c∈cs,∃o v,H1 c=some (JA o)/\o.data=.cell v/\s.heap.get? c=some o:=fun c m=>by
  obtain ⟨o,v,e,d⟩:=hcs c m
  exact ⟨o,v,fz _ _ _ e,d,(e0.hok c _ (fz _ _ _ e)).1⟩
 have hcs2:∀c∈cs,∃o,H1 c=some (JA o):=fun c m=>let ⟨o,_,e,_⟩:=hcs1 c m;⟨o,e⟩
 obtain ⟨vs0,t0,hd0,hv0⟩:=hoc
 have lim:s.heap.NoLimit:=e0.mod.nolimit.keeps fun b o e=>(e0.bs b o e).1
 have lus:us.length=ps.length:=by rw [<-r.length];exact hl
 refine codeAny_call_function hr.depth gf rfl S.co S.gen rfl ⟨c',oc,vs0,t0,rfl,(e0.hok c' _ (fz _ _ _ hc)).1,hd0,hv0⟩ ?_
 rw [hb us lus]
 refine wpAny_pure (Zeq S.kind (fun x hx=>S.par _ (Qed hx).1) fun h₁ tk hns old hnew hap=>⟨lim.keeps old,codeAny_func ?_⟩)
 have ndp:ps.Nodup:=(Qep.mp S.nd).1
 have look:∀x c,(cellsFrom (s.heap.objs.size + 1) scope.names cl).lookup x=some c->((x,c)∈cellsFrom (s.heap.objs.size + 1) scope.names []/\(cellsFrom (s.heap.objs.size + 1) scope.names []).lookup x=some c)\/cl.lookup x=some c:=fun x c e=>by
  rw [Yg,Wl] at e
  cases q:(cellsFrom (s.heap.objs.size + 1) scope.names []).lookup x with
  | none=>rw [q] at e;exact .inr e
  | some d=>rw [q] at e;cases e;exact .inl ⟨Qbx q,rfl⟩
 have lookFree:∀x,scope.names.lookup x=some .free->(cellsFrom (s.heap.objs.size + 1) scope.names cl).lookup x=cl.lookup x:=fun x hx=>by
  rw [Yg,Wl]
  cases q:(cellsFrom (s.heap.objs.size + 1) scope.names []).lookup x with
  | none=>rfl
  | some d =>
   have m1:=Gv scope.names _ (Qbx q)
   have m2:=Qbx hx
   have:∀{l:List (Str × NameKind)},(l.map (·.1)).Nodup->(x,NameKind.cell)∈l->(x,NameKind.free)∈l->False:=fun {l} nd a b=>by
    induction l with
    | nil=>cases a
    | cons p l ih =>
     rw [Qa1,Qby] at nd
     rcases Qak.mp a with a | a <;> rcases Qak.mp b with b | b
     ·rw [<-a] at b;cases b
     ·exact nd.1 (by rw [<-a];exact Qbi (f:=(·.1)) b)
     ·exact nd.1 (by rw [<-b];exact Qbi (f:=(·.1)) a)
     ·exact ih nd.2 a b
   exact (this S.ndn m1 m2).elim
 have oldC:∀x c,cl.lookup x=some c->c < s.heap.objs.size:=fun x c e=>by
  obtain ⟨o,v,_,_,g⟩:=hcs1 c (hcl x c e)
  exact Heap.lt_size g
 have I:Inv (cxN P w K mg base (ps++(ls++ys)) qual scope f (.ref c') cl A outer s (hide cs H1)) [] (vs.map some++(List.replicate ls.length none++cv)) (hide cs H1) { s with heap:=h₁,toks:=tk }:=by
  have noA:∀b:Addr,b∉([]:List Addr):=fun b z=>nomatch z
  refine ⟨⟨e0.mod,S.kind,rfl,rfl,Qaj _,fun x y c h1 h2=>?_,fun y hy=>?_,fun y c hy h=>?_,fun _=>hr.hd,Around.frames_deeper e0.frames,.inr ⟨rfl,rfl⟩,fun b z=>absurd z (noA b),fun b o e=>⟨(e0.bs b o e).1,?_⟩,e0.bsz,fun b _ _=>noA b,fun b z=>absurd z (noA b),e0.funs,fun b hb=>?_⟩,
   rfl,e0.bare,Un.kept old,⟨_,hns,fun i y v h1 h2 h3=>?_⟩,fun y c h=>?_,?_,fun y c h=>?_,fun p hp=>absurd (show p∈([]:List (Addr × Obj)) from hp) (by simp),(gx e0.hok hcs2).kept old,?_⟩
  ·rcases look x c h1 with ⟨m1,_⟩ | l1 <;> rcases look y c h2 with ⟨m2,_⟩ | l2
   ·exact name_of_addr hap m1 m2
   ·exact absurd (oldC y c l2) (Qe0.mpr (Qaw (hnew x c m1).2))
   ·exact absurd (oldC x c l1) (Qe0.mpr (Qaw (hnew y c m2).2))
   ·exact inj x y c l1 l2
  ·have hy:scope.names.lookup y=some .cell\/scope.names.lookup y=some .free:=hy
   rcases hy with hy | hy
   ·obtain ⟨c,e⟩:=qp (n:=s.heap.objs.size + 1) hy
    exact ⟨c,by show (cellsFrom (s.heap.objs.size + 1) scope.names cl).lookup y=_;rw [Yg,Wl,e]⟩
   ·obtain ⟨c,e⟩:=has y hy
    exact ⟨c,by show (cellsFrom (s.heap.objs.size + 1) scope.names cl).lookup y=_;rw [lookFree y hy,e]⟩
  ·have hy:scope.names.lookup y=some .cell:=eq_of_beq (show (scope.names.lookup y == some .cell)=true from hy)
   obtain ⟨d,e⟩:=qp (n:=s.heap.objs.size + 1) hy
   have h':(cellsFrom (s.heap.objs.size + 1) scope.names cl).lookup y=some c:=h
   rw [Yg,Wl,e] at h'
   cases h'
   exact Qaw (hnew y _ (Qbx e)).2
  ·by_cases m:b∈cs
   ·exact Wg m
   ·exact (ZV m).trans (e0.bs b o e).2
  ·by_cases m:b∈cs
   ·exact Wg m
   ·exact (ZV m).trans (e0.frf b hb)
  ·by_cases hi:i < vs.length
   ·rw [Qa2 (by simpa using hi),Qao] at h2
    have ha:vs[i]?=some v:=by
     cases e:vs[i]? with
     | none=>rw [e] at h2;cases h2
     | some a=>rw [e] at h2;cases h2;rfl
    obtain ⟨u,hu,rv⟩:=r.get ha
    have h1':(ps++(ls++ys))[i]?=some y:=h1
    rw [Qa2 (by lia)] at h1'
    exact ⟨u,rv,.inl ⟨S.par y (Qam h1'),kd ndp h1' hu lus.symm⟩⟩
   ·rw [Qa0 (by simpa using hi),Qab] at h2
    have h1':(ps++(ls++ys))[i]?=some y:=h1
    rw [Qa0 (by lia),<-hl] at h1'
    by_cases hj:i - vs.length < ls.length
    ·rw [Qa2 (by rw [Qa8];exact hj),List.getElem?_replicate] at h2
     split at h2 <;> cases h2
    ·rw [Qa0 (by rw [Qa8];lia),Qa8] at h2
     rw [Qa0 (by lia)] at h1'
     obtain ⟨c,o,u,e1,e2,e3,rv⟩:=hval _ y v h1' h2
     have hfy:=S.free y (Qam h1')
     exact ⟨u,rv,.inr ⟨.inr hfy,c,(lookFree y hfy).trans e1,o,old _ _ (e0.hok c _ (fz _ _ _ e2)).1,e3⟩⟩
  ·rcases look y c h with ⟨m1,_⟩ | l1
   ·exact ⟨none,(hnew y c m1).1⟩
   ·obtain ⟨o,v,_,d,g⟩:=hcs1 c (hcl y c l1)
    exact ⟨v,o,old _ _ g,d⟩
  ·show hide cs H1 s.heap.objs.size=none
   by_cases m:s.heap.objs.size∈cs
   ·exact Wg m
   ·rw [ZV m];exact e0.hok.fresh (Qaj _)
  ·rcases look y c h with ⟨m1,_⟩ | l1
   ·by_cases m:c∈cs
    ·exact Wg m
    ·rw [ZV m];exact e0.hok.fresh (Qaw (hnew y c m1).2)
   ·exact Wg (hcl y c l1)
  ·show (vs.map some++(List.replicate ls.length none++cv)).length=(ps++(ls++ys)).length
   rw [Qac,Qac,Qac,Qac,Qab,Qa8,hl,hcv]
 refine wpAny_mono (hbody A outer s (hide cs H1) (hr.deeper _) [] _ _ _ _ I ht) (fun fl s' hs=>?_) fun _ _ z=>z.elim
 have nfr:∀c∈cs,c∉frs outer:=fun c m z=>by
  obtain ⟨o,e⟩:=hcs2 c m
  rw [e0.frf c z] at e;cases e
 have hh:∀d,H1 d=none->hide cs H1 d=none:=fun d n=>by
  by_cases m:d∈cs
  ·exact Wg m
  ·rw [ZV m];exact n
 have nm:∀d o,H1 d=some o->(∀ob,o≠JA ob)->d∉cs:=fun d o e ne m=>by
  obtain ⟨ob,z⟩:=hcs2 d m
  rw [e] at z
  exact ne ob (Option.some.inj z)
 have fin:∀{σ':St} {H':Hp} {v:V} {u:Value},Inv (cxN P w K mg base (ps++(ls++ys)) qual scope f (.ref c') cl A outer s (hide cs H1)) [] σ' H' s'->RelV v u->((∀c∈cs,H' c=none)->Q v (JM cs H1 H'))->CE outer P w H1 s Q u s':=fun {σ' H' v u} J rv q=>by
  have b:Un (frs outer) [] (hide cs H1) H' s.heap s'.heap:=J.base
  have Hn:∀c∈cs,H' c=none:=fun c m=>by
   obtain ⟨o,v,e,d,g⟩:=hcs1 c m
   exact b.free c o g (Wg m) (fun z=>nomatch z)
  refine ⟨v,JM cs H1 H',J.os,J.bare,⟨fun d o e n hb hx=>b.keep d o e (hh d n) hb hx,fun d o e n hb hx=>b.slot d o e (hh d n) hb hx,fun d o e n hx=>?_,b.there,fun d xs e=>?_,fun d o u e=>?_,fun d pz e=>?_⟩,gy J.hok Hn fun c m=>?_,rv,q Hn⟩
  ·by_cases m:d∈cs
   ·rw [JN m];exact n
   ·rw [YB m];exact b.free d o e (hh d n) hx
  ·have m:=nm d _ e (fun ob z=>nomatch z)
   rw [YB m];exact b.tups d xs (by rw [ZV m];exact e)
  ·by_cases m:d∈cs
   ·rw [JN m];exact e
   ·rw [YB m];exact b.frzs d o u (by rw [ZV m];exact e)
  ·have m:=nm d _ e (fun ob z=>nomatch z)
   rw [YB m];exact b.tbls d pz (by rw [ZV m];exact e)
  ·obtain ⟨o,v,e,d,g⟩:=hcs1 c m
   exact ⟨o,e,b.keep c o g (Wg m) (nfr c m) (fun z=>nomatch z)⟩
 cases fl with
 | ret u =>
  obtain ⟨v,σ',H',J,rv,q⟩:=hs
  exact fin J rv q
 | next =>
  obtain ⟨σ',H',J,q⟩:=hs
  exact fin (v:=V.non) (u:=Value.none) J rfl q
 | brk =>
  obtain ⟨_,_,_,q⟩:=hs
  exact False.elim q
 | cont =>
  obtain ⟨_,_,_,q⟩:=hs
  exact False.elim q
end
noncomputable def tDef(P:Addr)(lpos:Pos)(qual:Str)(obj:Addr->Value->Value->Obj)(i:Nat):TS:=fun D σ H=>J3 H P lpos qual /\
 ∀(f c':Addr) (oc:Obj) (ctv doc:Value) (H2:Hp),H f=none->H2 f=some (JA (obj c' ctv doc))->H2 c'=some (JA oc)->vd oc qual->J3 H2 P lpos qual->(∀b o,H b=some o->b≠P->H2 b=some o)->D.nx (σ.set i (some (.ref f))) H2
section
variable {X:Cx}{params:Arguments}{body:List Stmt}{scope:Scope}{lpos:Pos}{c P:Addr}{name qual:Str}
noncomputable abbrev ze (X:Cx) (name qual:Str) (params:Arguments) (body:List Stmt) (scope:Scope):Addr->Value->Value->Obj:=fun c' ctv doc=>PySem.W.fnMade name qual params body scope (x9 X.env.cells scope.names []) doc ((X.mg "__name__").getD .none) c' ctv
theorem qs_def{i:Nat}{S0:Scope}(hN:X.N.Nodup)(hi:X.N[i]?=some name)(hx:Loc X.env.scope name)(hcode:X.env.code=.ref c)(C:PySem.W.CodeHd X.base c P)(B:zD X.mg X.base)(hd0:params.defaults=[])(hk0:params.kw_defaults=[])(han:annTrees params none X.env=[])(hq:qualnameIn X.env name name=qual)
  (hX:X.env.scope=S0) (hfr0:∀y∈scope.names,y.2=.free->S0.names.lookup y.1=some .cell) (hf:X.fn name=true\/X.env.scope.names.lookup name=some .local:=by first | exact .inl rfl | exact .inr rfl | assumption) :
  QS X (.FunctionDef name params body [] none [] scope none name lpos) (tDef P lpos qual (ze X name qual params body scope) i):=by
 have hfree:∀y∈scope.names,y.2=.free->X.env.scope.names.lookup y.1=some .cell:=fun y hy h=>by rw [hX];exact hfr0 y hy h
 refine ⟨?_⟩
 intro pins s σ H D I hw
 obtain ⟨hT,hq2⟩:=hw
 refine PySem.W.nestDef_K hd0 hk0 han ?_
 rw [hq]
 have hcl:closureFor scope X.env=pure (x9 X.env.cells scope.names []):=Gp fun y hy h=>I.ok.has y.1 (.inl (hfree y hy h))
 have hg:s.heap.Ns mainGlobals X.mg:=I.mod.glob.keeps I.bk
 obtain ⟨pz,hPs⟩:=hT.ex
 have baseP:X.base.get? P=none:=by
  cases e:X.base.get? P with
  | none=>rfl
  | some o=>rw [(I.bs P o e).2] at hPs;cases hPs
 have hgP:mainGlobals≠P:=fun e=>by
  obtain ⟨o,es,ep,g,_⟩:=I.mod.glob
  rw [e,baseP] at g;cases g
 have hb:s.heap.BuiltinsAt X.mg P:=by
  obtain ⟨bm,ob,b1,b2,b3,b4,b5,b6⟩:=B.ex
  refine ⟨bm,ob,b1,b2,fun e=>?_,(fun e=>by rw [e,baseP] at b3;cases b3),I.bk _ _ b3,b4,b5,b6⟩
  obtain ⟨o,es,ep,g,hd,_⟩:=I.mod.glob
  rw [<-e,b3] at g;cases g
  rw [b6] at hd;cases hd
 rcases hT with hT | ⟨c',oc,hT,hc',hoc⟩
 ·have hP:s.heap.get? P=some (PySem.W.tabObj #[]):=I.hok P _ hT
  refine PySem.W.makeFunction_K (mg:=X.mg) (ps:=#[]) hcl I.ok.glob hg hcode (C.keeps I.bk) hP trivial rfl hgP hb fun c' ctv doc h' tk hx' hge hlt hrec htb=>?_
  obtain ⟨c₂,oc,vs,t,e2,hoc,hd,hv⟩:=hrec
  cases e2
  have cn:H c'=none:=I.hok.fresh hge
  have cP:c'≠P:=fun e=>by rw [e,hT] at cn;cases cn
  have hsz:s.heap.objs.size<=h'.objs.size:=Qba hge (Qaw hlt)
  have I2:=Zav (lpos:=lpos) (fo:=ze X name qual params body scope c' ctv doc) (tk:=tk) I hT hx' hge hlt hoc htb
  have fn:H h'.objs.size=none:=I.hok.fresh hsz
  have fc:c'≠h'.objs.size:=Qbv hlt
  have fP:P≠h'.objs.size:=Zs hT fn
  refine JB I2 hN hi hx (v:=.ref h'.objs.size) rfl (fun s' I3=>⟨_,_,I3,hq2 _ c' oc ctv doc _ fn Za ?_ ⟨vs,t,hd,hv⟩ (.inr ⟨c',oc,?_,?_,⟨vs,t,hd,hv⟩⟩) fun b o e hbP=>?_⟩) hf
  ·rw [Zo fc];exact Za
  ·rw [Zo fP,Zo cP.symm];exact Za
  ·rw [Zo fc];exact Za
  ·rw [Zo (Zs e fn),Zo (Zs e cn),Zo hbP];exact e
 ·have hP:s.heap.get? P=some (PySem.W.tabObj #[rawInt lpos.line,rawInt lpos.col,.ref c']):=I.hok P _ hT
  have hfd:codeAmong lpos (#[rawInt lpos.line,rawInt lpos.col,.ref c']:Array Value).toList=some (.ref c'):=by
   show (if ((lpos.line:Int) == lpos.line && (lpos.col:Int) == lpos.col)=true then some (Value.ref c') else _)=_
   rw [Qbs,Qbs]
   rfl
  refine PySem.W.makeFunction_hit (mg:=X.mg) hcl I.ok.glob hg hcode (C.keeps I.bk) hP trivial hfd hb fun ctv doc h' tk hk hsz=>?_
  have I2:=I.laid (h':=h'.push (ze X name qual params body scope c' ctv doc)) (t':=tk) (a:=h'.objs.size) (o:=JA (ze X name qual params body scope c' ctv doc)) (fun b u e=>Heap.get?_push_of_some _ (hk b u e)) hsz (qQ (Heap.get?_push_size _ rfl))
  have fn:H h'.objs.size=none:=I.hok.fresh hsz
  have sm:∀b o,H b=some o->upd H h'.objs.size (JA (ze X name qual params body scope c' ctv doc)) b=some o:=fun b o e=>by rw [Zo (Zs e fn)];exact e
  exact JB I2 hN hi hx (v:=.ref h'.objs.size) rfl (fun s' I3=>⟨_,_,I3,hq2 _ c' oc ctv doc _ fn Za (sm _ _ hc') hoc (.inr ⟨c',oc,sm _ _ hT,sm _ _ hc',hoc⟩) fun b o e _=>sm b o e⟩) hf
end
noncomputable def gJ(X:Cx)(s:Shared)(H:Hp):Hp:=fun b=>if b∈cellsOf X.env.cells then (s.heap.get? b).map JA else H b
section
variable {X:Cx}{pins:List (Addr × Obj)}{σ:St}{H:Hp}{s:Shared}
theorem y7(I:Inv X pins σ H s):∀d∈cellsOf X.env.cells,∃o v,gJ X s H d=some (JA o)/\o.data=.cell v/\s.heap.get? d=some o:=fun d m=>by
 obtain ⟨y,hy⟩:=XM.mp m
 obtain ⟨v,o,ho,hd⟩:=I.cell y d hy
 exact ⟨o,v,by unfold gJ;rw [Qau m,ho];rfl,hd,ho⟩
theorem JP{d:Addr}(m:d∉cellsOf X.env.cells):gJ X s H d=H d:=Qan m
theorem Gw(I:Inv X pins σ H s):∀d∈cellsOf X.env.cells,H d=none:=fun d m=>let ⟨y,hy⟩:=XM.mp m;I.freeC y d hy
theorem vn(I:Inv X pins σ H s):∀b o,H b=some o->gJ X s H b=some o:=fun b o e=>by
 rw [JP fun m=>by rw [Gw I b m] at e;cases e]
 exact e
theorem y8{k:Nat}{g:Addr}{gd:FuncData}{pg:List Str}{sp:Sp}{Q:VK}{vs:List V}{us:List Value}(F:ZO X.prog X.w X.K X.mg X.base CX0 k g gd pg sp)(hr:WL k X.A)(hb:Binds X.K gd pg [])(hfn:X.fn=fun _=>true)
  (I:Inv X pins σ H s) (rv:Vals vs us) (hsp:sp vs (gJ X s H) (fun v H3=>Q v (hide (cellsOf X.env.cells) H3)) E0):wpAny (model X.prog X.w) X.A (call (.ref g) us) (EP X pins σ Q) X.xe s:=by
 have hcs:=y7 I
 have hn:=Gw I
 have hsub:=vn I
 have nloc:∀d∈cellsOf X.env.cells,d≠X.env.locals:=fun d m e=>by
  obtain ⟨o,v,_,hd,g⟩:=hcs d m
  obtain ⟨m',⟨o',es,ep,g',hd',_⟩,_⟩:=I.loc
  rw [e,g'] at g
  cases g
  rw [hd'] at hd
  cases hd
 have above:∀d∈cellsOf X.env.cells,X.s₀.heap.objs.size<=d:=fun d m=>by
  obtain ⟨y,hy⟩:=XM.mp m
  exact I.ok.cab y d (by rw [hfn]) hy
 have nfr:∀d∈cellsOf X.env.cells,d∉frs X.stack:=fun d m z=>by
  rcases Qak.mp (I.stkSub d z) with e | e
  ·exact nloc d m e
  ·obtain ⟨_,o,g,_⟩:=I.ok.funs.mem e
   exact absurd (Heap.lt_size g) (Qe0.mpr (above d m))
 have hok3:HOk X.prog X.w (gJ X s H) s.heap:=fun b o e=>by
  by_cases m:b∈cellsOf X.env.cells
  ·obtain ⟨ob,v,e',hd,g⟩:=hcs b m
   rw [e'] at e;cases e
   exact qQ g
  ·rw [JP m] at e
   exact (I.hok b o e).stay (fun _ _ _ q=>q) (fun d q=>hsub _ _ q) fun d xs q=>hsub _ _ q
 have e0:Zaf X.prog X.w X.K X.mg X.base X.A X.stack s (gJ X s H):=by
  have z:=I.env0
  refine ⟨z.frames,z.mod,fun b o e=>⟨(z.bs b o e).1,?_⟩,z.bsz,z.funs,fun b hb=>?_,hok3,z.bare⟩
  ·rw [JP fun m=>absurd (Heap.lt_size e) (Qe0.mpr (Qba I.ok.bsz (above b m)))]
   exact (z.bs b o e).2
  ·rw [JP fun m=>nfr b m hb]
   exact z.frf b hb
 have hlu:(us++[]).length=pg.length:=by rw [Qbc,<-rv.length];exact F.len _ _ _ _ hsp
 refine wpAny_call (codeAny_mono (F.run X.A X.stack s (gJ X s H) ⟨us,[]⟩ us vs _ _ hr e0 (by simpa using hb s us I.kIn hlu) rv hsp) fun r s' hq=>?_)
 cases r with
 | error e=>exact hq.elim
 | ok fl =>
  cases fl with
  | next=>exact False.elim hq
  | brk=>exact False.elim hq
  | cont=>exact False.elim hq
  | ret uu =>
   obtain ⟨v,H4,os,bare,un,hok4,rv4,q4⟩:=hq
   have h4in:∀d∈cellsOf X.env.cells,∃o,H4 d=some (JA o)/\s.heap.get? d=some o/\s'.heap.get? d=some o:=fun d m=>by
    obtain ⟨o,v,e,hd,g⟩:=hcs d m
    have e4:=un.frzs d o _ e
    exact ⟨o,e4,g,(hok4 d _ e4).1⟩
   have h3none:∀d,H d=none->d∉cellsOf X.env.cells->gJ X s H d=none:=fun d n m=>by rw [JP m];exact n
   have nm:∀d o,H d=some o->d∉cellsOf X.env.cells:=fun d o e m=>by rw [hn d m] at e;cases e
   refine ⟨v,hide (cellsOf X.env.cells) H4,I.call' os ⟨fun d o e n hb hx=>?_,fun d o e n hb hx=>?_,fun d o e n hx=>?_,fun d o e hx=>un.there d o e hx,fun d xs e=>?_,fun d o u e=>?_,fun d pz e=>?_⟩ (gx hok4 fun d m=>let ⟨o,e,_⟩:=h4in d m;⟨o,e⟩) bare (fun _ z=>nomatch z),rv4,q4⟩
   ·by_cases m:d∈cellsOf X.env.cells
    ·obtain ⟨o',_,g,g'⟩:=h4in d m
     rw [e] at g;cases g
     exact g'
    ·exact un.keep d o e (h3none d n m) hb hx
   ·by_cases m:d∈cellsOf X.env.cells
    ·obtain ⟨o',_,g,g'⟩:=h4in d m
     rw [e] at g;cases g
     exact ⟨o.slots,g'⟩
    ·exact un.slot d o e (h3none d n m) hb hx
   ·by_cases m:d∈cellsOf X.env.cells
    ·exact Wg m
    ·rw [ZV m];exact un.free d o e (h3none d n m) hx
   ·rw [ZV (nm d _ e)];exact un.tups d xs (hsub _ _ e)
   ·rw [ZV (nm d _ e)];exact un.frzs d o u (hsub _ _ e)
   ·rw [ZV (nm d _ e)];exact un.tbls d pz (hsub _ _ e)
theorem gK{scope:Scope}{ys:List Str}{is:List Nat}{N0:List Str}(I:Inv X pins σ H s)(hfree:∀y∈scope.names,y.2=.free->X.env.scope.names.lookup y.1=some .cell)(hfr:∀y∈ys,scope.names.lookup y=some .free)(hN:∀q∈ys.zip is,X.N[q.2]?=some q.1)(hlen:ys.length=is.length) :
  ∀(i:Nat) (y:Str) (v:V),ys[i]?=some y->(is.map fun i=>(σ[i]?).getD none)[i]?=some (some v)->∃c o u,(x9 X.env.cells scope.names []).lookup y=some c/\gJ X s H c=some (JA o)/\o.data=.cell (some u)/\RelV v u:=by
 intro i y v h1 h2
 have hcl:∀y d,(x9 X.env.cells scope.names []).lookup y=some d->X.env.cells.lookup y=some d :=
  qt (fun y hy h=>I.ok.has y.1 (.inl (hfree y hy h))) fun _ _ z=>by cases z
 rw [Qao] at h2
 cases hj:is[i]? with
 | none=>rw [hj] at h2;cases h2
 | some j =>
  rw [hj] at h2
  have h2'':(σ[j]?).getD none=some v:=Option.some.inj h2
  have hσ:σ[j]?=some (some v):=by
   cases q:σ[j]? with
   | none=>rw [q] at h2'';cases h2''
   | some z=>rw [q] at h2'';exact congrArg some h2''
  have hz:(y,j)∈ys.zip is:=by
   obtain ⟨a1,e1⟩:=Qah.mp h1
   obtain ⟨a2,e2⟩:=Qah.mp hj
   rw [<-e1,<-e2,<-Qes (h:=by rw [Qeu];lia)]
   exact Qbz _
  have hf:=hfr y (Qam h1)
  have kc:X.env.kindOf y=some .cell:=hfree _ (yX hf) rfl
  obtain ⟨m,hm',hl⟩:=I.loc
  obtain ⟨u,r,l⟩:=hl j y v (hN _ hz) hσ (.inr (.inl kc))
  rcases l with ⟨l1,_⟩ | ⟨_,d,l2,l3⟩
  ·rw [kc] at l1;cases l1
  ·obtain ⟨d',hd'⟩:=JF (cells:=X.env.cells) (acc:=[]) hf
   have e:d'=d:=by have:=hcl y d' hd';rw [l2] at this;exact (Option.some.inj this).symm
   subst e
   obtain ⟨o,ho,hd⟩:=l3
   obtain ⟨o',v',e',_,g'⟩:=y7 I d' (XM.mpr ⟨y,l2⟩)
   rw [ho] at g';cases g'
   exact ⟨d',o,u,hd',e',hd,r⟩
end
noncomputable def tCallN(Pg:Program)(w:World)(K:PySem.W.Frag)(mg:Str->Option Value)(base:Heap)(k:Nat)(sp:Sp)(qual:Str)(obj:Addr->Value->Value->Obj)(ta:TA)(i n m:Nat)(is:List Nat)(ts:TS):TE:=fun σ H Q=>ta σ H fun vs H1 =>
 ∃(f c':Addr) (oc:Obj) (ctv doc:Value),σ[i]?=some (some (.ref f))/\H1 f=some (JA (obj c' ctv doc))/\H1 c'=some (JA oc)/\vd oc qual /\
 ∀(cs:List Addr) (H2:Hp),(∀c∈cs,H1 c=none)->(∀c∈cs,∃o,H2 c=some (JA o))->(∀b o,H1 b=some o->H2 b=some o) ->
  XT Pg w K mg base k f H2 (Zcz n m ts cs (is.map fun i=>(σ[i]?).getD none))->sp vs H2 (fun v H3=>Q v (hide cs H3)) E0
structure Zgq(S0 scope:Scope)(N0 ps ls ys:List Str)(is:List Nat):Prop where
 sc:Zer scope ps ls ys
 free:∀y∈scope.names,y.2=.free->S0.names.lookup y.1=some .cell
 vis:∀q∈ys.zip is,N0[q.2]?=some q.1
 len:ys.length=is.length
section
variable {X:Cx}{params:Arguments}{body:List Stmt}{scope:Scope}{p pos:Pos}{g:Addr}{name qual x:Str}{k kl:Nat}{gd:FuncData}{pg ps ls ys:List Str}{is:List Nat}{sp:Sp}{ts:TS}{e:Expr}{es:List Expr}{ta:TA}
theorem Za1{i:Nat}(F:ZO X.prog X.w X.K X.mg X.base CX0 k g gd pg sp)(hr:WL k X.A)(hg:Gl X x)(hm:X.mg x=some (.ref g))(hk:PySem.W.keepIn X.K (.ref g)=true)(hb:Binds X.K gd pg [])(hfn:X.fn=fun _=>true)
  (ha:QA X (e::es) ta) {S0:Scope} {N0:List Str} (hX:X.env.scope=S0) (hXN:X.N=N0) (LL:Zgq S0 scope N0 ps ls ys is)
  (hbind:∀(cl:List (Str × Addr)) (doc pm cv ctv:Value) (us:List Value),us.length=ps.length->bindArgs (PySem.W.fnX name qual params body scope cl .none .none doc pm none cv ctv) ⟨us,[]⟩=pure (ps.zip us))
  (hbody:∀(f c':Addr) (cl:List (Str × Addr)) (A:Around) (outer:List Env) (s:Shared) (H1:Hp),WL kl (A.deeper (PySem.W.envX qual scope s.heap.objs.size f (.ref c') (cellsFrom (s.heap.objs.size + 1) scope.names cl)))->QSs (cxN X.prog X.w X.K X.mg X.base (ps++(ls++ys)) qual scope f (.ref c') cl A outer s H1) body ts)
  (hdb:(x == ("__debug__" : Str))=false:=by decide) (hp:(e::es).all Yx=true:=by rfl) :
  QE X (.Call (.Name x p) (e::es) [] pos) (tCallN X.prog X.w X.K X.mg X.base (kl + 1) sp qual (ze X name qual params body scope) ta i ps.length ls.length is ts):=by
 rw [Qci,Qbk] at hp
 have S:=LL.sc
 have hfree:∀y∈scope.names,y.2=.free->X.env.scope.names.lookup y.1=some .cell:=fun y hy h=>by rw [hX];exact LL.free y hy h
 have hN:∀q∈ys.zip is,X.N[q.2]?=some q.1:=fun q hq=>by rw [hXN];exact LL.vis q hq
 refine ⟨?_⟩
 intro pins s σ H Q I hw
 refine wpAny_Call_Name_kw (yj I hg hm ?_ hdb)
 refine PySem.W.callWith_K (h₀:=X.base) I.ok.mod.kin hk (thn (ha.out pos pins s σ H _ I hw) fun us s1 ⟨vs,H1,I1,r,f,c',oc,ctv,doc,hσ,hf,hc',hoc,q⟩=>⟨I1.kIn,?_⟩) (Z0 hp.1) (Wk hp.2)
 have hcl:∀y d,(x9 X.env.cells scope.names []).lookup y=some d->X.env.cells.lookup y=some d :=
  qt (fun y hy h=>I1.ok.has y.1 (.inl (hfree y hy h))) fun _ _ z=>by cases z
 have hsub:=vn I1
 have hcs:=y7 I1
 refine y8 F hr hb hfn I1 r (q (cellsOf X.env.cells) (gJ X s1 H1) (Gw I1) (fun d m=>let ⟨o,_,e,_⟩:=hcs d m;⟨o,e⟩) hsub ?_)
 exact zF (ls:=ls) (ys:=ys) S (hsub _ _ hf) (hsub _ _ hc') hoc (fun y d h=>XM.mpr ⟨y,hcl y d h⟩) (fun d m=>let ⟨o,v,e,hd,_⟩:=hcs d m;⟨o,v,e,hd⟩) (fun y z d h1 h2=>I1.ok.inj y z d (hcl y d h1) (hcl z d h2)) (fun y h=>JF h) (by rw [Qab,LL.len])
  (gK (N0:=N0) I1 hfree S.free hN LL.len) (fun us hl=>hbind _ _ _ _ _ us hl) fun A outer s H1 hr=>(hbody f c' _ A outer s H1 hr).out
end
section
variable {X:Cx}
theorem QE.or{e:Expr}{t u:TE}(h:QE X e t)(g:QE X e u):QE X e (fun σ H Q=>t σ H Q\/u σ H Q):=⟨fun pins s σ H Q I z=>z.elim (h.out pins s σ H Q I) (g.out pins s σ H Q I)⟩
theorem QS.or{e:Stmt}{t u:TS}(h:QS X e t)(g:QS X e u):QS X e (fun D σ H=>t D σ H\/u D σ H):=⟨fun pins s σ H D I z=>z.elim (h.out pins s σ H D I) (g.out pins s σ H D I)⟩
noncomputable def Zes(tk tv:TE):TE:=fun σ H Q=>∀d,H d=none->tk σ (upd H d (.dK [])) fun x H1=>tv σ H1 fun v H2=>∃(Kk:Type) (_:DecidableEq Kk) (kn:KN Kk) (a:Addr) (k:Kk),x=.ref a/\H2 d=some (.dK [])/\kn.at_ H2 k a /\
 ∀H',yg kn H' d [(k,v)]->(∀b o,H2 b=some o->b≠d->H' b=some o)->(∃o,H'=upd H2 d o)->Q (.ref d) H'
theorem gL{pos:Pos}{k v:Expr}{tk tv:TE}(hu:X.A.units + 2 < cLine)(hk:QE X k tk)(hv:QE X v tv):QE X (.Dict [some k] [v] pos) (Zes tk tv):=by
 refine ⟨fun pins s σ H Q I q=>?_⟩
 have hn:=I.hok.fresh (Qaj s.heap.objs.size)
 have I1:=I.laid (a:=s.heap.objs.size) (o:=.dK []) (h':=s.heap.push { cls:=.type "dict",data:=.dict #[] }) (t':=s.toks) (fun _ _ q=>Heap.get?_push_of_some _ q) (Qaj _) (zA s.heap I.big)
 refine wpAny_Dict_any rfl rfl (fun z=>nomatch z) (by show 1<=15;decide) (thn (pp1 hk hv pins _ σ _ _ I1 (q _ hn)) fun ws s2 ⟨x,y,u,r,H2,ew,I2,rx,ry,Kk,_,kn,a,kk,ex,e,ka,q2⟩=>?_)
 subst ew ex
 cases (show u=Value.ref a from rx)
 have n:yg kn H2 s.heap.objs.size []:=⟨Qdm,(show 0 < sizeLine by decide),.inl ⟨rfl,e⟩⟩
 obtain ⟨xs,dd,pr,mu,hm⟩:=n.dict I2
 cases pr
 unfold storeAll
 rw [Qdd]
 refine wpAny_bind (wpAny_bind (wpAny_dictSet_heap (hsz:=Qbg _) (kn.room0 _ _ _ hu) (kn.ok _ _ _ _ _ _ I2.hok ka) dd fun h' dd' hs=>wpAny_pure ?_))
 show wpAny _ _ (forIn ([]:List (Value × Value)) PUnit.unit _) _ _ _
 rw [Qd3]
 rw [storedH_new rfl] at dd'
 obtain ⟨H',n',k',o',I'⟩:=vh I2 n ka ry (show 0 + 1 < sizeLine by decide) .nil mu hm rfl dd' hs
 exact wpAny_pure ⟨.ref s.heap.objs.size,H',I',rfl,q2 H' n' k' o'⟩
theorem PI.or{tg l:Expr}{t u:TI}(h:PI X tg l t)(g:PI X tg l u):PI X tg l (fun σ H R=>t σ H R\/u σ H R):=fun pins s σ H R I z=>z.elim (h pins s σ H R I) (g pins s σ H R I)
theorem QI.or{tg l:Expr}{t u:TI}(h:QI X tg l t)(g:QI X tg l u):QI X tg l (fun σ H R=>t σ H R\/u σ H R):=⟨PI.or h.out g.out⟩
end
section
variable {prog:Program}{w:World}{A:Around}{R:Result->Shared->Prop}{I:Addr}{fp wr:List Addr}{n:Nat}{P:Nat->Value->Prop}{St:Nat->Heap->Prop}{d:Value}
theorem Zet(W:Walks prog w A.in1 I fp wr n P St)(bt:Nat->Nat->Bool)(hcmp:CmpOf prog w A.in1 .Gt P bt)(S:Addr)(hSf:S∉fp) :
  ∀(k j:Nat) (s:Shared) (vb:Value) (c:Nat),n - (j + 1)=k->j + 1<=n->St (j + 1) s.heap->P (argBest bt j) vb ->
  s.heap.get? S=some { cls:=.type "list",dict:=none,data:=.seq #[vb,vb] c,slots:=#[] } ->
  (∀v h' tk,P (argBest bt (n - 1)) v->(∀b o,b∉wr->b≠S->s.heap.get? b=some o->h'.get? b=some o)->R (.ok (.ret v)) { s with heap:=h',toks:=tk }) ->
  codeAny (model prog w) A (.builtin "max.loop" ⟨[.ref I,.none,.ref S],[("default",d)]⟩) R s:=by
 have hSw:S∉wr:=fun h=>hSf (W.sub _ h)
 have hname:(toString "max" ++ toString ".loop" : String) = "max.loop" := by decide
 intro k
 induction k with
 | zero =>
  intro j s vb c hk hj hst hPb hS hR
  have hin:j + 1=n:=by lia
  refine codeAny_builtin Qd2 ?_
  rw [Around.under_plainId Qb8 _]
  show wpAny _ A.in1 (seqItems? (.ref S) >>= _) _ _ s
  refine wpAny_bind (wpAny_seqItems hS rfl ?_)
  show wpAny _ A.in1 (tryCatch (pyNext (.ref I)) _ >>= _) _ _ s
  refine wpAny_bind (wpAny_tryCatch (W.done s _ _ (hin ▸ hst) fun h' tk hk'=>?_))
  have hS':=hk' S _ hSw hS
  show wpAny _ A.in1 (updateSeq S (fun _=>#[]) >>= _) _ _ _
  refine wpAny_bind ?_
  refine wpAny_updateSeq hS' rfl (wpAny_bind (wpAny_letGo (wpAny_pure ?_)))
  refine hR vb _ tk (by rw [<-hin];exact hPb) fun b o hbw hbS e=>(Heap.get?_update_other _ _ (Qc2 hbS)).trans (hk' b o hbw e)
 | succ k ih =>
  intro j s vb c hk hj hst hPb hS hR
  have hlt:j + 1 < n:=by lia
  refine codeAny_builtin Qd2 ?_
  rw [Around.under_plainId Qb8 _]
  show wpAny _ A.in1 (seqItems? (.ref S) >>= _) _ _ s
  refine wpAny_bind (wpAny_seqItems hS rfl ?_)
  show wpAny _ A.in1 (tryCatch (pyNext (.ref I)) _ >>= _) _ _ s
  refine wpAny_bind (wpAny_tryCatch (W.item (j + 1) s _ _ hlt hst fun v h' tk hP hst' hk'=>?_))
  have hS':=hk' S _ hSw hS
  show wpAny _ A.in1 (tryCatch (holding [v,v] (richCompare .Gt v vb >>= _)) _ >>= _) _ _ _
  refine wpAny_bind (wpAny_tryCatch (wpAny_holding (wpAny_bind (hcmp (j + 1) (argBest bt j) v vb _ _ _ hP hPb ?_))))
  refine wpAny_bind (wpAny_holding (wpAny_truthy_bool ?_))
  refine wpAny_bind (wpAny_letGo (wpAny_pure ?_))
  cases hb:bt (j + 1) (argBest bt j) with
  | true =>
   simp only [Qd6]
   refine wpAny_bind ?_
   refine wpAny_updateSeq hS' rfl (wpAny_bind (wpAny_letGo ?_))
   rw [hname]
   refine wpAny_pure ⟨plainId_quiet Qb8 _,ih (j + 1) _ v _ (by lia) hlt (W.frame _ _ _ hst' fun b hbf o e=>?_) (by simp only [argBest,hb,Qd6];exact hP) (Heap.get?_update_self _ hS' rfl)
    fun v' h'' tk'' hP' hk''=>?_⟩
   ·exact (Heap.get?_update_other _ _ (fun h:S=b=>hSf (by rw [h];exact hbf))).trans e
   ·exact hR v' h'' tk'' hP' fun b o hbw hbS e=>hk'' b o hbw hbS ((Heap.get?_update_other _ _ (Qc2 hbS)).trans (hk' b o hbw e))
  | false =>
   simp only [Qb7,Qc8]
   refine wpAny_bind (wpAny_letGo ?_)
   rw [hname]
   refine wpAny_pure ⟨plainId_quiet Qb8 _,ih (j + 1) _ vb c (by lia) hlt hst' (by simp only [argBest,hb,Qb7,Qc8];exact hPb) hS' fun v' h'' tk'' hP' hk''=>?_⟩
   exact hR v' h'' tk'' hP' fun b o hbw hbS e=>hk'' b o hbw hbS (hk' b o hbw e)
theorem Za2(W:Walks prog w A.in1 I fp wr n P St)(bt:Nat->Nat->Bool)(hcmp:CmpOf prog w A.in1 .Gt P bt)(S:Addr)(hSf:S∉fp){s:Shared}{c:Nat}(hst:St 0 s.heap)
  (hS:s.heap.get? S=some { cls:=.type "list",dict:=none,data:=.seq #[] c,slots:=#[] })
  (h0:n=0->∀h' tk,(∀b o,b∉wr->b≠S->s.heap.get? b=some o->h'.get? b=some o)->R (.ok (.ret d)) { s with heap:=h',toks:=tk })
  (hR:0 < n->∀v h' tk,P (argBest bt (n - 1)) v->(∀b o,b∉wr->b≠S->s.heap.get? b=some o->h'.get? b=some o)->R (.ok (.ret v)) { s with heap:=h',toks:=tk }) :
  codeAny (model prog w) A (.builtin "max.loop" ⟨[.ref I,.none,.ref S],[("default",d)]⟩) R s:=by
 have hSw:S∉wr:=fun h=>hSf (W.sub _ h)
 have hname:(toString "max" ++ toString ".loop" : String) = "max.loop" := by decide
 refine codeAny_builtin Qd2 ?_
 rw [Around.under_plainId Qb8 _]
 show wpAny _ A.in1 (seqItems? (.ref S) >>= _) _ _ s
 refine wpAny_bind (wpAny_seqItems hS rfl ?_)
 show wpAny _ A.in1 (tryCatch (pyNext (.ref I)) _ >>= _) _ _ s
 by_cases hn:0 < n
 ·refine wpAny_bind (wpAny_tryCatch (W.item 0 s _ _ hn hst fun v h' tk hP hst' hk'=>?_))
  have hS':=hk' S _ hSw hS
  show wpAny _ A.in1 (updateSeq S (fun _=>#[v,v]) >>= _) _ _ _
  refine wpAny_bind ?_
  refine wpAny_updateSeq hS' rfl ?_
  rw [hname]
  refine wpAny_pure ⟨plainId_quiet Qb8 _,Zet W bt hcmp S hSf _ 0 _ v _ rfl hn (W.frame _ _ _ hst' fun b hbf o e=>?_) hP (Heap.get?_update_self _ hS' rfl) fun v' h'' tk'' hP' hk''=>?_⟩
  ·exact (Heap.get?_update_other _ _ (fun h:S=b=>hSf (by rw [h];exact hbf))).trans e
  ·exact hR hn v' h'' tk'' hP' fun b o hbw hbS e=>hk'' b o hbw hbS ((Heap.get?_update_other _ _ (Qc2 hbS)).trans (hk' b o hbw e))
 ·have hn0:n=0:=by lia
  refine wpAny_bind (wpAny_tryCatch (W.done s _ _ (by rw [hn0];exact hst) fun h' tk hk'=>?_))
  refine wpAny_bind (wpAny_rule (wpAny_pure ?_))
  exact h0 hn0 h' tk fun b o hbw _ e=>hk' b o hbw e
end
theorem Za3 (a v:Value):argsOk "max" ⟨[a],[(Str.ofString "default",v)]⟩:=by unfold argsOk;kernel_rfl
section
variable {prog:Program}{w:World}{A:Around}{E:Value->Shared->Prop}{s:Shared}{l:Addr}{xs:Array (Int × Tok)}{d:Value}
theorem gM{Q:Value->Shared->Prop}(hh:A.handled=none)(hl:s.heap.IsList l (intItems xs))(h0:xs.size=0->∀h' tk,(∀b o,s.heap.get? b=some o->h'.get? b=some o)->Q d { s with heap:=h',toks:=tk })
  (h:0 < xs.size->∀v h' tk,(intItems xs)[argBest (fun i j=>decide (numAt xs i > numAt xs j)) (xs.size - 1)]?=some v->(∀b o,s.heap.get? b=some o->h'.get? b=some o)->Q v { s with heap:=h',toks:=tk }) :
  wpAny (model prog w) A (call (.builtin "max") [.ref l] [(Str.ofString "default",d)]) Q E s:=by
 have hname:(toString "max" ++ toString ".loop" : String) = "max.loop" := by decide
 refine PyProof.Rows.kmk_tree PySem.F.kind_max PySem.F.plain_max PySem.F.entry_max (Za3 _ _) ?_
 show wpAny _ A.in1 (Builtin.Builtins.bindParams "max" ["key","default"] 0 ⟨[],[(Str.ofString "default",d)]⟩ >>= _) _ _ s
 refine wpAny_bind (wpAny_of_eq (show Builtin.Builtins.bindParams "max" ["key","default"] 0 ⟨[],[(Str.ofString "default",d)]⟩=pure [none,some d] from rfl) ?_)
 refine wpAny_bind (wpAny_pure ?_)
 refine wpAny_bind (iter_intList hl fun s₂ e st hfp hlI=>?_)
 subst e
 refine wpAny_bind (wpAny_newObj_type ?_)
 rw [hname]
 have W:=Walks.list (prog:=prog) (w:=w) (A:=A.in1) hh _ l hlI (intItems xs)
 have hsz:(intItems xs).size=xs.size:=by simp [intItems]
 refine wpAny_pure ⟨plainId_quiet Qb8 _,Za2 W _ (CmpOf.ints_gt (numAt xs) (fun _ _=>intItems_at)) _ (fun hm=>Qb3 _ (hfp _ hm)) (W.frame _ _ _ st fun b _ o e=>Heap.get?_push_of_some _ e) (Heap.get?_push_size _ rfl) (fun hn h' tk hk=>?_) fun hn v h' tk hP hk=>?_⟩
 ·exact h0 (by rw [<-hsz];exact hn) h' tk (old_kept fun b o hb e=>hk b o hb (Qbv (Heap.lt_size e)) (Heap.get?_push_of_some _ e))
 ·exact h (by rw [<-hsz];exact hn) v h' tk (by simpa [intItems] using hP) (old_kept fun b o hb e=>hk b o hb (Qbv (Heap.lt_size e)) (Heap.get?_push_of_some _ e))
end
section
variable {X:Cx}
noncomputable def tMaxD(K:PySem.W.Frag)(ta td:TE):TE:=fun σ H Q=>ta σ H fun x H1=>td σ H1 fun y H2=>∃(p:Addr) (ns:List Int),x=.ref p/\SqL K H2 p (ns.map V.int)/\(ns=[]->Q y H2)/\∀m∈ns,(∀n∈ns,n<=m)->Q (.int m) H2
theorem Zeu {a dv:Expr} {ta td:TE} {p pos kp:Pos} (hc:X.calm=true) (hg:Gl X "max") (hm:X.mg "max" = none) (ha:QE X a ta) (hd:QE X dv td) (hp:Yx a=true:=by rfl) :
  QE X (.Call (.Name "max" p) [a] [⟨some "default",dv,kp⟩] pos) (tMaxD X.K ta td):=by
 refine ⟨fun pins s σ H Q I hw=>?_⟩
 refine wpAny_Call_Name_kw (GC I hg hm bt_max ?_ (by decide))
 have hs:=Z0 (rest:=[]) (env:=X.env) hp
 refine callWith_kw ?_ (by rw [hs];rfl) (by rw [hs];rfl)
 rw [hs]
 show wpAny _ _ (spliced ((false,eval a X.env)::backTo pos (starEach [] X.env))) _ _ s
 refine Calls.spliced_cons (thn (ha.out pins s σ H _ I hw) fun u s1 ⟨x,H1,I1,r1,q1⟩=>?_)
 refine Calls.spliced_nil (kws_cons (thn (hd.out pins s1 σ H1 _ I1 q1) fun u2 s2 ⟨y,H2,I2,r2,p,ns,ex,hq,hz,q⟩=>kws_nil ?_))
 subst ex
 cases r1
 obtain ⟨its,r',pl,hz'⟩:=I2.list hq
 have hi:IntsAre its ns:=intsAre_of r'
 obtain ⟨xs,hx⟩:=hi.allInts.items
 have hl':s2.heap.IsList p (intItems xs):=hx ▸ pl.isList
 have e1:ns=xs.toList.map (·.1):=by
  rw [<-nums_intItems,<-hx]
  exact (show numsOf its.toArray.toList=ns from hi.numsOf).symm
 refine gM (I2.ok.hd hc) hl' (fun h0 h' tk hk=>⟨y,H2,I2.kept hk,r2,hz ?_⟩) fun hsz v h' tk hv hk=>?_
 ·rw [e1,show xs.toList=[] from Qda (by rw [Qcc];exact h0)]
  rfl
 have hb:=argBest_gt (numAt xs) (xs.size - 1)
 generalize argBest (fun i j=>decide (numAt xs i > numAt xs j)) (xs.size - 1)=b at hv hb
 have hbl:b < xs.size:=by lia
 have at_:∀j (hj:j < xs.size),numAt xs j=xs[j].1/\(intItems xs)[j]?=some (.int xs[j].1 xs[j].2):=by
  intro j hj
  exact ⟨by simp [numAt,hj],by simp [intItems,hj]⟩
 obtain ⟨n1,n2⟩:=at_ b hbl
 rw [n2] at hv
 cases hv
 refine ⟨.int xs[b].1,H2,I2.kept hk,⟨_,rfl⟩,q _ ?_ fun n hn=>?_⟩
 ·rw [e1]
  exact Qa5.mpr ⟨xs[b],by simp,rfl⟩
 ·rw [e1] at hn
  obtain ⟨y,hy,rfl⟩:=Qa5.mp hn
  obtain ⟨j,hj⟩:=List.getElem?_of_mem hy
  have hj2:j < xs.size:=by
   have:=(Qah.mp hj).1
   rwa [Qcc] at this
  have:=hb.2 j (by lia)
  rw [(at_ j hj2).1,n1] at this
  have ej:xs[j]=y:=by
   have:=(Qah.mp hj).2
   simpa using this
  rw [ej] at this
  exact this
noncomputable def Zgr:V->List V->Hp->VK->Prop:=fun x xs H Q=>∃i:Int,x=.int i/\xs=[]/\Q (.int ((Builtin.Int.intBits i:Nat):Int)) H
theorem Zev:MtR X "int.bit_length" Zgr:=by
 intro pins s σ H x xs v us Q I rx r h
 obtain ⟨i,rfl,rfl,q⟩:=h
 obtain ⟨t,rfl⟩:=rx
 cases r
 exact call_int_bit_length ⟨.int _,H,I.tok _,⟨_,rfl⟩,q⟩
end
theorem kf {X:Cx} {p pos:Pos} {t:TA} {tg a b:Expr} (hg:Gl X "range") (hm:X.mg "range" = none) (ha:QA X [a,b] t) (hp:Yx a=true:=by rfl) (hp2:Yx b=true:=by rfl):QI X tg (.Call (.Name "range" p) [a,b] [] pos) (Zf9 t) :=
 ⟨wt hg hm ha.out (by rw [Z0 hp,Z0 hp2];rfl) (by rw [Z0 hp2];rfl)⟩
end L2
namespace Lw
open PySem L2
noncomputable def top(i:Nat):Stmt:=PySem.Challenge.pw_everywidth_k16_claim_machine.main.body.getD i (.Pass ⟨0,0,0,0⟩)
noncomputable abbrev X8:Stmt:=top 1
noncomputable abbrev Xp:Stmt:=top 2
noncomputable abbrev YC:Stmt:=top 7
noncomputable abbrev Yn:Stmt:=top 8
noncomputable abbrev Xq:Stmt:=top 14
noncomputable abbrev X9:Stmt:=top 18
noncomputable abbrev YD:Stmt:=top 20
noncomputable abbrev Yz:Stmt:=top 23
noncomputable abbrev ZR:Stmt:=top 27
noncomputable abbrev XN:Stmt:=top 28
noncomputable abbrev Xr:Stmt:=top 30
noncomputable abbrev YE:Stmt:=top 31
noncomputable abbrev YF:Stmt:=top 32
noncomputable abbrev XA:Stmt:=top 34
noncomputable abbrev XB:Stmt:=top 35
noncomputable abbrev Yv:Stmt:=top 36
noncomputable abbrev Wm:Stmt:=top 39
noncomputable abbrev Wn:Stmt:=top 40
noncomputable abbrev YX:Stmt:=top 41
noncomputable abbrev Yo:Stmt:=top 43
noncomputable abbrev YG:Stmt:=top 45
noncomputable abbrev Xs:Stmt:=top 46
noncomputable abbrev YY:Stmt:=top 47
noncomputable abbrev YZ:Stmt:=top 48
noncomputable abbrev Wo:Stmt:=top 50
noncomputable abbrev XC:Stmt:=top 9
noncomputable abbrev Yi:Stmt:=top 15
noncomputable abbrev Xt:Stmt:=top 17
noncomputable abbrev YH:Stmt:=top 19
noncomputable abbrev Y7:Stmt:=top 33
noncomputable abbrev Wq:Stmt:=top 37
noncomputable abbrev Y0:Stmt:=top 42
noncomputable abbrev Yd:Stmt:=top 49
noncomputable abbrev Yw:Stmt:=top 11
noncomputable abbrev Xu:Stmt:=top 38
noncomputable abbrev Xv:Stmt:=top 44
noncomputable abbrev Wr:Stmt:=top 16
noncomputable abbrev Xw:Stmt:=top 51
noncomputable abbrev ZZ:Stmt:=top 22
noncomputable abbrev Z7:Stmt:=top 26
noncomputable abbrev Yp:Stmt:=top 25
noncomputable abbrev xA:Stmt:=top 52
noncomputable def ZJ:Pos:=⟨117,4,121,77⟩
noncomputable def ZA:Str:=(("machine_telling" : Str) ++ ".<locals>.") ++ "step_of"
noncomputable abbrev Xf:Stmt:=(Zw Z7).getD 3 (.Pass ⟨0,0,0,0⟩)
theorem Zc{H:Hp}{p:Addr}{o:HO}(h:H p=none):ZG H (upd H p o):=fun b u e=>by rw [Zo (Zs e h)];exact e
theorem JQ(w:Nat):(0:Int) < 2 ^ w:=by
 have h2:((2:Int) ^ w)=(((2:Nat) ^ w:Nat):Int):=by rw [Qdw];rfl
 have:=Nat.two_pow_pos w
 rw [h2]
 lia
theorem pow_succ'(w:Nat):(2:Int) ^ (w + 1)=2 ^ w * 2:=Qbw 2 w
noncomputable def xB(w:Nat)(r:Int):List Int:=(List.range w).map fun i=>r / 2 ^ i % 2
theorem Gx{t u:TS}{D:Ends}{r:VK}{b c:St->Hp->Prop}{σ:St}{H:Hp}(J:St->Hp->Prop)(h1:∀N:St->Hp->Prop,(∀σ H,J σ H->N σ H)->t { D with nx:=N } σ H)(h2:∀σ H,J σ H->u D σ H):({ nx:=YV t u D,rt:=r,bk:=b,ct:=c }:Ends).nx σ H:=h1 _ h2
theorem Zl{i:Nat}{v:V}{σ:St}{H:Hp}{Q:St->Hp->Prop}(h:Q (σ.set i (some v)) H):zw i v σ H Q:=h
theorem vo{α:Type}{P:α->Prop}{l:List α}{y:α}(h:∀x∈l,P x)(hy:P y):∀x∈l++[y],P x:=by
 intro x hx
 rcases Qa6.mp hx with z | z
 ·exact h x z
 ·rw [Qav.mp z]
  exact hy
theorem ZI{H H2:Hp}{p:Addr}{o:HO}(s:ZG H H2)(hp:H p=none):ZG H (upd H2 p o):=fun b u e=>by
 rw [Zo (Zs e hp)]
 exact s b u e
theorem Z3{ns:List Int}{z:Int}(j:Nat)(hz:z=(j:Int))(hj:j < ns.length):atI (ns.map V.int) z=some (.int (ns.getD j 0)):=by
 subst hz
 refine Yl ?_
 rw [Qao,Qaa hj,Qal,Qaa hj]
 rfl
theorem Zew{ns:List Int}{m:Int}(h:∀x∈ns,0<=x/\x < m)(j:Nat)(hj:j < ns.length):0<=ns.getD j 0/\ns.getD j 0 < m:=by
 rw [Qal,Qaa hj]
 exact h _ (Qbz hj)
theorem y9{z:Str}{i:Int}(n:Nat)(hn:z.cps.toList.length=n)(h0:0<=i)(h1:i < (n:Int)):∃c,c∈z.cps.toList/\atI z.cps.toList i=some c:=by
 obtain ⟨j,rfl⟩:∃j:Nat,i=(j:Int):=⟨i.toNat,by lia⟩
 have hj:j < z.cps.toList.length:=by lia
 exact ⟨z.cps.toList[j],Qbz hj,Yl (Qaa hj)⟩
theorem Je{ys:List Str}{i:Int}(h0:0<=i)(h1:i < (ys.length:Int)):∃y,y∈ys/\atI (ys.map V.str) i=some (.str y):=by
 obtain ⟨j,rfl⟩:∃j:Nat,i=(j:Int):=⟨i.toNat,by lia⟩
 have hj:j < ys.length:=by lia
 refine ⟨ys[j],Qbz hj,Yl ?_⟩
 rw [Qao,Qaa hj]
 rfl
theorem yA{P:Str->Prop}:∀{vs:List V},(∀v∈vs,∃y,v=.str y/\P y)->∃ys:List Str,vs=ys.map V.str/\∀y∈ys,P y
 | [],_=>⟨[],rfl,fun _ h=>nomatch h⟩
 | v::r,h=>by
  obtain ⟨y,rfl,hy⟩:=h v Qaf
  obtain ⟨ys,rfl,hys⟩:=yA (vs:=r) fun v hv=>h v (Qag _ hv)
  refine ⟨y::ys,rfl,fun z hz=>?_⟩
  rcases Qak.mp hz with rfl | hz
  ·exact hy
  ·exact hys z hz
noncomputable def kQ{α:Type}(xs:List α)(lo hi:Option Int):List α:=(xs.drop (HT.sIx xs.length 0 lo)).take (HT.sIx xs.length xs.length hi - HT.sIx xs.length 0 lo)
theorem X6{α:Type}(f:α->V)(xs:List α)(lo hi:Option Int):J1 (xs.map f) lo hi=(kQ xs lo hi).map f:=by
 unfold J1 kQ
 rw [Qab,Qdj,Qc9]
theorem WO{α:Type}(xs:List α)(k:Nat):(kQ xs none (some (k:Int)))=xs.take k:=by
 unfold kQ
 rw [HT.sIx_none,HT.sIx_nat,Qcw,Qd4,<-List.take_take,Qbr]
theorem JR{α:Type}(xs:List α)(k:Nat):(kQ xs (some (k:Int)) none)=xs.drop k:=by
 unfold kQ
 rw [HT.sIx_none,HT.sIx_nat,Qb9 (by rw [Qbd];lia)]
 by_cases h:k<=xs.length
 ·rw [Qdg h]
 ·rw [Nat.min_eq_right (by lia),Qd7,List.drop_eq_nil_of_le (by lia)]
theorem j8{α:Type}(xs:List α)(j k:Nat)(h:j<=xs.length):(kQ xs (some (j:Int)) (some (k:Int)))=(xs.drop j).take (k - j):=by
 unfold kQ
 rw [HT.sIx_nat,HT.sIx_nat,Qdg h]
 by_cases hk:k<=xs.length
 ·rw [Qdg hk]
 ·rw [Nat.min_eq_right (by lia),Qb9 (by rw [Qbd];lia),Qb9 (by rw [Qbd];lia)]
theorem j9{K:PySem.W.Frag}{H:Hp}{p:Addr}{xs:List V}{lo hi:Option Int}{Q:VK}(h:H p=some (.tup xs))(k:∀q H',H' q=some (.tup (J1 xs lo hi))->ZG H H'->Q (.ref q) H') :
  rSlT K (.ref p) lo hi H Q\/rSlW K (.ref p) lo hi H Q:=by
 by_cases w:HT.sIx xs.length 0 lo=0/\HT.sIx xs.length xs.length hi=xs.length
 ·refine .inr ⟨p,xs,rfl,SqT.of h,w,k p H ?_ (ZG.refl H)⟩
  rw [h]
  unfold J1
  rw [w.1,w.2,Qcw,Qd4,Qbr]
 ·exact .inl ⟨p,xs,rfl,SqT.of h,w,fun q hq=>k q _ Za (Zc hq)⟩
theorem jA{lo:Int}{n:Nat}{is:List Nat}{te:TE}{σ:St}{H:Hp}{Q:VK}(P:Nat->V->Prop)(hz:n<=sizeLine)
  (he:∀i,i < n->∀R:VK,(∀v,P i v->R v H)->te (qu is σ (some (.int (lo + i)))) H R)
  (hd:∀vs:List V,vs.length=n->(∀i v,vs[i]?=some v->P i v)->∀l,H l=none->Q (.ref l) (upd H l (.lst vs))):z7 is Zfz te σ Q (Itr lo n) H:=by
 refine xW (fun i zs H'=>i<=n/\zs.length=i/\(∀j v,zs[j]?=some v->P j v)/\H'=H) ⟨Qbg _,rfl,fun j v h=>by simp at h,rfl⟩ ?_ ?_ ?_
 ·rintro i zs H' ⟨hi,hl,_,_⟩
  lia
 ·rintro i zs H' R hR hi ⟨_,hl,hp,rfl⟩
  unfold Zfz
  try dsimp only
  rw [Qau rfl]
  refine he i hi _ fun v hv=>hR _ _ ⟨hi,by rw [Qac,hl];rfl,fun j u hu=>?_,rfl⟩
  by_cases hj:j < zs.length
  ·rw [Qa2 hj] at hu
   exact hp j u hu
  ·rw [Qa0 (by lia)] at hu
   have e:j=i:=by
    have:=(Qah.mp hu).1
    simp at this
    lia
   subst e
   rw [hl,Qdr] at hu
   cases hu
   exact hv
 ·rintro zs H' ⟨_,hl,hp,rfl⟩ l hl2
  exact hd zs hl hp l hl2
theorem mem_at{vs:List V}{P:V->Prop}(h:∀(i:Nat) (v:V),vs[i]?=some v->P v):∀v∈vs,P v:=by
 intro v hv
 obtain ⟨i,hi,rfl⟩:=List.getElem_of_mem hv
 exact h i _ (Qaa hi)
noncomputable def fI(g:Int->V):V->V
 | .int x=>g x
 | v=>v
theorem map_fI(g:Int->V)(ns:List Int):(ns.map V.int).map (fI g)=ns.map g:=by
 rw [Qbn]
 rfl
theorem Xg(a b:Str):(a++b).cps.toList=a.cps.toList++b.cps.toList:=by
 rw [PySem.Str.cps_append,Array.toList_append]
theorem len_signs(a:Str):a.length=a.cps.toList.length:=by
 unfold Str.length
 rw [Qcc]
theorem Za4{x:Str}{j:Nat}(h:j<=x.length):(Txt.slice x none (some (j:Int))).cps.toList=x.cps.toList.take j:=by
 have e:=beq_iff_eq.mp (PyProof.Rows.slice_closes_to (x:=x) (j:=(j:Int)) ⟨by lia,by rw [<-len_signs];lia⟩)
 rw [e]
 simp
theorem kg{x:Str}{i:Nat}(h:i<=x.length):(Txt.slice x (some (i:Int)) none).cps.toList=x.cps.toList.drop i:=by
 rw [PyProof.Rows.slice_from_eq (b:=(x.length:Int)) (by lia) (by lia) rfl]
 simp only [Qat]
 rw [Qb9 (by rw [Qbd,<-len_signs];lia)]
theorem kh(sep:Str)(hs:sep.cps=#[]):∀ys:List Str,(Txt.join sep ys).cps.toList=(ys.map (·.cps.toList)).flatten:=by
 intro ys
 show (Builtin.Str.glued sep ys).cps.toList=_
 rw [StrLaws.glued_eq_join]
 induction ys with
 | nil=>rfl
 | cons x r ih =>
  cases r with
  | nil =>
   show x.cps.toList=_
   simp
  | cons y r =>
   show (x++sep++Str.join sep (y::r)).cps.toList=_
   rw [Xg,Xg,ih,hs]
   simp
theorem gN{ys:List Str}{P:Nat->Prop}(h:∀y∈ys,∃c,y=⟨#[c]⟩/\P c):(ys.map (·.cps.toList)).flatten.length=ys.length/\(∀c∈(ys.map (·.cps.toList)).flatten,P c)/\(ys.map (·.length)).sum=ys.length:=by
 induction ys with
 | nil=>exact ⟨rfl,fun c h=>absurd h (Qa3),rfl⟩
 | cons y r ih =>
  obtain ⟨c,rfl,hc⟩:=h _ Qaf
  obtain ⟨h1,h2,h3⟩:=ih fun z hz=>h z (Qag _ hz)
  refine ⟨?_,?_,?_⟩
  ·rw [Qa1,Qbj,Qac,h1]
   show 1 + r.length=r.length + 1
   lia
  ·intro d hd
   rw [Qa1,Qbj] at hd
   rcases Qa6.mp hd with z | z
   ·have:d=c:=by simpa using z
    rw [this]
    exact hc
   ·exact h2 d z
  ·rw [Qa1,List.sum_cons,h3]
   show 1 + r.length=r.length + 1
   lia
noncomputable def YL:List Str:=["not","neg","twice","low","and","or","odd","add","sub","pick","same","under","beneath","sign","nought","both","either","so","never","yes"]
theorem Z2(y:Str):∀ys:List Str,inV (.str y) (ys.map V.str)=decide (y∈ys)
 | []=>rfl
 | z::r=>by
  have e:inV (.str y) ((z::r).map V.str)=((z == y) || inV (.str y) (r.map V.str)):=rfl
  rw [e,Z2 y r]
  by_cases h:z=y
  ·rw [h,Qbs,Bool.true_or]
   exact (Qae Qaf).symm
  ·rw [Qb1.mpr h,Bool.false_or]
   by_cases m:y∈r
   ·rw [Qae m,Qae (Qag _ m)]
   ·rw [Qad m,Qad (fun z=>(Qak.mp z).elim (fun q=>h q.symm) m)]
theorem gO(ys:List Str):(ys.map V.str).all Xc=true:=by
 rw [List.all_map]
 exact Qck.mpr fun _ _=>rfl
theorem zG{c:TT}{tb:TS}{D:Ends}{σ:St}{H:Hp}(Pv:St->Hp->Prop)(μ:St->Hp->Nat)(h0:Pv σ H)
  (hs:∀σ H,Pv σ H->c σ H fun b H1=>if b=true then ∃N:St->Hp->Prop,(∀σ' H',N σ' H'->∃m',m' < μ σ H/\m'=μ σ' H'/\Pv σ' H')/\tb { D with nx:=N,ct:=N,bk:=D.nx } σ H1 else D.nx σ H1):we c tb D σ H:=by
 refine ⟨fun m σ H=>m=μ σ H/\Pv σ H,⟨_,rfl,h0⟩,?_⟩
 rintro m σ H ⟨rfl,p⟩
 exact hs σ H p
noncomputable def jB(ys:List Str)(v:V):Prop:=(∃y∈ys,v=.str y)\/∃z:Int,v=.int z/\0<=z/\z < 1000
noncomputable def sumT:List (Str × Nat):=[("not",1),("neg",1),("twice",1),("low",1),("and",2),("or",2),("odd",2),("add",2),("sub",2),("pick",3)]
noncomputable def Gy:List Str:=sumT.map (·.1)
noncomputable def Yq(y:Str):Nat:=((sumT.find? fun p=>decide (p.1=y)).map (·.2)).getD 0
noncomputable def Zc0:V->Nat
 | .str y=>Yq y
 | _=>0
noncomputable def gP(ys:List Str)(v:V):Prop:=(∃y,v=.str y/\y∈Gy)\/jB ys v
noncomputable def T1:List (Str × Int):=[("not",1),("neg",1),("twice",1),("low",1),("and",2),("or",2),("odd",2),("add",2),("sub",2),("pick",3)]
noncomputable def T2:List (Str × Int):=[("same",2),("under",2),("beneath",2),("sign",1),("nought",1)]
noncomputable def T3:List (Str × Int):=[("both",2),("either",2),("so",2),("never",1),("yes",0)]
noncomputable def Z4:List Str:=["same","under","beneath","sign","nought","both","either","so","never","yes"]
noncomputable def J4:List (Str × Int)->Key->Int
 | [],_=>0
 | p::r,k=>if (Sum.inr p.1:Key)=k then p.2 else J4 r k
theorem kget(l:List (Str × Int))(k:Key):(YW (kvsOf l) k).getD (.int 0)=.int (J4 l k):=by
 induction l with
 | nil=>rfl
 | cons p r ih =>
  unfold J4
  by_cases h:(Sum.inr p.1:Key)=k
  ·have e:YW (kvsOf (p::r)) k=some (.int p.2):=Y4 (p:=((Sum.inr p.1:Key),V.int p.2)) h
   rw [e,Qau h]
   rfl
  ·have e:YW (kvsOf (p::r)) k=YW (kvsOf r) k:=Y5 (p:=((Sum.inr p.1:Key),V.int p.2)) h
   rw [e,ih,Qan h]
theorem qS{l:List (Str × Int)}{y:Str}(h:y∉l.map (·.1)):J4 l (.inr y)=0:=by
 induction l with
 | nil=>rfl
 | cons p r ih =>
  unfold J4
  rw [Qa1] at h
  rw [Qan (fun z=>h (by rw [<-Sum.inr.inj z];exact Qaf)),ih (fun z=>h (Qag _ z))]
noncomputable def X7(k:Key):Int:=J4 T1 k + J4 T2 k + J4 T3 k
noncomputable def keyOf:V->Key
 | .int i=>.inl i
 | .str y=>.inr y
 | _=>.inl 0
noncomputable def strV:V->Str
 | .str y=>y
 | _ => ""
noncomputable def Zgs(ys:List Str)(w:V):Prop:=gP ys w\/∃y,w=.str y/\y∈Z4
theorem Xx:∀y∈Z4,y∈YL:=by decide +kernel
noncomputable def WB(ys:List Str):Bool->V->Prop
 | true,w=>∃y,w=.str y/\y∈Z4
 | false,w=>gP ys w
theorem WB.cw{ys:List Str}{b:Bool}{w:V}(h:WB ys b w):Zgs ys w:=by
 cases b with
 | true=>exact .inr h
 | false=>exact .inl h
noncomputable def W0(w:V):Nat:=(J4 T1 (keyOf w) + J4 T2 (keyOf w)).toNat
noncomputable def q8(w:V):Nat:=(J4 T3 (keyOf w)).toNat
noncomputable def nextK(w:V):List Bool:=List.replicate (W0 w) false++List.replicate (q8 w) true
inductive zf(ys:List Str):List Bool->List V->List Bool->Prop
 | nil {ls:List Bool}:zf ys ls [] ls
 | cons {ls e:List Bool} {b:Bool} {w:V} {r:List V}:WB ys b w->zf ys (ls++nextK w) r e->zf ys (ls++[b]) (w::r) e
theorem zf.words{ys:List Str}{a b:List Bool}{u:List V}(h:zf ys a u b):∀w∈u,Zgs ys w:=by
 induction h with
 | nil=>exact fun _ h=>nomatch h
 | cons hw _ ih =>
  intro x hx
  rcases Qak.mp hx with rfl | hx
  ·exact hw.cw
  ·exact ih x hx
theorem yB{l:List (Str × Int)}(h:∀p∈l,0<=p.2/\p.2<=3)(k:Key):0<=J4 l k/\J4 l k<=3:=by
 induction l with
 | nil=>exact ⟨Qe1 _,(by decide:(0:Int)<=3)⟩
 | cons p r ih =>
  unfold J4
  split
  ·exact h p Qaf
  ·exact ih fun q hq=>h q (Qag _ hq)
theorem T1_bd(k:Key):0<=J4 T1 k/\J4 T1 k<=3:=yB (by decide +kernel) k
theorem T2_bd(k:Key):0<=J4 T2 k/\J4 T2 k<=3:=yB (by decide +kernel) k
theorem T3_bd(k:Key):0<=J4 T3 k/\J4 T3 k<=3:=yB (by decide +kernel) k
noncomputable def npw(w:V):Nat:=(X7 (keyOf w)).toNat
theorem qT(k:Key):0<=X7 k/\X7 k<=9:=by
 have h1:=T1_bd k
 have h2:=T2_bd k
 have h3:=T3_bd k
 unfold X7
 lia
theorem Zey{stk:List V}{i:Nat}(h:i < stk.length):(stk.drop i).reverse=(stk.drop (i + 1)).reverse++[stk[i]]:=by
 rw [Qbu h,Qce]
theorem Xz(l:List V)(y:V):(l++[y])[(l++[y]).length - 1]?=some y:=by
 rw [Qac,show ([y]:List V).length=1 from rfl,Nat.add_sub_cancel,Qa0 (Qaj _),Qdr]
 rfl
theorem Zc1{ws:List V}{i:Nat}{x:V}(h:ws.reverse[i]?=some x):i < ws.length/\ws[ws.length - 1 - i]?=some x:=by
 have hi:i < ws.length:=by
  have:=(Qah.mp h).1
  rw [Qb2] at this
  exact this
 refine ⟨hi,?_⟩
 rw [List.getElem?_reverse hi] at h
 exact h
noncomputable def LsAt(ys:List Str)(ws:List V)(ls:Nat->List Bool):Prop:=ls ws.length=[]/\∀i x,ws[i]?=some x->∃l0 b,ls i=l0++[b]/\WB ys b x/\ls (i + 1)=l0++nextK x
theorem zf.at{ys:List Str}{a e:List Bool}{ws:List V}(h:zf ys a ws e)(he:e=[]):∃ls,LsAt ys ws ls/\ls 0=a:=by
 induction h with
 | @nil ls =>
  subst he
  exact ⟨fun _=>[],⟨rfl,fun i x hx=>by simp at hx⟩,rfl⟩
 | @cons l0 e b w r hw _ ih =>
  obtain ⟨ls,⟨h1,h2⟩,h0⟩:=ih he
  refine ⟨fun i=>match i with | 0=>l0++[b] | i + 1=>ls i,⟨h1,fun i x hx=>?_⟩,rfl⟩
  cases i with
  | zero =>
   have:w=x:=by simpa using hx
   subst this
   exact ⟨l0,b,rfl,hw,h0⟩
  | succ i=>exact h2 i x (by simpa using hx)
noncomputable def iV:V->Int
 | .int a=>a
 | _=>0
noncomputable def bV:V->Bool
 | .bl b=>b
 | _=>false
noncomputable def Zg8 (y:Str) (a:Int):Int:=if y = "not" then Builtin.bitNot a else if y = "neg" then -a else if y = "twice" then a + a else Builtin.bitAnd a (-a)
noncomputable def Zg9 (y:Str) (a b:Int):Int:=if y = "and" then Builtin.bitAnd a b else if y = "or" then Builtin.bitOr a b else if y = "odd" then Builtin.bitXor a b else if y = "add" then a + b else a - b
noncomputable def wwv(ρ:Str->Int):V->List Int->Int
 | .int z,_=>z
 | .str y,[]=>ρ y
 | .str y,[a]=>Zg8 y a
 | .str y,[a,b]=>Zg9 y a b
 | .str _,a::b::c::_=>Builtin.bitOr (Builtin.bitAnd a b) (Builtin.bitAnd (Builtin.bitNot a) c)
 | _,_=>0
noncomputable def sgn(m a:Int):Int:=if a * 2>=m then a - m else a
noncomputable def zH(m:Int)(y:Str)(xs:List Int):Bool :=
 if y = "nought" then decide (xs.getD 0 0=0) else if y = "sign" then decide (sgn m (xs.getD 0 0) < 0) else if y = "same" then decide (xs.getD 0 0=xs.getD 1 0)
 else if y = "under" then decide (xs.getD 0 0 < xs.getD 1 0) else decide (sgn m (xs.getD 0 0) < sgn m (xs.getD 1 0))
noncomputable def Zc2(y:Str)(bs:List Bool):Bool :=
 if y = "yes" then true else if y = "never" then !(bs.getD 0 false) else if y = "both" then bs.getD 0 false && bs.getD 1 false else if y = "either" then bs.getD 0 false || bs.getD 1 false else bs.getD 1 false || !(bs.getD 0 false)
noncomputable def cvV(m:Int)(ρ:Str->Int)(w:V)(xs:List V):V :=
 match w with
 | .str y=>if y∈Z4 then (if 0 < W0 w then .bl (zH m y (xs.map iV)) else .bl (Zc2 y (xs.map bV))) else .int (wwv ρ w (xs.map iV) % m)
 | _=>.int (wwv ρ w (xs.map iV) % m)
noncomputable def JS(m:Int)(ρ:Str->Int)(ws:List V)(stk:List V):List V:=ws.foldr (fun w s=>cvV m ρ w (s.take (npw w))::s.drop (npw w)) stk
theorem JT(m:Int)(ρ:Str->Int)(w:V)(r stk:List V):JS m ρ (w::r) stk=cvV m ρ w ((JS m ρ r stk).take (npw w))::(JS m ρ r stk).drop (npw w):=rfl
theorem Zgu(m n:Nat):(m &&& n) / 2=m / 2 &&& n / 2/\(m &&& n) % 2=m % 2 * (n % 2):=by
 refine ⟨Nat.and_div_two_pow (n:=1),?_⟩
 have h:=Nat.and_mod_two_pow (a:=m) (b:=n) (n:=1)
 rw [Nat.pow_one] at h
 rw [h]
 rcases Qb4 m with e | e <;> rcases Qb4 n with f | f <;> rw [e,f] <;> rfl
theorem n_or(m n:Nat):(m ||| n) / 2=m / 2 ||| n / 2/\(m ||| n) % 2=m % 2 + n % 2 - m % 2 * (n % 2):=by
 refine ⟨Nat.or_div_two_pow (n:=1),?_⟩
 have h:=Nat.or_mod_two_pow (a:=m) (b:=n) (n:=1)
 rw [Nat.pow_one] at h
 rw [h]
 rcases Qb4 m with e | e <;> rcases Qb4 n with f | f <;> rw [e,f] <;> rfl
theorem Zez(m n:Nat):Builtin.bitAnd m n=((m &&& n:Nat):Int):=by
 unfold Builtin.bitAnd
 rw [Qae (Qbl m),Qae (Qbl n)]
 rfl
theorem vq(n:Nat):¬(0:Int)<=-(n:Int) - 1:=by lia
theorem vt(n:Nat):(Builtin.bitNot (-(n:Int) - 1)).toNat=n:=by
 unfold Builtin.bitNot
 lia
theorem Zgv(m n:Nat):Builtin.bitAnd m (-(n:Int) - 1)=(m:Int) - ((m &&& n:Nat):Int):=by
 unfold Builtin.bitAnd
 rw [Qae (Qbl m),Qad (vq n)]
 try dsimp only
 rw [vt]
 rfl
theorem Ze0(m n:Nat):Builtin.bitAnd (-(m:Int) - 1) n=(n:Int) - ((n &&& m:Nat):Int):=by
 unfold Builtin.bitAnd
 rw [Qae (Qbl n),Qad (vq m)]
 try dsimp only
 rw [vt]
 rfl
theorem Zgw(m n:Nat):Builtin.bitAnd (-(m:Int) - 1) (-(n:Int) - 1)=-((m ||| n:Nat):Int) - 1:=by
 unfold Builtin.bitAnd
 rw [Qad (vq n),Qad (vq m)]
 try dsimp only
 rw [vt,vt]
 rfl
theorem zI(a:Int):(∃m:Nat,a=m)\/∃m:Nat,a=-(m:Int) - 1:=by
 by_cases h:0<=a
 ·exact .inl ⟨a.toNat,by lia⟩
 ·exact .inr ⟨(-a - 1).toNat,by lia⟩
theorem yC(a:Int):a % 2=0\/a % 2=1:=by lia
theorem sub2(m A:Int)(h:A % 2=0\/m % 2=1):(m - A) / 2=m / 2 - A / 2/\(m - A) % 2=m % 2 - A % 2:=by lia
theorem cast2(m:Nat):(m:Int) / 2=((m / 2:Nat):Int)/\(m:Int) % 2=((m % 2:Nat):Int):=⟨rfl,rfl⟩
theorem uX(x:Int):(-x - 1) / 2=-(x / 2) - 1/\(-x - 1) % 2=1 - x % 2:=by lia
theorem Zgx(m n:Nat):(((m &&& n:Nat):Int)) / 2=((m / 2 &&& n / 2:Nat):Int)/\(((m &&& n:Nat):Int)) % 2=(m:Int) % 2 * ((n:Int) % 2):=by
 rw [(cast2 _).1,(cast2 _).2,(Zgu m n).1,(Zgu m n).2,Qdx]
 exact ⟨rfl,rfl⟩
theorem take2(m n:Nat):((m:Int) - ((m &&& n:Nat):Int)) / 2=((m / 2:Nat):Int) - ((m / 2 &&& n / 2:Nat):Int)/\((m:Int) - ((m &&& n:Nat):Int)) % 2=(m:Int) % 2 * (1 - (n:Int) % 2):=by
 have l:=Zgx m n
 have h:((m &&& n:Nat):Int) % 2=0\/(m:Int) % 2=1:=by
  rcases yC (m:Int) with e | e
  ·rw [l.2,e,Int.zero_mul]
   exact .inl rfl
  ·exact .inr e
 have z:=sub2 _ _ h
 rw [z.1,z.2,l.1,l.2]
 refine ⟨rfl,?_⟩
 rcases yC (m:Int) with e | e <;> rcases yC (n:Int) with f | f <;> rw [e,f] <;> rfl
theorem Zf2(a b:Int):Builtin.bitAnd a b / 2=Builtin.bitAnd (a / 2) (b / 2)/\Builtin.bitAnd a b % 2=a % 2 * (b % 2):=by
 rcases zI a with ⟨m,rfl⟩ | ⟨m,rfl⟩ <;> rcases zI b with ⟨n,rfl⟩ | ⟨n,rfl⟩
 ·rw [(cast2 m).1,(cast2 n).1,Zez,Zez]
  exact Zgx m n
 ·rw [(cast2 m).1,(uX _).1,(uX _).2,(cast2 n).1,Zgv,Zgv]
  exact take2 m n
 ·rw [(cast2 n).1,(uX _).1,(uX _).2,(cast2 m).1,Ze0,Ze0,Qcr]
  exact take2 n m
 ·rw [(uX (m:Int)).1,(uX (m:Int)).2,(uX (n:Int)).1,(uX (n:Int)).2,(cast2 m).1,(cast2 n).1,Zgw,Zgw,(uX _).1,(uX _).2,(cast2 _).1,(cast2 _).2,(n_or m n).1,(n_or m n).2]
  refine ⟨rfl,?_⟩
  rw [(cast2 m).2,(cast2 n).2]
  rcases Qb4 m with e | e <;> rcases Qb4 n with f | f <;> rw [e,f] <;> rfl
theorem Zc3(a:Int):Builtin.bitNot a / 2=Builtin.bitNot (a / 2)/\Builtin.bitNot a % 2=1 - a % 2:=by
 unfold Builtin.bitNot
 lia
theorem or2(a b:Int):Builtin.bitOr a b / 2=Builtin.bitOr (a / 2) (b / 2)/\Builtin.bitOr a b % 2=1 - (1 - a % 2) * (1 - b % 2):=by
 unfold Builtin.bitOr
 have h:=Zf2 (Builtin.bitNot a) (Builtin.bitNot b)
 rw [(Zc3 a).1,(Zc3 b).1,(Zc3 a).2,(Zc3 b).2] at h
 rw [(Zc3 _).1,(Zc3 _).2,h.1,h.2]
 exact ⟨rfl,rfl⟩
theorem xor2(a b:Int):Builtin.bitXor a b / 2=Builtin.bitXor (a / 2) (b / 2)/\Builtin.bitXor a b % 2=(a % 2 + b % 2) % 2:=by
 unfold Builtin.bitXor
 have h:=Zf2 a b
 have g:=or2 a b
 have q:Builtin.bitAnd a b % 2=0\/Builtin.bitOr a b % 2=1:=by
  rw [h.2,g.2]
  rcases yC a with e | e <;> rcases yC b with f | f <;> rw [e,f] <;> decide
 have z:=sub2 _ _ q
 rw [z.1,z.2,h.1,h.2,g.1,g.2]
 refine ⟨rfl,?_⟩
 rcases yC a with e | e <;> rcases yC b with f | f <;> rw [e,f] <;> rfl
theorem qU(w:Nat)(n:Int):xB (w + 1) n=n % 2::xB w (n / 2):=by
 unfold xB
 rw [List.range_succ_eq_map,Qa1,Qbn,Qcs,Qbm]
 congr 1
 refine Qcd fun i _=>?_
 show n / 2 ^ (i + 1) % 2=n / 2 / 2 ^ i % 2
 rw [Qbw,Qcr,Qcv (by decide:(0:Int)<=2)]
theorem Za7(w:Nat)(n:Int):xB w (n % 2 ^ w)=xB w n:=by
 induction w generalizing n with
 | zero=>rfl
 | succ w ih =>
  rw [qU,qU,<-ih (n / 2)]
  have e1:n % 2 ^ (w + 1) % 2=n % 2:=by
   rw [Int.emod_emod_of_dvd]
   exact ⟨2 ^ w,by rw [Qbw,Qcr]⟩
  have e2:n % 2 ^ (w + 1) / 2=n / 2 % 2 ^ w:=by
   have hp:(0:Int) < 2 ^ w:=Qct (by decide)
   have h1:=Qbt n 2
   have h2:=Qbt (n / 2) (2 ^ w)
   have h3:=Qa4 (n / 2) (Qdh hp)
   have h4:=Qay (n / 2) hp
   have e:n % 2 ^ (w + 1)=n % 2 + 2 * (n / 2 % 2 ^ w):=by
    have:n=n % 2 + 2 * (n / 2 % 2 ^ w) + 2 ^ (w + 1) * (n / 2 / 2 ^ w):=by
     rw [Qbw]
     have:(2:Int) ^ w * 2 * (n / 2 / 2 ^ w)=2 * (2 ^ w * (n / 2 / 2 ^ w)):=by
      rw [Qcr ((2:Int) ^ w) 2,Qdy]
     lia
    conv=>lhs;rw [this]
    rw [Qcy]
    refine Qc5 (by lia) ?_
    rw [Qbw]
    lia
   rw [e]
   lia
  rw [e1,e2]
theorem bits_getD(w:Nat)(n:Int)(i:Nat)(h:i < w):(xB w n).getD i 0=n / 2 ^ i % 2:=by
 unfold xB
 rw [Qal,Qao,Qdn h]
 rfl
theorem jD(w:Nat)(n:Int):(xB w n).foldr (fun b t=>2 * t + b) 0=n % 2 ^ w:=by
 induction w generalizing n with
 | zero=>rw [Qcs,Qej];rfl
 | succ w ih =>
  rw [qU,List.foldr_cons,ih]
  have hp:(0:Int) < 2 ^ w:=Qct (by decide)
  have h1:=Qbt n 2
  have h2:=Qbt (n / 2) (2 ^ w)
  have h3:=Qa4 (n / 2) (Qdh hp)
  have h4:=Qay (n / 2) hp
  have:n=2 * (n / 2 % 2 ^ w) + n % 2 + 2 ^ (w + 1) * (n / 2 / 2 ^ w):=by
   rw [Qbw]
   have:(2:Int) ^ w * 2 * (n / 2 / 2 ^ w)=2 * (2 ^ w * (n / 2 / 2 ^ w)):=by
    rw [Qcr ((2:Int) ^ w) 2,Qdy]
   lia
  conv=>rhs;rw [this]
  rw [Qcy]
  refine (Qc5 (by lia) ?_).symm
  rw [Qbw]
  lia
theorem gQ{i j:Nat}(h:i<=j):(2:Int) ^ i<=2 ^ j:=by
 obtain ⟨d,rfl⟩:∃d,j=i + d:=⟨j - i,by lia⟩
 clear h
 induction d with
 | zero=>exact Qe1 _
 | succ d ih =>
  have:=Qct (n:=2) (m:=i + d) (by decide)
  rw [show i + (d + 1)=i + d + 1 from rfl,Qbw]
  lia
noncomputable def bt(x:Int)(k:Nat):Int:=x / 2 ^ k % 2
theorem Xh(x:Int)(k:Nat):bt x (k + 1)=bt (x / 2) k:=by
 unfold bt
 rw [Qbw,Qcr,Qcv (by decide:(0:Int)<=2)]
theorem YQ(x:Int)(k:Nat):bt x k=0\/bt x k=1:=by
 unfold bt
 lia
theorem X3(k:Nat):∀a b:Int,bt (Builtin.bitAnd a b) k=bt a k * bt b k:=by
 induction k with
 | zero =>
  intro a b
  unfold bt
  rw [Qcs,Qbm,Qbm,Qbm,(Zf2 a b).2]
 | succ k ih =>
  intro a b
  rw [Xh,Xh,Xh,(Zf2 a b).1,ih]
theorem qe(k:Nat):∀a b:Int,bt (Builtin.bitOr a b) k=1 - (1 - bt a k) * (1 - bt b k):=by
 induction k with
 | zero =>
  intro a b
  unfold bt
  rw [Qcs,Qbm,Qbm,Qbm,(or2 a b).2]
 | succ k ih =>
  intro a b
  rw [Xh,Xh,Xh,(or2 a b).1,ih]
theorem qV(k:Nat):∀a b:Int,bt (Builtin.bitXor a b) k=(bt a k + bt b k) % 2:=by
 induction k with
 | zero =>
  intro a b
  unfold bt
  rw [Qcs,Qbm,Qbm,Qbm,(xor2 a b).2]
 | succ k ih =>
  intro a b
  rw [Xh,Xh,Xh,(xor2 a b).1,ih]
theorem JU(k:Nat):∀a:Int,bt (Builtin.bitNot a) k=1 - bt a k:=by
 induction k with
 | zero =>
  intro a
  unfold bt
  rw [Qcs,Qbm,Qbm,(Zc3 a).2]
 | succ k ih =>
  intro a
  rw [Xh,Xh,(Zc3 a).1,ih]
theorem qW(k:Nat):bt 0 k=0:=by
 unfold bt
 rw [Int.zero_ediv]
 rfl
theorem gR(k:Nat):bt (-1) k=1:=by
 induction k with
 | zero=>rfl
 | succ k ih=>rw [Xh];exact ih
theorem jE(x:Int)(w k:Nat)(h:k < w):bt (x % 2 ^ w) k=bt x k:=by
 have e:=Za7 w x
 have h1:=bits_getD w (x % 2 ^ w) k h
 have h2:=bits_getD w x k h
 rw [e,h2] at h1
 exact h1.symm
noncomputable def lo(x:Int)(k:Nat):Int:=x % 2 ^ k
theorem xC(x:Int)(k:Nat):0<=lo x k/\lo x k < 2 ^ k:=⟨Qa4 _ (Qdh (Qct (by decide))),Qay _ (Qct (by decide))⟩
theorem qX(x:Int)(k:Nat):lo x (k + 1)=lo x k + 2 ^ k * bt x k:=by
 unfold lo bt
 have hp:(0:Int) < 2 ^ k:=Qct (by decide)
 have e1:=Qbt x (2 ^ k)
 have e2:=Qbt (x / 2 ^ k) 2
 have b0:=Qa4 x (Qdh hp)
 have b1:=Qay x hp
 have e3:x=(x % 2 ^ k + 2 ^ k * (x / 2 ^ k % 2)) + 2 ^ (k + 1) * (x / 2 ^ k / 2):=by
  rw [Qbw,Qdy]
  have e4:(2:Int) ^ k * (x / 2 ^ k)=2 ^ k * (x / 2 ^ k % 2) + 2 ^ k * (2 * (x / 2 ^ k / 2)):=by
   rw [<-Qeq,e2]
  lia
 conv=>lhs;rw [e3]
 rw [Qcy]
 have hb:x / 2 ^ k % 2=0\/x / 2 ^ k % 2=1:=by lia
 refine Qc5 ?_ ?_
 ·rcases hb with h | h <;> rw [h] <;> lia
 ·rw [Qbw]
  rcases hb with h | h <;> rw [h] <;> lia
theorem Ze1(x:Int)(k:Nat):x=lo x k + 2 ^ k * (x / 2 ^ k):=(Qbt x (2 ^ k)).symm
theorem Zcl{x y z:Int}{k:Nat}{c:Int}(hc:c=0\/c=1)(e:lo z k + 2 ^ k * c=lo x k + lo y k)(hz:z=x + y):bt z k=(bt x k + bt y k + c) % 2:=by
 have hp:(0:Int) < 2 ^ k:=Qct (by decide)
 have e1:=Ze1 x k
 have e2:=Ze1 y k
 have e3:=Ze1 z k
 have h:(2:Int) ^ k * (z / 2 ^ k)=2 ^ k * (x / 2 ^ k + y / 2 ^ k + c):=by
  rw [Qeq,Qeq]
  lia
 have h2:=Int.eq_of_mul_eq_mul_left (Qdh hp) h
 unfold bt
 rw [h2]
 lia
noncomputable def cyA(x y:Int)(k:Nat):Int:=(lo x k + lo y k) / 2 ^ k
theorem gS(x y:Int)(k:Nat):lo (x + y) k + 2 ^ k * cyA x y k=lo x k + lo y k:=by
 unfold cyA
 have e:lo (x + y) k=(lo x k + lo y k) % 2 ^ k:=by
  unfold lo
  rw [<-Int.emod_add_emod,<-Int.add_emod_emod]
 rw [e]
 exact Qbt _ _
theorem gT(x y:Int)(k:Nat):cyA x y k=0\/cyA x y k=1:=by
 have hp:(0:Int) < 2 ^ k:=Qct (by decide)
 have a:=xC x k
 have b:=xC y k
 have q0:0<=cyA x y k:=Qev (by lia) (Qew hp)
 have q2:cyA x y k < 2:=Int.ediv_lt_of_lt_mul hp (by lia)
 lia
theorem Zc4(x y:Int)(k:Nat):bt (x + y) k=(bt x k + bt y k + cyA x y k) % 2:=Zcl (gT x y k) (gS x y k) rfl
theorem vv(x y:Int):cyA x y 0=0:=by
 unfold cyA lo
 rw [Qcs,Qej,Qej]
 rfl
theorem vw(x y:Int)(k:Nat):cyA x y (k + 1)=(bt x k + bt y k + cyA x y k) / 2:=by
 have hp:(0:Int) < 2 ^ k:=Qct (by decide)
 have e1:=qX x k
 have e2:=qX y k
 have e3:=gS x y k
 have b:=xC (x + y) k
 have e:lo x (k + 1) + lo y (k + 1)=lo (x + y) k + 2 ^ k * (bt x k + bt y k + cyA x y k):=by
  rw [Qeq,Qeq]
  lia
 unfold cyA
 rw [e,Qbw,<-Qcv (Qew hp),Qd5 _ _ (Qdh hp),Qca b.1 b.2,Qcm]
 rfl
noncomputable def brA(x y:Int)(k:Nat):Int:=if lo x k < lo y k then 1 else 0
theorem vx(x y:Int)(k:Nat):brA x y k=cyA (x - y) y k:=by
 have e:=gS (x - y) y k
 rw [Int.sub_add_cancel] at e
 have hp:(0:Int) < 2 ^ k:=Qct (by decide)
 have b:=xC (x - y) k
 unfold brA
 rcases gT (x - y) y k with h | h <;> rw [h] at e ⊢
 ·rw [Qan (by lia)]
 ·rw [Qau (by lia)]
theorem zh(x y:Int)(k:Nat):brA x y k=0\/brA x y k=1:=by
 unfold brA
 split
 ·exact .inr rfl
 ·exact .inl rfl
theorem gU(x y:Int)(k:Nat):bt (x - y) k=(bt x k + bt y k + brA x y k) % 2:=by
 have h:=Zc4 (x - y) y k
 rw [Int.sub_add_cancel,<-vx] at h
 have a:=YQ (x - y) k
 have b:=YQ y k
 have c:=zh x y k
 rw [h]
 lia
theorem vy(x y:Int):brA x y 0=0:=by
 rw [vx,vv]
theorem vz(x y:Int)(k:Nat):brA x y (k + 1)=1 - (1 - (1 - bt x k) * bt y k) * (1 - brA x y k * (1 - (bt x k + bt y k) % 2)):=by
 rw [vx,vw,<-vx,gU]
 rcases YQ x k with a | a <;> rcases YQ y k with b | b <;> rcases zh x y k with c | c <;> rw [a,b,c] <;> rfl
noncomputable def nzA(x:Int)(k:Nat):Int:=brA 0 x k
theorem gW(x:Int)(k:Nat):nzA x k=0\/nzA x k=1:=zh 0 x k
theorem Za8(x:Int):nzA x 0=0:=vy 0 x
theorem Za9(x:Int)(k:Nat):nzA x (k + 1)=1 - (1 - bt x k) * (1 - nzA x k):=by
 unfold nzA
 rw [vz,qW]
 rcases YQ x k with a | a <;> rcases zh 0 x k with c | c <;> rw [a,c] <;> rfl
theorem Zc5(x:Int)(k:Nat):bt (-x) k=(bt x k + nzA x k) % 2:=by
 have h:=gU 0 x k
 rw [Int.zero_sub,qW,Qcm] at h
 exact h
theorem bt_low(x:Int)(k:Nat):bt (Builtin.bitAnd x (-x)) k=bt x k * (1 - nzA x k):=by
 rw [X3,Zc5]
 rcases YQ x k with a | a <;> rcases gW x k with c | c <;> rw [a,c] <;> rfl
noncomputable def tw(x:Int):Nat->Int
 | 0=>0
 | k + 1=>bt x k
theorem tw_01(x:Int):∀k,tw x k=0\/tw x k=1
 | 0=>.inl rfl
 | k + 1=>YQ x k
theorem Zba(x:Int):∀k,bt (x + x) k=tw x k
 | 0=>by
  unfold bt
  rw [Qcs,Qbm]
  show (x + x) % 2=0
  lia
 | k + 1=>by
  rw [Xh,show (x + x) / 2=x by lia]
  rfl
noncomputable def hld(y:Str)(is:List Int)(k:Nat):Int :=
 if y = "twice" then tw (is.getD 0 0) k else if y = "neg" \/ y = "low" then nzA (is.getD 0 0) k else if y = "add" then cyA (is.getD 0 0) (is.getD 1 0) k else brA (is.getD 0 0) (is.getD 1 0) k
noncomputable def GN:List Str:=["neg","twice","low","add","sub"]
noncomputable def once(y:Str)(bs:List Int):Int :=
 if y = "not" then 1 - bs.getD 0 0 else if y = "and" then bs.getD 0 0 * bs.getD 1 0 else if y = "or" then 1 - (1 - bs.getD 0 0) * (1 - bs.getD 1 0) else if y = "odd" then (bs.getD 0 0 + bs.getD 1 0) % 2
 else 1 - (1 - bs.getD 0 0 * bs.getD 1 0) * (1 - (1 - bs.getD 0 0) * bs.getD 2 0)
noncomputable def ans1(y:Str)(bs:List Int)(h:Int):Int :=
 if y = "twice" then h else if y = "neg" then (bs.getD 0 0 + h) % 2 else if y = "low" then bs.getD 0 0 * (1 - h) else (bs.getD 0 0 + bs.getD 1 0 + h) % 2
theorem X4(is:List Int)(k i:Nat):(is.map fun x=>bt x k).getD i 0=bt (is.getD i 0) k:=by
 rw [Qal,Qal,Qao]
 cases is[i]? with
 | none=>exact (qW k).symm
 | some x=>rfl
theorem gX:∀y∈GN,y∈Gy/\Yq y=(if y = "add" \/ y = "sub" then 2 else 1):=by decide +kernel
theorem zi:∀y∈Gy,y∉GN->(y = "not" /\ Yq y=1)\/(y = "and" /\ Yq y=2)\/(y = "or" /\ Yq y=2)\/(y = "odd" /\ Yq y=2)\/(y = "pick" /\ Yq y=3):=by decide +kernel
theorem ans_ok(ρ:Str->Int){y:Str}(hy:y∈GN){is:List Int}(hl:is.length=Yq y)(k:Nat):ans1 y (is.map fun x=>bt x k) (hld y is k)=bt (wwv ρ (.str y) is) k:=by
 rw [(gX y hy).2] at hl
 unfold ans1 hld
 rw [X4,X4]
 unfold GN at hy
 simp only [Qak,Qa3,Qcq] at hy
 rcases hy with rfl | rfl | rfl | rfl | rfl
 ·rw [Qan (by decide +kernel)] at hl
  match is,hl with
  | [a],_=>exact (Zc5 a k).symm
 ·rw [Qan (by decide +kernel)] at hl
  match is,hl with
  | [a],_=>exact (Zba a k).symm
 ·rw [Qan (by decide +kernel)] at hl
  match is,hl with
  | [a],_=>exact (bt_low a k).symm
 ·rw [Qau (by decide +kernel)] at hl
  match is,hl with
  | [a,b],_=>exact (Zc4 a b k).symm
 ·rw [Qau (by decide +kernel)] at hl
  match is,hl with
  | [a,b],_=>exact (gU a b k).symm
theorem Ze2(ρ:Str->Int){y:Str}(hy:y∈Gy)(hr:y∉GN){is:List Int}(hl:is.length=Yq y)(k:Nat):once y (is.map fun x=>bt x k)=bt (wwv ρ (.str y) is) k:=by
 unfold once
 rw [X4,X4,X4]
 rcases zi y hy hr with ⟨rfl,e⟩ | ⟨rfl,e⟩ | ⟨rfl,e⟩ | ⟨rfl,e⟩ | ⟨rfl,e⟩ <;> rw [e] at hl
 ·match is,hl with
  | [a],_=>exact (JU k a).symm
 ·match is,hl with
  | [a,b],_=>exact (X3 k a b).symm
 ·match is,hl with
  | [a,b],_=>exact (qe k a b).symm
 ·match is,hl with
  | [a,b],_=>exact (qV k a b).symm
 ·match is,hl with
  | [a,b,c],_ =>
   show 1 - (1 - bt a k * bt b k) * (1 - (1 - bt a k) * bt c k)=bt (Builtin.bitOr (Builtin.bitAnd a b) (Builtin.bitAnd (Builtin.bitNot a) c)) k
   rw [qe,X3,X3,JU]
noncomputable def Gk:List V->Nat
 | []=>0
 | w::r=>Gk r - npw w + 1
noncomputable def Xi:List V->Prop
 | []=>True
 | w::r=>npw w<=Gk r/\Xi r
noncomputable def jF:V->Bool
 | .str y=>decide (y∈GN)
 | _=>false
noncomputable def J5(ys:List Str)(B:Nat)(w:V):Prop:=(∃y,w=.str y/\y∈Gy/\y∉ys/\npw w=Yq y)\/(∃y,w=.str y/\y∈ys/\y∉GN/\npw w=0)\/∃z:Int,w=.int z/\0<=z/\z < 2 ^ B/\npw w=0
theorem Zc6{z:Int}{B k:Nat}(h0:0<=z)(h:z < 2 ^ B)(hk:B<=k):bt z k=0:=by
 have hp:(2:Int) ^ B<=2 ^ k:=gQ hk
 unfold bt
 rw [Qca h0 (by lia)]
 rfl
noncomputable def Zgy(a b h:Int):Int:=Builtin.bitOr (Builtin.bitAnd (Builtin.bitNot a) b) (Builtin.bitAnd h (Builtin.bitNot (Builtin.bitXor a b)))
noncomputable def allR:List Str:=["neg","twice","low","add","sub","same","under","beneath","nought"]
noncomputable def Ze3:List Str:=["add","sub","same","under","beneath"]
noncomputable def ktI(y:Str)(is:List Int)(h:Int):Int :=
 if y = "twice" then is.getD 0 0 else if y = "neg" \/ y = "low" \/ y = "nought" then Builtin.bitOr (is.getD 0 0) h else if y = "same" then Builtin.bitOr (Builtin.bitXor (is.getD 0 0) (is.getD 1 0)) h
 else if y = "add" then Builtin.bitOr (Builtin.bitAnd (is.getD 0 0) (is.getD 1 0)) (Builtin.bitAnd h (Builtin.bitOr (is.getD 0 0) (is.getD 1 0))) else Zgy (is.getD 0 0) (is.getD 1 0) h
noncomputable def okI(y:Str)(is:List Int)(h n:Int):Int :=
 if y = "add" \/ y = "sub" then Builtin.bitXor (Builtin.bitXor (is.getD 0 0) (is.getD 1 0)) h else if y = "neg" then Builtin.bitXor (is.getD 0 0) h else if y = "twice" then h else if y = "low" then Builtin.bitAnd (is.getD 0 0) (Builtin.bitNot h)
 else if y = "same" \/ y = "nought" then Builtin.bitNot n else if y = "under" then n else Zgy (is.getD 1 0) (is.getD 0 0) h
noncomputable def oaI(y:Str)(is:List Int):Int :=
 if y = "yes" then -1 else if y = "sign" then is.getD 0 0 else if y = "not" \/ y = "never" then Builtin.bitNot (is.getD 0 0) else if y = "and" \/ y = "both" then Builtin.bitAnd (is.getD 0 0) (is.getD 1 0) else if y = "or" \/ y = "either" then Builtin.bitOr (is.getD 0 0) (is.getD 1 0)
 else if y = "odd" then Builtin.bitXor (is.getD 0 0) (is.getD 1 0) else if y = "so" then Builtin.bitOr (Builtin.bitNot (is.getD 0 0)) (is.getD 1 0) else Builtin.bitOr (Builtin.bitAnd (is.getD 0 0) (is.getD 1 0)) (Builtin.bitAnd (Builtin.bitNot (is.getD 0 0)) (is.getD 2 0))
noncomputable def gY (y:Str):Nat:=if y = "yes" then 0 else if y = "sign" \/ y = "not" \/ y = "never" then 1 else if y = "pick" then 3 else 2
theorem gZ:∀y∈allR,¬y = "twice" -> ¬(y = "neg" \/ y = "low" \/ y = "nought")->y∈Ze3:=by decide +kernel
noncomputable def ua:List Str:=["not","and","or","odd","pick","both","either","so","never","yes","sign"]
theorem kj:∀y∈ua,¬y = "yes" -> ¬y = "sign" -> ¬(y = "not" \/ y = "never")->¬(y = "and" \/ y = "both")->¬(y = "or" \/ y = "either")->¬y = "odd" -> ¬y = "so" -> 3<=gY y:=by decide +kernel
theorem qY{n m:Nat}{is:List Int}(h:is.length=m)(h2:n<=m):n<=is.length:=by rw [h];exact h2
theorem and_zero(x:Int):Builtin.bitAnd x 0=0:=by
 rcases zI x with ⟨m,rfl⟩ | ⟨m,rfl⟩
 ·rw [show (0:Int)=((0:Nat):Int) from rfl,Zez,Nat.and_zero]
 ·rw [show (0:Int)=((0:Nat):Int) from rfl,Ze0,Nat.zero_and]
  rfl
theorem and_1(x:Int):Builtin.bitAnd x 1=x % 2:=by
 obtain ⟨h1,h2⟩:=Zf2 x 1
 rw [show (1:Int) / 2=0 from rfl,and_zero] at h1
 rw [show (1:Int) % 2=1 from rfl,Int.mul_one] at h2
 lia
noncomputable def XU(ys:List Str)(cols:Str->Int)(pl:Nat)(kp:List Int):List V->List Int × List Int
 | []=>([],[])
 | w::r =>
  let p:=XU ys cols pl kp r
  match w with
  | .str y =>
   if y∈allR then (okI y (p.1.take (npw w)) (-(kp.getD p.2.length 0)) (ktI y (p.1.take (npw w)) (-(kp.getD p.2.length 0)))::p.1.drop (npw w),p.2++[ktI y (p.1.take (npw w)) (-(kp.getD p.2.length 0))])
   else if y∈ys then (cols y::p.1.drop (npw w),p.2)
   else (oaI y (p.1.take (npw w))::p.1.drop (npw w),p.2)
  | .int z=>(-(bt z pl)::p.1.drop (npw w),p.2)
  | _=>p
noncomputable def km(kvs:List (Key × V))(ys:List Str)(cols:Str->Int):Prop:=(∀y∈ys,YW kvs (.inr y)=some (.int (cols y)))/\∀y,y∉ys->YW kvs (.inr y)=none
noncomputable def jG(ys:List Str)(w:V):Prop:=(∃y,w=.str y/\y∈allR/\y∉ys/\1<=npw w/\(y∈Ze3->2<=npw w))\/(∃y,w=.str y/\y∈ua/\y∉allR/\y∉ys/\npw w=gY y)\/(∃y,w=.str y/\y∈ys/\y∉allR/\npw w=0)\/∃z:Int,w=.int z/\0<=z/\npw w=0
theorem zJ{ys:List Str}{cols:Str->Int}{pl:Nat}{kp:List Int}:∀ws:List V,(∀w∈ws,jG ys w)->(XU ys cols pl kp ws).1.length=Gk ws
 | [],_=>rfl
 | w::r,hw=>by
  have ih:=zJ (ys:=ys) (cols:=cols) (pl:=pl) (kp:=kp) r fun w h=>hw w (Qag _ h)
  have go:∀x:Int,(x::(XU ys cols pl kp r).1.drop (npw w)).length=Gk r - npw w + 1:=fun x=>by rw [Qaz,Qbd,ih]
  rcases hw w Qaf with ⟨y,rfl,h1,_⟩ | ⟨y,rfl,h1,h2,h3,_⟩ | ⟨y,rfl,h1,h2,_⟩ | ⟨z,rfl,_⟩
  ·show (if y∈allR then _ else _:List Int × List Int).1.length=_
   rw [Qau h1]
   exact go _
  ·show (if y∈allR then _ else if y∈ys then _ else _:List Int × List Int).1.length=_
   rw [Qan h2,Qan h3]
   exact go _
  ·show (if y∈allR then _ else if y∈ys then _ else _:List Int × List Int).1.length=_
   rw [Qan h2,Qau h1]
   exact go _
  ·exact go _
theorem jH(ys:List Str)(cols:Str->Int)(pl:Nat)(kp:List Int)(w:V)(r:List V):(XU ys cols pl kp r).2.length<=(XU ys cols pl kp (w::r)).2.length:=by
 cases w with
 | str y =>
  show _<=(if y∈allR then _ else if y∈ys then _ else _:List Int × List Int).2.length
  split
  ·rw [Qac]
   exact Nat.le_add_right _ _
  ·split <;> exact Qaj _
 | _=>exact Qaj _
theorem jI(ys:List Str)(cols:Str->Int)(pl:Nat)(kp:List Int):∀(ws:List V) (j:Nat),(XU ys cols pl kp (ws.drop j)).2.length<=(XU ys cols pl kp ws).2.length
 | [],j=>by rw [List.drop_nil];exact Qaj _
 | w::r,0=>Qaj _
 | w::r,j + 1=>Qba (jI ys cols pl kp r j) (jH ys cols pl kp w r)
theorem qZ:∀(ws:List V) (j:Nat),Xi ws->Xi (ws.drop j)
 | [],j,_=>by rw [List.drop_nil];exact trivial
 | w::r,0,h=>h
 | w::r,j + 1,h=>qZ r j h.2
theorem yD:∀ws:List V,Gk ws<=ws.length
 | []=>Qaj _
 | w::r=>by
  have:=yD r
  show Gk r - npw w + 1<=r.length + 1
  lia
theorem G1(z:Int)(ys:List Str):inV (.int z) (ys.map V.str)=false:=by
 cases q:inV (.int z) (ys.map V.str) with
 | false=>rfl
 | true =>
  obtain ⟨x,hx,e⟩:=Qd8.mp q
  obtain ⟨y,_,rfl⟩:=Qa5.mp hx
  cases e
theorem v3(ys:List Str)(cols:Str->Int)(pl:Nat)(kp:List Int):∀ws:List V,(XU ys cols pl kp ws).2.length<=ws.length
 | []=>Qaj _
 | w::r=>by
  have ih:=v3 ys cols pl kp r
  cases w with
  | str y =>
   show (if y∈allR then _ else if y∈ys then _ else _:List Int × List Int).2.length<=r.length + 1
   split
   ·rw [Qac]
    exact Nat.add_le_add_right ih 1
   ·split <;> exact Nat.le_succ_of_le ih
  | _=>exact Nat.le_succ_of_le ih
theorem yE{x:Int}(h:x=0\/x=1)(l:Nat):bt (-x) l=x:=by
 rcases h with rfl | rfl
 ·exact qW l
 ·exact gR l
theorem zK:∀y∈Gy,(y∈allR↔y∈GN):=by decide +kernel
theorem ub(w:Nat):∀a b:Int,Builtin.bitAnd a b / 2 ^ w=Builtin.bitAnd (a / 2 ^ w) (b / 2 ^ w):=by
 induction w with
 | zero=>intro a b;rw [Qcs,Qbm,Qbm,Qbm]
 | succ w ih =>
  intro a b
  have d:∀x:Int,x / 2 ^ (w + 1)=x / 2 / 2 ^ w:=fun x=>by rw [Qbw,Qcr,Qcv (by decide:(0:Int)<=2)]
  rw [d,d,d,(Zf2 a b).1,ih]
theorem or_div(w:Nat):∀a b:Int,Builtin.bitOr a b / 2 ^ w=Builtin.bitOr (a / 2 ^ w) (b / 2 ^ w):=by
 induction w with
 | zero=>intro a b;rw [Qcs,Qbm,Qbm,Qbm]
 | succ w ih =>
  intro a b
  have d:∀x:Int,x / 2 ^ (w + 1)=x / 2 / 2 ^ w:=fun x=>by rw [Qbw,Qcr,Qcv (by decide:(0:Int)<=2)]
  rw [d,d,d,(or2 a b).1,ih]
theorem uc{w:Nat}{x y:Int}(h:∀k,k < w->bt x k=bt y k):x % 2 ^ w=y % 2 ^ w:=by
 have e:xB w x=xB w y:=Qcd fun i hi=>h i (Qek.mp hi)
 have h1:=jD w x
 have h2:=jD w y
 rw [e,h2] at h1
 exact h1.symm
theorem Zbb{w:Nat}{a b c:Int}(a0:0<=a)(a1:a < 2 ^ w)(b0:0<=b)(b1:b < 2 ^ w)(c0:0<=c)(c1:c < 2 ^ w):Builtin.bitOr (Builtin.bitAnd a b) (Builtin.bitAnd (2 ^ w - 1 - a) c)=Builtin.bitOr (Builtin.bitAnd a b) (Builtin.bitAnd (Builtin.bitNot a) c) % 2 ^ w:=by
 have hp:(0:Int) < 2 ^ w:=Qct (by decide)
 have hL:Builtin.bitOr (Builtin.bitAnd a b) (Builtin.bitAnd (2 ^ w - 1 - a) c) / 2 ^ w=0:=by
  rw [or_div,ub,ub,Qca a0 a1,Qca b0 b1,Qca c0 c1,Qca (by lia) (by lia)]
  rfl
 have hm:=Qbt (Builtin.bitOr (Builtin.bitAnd a b) (Builtin.bitAnd (2 ^ w - 1 - a) c)) (2 ^ w)
 rw [hL,Int.mul_zero,Int.add_zero] at hm
 rw [<-hm]
 refine uc fun k hk=>?_
 have hn:bt (2 ^ w - 1 - a) k=bt (Builtin.bitNot a) k:=by
  have e:2 ^ w - 1 - a=Builtin.bitNot a % 2 ^ w:=by
   have e1:Builtin.bitNot a=(2 ^ w - 1 - a) + 2 ^ w * (-1):=by unfold Builtin.bitNot;lia
   rw [e1,Qcy,Qc5 (by lia) (by lia)]
  rw [e,jE _ _ _ hk]
 rw [qe,X3,X3,hn,qe,X3,X3]
noncomputable def hor(ms:List Int):Int:=ms.foldl (fun a b=>a * 2 + b) 0
theorem v5(ms:List Int)(b:Int):hor (ms++[b])=hor ms * 2 + b:=by
 unfold hor
 rw [Qdk]
 rfl
theorem Zbc{ms:List Int}{i:Nat}{b:Int}(h:ms[i]?=some b):hor (ms.take (i + 1))=hor (ms.take i) * 2 + b:=by
 rw [List.take_add_one,h]
 exact v5 _ b
noncomputable def sm(b:Nat->Int):Nat->Int
 | 0=>0
 | n + 1=>sm b n + b n * 2 ^ n
theorem q9{b:Nat->Int}(hb:∀i,b i=0\/b i=1):∀n,0<=sm b n/\sm b n < 2 ^ n
 | 0=>⟨Qe1 _,(show (0:Int) < 2 ^ 0 by decide)⟩
 | n + 1=>by
  have ih:=q9 hb n
  have e:sm b (n + 1)=sm b n + b n * 2 ^ n:=rfl
  rw [e,pow_succ']
  have hp:=JQ n
  rcases hb n with z | z <;> rw [z] <;> constructor <;> lia
theorem ud{b:Nat->Int}(hb:∀i,b i=0\/b i=1)(p:Nat):∀n,p < n->sm b n / 2 ^ p % 2=b p
 | 0,h=>absurd h (Qeh _)
 | n + 1,h=>by
  have e:sm b (n + 1)=sm b n + b n * 2 ^ n:=rfl
  have hp:=JQ p
  rw [e]
  by_cases hpn:p < n
  ·obtain ⟨k,rfl⟩:∃k,n=p + (k + 1):=⟨n - p - 1,by lia⟩
   have e2:b (p + (k + 1)) * 2 ^ (p + (k + 1))=2 ^ p * (2 ^ k * b (p + (k + 1)) * 2):=by
    rw [Int.pow_add,pow_succ',Qcr (b _),Qdy,Qdy,Qdy,Qcr 2 (b _)]
   rw [e2,Qd5 _ _ (by lia)]
   have ih:=ud hb p (p + (k + 1)) hpn
   generalize 2 ^ k * b (p + (k + 1))=z
   lia
  ·have e3:p=n:=by lia
   subst e3
   obtain ⟨h0,h1⟩:=q9 hb p
   rw [Qcr,Qd5 _ _ (by lia),Qca h0 h1]
   rcases hb p with z | z <;> rw [z] <;> rfl
theorem Ze4{x:Int}(h:0<=x):Builtin.bitAnd x 1=x % 2:=by
 rw [PyProof.Rows.bitAnd_pp h (by decide)]
 show ((x.toNat &&& 1:Nat):Int)=x % 2
 rw [Nat.and_one_is_mod]
 lia
theorem Zgz(r:Int)(k:Nat):r / 2 ^ k % 2=0\/r / 2 ^ k % 2=1:=by lia
theorem div_nn{r:Int}(h:0<=r)(k:Nat):0<=r / 2 ^ k:=Qev h (Qew (JQ k))
open Classical in
noncomputable def keysOf(ys:List Str):List Key:=ys.foldl (fun ks y=>if (Sum.inr y:Key)∈ks then ks else ks++[Sum.inr y]) []
open Classical in
theorem xa(ys:List Str)(y:Str):keysOf (ys++[y])=if (Sum.inr y:Key)∈keysOf ys then keysOf ys else keysOf ys++[Sum.inr y]:=by
 unfold keysOf
 rw [Qdk]
 rfl
theorem snoc_ind{α:Type}{P:List α->Prop}(h0:P [])(hs:∀l a,P l->P (l++[a])):∀l,P l:=by
 intro l
 rw [<-List.reverse_reverse l]
 induction l.reverse with
 | nil=>exact h0
 | cons a r ih =>
  rw [Qce]
  exact hs _ _ ih
theorem yF{kvs:List (Key × V)}{k:Key}:(kvs.any fun kv=>decide (kv.1=k))=true↔k∈kvs.map (·.1):=by
 rw [Qd8,Qa5]
 constructor
 ·rintro ⟨p,hp,e⟩
  exact ⟨p,hp,Qa9 e⟩
 ·rintro ⟨p,hp,e⟩
  exact ⟨p,hp,Qae e⟩
theorem Zbd{kvs:List (Key × V)}{ys:List Str}(h:kvs.map (·.1)=keysOf ys)(y:Str)(v:V):(putK kvs (.inr y) v).map (·.1)=keysOf (ys++[y]):=by
 rw [xa,<-h]
 unfold putK
 by_cases hm:(Sum.inr y:Key)∈kvs.map (·.1)
 ·rw [Qau (yF.mpr hm),Qau hm,Qbn]
  apply Qcd
  intro p _
  show (if p.1=Sum.inr y then (p.1,v) else p).1=p.1
  split <;> rfl
 ·rw [Qan (fun z=>hm (yF.mp z)),Qan hm,Qbh]
  rfl
structure Tab(kvs:List (Key × V))(ys:List Str)(f:Str->Int):Prop where
 keys:kvs.map (·.1)=keysOf ys
 val:∀y∈ys,YW kvs (.inr y)=some (.int (f y))
 all:∀p∈kvs,∃y∈ys,p=(.inr y,.int (f y))
theorem Ze5{kvs:List (Key × V)}{k:Key}{v:V}{P:Key × V->Prop}(h:∀p∈kvs,p.1≠k->P p)(hn:P (k,v)):∀p∈putK kvs k v,P p:=by
 intro p hp
 unfold putK at hp
 split at hp
 ·obtain ⟨q,hq,rfl⟩:=Qa5.mp hp
  split
  ·rename_i e
   rw [e]
   exact hn
  ·rename_i e
   exact h q hq e
 ·rcases Qa6.mp hp with z | z
  ·rename_i hne
   exact h p z fun e=>hne (yF.mpr (by rw [<-e];exact Qbi z))
  ·rw [Qav.mp z]
   exact hn
theorem Tab.put{kvs:List (Key × V)}{ys:List Str}{f:Str->Int}(T:Tab kvs ys f)(y:Str)(z:Int):Tab (putK kvs (.inr y) (.int z)) (ys++[y]) (fun x=>if x=y then z else f x):=by
 refine ⟨Zbd T.keys y _,fun x hx=>?_,Ze5 (fun p hp hne=>?_) ⟨y,Qa7 _ (Qav.mpr rfl),by rw [Qau rfl]⟩⟩
 ·rw [JJ]
  by_cases e:x=y
  ·rw [Qau (by rw [e]),Qau e]
  ·have e2:¬(Sum.inr x:Key)=Sum.inr y:=fun z=>e (Sum.inr.inj z)
   rw [Qan e2,Qan e]
   rcases Qa6.mp hx with h | h
   ·exact T.val x h
   ·exact absurd (Qav.mp h) e
 ·obtain ⟨x,hx,rfl⟩:=T.all p hp
  have e:¬x=y:=fun z=>hne (by rw [z])
  exact ⟨x,Qcu _ hx,by rw [Qan e]⟩
theorem Tab.nil{f:Str->Int}:Tab [] [] f:=⟨rfl,(fun _ h=>nomatch h),(fun _ h=>nomatch h)⟩
theorem ko:∀(ys:List Str),(keysOf ys).length<=ys.length:=by
 refine snoc_ind (Qaj _) fun ys y ih=>?_
 ·rw [xa,Qac]
  split
  ·lia
  ·rw [Qac]
   show _ + 1<=_ + 1
   lia
theorem Tab.few{a:List (Key × V)}{ys:List Str}{f:Str->Int}(T:Tab a ys f):a.length<=ys.length:=by
 have h1:(a.map (·.1)).length=(keysOf ys).length:=by rw [T.keys]
 rw [Qab] at h1
 have:=ko ys
 lia
noncomputable def ltr(ys:List Str)(f:Str->Int)(k:Nat):Int:=sm (fun i=>f (ys.getD i Str.empty) / 2 ^ k % 2) ys.length
theorem Ze6{H H':Hp}{a:Addr}{u:HO}(e:Rd H a u)(s:ZG H H'):Rd H' a u:=by
 rcases e with e | ⟨o,e⟩
 ·exact .inl (s _ _ e)
 ·exact .inr ⟨o,s _ _ e⟩
noncomputable abbrev Wj(l:Nat):V:=.int (l:Int)
theorem ue{ls:List Nat}{i:Nat}{x:V}(h:(ls.map Wj)[i]?=some x):∃l:Nat,x=V.int (l:Int)/\ls[i]?=some l:=by
 rw [Qao] at h
 cases e:ls[i]? with
 | none=>rw [e] at h;cases h
 | some b=>rw [e] at h;exact ⟨b,(Option.some.inj h).symm,rfl⟩
structure jJ(H:Hp)(p:Addr)(i:Nat)(f:Nat->List V):Prop where
 ex:∃as:List V,H p=some (.lst as)/\as.length=i/\∀s,s < i->∃a,as[s]?=some (.ref a)/\H a=some (.tup (f s))
theorem XD{H:Hp}{a p:Addr}{xs ys:List V}(h:H a=some (.tup xs))(h':H p=some (.lst ys)):a≠p:=XG h h' (by intro z;cases z)
theorem jJ.more{H:Hp}{p a:Addr}{i:Nat}{f:Nat->List V}{as:List V}(h1:H p=some (.lst as))(h2:as.length=i)(h3:∀s,s < i->∃a,as[s]?=some (.ref a)/\H a=some (.tup (f s)))(ha:H a=some (.tup (f i))) :
  jJ (upd H p (.lst (as++[.ref a]))) p (i + 1) f:=by
 refine ⟨_,Za,by rw [Qac,h2];rfl,fun s hs=>?_⟩
 by_cases e:s < i
 ·obtain ⟨b,g1,g2⟩:=h3 s e
  refine ⟨b,?_,by rw [Zo (XD g2 h1)];exact g2⟩
  rw [Qa2 (by lia)]
  exact g1
 ·have e:s=i:=by lia
  subst e
  refine ⟨a,?_,by rw [Zo (XD ha h1)];exact ha⟩
  rw [Qa0 (by lia),h2,Qdr]
  rfl
noncomputable def Zc7(tr:Bool)(v:V):Prop:=(tr=true/\∃x,v=.bl x)\/(tr=false/\∃x,v=.int x)
noncomputable def qf(H:Hp)(p:Addr)(rs:List (List V)):Prop:=∃as:List V,H p=some (.tup as)/\as.length=rs.length/\∀(i:Nat) (r:List V),rs[i]?=some r->∃a,as[i]?=some (V.ref a)/\H a=some (.tup r)
theorem qf.same{H H':Hp}{p:Addr}{rs:List (List V)}(R:qf H p rs)(e:ZG H H'):qf H' p rs:=by
 obtain ⟨as,h1,h2,h3⟩:=R
 refine ⟨as,e _ _ h1,h2,fun i r hi=>?_⟩
 obtain ⟨a,g1,g2⟩:=h3 i r hi
 exact ⟨a,g1,e _ _ g2⟩
noncomputable def ja(r:List Nat):List V:=r.map Wj
structure M4(H:Hp)(m:Addr)(nm:List Str)(b:Nat)(nx:List (List Nat))(ot:List (List V)):Prop where
 ex:∃pn ps po,H m=some (.tup [.ref pn,.int (b:Int),.ref ps,.ref po])/\H pn=some (.tup (nm.map V.str))/\qf H ps (nx.map ja)/\qf H po ot
theorem M4.same{H H':Hp}{m:Addr}{nm:List Str}{b:Nat}{nx:List (List Nat)}{ot:List (List V)}(M:M4 H m nm b nx ot)(e:ZG H H'):M4 H' m nm b nx ot:=by
 obtain ⟨pn,ps,po,h1,h2,h3,h4⟩:=M.ex
 exact ⟨⟨pn,ps,po,e _ _ h1,e _ _ h2,h3.same e,h4.same e⟩⟩
structure Wf(nm:List Str)(b:Nat)(nx:List (List Nat))(ot:List (List V))(tr:Bool):Prop where
 n3:nm.length<=3
 b:b < nx.length
 le:nx.length<=1000000
 ol:ot.length=nx.length
 nr:∀r∈nx,r.length=2 ^ nm.length
 nl:∀r∈nx,∀s∈r,s < nx.length
 or:∀r∈ot,r.length=2 ^ nm.length
 ok:∀r∈ot,∀v∈r,Zc7 tr v
 bit:∀r∈ot,∀v∈r,vB v=some 0\/vB v=some 1
theorem yesT{σ:St}{H:Hp}{A B:Hp->Prop}(h:A H):Zfz σ H fun b H2=>if b=true then A H2 else B H2:=by
 show if true=true then A H else B H
 exact YS h
theorem p8{n:Nat}(h:n<=3):2 ^ n<=8:=Qdl (by decide) h
theorem Zc8{α:Type}{rs:List (List α)}{i:Nat}(h:i < rs.length):rs[i]?=some (rs.getD i []):=by
 rw [Qal,Qaa h]
 rfl
theorem zL{H:Hp}{p:Addr}{rs:List (List V)}(R:qf H p rs){i:Nat}(h:i < rs.length):∃as a,H p=some (HO.tup as)/\atI as (i:Int)=some (V.ref a)/\H a=some (.tup (rs.getD i [])):=by
 obtain ⟨as,h1,h2,h3⟩:=R
 obtain ⟨a,g1,g2⟩:=h3 i _ (Zc8 h)
 exact ⟨as,a,h1,Yl g1,g2⟩
theorem jK(nx:List (List Nat))(i:Nat):(nx.map ja).getD i []=ja (nx.getD i []):=by
 rw [Qal,Qal,Qao]
 cases nx[i]? <;> rfl
theorem getD_mem{α:Type}{rs:List (List α)}{i:Nat}(h:i < rs.length):rs.getD i []∈rs:=Qam (Zc8 h)
theorem v8:∀(xs ys:List Str),gv (xs.map V.str) (ys.map V.str)=decide (xs=ys)
 | [],[]=>rfl
 | [],_::_=>rfl
 | _::_,[]=>rfl
 | x::xs,y::ys=>by
  show (eqV (.str x) (.str y) && gv (xs.map V.str) (ys.map V.str))=_
  rw [v8 xs ys,show eqV (.str x) (.str y)=(x == y) from rfl]
  by_cases e:x=y
  ·subst e
   simp
  ·simp [e]
theorem jL(xs:List Str):(xs.map V.str).all Xc=true:=by
 rw [List.all_map]
 exact Qck.mpr fun _ _=>rfl
noncomputable def uf(H:Hp)(p:Addr)(rs:List (List V)):Prop:=∃as:List V,H p=some (.lst as)/\as.length=rs.length/\∀(i:Nat) (r:List V),rs[i]?=some r->∃a,as[i]?=some (V.ref a)/\H a=some (.tup r)
theorem uf.more{H:Hp}{p a:Addr}{rs:List (List V)}{r:List V}{as:List V}(h1:H p=some (.lst as))(h2:as.length=rs.length)(h3:∀(i:Nat) (r:List V),rs[i]?=some r->∃a,as[i]?=some (V.ref a)/\H a=some (.tup r))(ha:H a=some (.tup r)) :
  uf (upd H p (.lst (as++[.ref a]))) p (rs++[r]):=by
 refine ⟨_,Za,by rw [Qac,Qac,h2];rfl,fun i q hq=>?_⟩
 by_cases e:i < rs.length
 ·rw [Qa2 e] at hq
  obtain ⟨b,g1,g2⟩:=h3 i q hq
  refine ⟨b,?_,by rw [Zo (XD g2 h1)];exact g2⟩
  rw [Qa2 (by lia)]
  exact g1
 ·rw [Qa0 (by lia)] at hq
  have ei:i - rs.length=0:=by
   have:=(Qah.mp hq).1
   simp only [Qaz,Qc3] at this
   lia
  rw [ei] at hq
  cases hq
  refine ⟨a,?_,by rw [Zo (XD ha h1)];exact ha⟩
  rw [Qa0 (by lia),h2,ei]
  rfl
theorem qA{α:Type}{f:Nat->α}{many i:Nat}(h:i < many):((List.range many).map f)[i]?=some (f i):=by
 rw [Qao,Qdn h]
 rfl
theorem ug(xs:List V)(k:Nat):J1 xs none (some (k:Int))=xs.take k:=WO xs k
theorem uh(xs:List V)(k:Nat):J1 xs (some (k:Int)) none=xs.drop k:=JR xs k
noncomputable def Yr(H:Hp)(zs:List V)(rs:List (List V)):Prop:=zs.length=rs.length/\∀(i:Nat) (r:List V),rs[i]?=some r->∃a,zs[i]?=some (V.ref a)/\H a=some (.tup r)
theorem Yr.same{H H':Hp}{zs:List V}{rs:List (List V)}(z:Yr H zs rs)(e:ZG H H'):Yr H' zs rs:=by
 refine ⟨z.1,fun i r hr=>?_⟩
 obtain ⟨a,g1,g2⟩:=z.2 i r hr
 exact ⟨a,g1,e _ _ g2⟩
theorem Yr.snoc{H:Hp}{zs:List V}{rs:List (List V)}{a:Addr}{r:List V}(z:Yr H zs rs)(h:H a=some (.tup r)):Yr H (zs++[.ref a]) (rs++[r]):=by
 refine ⟨by rw [Qac,Qac,z.1];rfl,fun i q hq=>?_⟩
 by_cases e:i < rs.length
 ·rw [Qa2 e] at hq
  rw [Qa2 (by rw [z.1];exact e)]
  exact z.2 i q hq
 ·rw [Qa0 (by lia)] at hq
  have ei:i - rs.length=0:=by
   have:=(Qah.mp hq).1
   simp only [Qaz,Qc3] at this
   lia
  rw [ei] at hq
  cases hq
  refine ⟨a,?_,h⟩
  rw [Qa0 (by rw [z.1];lia),z.1,ei]
  rfl
theorem Yr.nil{H:Hp}:Yr H [] []:=⟨rfl,fun i r hr=>by cases hr⟩
theorem Yr.at{H:Hp}{zs:List V}{rs:List (List V)}(z:Yr H zs rs){i:Nat}{v:V}(h:zs[i]?=some v):∃a r,v=V.ref a/\rs[i]?=some r/\H a=some (.tup r):=by
 have l:=(Qah.mp h).1
 rw [z.1] at l
 obtain ⟨a,g1,g2⟩:=z.2 i _ (Qaa l)
 exact ⟨a,_,Option.some.inj (h.symm.trans g1),Qaa l,g2⟩
noncomputable def nk(l:List Int):List (Key × V):=Wz (l.map (Sum.inl:Int->Key))
theorem uk{l:List Int}(h:l.Nodup):(l.map (Sum.inl:Int->Key)).Nodup:=by
 unfold List.Nodup
 rw [Qeo]
 exact List.Pairwise.imp (fun hne e=>hne (Sum.inl.inj e)) h
theorem yG{l:List Int}{s:Int}:(Sum.inl s:Key)∈l.map Sum.inl↔s∈l:=by
 constructor
 ·intro h
  obtain ⟨x,hx,e⟩:=Qa5.mp h
  rw [<-Sum.inl.inj e]
  exact hx
 ·exact fun h=>Qbi h
theorem um{l:List Int}{s:Int}(h:s∈l)(hn:l.Nodup):YW (nk l) (.inl s)=some (.int (l.idxOf s:Int)):=by
 have:=qR (l.map (Sum.inl:Int->Key)) (.inl s) (yG.mpr h) (uk hn)
 have e:=idx_map (β:=Key) Sum.inl (fun _ _=>Sum.inl.inj) s l
 rw [e] at this
 exact this
theorem Ze7{l:List Int}{s:Int}(h:s∉l):YW (nk l) (.inl s)=none:=zd _ _ fun z=>h (yG.mp z)
theorem nk_len(l:List Int):(nk l).length=l.length:=by
 unfold nk
 rw [j7,Qab]
theorem nk_put{l:List Int}{s:Int}(h:s∉l):putK (nk l) (.inl s) (.int (l.length:Int))=nk (l++[s]):=by
 unfold nk
 rw [Qbh]
 show _=Wz (l.map Sum.inl++[Sum.inl s])
 rw [zc,Qab]
 unfold putK
 rw [Qan fun z=>?_]
 rw [Qd8] at z
 obtain ⟨p,hp,e⟩:=z
 have:p.1∈(Wz (l.map (Sum.inl:Int->Key))).map (·.1):=Qbi hp
 rw [Gs,Qa9 e] at this
 exact h (yG.mp this)
theorem uo{H:Hp}{p:Addr}{rs:List (List V)}(R:qf H p rs):∃bs:List Addr,H p=some (.tup (bs.map V.ref))/\bs.length=rs.length/\∀(i:Nat) (r:List V) (b:Addr),rs[i]?=some r->bs[i]?=some b->H b=some (.tup r):=by
 obtain ⟨as,h1,h2,h3⟩:=R
 have go:∀(as:List V) (rs:List (List V)),as.length=rs.length->(∀(i:Nat) (r:List V),rs[i]?=some r->∃a,as[i]?=some (V.ref a)/\H a=some (.tup r))->∃bs:List Addr,as=bs.map V.ref/\∀(i:Nat) (r:List V) (b:Addr),rs[i]?=some r->bs[i]?=some b->H b=some (.tup r):=by
  intro as
  induction as with
  | nil =>
   intro rs hl _
   exact ⟨[],rfl,fun i r b _ hb=>by cases hb⟩
  | cons v r ih =>
   intro rs hl hh
   cases rs with
   | nil=>cases hl
   | cons x y =>
    obtain ⟨a,ha,hx⟩:=hh 0 x rfl
    obtain ⟨bs,e,hb⟩:=ih y (by simpa using hl) fun i r hi=>by
     obtain ⟨a,g1,g2⟩:=hh (i + 1) r (by simpa using hi)
     exact ⟨a,by simpa using g1,g2⟩
    refine ⟨a::bs,?_,fun i r b hr hbi=>?_⟩
    ·rw [Qa1,<-e]
     cases ha
     rfl
    ·cases i with
     | zero =>
      cases hr
      cases hbi
      exact hx
     | succ i=>exact hb i r b (by simpa using hr) (by simpa using hbi)
 obtain ⟨bs,e,hb⟩:=go as rs h2 h3
 subst e
 exact ⟨bs,h1,by rw [<-h2,Qab],hb⟩
noncomputable def Zf3(nx:List (List Nat))(l:List Nat)(i:Nat):List Nat:=(nx.getD (l.getD i 0) []).foldl Xe l
noncomputable def x5(nx:List (List Nat))(b:Nat):Nat->List Nat
 | 0=>[b]
 | i + 1=>Zf3 nx (x5 nx b i) i
structure BfsE(nx:List (List Nat))(b:Nat)(l:List Nat):Prop where
 e:l=x5 nx b l.length
 go:∀i,i < l.length->i < (x5 nx b i).length
theorem kq(r:List Nat):∀l:List Nat,l.Nodup->(r.foldl Xe l).Nodup:=by
 induction r with
 | nil=>exact fun l h=>h
 | cons k r ih=>exact fun l h=>ih _ (Jd h k)
theorem Zbe(r:List Nat){x:Nat}:∀l:List Nat,x∈r.foldl Xe l↔x∈l\/x∈r:=by
 induction r with
 | nil=>intro l;simp
 | cons k r ih =>
  intro l
  rw [Qc4,ih,qy,Qak,or_assoc]
theorem xb(nx:List (List Nat))(b:Nat):∀i,(x5 nx b i).Nodup
 | 0=>Qby.mpr ⟨Qa3,Qdm⟩
 | i + 1=>kq _ _ (xb nx b i)
theorem uq{nx:List (List Nat)}{b:Nat}(hb:b < nx.length)(hr:∀row∈nx,∀s∈row,s < nx.length):∀i,∀s∈x5 nx b i,s < nx.length
 | 0,s,h=>by rw [Qav.mp h];exact hb
 | i + 1,s,h=>by
  rcases (Zbe _ _).mp h with z | z
  ·exact uq hb hr i s z
  ·rw [Qal] at z
   cases q:nx[(x5 nx b i).getD i 0]? with
   | none=>rw [q] at z;cases z
   | some row=>rw [q] at z;exact hr row (Qam q) s z
theorem Ze8{nx:List (List Nat)}{b:Nat}(hb:b < nx.length)(hr:∀row∈nx,∀s∈row,s < nx.length)(i:Nat):(x5 nx b i).length<=nx.length:=by
 have:=Gu (l2:=List.range nx.length) (xb nx b i) fun x hx=>Qek.mpr (uq hb hr i x hx)
 rw [Qbp] at this
 exact this
noncomputable def trK(l:List Nat):List (Key × V):=l.map fun s:Nat=>((.inl (s:Int):Key),V.bl true)
theorem Ze9{l:List Nat}{s:Nat}(h:s∈l):YW (trK l) (.inl (s:Int))=some (.bl true):=by
 unfold trK YW
 cases q:(l.map fun s:Nat=>((.inl (s:Int):Key),V.bl true)).find? (fun kv=>decide (kv.1=.inl (s:Int))) with
 | none =>
  rw [Qdv] at q
  exact absurd (Qae rfl) (q ((.inl (s:Int):Key),V.bl true) (Qa5.mpr ⟨s,h,rfl⟩))
 | some x =>
  obtain ⟨a,_,rfl⟩:=Qa5.mp (List.mem_of_find?_eq_some q)
  rfl
theorem Zbf{l:List Nat}{s:Nat}(h:s∉l):YW (trK l) (.inl (s:Int))=none:=by
 unfold trK YW
 rw [Option.map_eq_none_iff,Qdv]
 intro x hx z
 obtain ⟨a,ha,rfl⟩:=Qa5.mp hx
 have e:(a:Int)=(s:Int):=Sum.inl.inj (Qa9 z)
 exact h (by rw [<-Int.ofNat.inj e];exact ha)
theorem Zfa{l:List Nat}{s:Nat}(h:s∉l):putK (trK l) (.inl (s:Int)) (.bl true)=trK (l++[s]):=by
 unfold putK
 rw [Qan fun z=>?_]
 ·unfold trK
  rw [Qbh]
  rfl
 ·rw [Qd8] at z
  obtain ⟨p,hp,e⟩:=z
  obtain ⟨a,ha,rfl⟩:=Qa5.mp hp
  have e:(a:Int)=(s:Int):=Sum.inl.inj (Qa9 e)
  exact h (by rw [<-Int.ofNat.inj e];exact ha)
theorem map_range{α β:Type}(l:List α)(i:Nat)(hl:l.length=i)(f:α->β)(g:Nat->β)(h:∀j a,l[j]?=some a->g j=f a):(List.range i).map g=l.map f:=by
 refine List.ext_getElem? fun j=>?_
 rw [Qao,Qao]
 by_cases hj:j < i
 ·rw [Qdn hj,Qaa (by lia)]
  exact congrArg some (h j _ (Qaa (by lia)))
 ·rw [List.getElem?_eq_none (by rw [Qbp];lia),List.getElem?_eq_none (by lia)]
  rfl
theorem Jf{H H':Hp}{zs:List V}{rs:List (List V)}(h:∀b xs,H b=some (.tup xs)->H' b=some (.tup xs))(z:Yr H zs rs):Yr H' zs rs:=⟨z.1,fun i r hr=>by
 obtain ⟨a,h1,h2⟩:=z.2 i r hr
 exact ⟨a,h1,h _ _ h2⟩⟩
inductive SK(κ:Type)[DecidableEq κ] where
 | int (f:κ->Int) (inj:∀a b,f a=f b->a=b)
 | key (kn:KN κ)
theorem JV{n:Nat}(h:n<=10000000):n < sizeLine:=Qdu h (by decide)
section
variable {κ:Type}[DecidableEq κ]
noncomputable def SK.at_:SK κ->Hp->κ->V->Prop
 | .int f _,_,k,v=>v=.int (f k)
 | .key kn,H,k,v=>∃a,v=.ref a/\kn.at_ H k a
noncomputable def SK.dic:SK κ->Hp->Addr->List κ->Prop
 | .int f _,H,d,l=>H d=some (.dK (nk (l.map f)))
 | .key kn,H,d,l=>yg kn H d (Wz l)
theorem SK.keep{sk:SK κ}{H H':Hp}{k:κ}{v:V}(h:sk.at_ H k v)(e:∀b xs,H b=some (.tup xs)->H' b=some (.tup xs)):sk.at_ H' k v:=by
 cases sk with
 | int f _=>exact h
 | key kn =>
  obtain ⟨a,rfl,ha⟩:=h
  exact ⟨a,rfl,kn.keep _ _ _ _ e ha⟩
theorem ur{kn:KN κ}{H:Hp}{d:Addr}{kvs:List (κ × V)}(n:yg kn H d kvs):∃o,H d=some o/\(∀xs,o≠.tup xs)/\∀xs,o≠.lst xs:=by
 rcases n.2.2 with ⟨_,e⟩ | ⟨ys,e,_⟩
 ·exact ⟨_,e,(fun _ z=>nomatch z),fun _ z=>nomatch z⟩
 ·exact ⟨_,e,(fun _ z=>nomatch z),fun _ z=>nomatch z⟩
theorem SK.ne{sk:SK κ}{H:Hp}{d:Addr}{l:List κ}(h:sk.dic H d l):∃o,H d=some o/\(∀xs,o≠.tup xs)/\∀xs,o≠.lst xs:=by
 cases sk with
 | int f _=>exact ⟨_,h,(fun _ z=>nomatch z),fun _ z=>nomatch z⟩
 | key kn=>exact ur h
theorem Zbg{kn:KN κ}{H H':Hp}{d:Addr}{kvs:List (κ × V)}(n:yg kn H d kvs)(hd:∀o,H d=some o->H' d=some o)(e:∀b xs,H b=some (.tup xs)->H' b=some (.tup xs)):yg kn H' d kvs:=by
 obtain ⟨n1,n2,n3⟩:=n
 refine ⟨n1,n2,?_⟩
 rcases n3 with ⟨e1,e2⟩ | ⟨ys,e1,e2⟩
 ·exact .inl ⟨e1,hd _ e2⟩
 ·exact .inr ⟨ys,hd _ e1,Paired.mapP e2 fun p q h=>⟨h.1,kn.keep _ _ _ _ e h.2.1,h.2.2⟩⟩
theorem SK.stay{sk:SK κ}{H H':Hp}{d:Addr}{l:List κ}(h:sk.dic H d l)(hd:∀o,H d=some o->H' d=some o)(e:∀b xs,H b=some (.tup xs)->H' b=some (.tup xs)):sk.dic H' d l:=by
 cases sk with
 | int f _=>exact hd _ h
 | key kn=>exact Zbg h hd e
theorem SK.off{sk:SK κ}{H:Hp}{d f:Addr}{l:List κ}{xs:List V}{o:HO}(h:sk.dic H d l)(e:H f=some (.lst xs)):sk.dic (upd H f o) d l:=by
 obtain ⟨u,hu,_,hl⟩:=SK.ne h
 have hdf:d≠f:=fun z=>by
  rw [z,e] at hu
  cases hu
  exact hl xs rfl
 exact SK.stay h (fun o e=>by rw [Zo hdf];exact e) fun b ys q=>by rw [Zo (XG q e fun z=>nomatch z)];exact q
noncomputable def StA(sk:SK κ)(H:Hp)(l:List κ)(vs:List V):Prop:=vs.length=l.length/\∀(i:Nat) (k:κ),l[i]?=some k->∃v,vs[i]?=some v/\sk.at_ H k v
theorem StA.keep{sk:SK κ}{H H':Hp}{l:List κ}{vs:List V}(h:StA sk H l vs)(e:∀b xs,H b=some (.tup xs)->H' b=some (.tup xs)):StA sk H' l vs:=⟨h.1,fun i k hk=>by
 obtain ⟨v,h1,h2⟩:=h.2 i k hk
 exact ⟨v,h1,SK.keep h2 e⟩⟩
theorem StA.snoc{sk:SK κ}{H:Hp}{l:List κ}{vs:List V}{k:κ}{v:V}(h:StA sk H l vs)(hv:sk.at_ H k v):StA sk H (l++[k]) (vs++[v]):=by
 refine ⟨by rw [Qac,Qac,h.1];rfl,fun i q hq=>?_⟩
 by_cases e:i < l.length
 ·rw [Qa2 e] at hq
  rw [Qa2 (by rw [h.1];exact e)]
  exact h.2 i q hq
 ·rw [Qa0 (by lia)] at hq
  have ei:i - l.length=0:=by
   have:=(Qah.mp hq).1
   simp only [Qaz,Qc3] at this
   lia
  rw [ei] at hq
  cases hq
  refine ⟨v,?_,hv⟩
  rw [Qa0 (by rw [h.1];lia),h.1,ei]
  rfl
theorem StA.one{sk:SK κ}{H:Hp}{k:κ}{v:V}(hv:sk.at_ H k v):StA sk H [k] [v]:=StA.snoc (l:=[]) (vs:=[]) ⟨rfl,fun i q hq=>by cases hq⟩ hv
noncomputable def bfS(nx:κ->List κ)(l:List κ)(i:Nat):List κ:=match l[i]? with
 | some s=>(nx s).foldl Xe l
 | none=>l
noncomputable def bfN(nx:κ->List κ)(b:κ):Nat->List κ
 | 0=>[b]
 | i + 1=>bfS nx (bfN nx b i) i
structure BfE(nx:κ->List κ)(b:κ)(l:List κ):Prop where
 e:l=bfN nx b l.length
 go:∀i,i < l.length->i < (bfN nx b i).length
theorem xc(r:List κ):∀l:List κ,l.Nodup->(r.foldl Xe l).Nodup:=by
 induction r with
 | nil=>exact fun l h=>h
 | cons k r ih=>exact fun l h=>ih _ (Jd h k)
theorem xf(r:List κ){x:κ}:∀l:List κ,x∈r.foldl Xe l↔x∈l\/x∈r:=by
 induction r with
 | nil=>intro l;simp
 | cons k r ih =>
  intro l
  rw [Qc4,ih,qy,Qak,or_assoc]
theorem uv(r:List κ):∀l:List κ,(r.foldl Xe l).length<=l.length + r.length:=by
 induction r with
 | nil=>exact fun l=>Qaj _
 | cons k r ih =>
  intro l
  have h1:=ih (Xe l k)
  have h2:=vk l k
  rw [Qc4,Qaz]
  lia
variable {nx:κ->List κ}{b:κ}
theorem JW:∀i,(bfN nx b i).Nodup
 | 0=>Qby.mpr ⟨Qa3,Qdm⟩
 | i + 1=>by
  show (bfS nx (bfN nx b i) i).Nodup
  unfold bfS
  split
  ·exact xc _ _ (JW i)
  ·exact JW i
theorem uw{U:List κ}(hb:b∈U)(hr:∀s∈U,∀x∈nx s,x∈U):∀i,∀s∈bfN nx b i,s∈U
 | 0,s,h=>by rw [Qav.mp h];exact hb
 | i + 1,s,h=>by
  have h:s∈bfS nx (bfN nx b i) i:=h
  unfold bfS at h
  split at h
  ·rename_i q hq
   rcases (xf _ _).mp h with z | z
   ·exact uw hb hr i s z
   ·exact hr q (uw hb hr i q (Qam hq)) s z
  ·exact uw hb hr i s h
theorem ux{U:List κ}(hb:b∈U)(hr:∀s∈U,∀x∈nx s,x∈U)(i:Nat):(bfN nx b i).length<=U.length:=Gu (JW i) (uw hb hr i)
theorem zM{i:Nat}{s:κ}(h:(bfN nx b i)[i]?=some s):bfN nx b (i + 1)=(nx s).foldl Xe (bfN nx b i):=by
 show bfS nx (bfN nx b i) i=_
 unfold bfS
 rw [h]
theorem v9(j:Nat):∀d,∃r,bfN nx b (j + d)=bfN nx b j++r
 | 0=>⟨[],(Qbc _).symm⟩
 | d + 1=>by
  obtain ⟨r,e⟩:=v9 j d
  show ∃r,bfS nx (bfN nx b (j + d)) (j + d)=_
  unfold bfS
  split
  ·obtain ⟨r2,e2⟩:=qz (nx _) (bfN nx b (j + d))
   exact ⟨r++r2,by rw [e2,e,Qb0]⟩
  ·exact ⟨r,e⟩
theorem Zg0{i j:Nat}{s:κ}(hj:j<=i)(hs:(bfN nx b j)[j]?=some s):(bfN nx b i)[j]?=some s:=by
 obtain ⟨r,e⟩:=v9 (nx:=nx) (b:=b) j (i - j)
 rw [show j + (i - j)=i by lia] at e
 rw [e,Qa2 (Qah.mp hs).1]
 exact hs
noncomputable def Zg1(nx:κ->List κ)(b:κ)(j:Nat):List Nat:=match (bfN nx b j)[j]? with
 | some s=>(nx s).map fun x=>(bfN nx b (j + 1)).idxOf x
 | none=>[]
noncomputable def xD(nx:κ->List κ)(b:κ)(i:Nat):List (List V):=(List.range i).map fun j=>ja (Zg1 nx b j)
noncomputable def Zha(nx:κ->List κ)(ot:κ->List V)(b:κ)(j:Nat):List V:=match (bfN nx b j)[j]? with
 | some s=>ot s
 | none=>[]
noncomputable def xE(nx:κ->List κ)(ot:κ->List V)(b:κ)(i:Nat):List (List V):=(List.range i).map (Zha nx ot b)
theorem kr{i:Nat}{s:κ}(h:(bfN nx b i)[i]?=some s):xD nx b (i + 1)=xD nx b i++[((nx s).map fun x=>Wj ((bfN nx b (i + 1)).idxOf x))]:=by
 unfold xD
 rw [Qex,Qbh]
 show _++[ja (Zg1 nx b i)]=_
 unfold Zg1 ja
 rw [h]
 show _++[List.map _ (List.map _ _)]=_
 rw [Qbn]
 rfl
theorem ku{ot:κ->List V}{i:Nat}{s:κ}(h:(bfN nx b i)[i]?=some s):xE nx ot b (i + 1)=xE nx ot b i++[ot s]:=by
 unfold xE
 rw [Qex,Qbh]
 show _++[Zha nx ot b i]=_
 unfold Zha
 rw [h]
noncomputable def rnG(nx:κ->List κ)(l:List κ):List (List Nat):=l.map fun s=>(nx s).map fun x=>l.idxOf x
theorem G4(nx:κ->List κ)(l:List κ):(rnG nx l).length=l.length:=Qab _
theorem yH{i j:Nat}{a:κ}(hl:(bfN nx b i).length=i)(hg:∀j,j < i->j < (bfN nx b j).length)(ha:(bfN nx b i)[j]?=some a):j < i/\(bfN nx b j)[j]?=some a:=by
 have hj:j < i:=by have:=(Qah.mp ha).1;lia
 refine ⟨hj,?_⟩
 have e:=Qaa (hg j hj)
 rw [Zg0 (Qaw hj) e] at ha
 rw [e]
 exact ha
theorem uy{i:Nat}(hl:(bfN nx b i).length=i)(hg:∀j,j < i->j < (bfN nx b j).length):xD nx b i=(rnG nx (bfN nx b i)).map ja:=by
 unfold xD rnG
 rw [Qbn]
 refine map_range _ i hl _ _ fun j a ha=>?_
 obtain ⟨hj,e⟩:=yH hl hg ha
 show ja (Zg1 nx b j)=ja _
 unfold Zg1
 rw [e]
 congr 1
 refine Qcd fun x hx=>?_
 obtain ⟨r,e2⟩:=v9 (nx:=nx) (b:=b) (j + 1) (i - (j + 1))
 rw [show j + 1 + (i - (j + 1))=i by lia] at e2
 rw [e2,gG]
 rw [zM e]
 exact (xf _ _).mpr (.inr hx)
theorem uz{ot:κ->List V}{i:Nat}(hl:(bfN nx b i).length=i)(hg:∀j,j < i->j < (bfN nx b j).length):xE nx ot b i=(bfN nx b i).map ot:=by
 unfold xE
 refine map_range _ i hl _ _ fun j a ha=>?_
 obtain ⟨hj,e⟩:=yH hl hg ha
 unfold Zha
 rw [e]
end
noncomputable def SqF(H1 H2:Hp)(r:Addr)(ws:List V):Prop:=H2 r=some (.tup ws)\/(H2 r=some (.lst ws)/\H1 r=none)
theorem Zbh{K:PySem.W.Frag}{tl:TE}{a:Addr}{xs:List V}{is:List Nat}{tc:TT}{te:TE}{σ:St}{H:Hp}{Q:VK}(htl:∀R:VK,R (.ref a) H->tl σ H R)(hx:H a=some (.tup xs)\/H a=some (.lst xs))(Pv:Nat->List V->Hp->Prop)(h0:Pv 0 [] H)(hl:∀i zs H,Pv i zs H->zs.length<=sizeLine)(hq:∀i zs H',Pv i zs H'->∀o,H a=some o->H' a=some o)
  (hs:∀i x zs H (R:List V->Hp->Prop),(∀zs H,Pv (i + 1) zs H->R zs H)->xs[i]?=some x->Pv i zs H->tc (qu is σ (some x)) H fun b H2=>if b=true then te (qu is σ (some x)) H2 fun y H3=>R (zs++[y]) H3 else R zs H2)
  (hd:∀zs H,Pv xs.length zs H->∀p,H p=none->Q (.ref p) (upd H p (.lst zs))):wk K tl σ H (z7 is tc te σ Q)\/iTup K tl σ H (z7 is tc te σ Q):=by
 rcases hx with hx | hx
 ·exact .inr (htl _ ⟨a,rfl,⟨_,SqT.of hx⟩,qw (K:=K) (a:=a) (xs:=xs) Pv h0 hl (fun i zs H' h=>SqT.of (hq i zs H' h _ hx)) hs hd⟩)
 ·exact .inl (htl _ ⟨a,rfl,⟨_,SqL.of hx⟩,JI (K:=K) (a:=a) (xs:=xs) Pv h0 hl (fun i zs H' h=>SqL.of (hq i zs H' h _ hx)) hs hd⟩)
noncomputable def J6:List V->List Int
 | []=>[]
 | .int z::r=>((Builtin.Int.intBits z:Nat):Int)::J6 r
 | _::r=>J6 r
theorem jM:∀ws:List V,(J6 ws).length<=ws.length
 | []=>Qaj _
 | w::r=>by
  have:=jM r
  cases w <;> simp only [J6,Qaz] <;> lia
theorem xg:∀(a b:List V),J6 (a++b)=J6 a++J6 b
 | [],_=>rfl
 | w::r,b=>by
  have:=xg r b
  cases w <;> simp only [J6,Qcz,this]
theorem xh{z:Int}:∀{ws:List V},V.int z∈ws->((Builtin.Int.intBits z:Nat):Int)∈J6 ws
 | w::r,h=>by
  rcases Qak.mp h with rfl | h
  ·exact Qaf
  ·have:=xh h
   cases w <;> simp only [J6] <;> first | exact this | exact Qag _ this
theorem vA{m:Int}:∀{ws:List V},m∈J6 ws->∃z:Int,V.int z∈ws/\m=((Builtin.Int.intBits z:Nat):Int)
 | w::r,h=>by
  have go:m∈J6 r->∃z:Int,V.int z∈w::r/\m=((Builtin.Int.intBits z:Nat):Int):=fun h=>let ⟨z,h1,h2⟩:=vA h;⟨z,Qag _ h1,h2⟩
  cases w with
  | int z =>
   rcases Qak.mp h with rfl | h
   ·exact ⟨z,Qaf,rfl⟩
   ·exact go h
  | _=>exact go h
theorem Zfb{z:Int}(h:0<=z):z < 2 ^ Builtin.Int.intBits z:=by
 unfold Builtin.Int.intBits
 split
 ·rename_i e
  rw [beq_iff_eq.mp e]
  decide
 ·obtain ⟨n,rfl⟩:=Int.eq_ofNat_of_zero_le h
  have:=Nat.lt_log2_self (n:=n)
  rw [show ((n:Int)).natAbs=n from rfl]
  exact_mod_cast this
theorem bits_le{z:Int}{B:Nat}(h:0<=z)(hz:z < 2 ^ B):Builtin.Int.intBits z<=B:=by
 unfold Builtin.Int.intBits
 split
 ·exact Qbg _
 ·rename_i e
  obtain ⟨n,rfl⟩:=Int.eq_ofNat_of_zero_le h
  have hn:n≠0:=fun q=>e (by rw [q];rfl)
  rw [show ((n:Int)).natAbs=n from rfl]
  have h2:n < 2 ^ B:=by exact_mod_cast hz
  exact (Nat.log2_lt hn).mpr h2
theorem Zc9:∀(bs:List Int) (l:Nat),(∀b∈bs,b=0\/b=1)->bt (hor bs.reverse) l=bs.getD l 0
 | [],l,_=>qW l
 | b::r,l,h=>by
  rw [Qce,v5]
  have hb:=h b Qaf
  cases l with
  | zero =>
   unfold bt
   rw [Qcs,Qbm]
   show _=b
   lia
  | succ l =>
   rw [Xh,show (hor r.reverse * 2 + b) / 2=hor r.reverse by lia,Zc9 r l fun b hb=>h b (Qag _ hb)]
   rfl
noncomputable def Xd(L:Nat)(ys:List Str)(y:Str):Int:=hor ((List.range L).map fun l:Nat=>bt (l:Int) (ys.idxOf y)).reverse
theorem xi{κ:Type}[DecidableEq κ]{l:List κ}{i:Nat}{x:κ}(hn:l.Nodup)(h:l[i]?=some x):l.idxOf x=i:=by
 obtain ⟨hi,rfl⟩:=Qah.mp h
 exact hn.idxOf_getElem i hi
theorem Zbi{L:Nat}{ys:List Str}{i l:Nat}{y:Str}(hn:ys.Nodup)(h:ys[i]?=some y)(hl:l < L):bt (Xd L ys y) l=bt (l:Int) i:=by
 unfold Xd
 rw [xi hn h,Zc9 _ _ fun b hb=>by
  obtain ⟨c,_,rfl⟩:=Qa5.mp hb
  exact YQ _ _]
 rw [Qal,Qao,Qdn hl]
 rfl
noncomputable def lgB:List V->Nat
 | []=>0
 | .int z::r=>max (Builtin.Int.intBits z) (lgB r)
 | _::r=>lgB r
theorem uA{z:Int}:∀{ws:List V},V.int z∈ws->Builtin.Int.intBits z<=lgB ws
 | w::r,h=>by
  rcases Qak.mp h with rfl | h
  ·exact Nat.le_max_left _ _
  ·have:=uA h
   cases w <;> simp only [lgB] <;> lia
theorem uB:∀ws:List V,lgB ws=0\/∃z:Int,V.int z∈ws/\lgB ws=Builtin.Int.intBits z
 | []=>.inl rfl
 | w::r=>by
  have go:(lgB (w::r)=lgB r)->lgB (w::r)=0\/∃z:Int,V.int z∈w::r/\lgB (w::r)=Builtin.Int.intBits z:=fun e=>by
   rw [e]
   rcases uB r with h | ⟨z,h1,h2⟩
   ·exact .inl h
   ·exact .inr ⟨z,Qag _ h1,h2⟩
  cases w with
  | int z =>
   by_cases h:lgB r<=Builtin.Int.intBits z
   ·exact .inr ⟨z,Qaf,Nat.max_eq_left h⟩
   ·exact go (Nat.max_eq_right (by lia))
  | _=>exact go rfl
theorem Zda{ws:List V}{L:Nat}(h1:∀z:Int,V.int z∈ws->Builtin.Int.intBits z<=L)(h2:L=0\/∃z:Int,V.int z∈ws/\L=Builtin.Int.intBits z):L=lgB ws:=by
 refine Nat.le_antisymm ?_ ?_
 ·rcases h2 with h | ⟨z,hz,h⟩
  ·lia
  ·rw [h]
   exact uA hz
 ·rcases uB ws with h | ⟨z,hz,h⟩
  ·lia
  ·rw [h]
   exact h1 z hz
noncomputable def Y8(ws:List V):Nat:=(ws.filter fun w=>inV w (allR.map V.str)).length
noncomputable def Zf4(nm:List Str)(cols:Str->Int)(ws:List V)(s:Int × List Int):List Int × List Int:=XU nm cols s.1.toNat s.2 ws
noncomputable def nxT(nm:List Str)(cols:Str->Int)(ws:List V)(L:Nat)(s:Int × List Int):List (Int × List Int):=(List.range (2 ^ nm.length)).map fun l=>(min (s.1 + 1) (L:Int),(Zf4 nm cols ws s).2.map fun c=>bt c l)
noncomputable def otT(nm:List Str)(cols:Str->Int)(ws:List V)(o0 o1:V)(s:Int × List Int):List V:=(List.range (2 ^ nm.length)).map fun l=>if bt ((Zf4 nm cols ws s).1.getD 0 0) l=1 then o1 else o0
noncomputable def Zf5(pw:Addr)(H H':Hp):Prop:=∀b o,H b=some o->b≠pw->H' b=some o
noncomputable def Zfc(H:Hp)(k:Int × List Int)(a:Addr):Prop:=∃t,H a=some (.tup [.int k.1,.ref t])/\H t=some (.tup (k.2.map V.int))
theorem Zfc.bits{H:Hp}{k:Int × List Int}{a:Addr}(h:Zfc H k a):Zcw H k a:=by
 obtain ⟨t,h1,h2⟩:=h
 refine ⟨t,h1,_,h2,?_⟩
 rw [Qbn]
 rfl
noncomputable def knQ:KN (Int × List Int) where
 knd:=knP.knd
 hsh:=knP.hsh
 at_:=Zfc
 hash_eq:=knP.hash_eq
 ok:=fun P w H h k a ok b=>knP.ok P w H h k a ok b.bits
 room:=knP.room
 room0:=knP.room0
 keep:=fun H H' k a hk ⟨t,e,e2⟩=>⟨t,hk _ _ e,hk _ _ e2⟩
noncomputable def G5:Nat->List (List Int)
 | 0=>[[]]
 | n + 1=>(G5 n).map (List.cons 0)++(G5 n).map (List.cons 1)
theorem jN:∀n,(G5 n).length=2 ^ n
 | 0=>rfl
 | n + 1=>by
  show ((G5 n).map (List.cons 0)++(G5 n).map (List.cons 1)).length=_
  rw [Qac,Qab,Qab,jN n,Nat.pow_succ]
  lia
theorem X0:∀{n:Nat} {ks:List Int},ks∈G5 n↔ks.length=n/\∀x∈ks,x=0\/x=1
 | 0,ks=>by
  constructor
  ·intro h
   rw [Qav.mp h]
   exact ⟨rfl,fun x hx=>by cases hx⟩
  ·rintro ⟨h,_⟩
   rw [Qda h]
   exact Qav.mpr rfl
 | n + 1,ks=>by
  show ks∈(G5 n).map (List.cons 0)++(G5 n).map (List.cons 1)↔_
  rw [Qa6,Qa5,Qa5]
  constructor
  ·rintro (⟨r,hr,rfl⟩ | ⟨r,hr,rfl⟩)
   ·obtain ⟨h1,h2⟩:=X0.mp hr
    refine ⟨by rw [Qaz,h1],fun x hx=>?_⟩
    rcases Qak.mp hx with rfl | hx
    ·exact .inl rfl
    ·exact h2 x hx
   ·obtain ⟨h1,h2⟩:=X0.mp hr
    refine ⟨by rw [Qaz,h1],fun x hx=>?_⟩
    rcases Qak.mp hx with rfl | hx
    ·exact .inr rfl
    ·exact h2 x hx
  ·rintro ⟨h1,h2⟩
   cases ks with
   | nil=>cases h1
   | cons x r =>
    have hr:r∈G5 n:=X0.mpr ⟨by simpa using h1,fun y hy=>h2 y (Qag _ hy)⟩
    rcases h2 x Qaf with rfl | rfl
    ·exact .inl ⟨r,hr,rfl⟩
    ·exact .inr ⟨r,hr,rfl⟩
noncomputable def uni(kc:Nat):Nat->List (Int × List Int)
 | 0=>[]
 | n + 1=>uni kc n++(G5 kc).map fun ks=>((n:Int),ks)
theorem zN(kc:Nat):∀n,(uni kc n).length=n * 2 ^ kc
 | 0=>by rw [Nat.zero_mul];rfl
 | n + 1=>by
  show (uni kc n++(G5 kc).map _).length=_
  rw [Qac,Qab,zN kc n,jN,Nat.succ_mul]
theorem J7{kc:Nat}{s:Int × List Int}:∀{n:Nat},s∈uni kc n↔∃p:Nat,p < n/\s.1=(p:Int)/\s.2∈G5 kc
 | 0=>⟨(fun h=>nomatch h),fun ⟨p,h,_⟩=>absurd h (Qeh _)⟩
 | n + 1=>by
  show s∈uni kc n++(G5 kc).map (fun ks=>((n:Int),ks))↔_
  rw [Qa6,J7,Qa5]
  constructor
  ·rintro (⟨p,h1,h2⟩ | ⟨ks,h1,rfl⟩)
   ·exact ⟨p,by lia,h2⟩
   ·exact ⟨n,by lia,rfl,h1⟩
  ·rintro ⟨p,h1,h2,h3⟩
   by_cases e:p < n
   ·exact .inl ⟨p,e,h2,h3⟩
   ·have e:p=n:=by lia
    subst e
    exact .inr ⟨s.2,h3,by rw [<-h2]⟩
theorem XO(w:V)(r:List V):Y8 (w::r)=Y8 r + if inV w (allR.map V.str)=true then 1 else 0:=by
 unfold Y8
 rw [Qcl]
 split <;> rfl
theorem zP{ys:List Str}{cols:Str->Int}{pl:Nat}{kp:List Int}:∀ws:List V,(∀w∈ws,jG ys w)->(XU ys cols pl kp ws).2.length=Y8 ws
 | [],_=>rfl
 | w::r,hw=>by
  have ih:=zP (ys:=ys) (cols:=cols) (pl:=pl) (kp:=kp) r fun w h=>hw w (Qag _ h)
  rw [XO]
  rcases hw w Qaf with ⟨y,rfl,h1,_⟩ | ⟨y,rfl,h1,h2,h3,_⟩ | ⟨y,rfl,h1,h2,_⟩ | ⟨z,rfl,_⟩
  ·show (if y∈allR then _ else _:List Int × List Int).2.length=_
   rw [Qau h1,Z2,Qae h1,Qau rfl,Qac,ih]
   rfl
  ·show (if y∈allR then _ else if y∈ys then _ else _:List Int × List Int).2.length=_
   rw [Qan h2,Qan h3,Z2,Qad h2,Qan (by decide)]
   exact ih
  ·show (if y∈allR then _ else if y∈ys then _ else _:List Int × List Int).2.length=_
   rw [Qan h2,Qau h1,Z2,Qad h2,Qan (by decide)]
   exact ih
  ·rw [G1,Qan (by decide)]
   exact ih
theorem zQ{nm:List Str}{cols:Str->Int}{ws:List V}{L kc:Nat}(hw:∀w∈ws,jG nm w)(hk:kc=Y8 ws){s:Int × List Int}(hs:s∈uni kc (L + 1)):∀x∈nxT nm cols ws L s,x∈uni kc (L + 1):=by
 intro x hx
 obtain ⟨l,_,rfl⟩:=Qa5.mp hx
 obtain ⟨p,h1,h2,h3⟩:=J7.mp hs
 refine J7.mpr ⟨min (p + 1) L,by lia,?_,X0.mpr ⟨?_,fun b hb=>?_⟩⟩
 ·show min (s.1 + 1) (L:Int)=_
  rw [h2]
  lia
 ·rw [Qab,hk]
  exact zP ws hw
 ·obtain ⟨c,_,rfl⟩:=Qa5.mp hb
  exact YQ c l
theorem kx{cs:List Addr}{H H':Hp}(s:ZG (hide cs H) H')(hn:∀c∈cs,H' c=none):ZG H (JM cs H H')/\(∀t o,H' t=some o->JM cs H H' t=some o)/\∀t o,H' t=some o->hide cs H t=none->H t=none:=by
 have m:∀t o,H' t=some o->t∉cs:=fun t o e m=>by rw [hn t m] at e;cases e
 refine ⟨fun b o e=>?_,fun t o e=>by rw [YB (m t o e)];exact e,fun t o e h=>by rw [ZV (m t o e)] at h;exact h⟩
 by_cases mb:b∈cs
 ·rw [JN mb]
  exact e
 ·rw [YB mb]
  exact s _ _ (by rw [ZV mb];exact e)
theorem Jg{H H':Hp}{p:Addr}{rs:List (List V)}(R:qf H p rs)(e:∀b xs,H b=some (.tup xs)->H' b=some (.tup xs)):qf H' p rs:=by
 obtain ⟨as,h1,h2,h3⟩:=R
 refine ⟨as,e _ _ h1,h2,fun i r hi=>?_⟩
 obtain ⟨a,g1,g2⟩:=h3 i r hi
 exact ⟨a,g1,e _ _ g2⟩
theorem uC{ws:List V}{B:Nat}(hB:∀z:Int,V.int z∈ws->0<=z/\z < 2 ^ B):lgB ws<=B:=by
 rcases uB ws with h | ⟨z,hz,h⟩
 ·lia
 ·rw [h]
  exact bits_le (hB z hz).1 (hB z hz).2
theorem lgB_lt{ws:List V}{z:Int}(h:V.int z∈ws)(h0:0<=z):z < 2 ^ lgB ws:=Int.lt_of_lt_of_le (Zfb h0) (gQ (uA h))
noncomputable def yI(ws:List V):Prop:=∀r,Gk (ws++r)=Gk r + 1/\(Xi r->Xi (ws++r))
theorem zj:∀(ps:List (List V)),(∀p∈ps,yI p)->∀r,Gk (ps.flatten++r)=Gk r + ps.length/\(Xi r->Xi (ps.flatten++r))
 | [],_,r=>⟨rfl,fun h=>h⟩
 | p::ps,h,r=>by
  obtain ⟨h1,h2⟩:=zj ps (fun q hq=>h q (Qag _ hq)) r
  obtain ⟨g1,g2⟩:=h p Qaf (ps.flatten++r)
  rw [Qbj,Qb0,g1,h1,Qaz]
  exact ⟨by lia,fun z=>g2 (h2 z)⟩
theorem zk{w:V}{ps:List (List V)}(hn:npw w=ps.length)(h:∀p∈ps,yI p):yI (w::ps.flatten):=fun r=>by
 obtain ⟨h1,h2⟩:=zj ps h r
 constructor
 ·show Gk (ps.flatten++r) - npw w + 1=_
  rw [h1,hn]
  lia
 ·intro z
  exact ⟨by show npw w<=Gk (ps.flatten++r);rw [h1,hn];lia,h2 z⟩
theorem ky{w:V}(h:npw w=0):yI [w]:=zk (ps:=[]) h fun p hp=>by cases hp
theorem yI.one{ws:List V}(h:yI ws):Xi ws/\Gk ws=1:=by
 have:=h []
 rw [Qbc] at this
 exact ⟨this.2 trivial,this.1⟩
theorem vC{y:Str}(h:y∉YL):npw (.str y)=0:=by
 have k:∀p∈T1++T2++T3,p.1∈YL:=by decide +kernel
 unfold npw X7
 show (J4 T1 (.inr y) + J4 T2 (.inr y) + J4 T3 (.inr y)).toNat=0
 have n:∀l:List (Str × Int),(∀p∈l,p∈T1++T2++T3)->y∉l.map (·.1):=fun l hl z=>by
  obtain ⟨p,hp,e⟩:=Qa5.mp z
  exact h (by rw [<-e];exact k p (hl p hp))
 rw [qS (n T1 fun p hp=>by simp [hp]),qS (n T2 fun p hp=>by simp [hp]),qS (n T3 fun p hp=>by simp [hp])]
 rfl
theorem uD(z:Int):npw (.int z)=0:=by
 have k:∀l:List (Str × Int),J4 l (.inl z)=0:=fun l=>by
  induction l with
  | nil=>rfl
  | cons p r ih =>
   unfold J4
   rw [Qan (fun e=>nomatch e)]
   exact ih
 unfold npw X7
 show (J4 T1 (.inl z) + J4 T2 (.inl z) + J4 T3 (.inl z)).toNat=0
 rw [k,k,k]
 rfl
theorem Zfd:∀y∈Gy,npw (.str y)=Yq y/\y∈YL:=by decide +kernel
theorem Zbj:∀y∈GN,y∈YL:=by decide +kernel
theorem qB:∀y∈allR,y∈YL:=by decide +kernel
theorem uE{ys:List Str}{w:V}(hy:∀y∈ys,y∉YL)(h:jB ys w):J5 ys 10 w/\npw w=0/\inV w (allR.map V.str)=false:=by
 rcases h with ⟨y,h1,rfl⟩ | ⟨z,rfl,h0,h1⟩
 ·refine ⟨.inr (.inl ⟨y,rfl,h1,fun z=>hy y h1 (Zbj y z),vC (hy y h1)⟩),vC (hy y h1),?_⟩
  rw [Z2]
  exact Qad fun z=>hy y h1 (qB y z)
 ·exact ⟨.inr (.inr ⟨z,rfl,h0,by lia,uD z⟩),uD z,G1 z _⟩
theorem zR{ys:List Str}{y:Str}(hy:∀y∈ys,y∉YL)(h:y∈Gy):J5 ys 10 (.str y)/\npw (.str y)=Yq y/\inV (.str y) (allR.map V.str)=decide (y∈GN):=by
 obtain ⟨h1,h2⟩:=Zfd y h
 refine ⟨.inl ⟨y,rfl,h,fun z=>hy y z h2,h1⟩,h1,?_⟩
 rw [Z2,Qdc,Qdz,Qdz]
 exact zK y h
theorem Xj(a b:List V):Y8 (a++b)=Y8 a + Y8 b:=by
 unfold Y8
 rw [Qdb,Qac]
theorem vD:∀y∈Gy,y∉allR->y∈ua/\npw (.str y)=gY y:=by decide +kernel
theorem Zfe:∀y∈allR,y∈Gy->1<=npw (.str y)/\(y∈Ze3->2<=npw (.str y)):=by decide +kernel
theorem Zbk{ys:List Str}{B:Nat}{w:V}(hy:∀y∈ys,y∉YL)(h:J5 ys B w):jG ys w:=by
 rcases h with ⟨y,rfl,h1,h2,h3⟩ | ⟨y,rfl,h1,h2,h3⟩ | ⟨z,rfl,h0,_,h3⟩
 ·by_cases ha:y∈allR
  ·exact .inl ⟨y,rfl,ha,h2,Zfe y ha h1⟩
  ·exact .inr (.inl ⟨y,rfl,(vD y h1 ha).1,ha,h2,(vD y h1 ha).2⟩)
 ·exact .inr (.inr (.inl ⟨y,rfl,h1,fun z=>hy y h1 (qB y z),h3⟩))
 ·exact .inr (.inr (.inr ⟨z,rfl,h0,h3⟩))
noncomputable def yJ(ys:List Str)(pss:List (List V)):Prop:=∀ps∈pss,yI ps/\∀w∈ps,J5 ys 10 w
theorem yJ.word{ys:List Str}{pss:List (List V)}{y:Str}{n:Nat}(hy:∀y∈ys,y∉YL)(g:yJ ys pss)(h:y∈Gy)(hn:Yq y=n)(hl:n<=pss.length):yJ ys (pss.take (pss.length - n)++[.str y::(pss.drop (pss.length - n)).flatten]):=by
 obtain ⟨w1,w2,w3⟩:=zR hy h
 intro ps hp
 rcases Qa6.mp hp with hp | hp
 ·exact g ps (Qcj hp)
 ·rw [Qav.mp hp]
  refine ⟨zk (by rw [w2,hn,Qbd];lia) fun p hp=>(g p (Qb5 hp)).1,fun w hw=>?_⟩
  rcases Qak.mp hw with rfl | hw
  ·exact w1
  ·obtain ⟨p,hp,hw⟩:=List.mem_flatten.mp hw
   exact (g p (Qb5 hp)).2 w hw
theorem xj(pss:List (List V))(w:V)(n:Nat):(pss.take n++[w::(pss.drop n).flatten]).flatten.length=pss.flatten.length + 1/\Y8 (pss.take n++[w::(pss.drop n).flatten]).flatten=Y8 pss.flatten + if inV w (allR.map V.str)=true then 1 else 0:=by
 have e:pss.flatten=(pss.take n).flatten++(pss.drop n).flatten:=by rw [<-Qbq,Qbo]
 rw [Qbq,Qbj,Qc0,Qbc,e]
 constructor
 ·simp only [Qac,Qaz]
  lia
 ·rw [Xj,Xj,XO]
  lia
theorem Yr.take{H:Hp}{zs:List V}{rs:List (List V)}(z:Yr H zs rs)(n:Nat):Yr H (zs.take n) (rs.take n):=by
 refine ⟨by rw [Qar,Qar,z.1],fun i r hr=>?_⟩
 rw [List.getElem?_take] at hr ⊢
 split at hr
 ·rename_i lt
  rw [Qau lt]
  exact z.2 i r hr
 ·cases hr
theorem Yr.drop{H:Hp}{zs:List V}{rs:List (List V)}(z:Yr H zs rs)(n:Nat):Yr H (zs.drop n) (rs.drop n):=by
 refine ⟨by rw [Qbd,Qbd,z.1],fun i r hr=>?_⟩
 rw [List.getElem?_drop] at hr ⊢
 exact z.2 _ r hr
theorem qC{α:Type}{xs:List α}{n j:Nat}{v:α}(h:xs[j]?=some v)(hn:j + n=xs.length)(h1:1<=n):atI xs (-(n:Int))=some v:=by
 unfold atI ixN
 rw [Qan (by lia),Qau (by lia)]
 show xs[(-(n:Int) + (xs.length:Int)).toNat]?=_
 rw [show (-(n:Int) + (xs.length:Int)).toNat=j by lia]
 exact h
theorem jO{xs:List V}{n:Nat}(hn:n<=xs.length)(h1:1<=n):J1 xs none (some (-(n:Int)))=xs.take (xs.length - n):=by
 unfold J1
 simp only [HT.sIx]
 rw [Qau (by lia),show (-(n:Int) + (xs.length:Int)).toNat=xs.length - n by lia]
 simp
noncomputable def x6(ls:List Nat)(ys:List Str)(y:Str):Int:=sm (fun k=>bt ((ls.getD k 0:Nat):Int) (ys.idxOf y)) ls.length
theorem Zff(ls:List Nat)(ys:List Str)(y:Str):0<=x6 ls ys y/\x6 ls ys y < 2 ^ ls.length:=q9 (fun _=>YQ _ _) _
theorem Zfg{ls:List Nat}{ys:List Str}{i k l:Nat}{y:Str}(hn:ys.Nodup)(h:ys[i]?=some y)(hk:ls[k]?=some l):bt (x6 ls ys y) k=bt (l:Int) i:=by
 unfold x6
 rw [xi hn h]
 have:=ud (b:=fun k=>bt ((ls.getD k 0:Nat):Int) i) (fun _=>YQ _ _) k ls.length (Qah.mp hk).1
 rw [Qal,hk] at this
 exact this
structure Runs(nx:List (List Nat))(ot:List (List V))(n:Nat):Prop where
 pos:0 < nx.length
 ol:ot.length=nx.length
 nr:∀r∈nx,r.length=2 ^ n
 nl:∀r∈nx,∀s∈r,s < nx.length
 or:∀r∈ot,r.length=2 ^ n
noncomputable def stN(nx:List (List Nat)):Nat->List Nat->Nat
 | s,[]=>s
 | s,c::r=>stN nx ((nx.getD s []).getD c 0) r
noncomputable def rnO(nx:List (List Nat))(ot:List (List V)):Nat->List Nat->List V
 | _,[]=>[]
 | s,c::r=>(ot.getD s []).getD c .non::rnO nx ot ((nx.getD s []).getD c 0) r
theorem zS(nx:List (List Nat)):∀(s:Nat) (ls:List Nat) (c:Nat),stN nx s (ls++[c])=(nx.getD (stN nx s ls) []).getD c 0
 | _,[],_=>rfl
 | s,d::r,c=>zS nx ((nx.getD s []).getD d 0) r c
theorem vE(nx:List (List Nat))(ot:List (List V)):∀(s:Nat) (ls:List Nat) (c:Nat),rnO nx ot s (ls++[c])=rnO nx ot s ls++[(ot.getD (stN nx s ls) []).getD c .non]
 | _,[],_=>rfl
 | s,d::r,c=>congrArg (List.cons _) (vE nx ot ((nx.getD s []).getD d 0) r c)
theorem uF(nx:List (List Nat))(ot:List (List V)):∀(s:Nat) (ls:List Nat),(rnO nx ot s ls).length=ls.length
 | _,[]=>rfl
 | s,d::r=>congrArg Nat.succ (uF nx ot _ r)
theorem getD_at{α:Type}{l:List α}{i:Nat}{d:α}(h:i < l.length):l[i]?=some (l.getD i d):=by rw [Qal,Qaa h];rfl
theorem xk{ys:List Str}{B:Nat}(hy:∀y∈ys,y∉YL):∀{ws:List V},(∀w∈ws,J5 ys B w)->Y8 ws=(ws.filter jF).length
 | [],_=>rfl
 | w::r,h=>by
  rw [XO,xk hy (fun v hv=>h v (Qag _ hv)),Qcl]
  have e:inV w (allR.map V.str)=jF w:=by
   rcases h w Qaf with ⟨y,rfl,h1,_⟩ | ⟨y,rfl,h1,h2,_⟩ | ⟨z,rfl,_⟩
   ·rw [Z2]
    show decide _=decide _
    rw [Qdc,Qdz,Qdz]
    exact zK y h1
   ·rw [Z2,Qad fun z=>hy y h1 (qB y z)]
    exact (Qad h2).symm
   ·exact G1 z _
  rw [e]
  split <;> rfl
section
variable {κ:Type}[DecidableEq κ]{nx:κ->List κ}{b:κ}{l:List κ}
theorem zT{x:κ}(h:x∈l):l[l.idxOf x]?=some x:=by
 have hl:=Qdf h
 rw [Qaa hl,List.getElem_idxOf hl]
theorem BfE.len(B:BfE nx b l):(bfN nx b l.length).length=l.length:=by rw [<-B.e]
theorem BfE.here(B:BfE nx b l){j:Nat}{s:κ}(h:l[j]?=some s):j < l.length/\(bfN nx b j)[j]?=some s:=yH B.len B.go (by rw [<-B.e];exact h)
theorem BfE.sub(B:BfE nx b l){j:Nat}(hj:j<=l.length){x:κ}(h:x∈bfN nx b j):x∈l:=by
 obtain ⟨r,e⟩:=v9 (nx:=nx) (b:=b) j (l.length - j)
 rw [show j + (l.length - j)=l.length by lia,<-B.e] at e
 rw [e]
 exact Qcu _ h
theorem BfE.begin(B:BfE nx b l):l[0]?=some b/\b∈l:=by
 have hb:b∈l:=B.sub (Qbg _) (show b∈[b] from Qav.mpr rfl)
 have hl:0 < l.length:=Qd1 hb
 have e:=Zg0 (nx:=nx) (b:=b) (i:=l.length) (j:=0) (Qbg _) (s:=b) rfl
 rw [<-B.e] at e
 exact ⟨e,hb⟩
theorem BfE.next(B:BfE nx b l){s x:κ}(h:s∈l)(hx:x∈nx s):x∈l:=by
 obtain ⟨j,hj⟩:=Qdi.mp h
 obtain ⟨h1,h2⟩:=B.here hj
 refine B.sub (j:=j + 1) h1 ?_
 rw [zM h2]
 exact (xf _ _).mpr (.inr hx)
theorem BfE.nodup(B:BfE nx b l):l.Nodup:=by
 rw [B.e]
 exact JW _
noncomputable def ixG(l:List κ)(x:κ):Nat:=l.idxOf x
theorem BfE.zero(B:BfE nx b l):ixG l b=0:=xi B.nodup B.begin.1
theorem BfE.uniq{l':List κ}(B:BfE nx b l)(B':BfE nx b l'):l=l':=by
 have h1:¬l.length < l'.length:=fun h=>by
  have:=B'.go _ h
  rw [<-B.e] at this
  lia
 have h2:¬l'.length < l.length:=fun h=>by
  have:=B.go _ h
  rw [<-B'.e] at this
  lia
 rw [B.e,B'.e,show l.length=l'.length by lia]
theorem Zdb(h:∀s∈l,∀x∈nx s,x∈l){s:κ}(hs:s∈l):(rnG nx l).getD (ixG l s) []=(nx s).map fun x=>ixG l x:=by
 unfold rnG ixG
 rw [Qal,Qao,zT hs]
 rfl
theorem Zfh{ot:κ->List V}{s:κ}(hs:s∈l):(l.map ot).getD (ixG l s) []=ot s:=by
 unfold ixG
 rw [Qal,Qao,zT hs]
 rfl
end
theorem vF{H:Hp}{p q:Addr}{rs:List (List V)}(R:qf H p rs)(S:qf H q rs)(hf:∀r∈rs,∀v∈r,Xc v=true):EqD H 3 (.ref p) (.ref q):=by
 obtain ⟨as,h1,h2,h3⟩:=R
 obtain ⟨bs,g1,g2,g3⟩:=S
 refine .inr ⟨p,q,as,bs,rfl,rfl,h1,g1,by lia,fun j u v hu hv=>?_⟩
 obtain ⟨r,hr⟩:∃r,rs[j]?=some r:=⟨_,Qaa (by rw [<-h2];exact (Qah.mp hu).1)⟩
 obtain ⟨a,e1,e2⟩:=h3 j r hr
 obtain ⟨c,e3,e4⟩:=g3 j r hr
 rw [hu] at e1
 rw [hv] at e3
 cases e1
 cases e3
 refine .inr ⟨a,c,r,r,rfl,rfl,e2,e4,rfl,fun i x y hx hy=>?_⟩
 rw [hx] at hy
 cases hy
 exact .inl ⟨hf r (Qam hr) x (Qam hx),rfl⟩
theorem uG{tr:Bool}{v:V}(h:Zc7 tr v):Xc v=true:=by
 rcases h with ⟨_,x,rfl⟩ | ⟨_,x,rfl⟩ <;> rfl
theorem m4_eqD{H:Hp}{a c:Addr}{nm:List Str}{b:Nat}{nx:List (List Nat)}{ot:List (List V)}(M:M4 H a nm b nx ot)(N:M4 H c nm b nx ot)(ho:∀r∈ot,∀v∈r,Xc v=true) :
  ∃xs ys,H a=some (.tup xs)/\H c=some (.tup ys)/\xs.length=ys.length/\∀(j:Nat) (u v:V),xs[j]?=some u->ys[j]?=some v->EqD H 3 u v:=by
 obtain ⟨pn,ps,po,h1,h2,h3,h4⟩:=M.ex
 obtain ⟨qn,qs,qo,g1,g2,g3,g4⟩:=N.ex
 refine ⟨_,_,h1,g1,rfl,fun j u v hu hv=>?_⟩
 match j,hu,hv with
 | 0,hu,hv =>
  cases hu
  cases hv
  refine .inr ⟨pn,qn,_,_,rfl,rfl,h2,g2,rfl,fun i x y hx hy=>?_⟩
  rw [hx] at hy
  cases hy
  rw [Qao] at hx
  obtain ⟨z,_,rfl⟩:=Qco.mp hx
  exact .inl ⟨rfl,rfl⟩
 | 1,hu,hv =>
  cases hu
  cases hv
  exact .inl ⟨rfl,rfl⟩
 | 2,hu,hv =>
  cases hu
  cases hv
  refine vF h3 g3 fun r hr v hv=>?_
  obtain ⟨r',_,rfl⟩:=Qa5.mp hr
  obtain ⟨z,_,rfl⟩:=Qa5.mp hv
  rfl
 | 3,hu,hv =>
  cases hu
  cases hv
  exact vF h4 g4 ho
 | j + 4,hu,hv=>cases hu
noncomputable abbrev nxS(nm:List Str)(ws:List V):Int × List Int->List (Int × List Int):=nxT nm (Xd (2 ^ nm.length) nm) ws (lgB ws)
theorem Zfi(nm:List Str)(cols:Str->Int)(ws:List V)(L:Nat)(s:Int × List Int):(nxT nm cols ws L s).length=2 ^ nm.length:=by
 unfold nxT
 rw [Qab,Qbp]
theorem Zfj(nm:List Str)(cols:Str->Int)(ws:List V)(o0 o1:V)(s:Int × List Int):(otT nm cols ws o0 o1 s).length=2 ^ nm.length:=by
 unfold otT
 rw [Qab,Qbp]
section
variable {κ:Type}[DecidableEq κ]{nx:κ->List κ}{b:κ}{l:List κ}
theorem Zfk(B:BfE nx b l){n:Nat}(hn:∀s,(nx s).length=n):(∀r∈rnG nx l,r.length=n)/\∀r∈rnG nx l,∀s∈r,s < (rnG nx l).length:=by
 constructor
 ·intro r hr
  obtain ⟨s,_,rfl⟩:=Qa5.mp hr
  rw [Qab,hn]
 ·intro r hr x hx
  obtain ⟨s,hs,rfl⟩:=Qa5.mp hr
  obtain ⟨y,hy,rfl⟩:=Qa5.mp hx
  rw [G4]
  exact Qdf (B.next hs hy)
theorem uH(B:BfE nx b l):∀i,i<=l.length->x5 (rnG nx l) 0 i=(bfN nx b i).map (ixG l)
 | 0,_=>by
  show [0]=[ixG l b]
  rw [B.zero]
 | i + 1,h=>by
  have ih:=uH B i (by lia)
  obtain ⟨s,hs⟩:∃s,(bfN nx b i)[i]?=some s:=⟨_,Qaa (B.go i (by lia))⟩
  have sl:s∈l:=B.sub (by lia) (Qam hs)
  show Zf3 (rnG nx l) (x5 (rnG nx l) 0 i) i=_
  rw [ih]
  unfold Zf3
  have e1:((bfN nx b i).map (ixG l)).getD i 0=ixG l s:=by rw [Qal,Qao,hs];rfl
  rw [e1,Zdb (fun s hs x hx=>B.next hs hx) sl,zM hs]
  have inj:∀x∈l,∀y∈l,ixG l x=ixG l y->x=y:=fun x hx y hy e=>by
   have h1:=zT hx
   have h2:=zT hy
   have e:l.idxOf x=l.idxOf y:=e
   rw [e,h2] at h1
   exact (Option.some.inj h1).symm
  have go:∀(r a:List κ),(∀x∈r,x∈l)->(∀x∈a,x∈l)->(r.map (ixG l)).foldl Xe (a.map (ixG l))=(r.foldl Xe a).map (ixG l):=by
   intro r
   induction r with
   | nil=>exact fun a _ _=>rfl
   | cons k r ih =>
    intro a hr ha
    have hk:=hr k Qaf
    rw [Qa1,Qc4,Qc4,vm (ixG l) a k fun x hx e=>inj x (ha x hx) k hk e]
    exact ih _ (fun x hx=>hr x (Qag _ hx)) fun x hx=>by
     rcases qy.mp hx with z | z
     ·exact ha x z
     ·rw [z];exact hk
  exact go _ _ (fun x hx=>B.next sl hx) fun x hx=>B.sub (by lia) hx
theorem Zfl(B:BfE nx b l){l':List Nat}(B':BfsE (rnG nx l) 0 l'):l'.length=l.length:=by
 have h1:¬l.length < l'.length:=fun h=>by
  have:=B'.go _ h
  rw [uH B _ (Qaj _),Qab,B.len] at this
  lia
 have h2:¬l'.length < l.length:=fun h=>by
  have:=B.go _ h
  have e:=congrArg List.length B'.e
  rw [uH B _ (by lia),Qab] at e
  lia
 lia
end
theorem Zfm{K:PySem.W.Frag}{H H':Hp}{a pw:Addr}{xs:List V}{pz:Array Value}(h:SqL K H a xs)(hz:H pw=some (.tbl pz))(o:Zf5 pw H H'):SqL K H' a xs:=by
 rcases h with h | h
 ·rcases h with h | ⟨u,h⟩
  ·exact .inl (.inl (o _ _ h (XG h hz fun z=>nomatch z)))
  ·exact .inl (.inr ⟨u,o _ _ h (XG h hz fun z=>nomatch z)⟩)
 ·exact .inr h
theorem JX{K:PySem.W.Frag}{H H':Hp}{a:Addr}{xs:List V}(h:SqL K H a xs)(s:ZG H H'):SqL K H' a xs:=by
 rcases h with h | h
 ·rcases h with h | ⟨u,h⟩
  ·exact .inl (.inl (s _ _ h))
  ·exact .inl (.inr ⟨u,s _ _ h⟩)
 ·exact .inr h
theorem Zf5.tup{pw:Addr}{H H':Hp}(o:Zf5 pw H H'){pz:Array Value}(hz:H pw=some (.tbl pz)){b:Addr}{xs:List V}(e:H b=some (.tup xs)):H' b=some (.tup xs):=o _ _ e (XG e hz fun z=>nomatch z)
theorem Zfn{cs:List Int}{L:Nat}(h:0 < L):∃ls:List Nat,(cs.map fun c=>V.int (c % (L:Int)))=(ls.map Wj)/\(∀l∈ls,l < L)/\ls.length=cs.length:=by
 refine ⟨cs.map fun c=>(c % (L:Int)).toNat,?_,?_,by rw [Qab]⟩
 ·rw [Qbn]
  apply Qcd
  intro c _
  show V.int _=V.int _
  rw [Qcp (Qa4 _ (by lia))]
 ·intro l hl
  obtain ⟨c,_,rfl⟩:=Qa5.mp hl
  have h1:0<=c % (L:Int):=Qa4 _ (by lia)
  have h2:c % (L:Int) < L:=Qay _ (by lia)
  lia
theorem Zbm(ys:List Str)(f:Str->Int)(w:Nat):∃ls:List Nat,((List.range w).map fun k=>V.int (ltr ys f k))=ls.map Wj/\(∀l∈ls,l < 2 ^ ys.length)/\ls.length=w:=by
 have hb:∀k,0<=ltr ys f k/\ltr ys f k < 2 ^ ys.length:=fun k=>q9 (fun i=>Zgz _ _) _
 refine ⟨(List.range w).map fun k=>(ltr ys f k).toNat,?_,fun l hl=>?_,by rw [Qab,Qbp]⟩
 ·rw [Qbn]
  refine Qcd fun k _=>?_
  show V.int _=V.int _
  rw [Qcp (hb k).1]
 ·obtain ⟨k,_,rfl⟩:=Qa5.mp hl
  have h2:=hb k
  have h3:((ltr ys f k).toNat:Int) < ((2 ^ ys.length:Nat):Int):=by
   rw [Qcp h2.1,Qdw]
   exact h2.2
  lia
noncomputable def neA(x y:Int)(k:Nat):Int:=if lo x k=lo y k then 0 else 1
theorem Zdc(x y:Int)(k:Nat):neA x y k=0\/neA x y k=1:=by
 unfold neA
 split
 ·exact .inl rfl
 ·exact .inr rfl
theorem Zbn(x y:Int):neA x y 0=0:=by
 unfold neA lo
 rw [Qcs,Qej,Qej]
 rfl
theorem Zbo(x y:Int)(k:Nat):neA x y (k + 1)=1 - (1 - (bt x k + bt y k) % 2) * (1 - neA x y k):=by
 have e1:=qX x k
 have e2:=qX y k
 have b1:=xC x k
 have b2:=xC y k
 unfold neA
 rcases YQ x k with a | a <;> rcases YQ y k with b | b <;> rw [a] at e1 ⊢ <;> rw [b] at e2 ⊢ <;> by_cases h:lo x k=lo y k
 all_goals first
  | rw [Qau h,Qau (by lia)];rfl
  | rw [Qan h,Qan (by lia)];rfl
  | rw [Qau h,Qan (by lia)];rfl
noncomputable def sgA(x:Int)(k:Nat):Int:=lo x k - 2 ^ k * bt x k
noncomputable def bnA(x y:Int)(k:Nat):Int:=if sgA x k < sgA y k then 1 else 0
theorem bnA_01(x y:Int)(k:Nat):bnA x y k=0\/bnA x y k=1:=by
 unfold bnA
 split
 ·exact .inr rfl
 ·exact .inl rfl
theorem bnA_br(x y:Int)(k:Nat):bnA x y k=1 - (1 - (1 - bt y k) * bt x k) * (1 - brA x y k * (1 - (bt y k + bt x k) % 2)):=by
 have b1:=xC x k
 have b2:=xC y k
 unfold bnA sgA brA
 rcases YQ x k with a | a <;> rcases YQ y k with b | b <;> rw [a,b] <;> by_cases h:lo x k < lo y k
 all_goals first
  | rw [Qau h,Qau (by lia)];rfl
  | rw [Qan h,Qan (by lia)];rfl
  | rw [Qau h,Qan (by lia)];rfl
  | rw [Qan h,Qau (by lia)];rfl
noncomputable def vG(y:Str)(is:List Int)(k:Nat):Int :=
 if y = "twice" then tw (is.getD 0 0) k else if y = "neg" \/ y = "low" \/ y = "nought" then nzA (is.getD 0 0) k else if y = "same" then neA (is.getD 0 0) (is.getD 1 0) k else if y = "add" then cyA (is.getD 0 0) (is.getD 1 0) k else brA (is.getD 0 0) (is.getD 1 0) k
theorem Zfo(y:Str)(is:List Int)(k:Nat):vG y is k=0\/vG y is k=1:=by
 unfold vG
 repeat' split
 ·exact tw_01 _ _
 ·exact gW _ _
 ·exact Zdc _ _ _
 ·exact gT _ _ _
 ·exact zh _ _ _
theorem uI(y:Str)(is:List Int):vG y is 0=0:=by
 unfold vG
 repeat' split
 ·rfl
 ·exact Za8 _
 ·exact Zbn _ _
 ·exact vv _ _
 ·exact vy _ _
noncomputable def uY(y:Str)(bs:List Int)(h:Int):Int :=
 if y = "twice" then bs.getD 0 0 else if y = "neg" \/ y = "low" \/ y = "nought" then 1 - (1 - bs.getD 0 0) * (1 - h) else if y = "same" then 1 - (1 - (bs.getD 0 0 + bs.getD 1 0) % 2) * (1 - h) else if y = "add" then (bs.getD 0 0 + bs.getD 1 0 + h) / 2 else 1 - (1 - (1 - bs.getD 0 0) * bs.getD 1 0) * (1 - h * (1 - (bs.getD 0 0 + bs.getD 1 0) % 2))
theorem jP(y:Str)(is:List Int)(k:Nat):vG y is (k + 1)=uY y (is.map fun x=>bt x k) (vG y is k):=by
 unfold vG uY
 rw [X4,X4]
 repeat' split
 ·rfl
 ·exact Za9 _ _
 ·exact Zbo _ _ _
 ·exact vw _ _ _
 ·exact vz _ _ _
noncomputable def Zg2(y:Str)(bs:List Int)(h:Int):Int :=
 if y = "add" \/ y = "sub" then (bs.getD 0 0 + bs.getD 1 0 + h) % 2 else if y = "neg" then (bs.getD 0 0 + h) % 2 else if y = "twice" then h else if y = "low" then bs.getD 0 0 * (1 - h)
 else if y = "same" \/ y = "nought" then 1 - uY y bs h else if y = "under" then uY y bs h else 1 - (1 - (1 - bs.getD 1 0) * bs.getD 0 0) * (1 - h * (1 - (bs.getD 1 0 + bs.getD 0 0) % 2))
noncomputable def jQ(y:Str)(bs:List Int):Int :=
 if y = "yes" then 1 else if y = "sign" then bs.getD 0 0 else if y = "not" \/ y = "never" then 1 - bs.getD 0 0 else if y = "and" \/ y = "both" then bs.getD 0 0 * bs.getD 1 0 else if y = "or" \/ y = "either" then 1 - (1 - bs.getD 0 0) * (1 - bs.getD 1 0)
 else if y = "odd" then (bs.getD 0 0 + bs.getD 1 0) % 2 else if y = "so" then 1 - (1 - (1 - bs.getD 0 0)) * (1 - bs.getD 1 0) else 1 - (1 - bs.getD 0 0 * bs.getD 1 0) * (1 - (1 - bs.getD 0 0) * bs.getD 2 0)
theorem Zdd(a b h:Int)(l:Nat):bt (Zgy a b h) l=1 - (1 - (1 - bt a l) * bt b l) * (1 - bt h l * (1 - (bt a l + bt b l) % 2)):=by
 unfold Zgy
 rw [qe,X3,X3,JU,JU,qV]
theorem Zde(y:Str)(is:List Int)(h:Int)(l:Nat):bt (ktI y is h) l=uY y (is.map fun x=>bt x l) (bt h l):=by
 unfold uY ktI
 rw [X4,X4]
 repeat' split
 ·rfl
 ·exact qe l _ _
 ·rw [qe,qV]
 ·rw [qe,X3,X3,qe]
  rcases YQ (is.getD 0 0) l with a | a <;> rcases YQ (is.getD 1 0) l with b | b <;> rcases YQ h l with c | c <;> rw [a,b,c] <;> rfl
 ·exact Zdd _ _ _ _
theorem okR_bt(y:Str)(is:List Int)(h:Int)(l:Nat):bt (okI y is h (ktI y is h)) l=Zg2 y (is.map fun x=>bt x l) (bt h l):=by
 unfold Zg2 okI
 rw [<-Zde,X4,X4]
 repeat' split
 ·rw [qV,qV]
  lia
 ·exact qV l _ _
 ·rfl
 ·rw [X3,JU]
 ·exact JU l _
 ·rfl
 ·exact Zdd _ _ _ _
theorem Zdf(y:Str)(is:List Int)(l:Nat):bt (oaI y is) l=jQ y (is.map fun x=>bt x l):=by
 unfold jQ oaI
 rw [X4,X4,X4]
 repeat' split
 ·exact gR l
 ·rfl
 ·exact JU l _
 ·exact X3 l _ _
 ·exact qe l _ _
 ·exact qV l _ _
 ·rw [qe,JU]
 ·rw [qe,X3,X3,JU]
noncomputable def clB(y:Str)(is:List Int)(k:Nat):Int :=
 if y = "same" then 1 - neA (is.getD 0 0) (is.getD 1 0) (k + 1) else if y = "nought" then 1 - nzA (is.getD 0 0) (k + 1) else if y = "under" then brA (is.getD 0 0) (is.getD 1 0) (k + 1) else if y = "beneath" then bnA (is.getD 0 0) (is.getD 1 0) k
 else jQ y (is.map fun x=>bt x k)
theorem once01(y:Str)(is:List Int)(k:Nat):jQ y (is.map fun x=>bt x k)=0\/jQ y (is.map fun x=>bt x k)=1:=by
 rw [<-Zdf]
 exact YQ _ _
theorem vH(y:Str)(is:List Int)(k:Nat):clB y is k=0\/clB y is k=1:=by
 unfold clB
 repeat' split
 ·have:=Zdc (is.getD 0 0) (is.getD 1 0) (k + 1)
  lia
 ·have:=gW (is.getD 0 0) (k + 1)
  lia
 ·exact zh _ _ _
 ·exact bnA_01 _ _ _
 ·exact once01 _ _ _
noncomputable def rwR(W:Nat)(ρ:Str->Int)(w:V)(is:List Int):Int :=
 match w with
 | .str y=>if y∈Z4 then sm (clB y is) W else wwv ρ w is % 2 ^ W
 | _=>wwv ρ w is % 2 ^ W
noncomputable def Ji(W:Nat)(ρ:Str->Int):List V->List Int
 | []=>[]
 | w::r=>rwR W ρ w ((Ji W ρ r).take (npw w))::(Ji W ρ r).drop (npw w)
theorem vI(W:Nat)(ρ:Str->Int):∀ws:List V,(Ji W ρ ws).length=Gk ws
 | []=>rfl
 | w::r=>by
  show ((Ji W ρ r).drop (npw w)).length + 1=_
  rw [Qbd,vI W ρ r]
  rfl
noncomputable def vJ:V->Bool
 | .str y=>decide (y∈allR)
 | _=>false
noncomputable def G6(W:Nat)(ρ:Str->Int):List V->Nat->List Int
 | [],_=>[]
 | w::r,k=>G6 W ρ r k++if vJ w=true then [vG (strV w) ((Ji W ρ r).take (npw w)) k] else []
noncomputable def uJ(ys:List Str)(ν:Str->Int)(pl:Nat)(kp:List Int):List V->List Int × List Int
 | []=>([],[])
 | w::r =>
  let p:=uJ ys ν pl kp r
  match w with
  | .str y =>
   if y∈allR then (Zg2 y (p.1.take (npw w)) (kp.getD p.2.length 0)::p.1.drop (npw w),p.2++[uY y (p.1.take (npw w)) (kp.getD p.2.length 0)])
   else if y∈ys then (ν y::p.1.drop (npw w),p.2)
   else (jQ y (p.1.take (npw w))::p.1.drop (npw w),p.2)
  | .int z=>(bt z pl::p.1.drop (npw w),p.2)
  | _=>p
theorem jR{ys:List Str}{cols:Str->Int}{pl:Nat}{kp:List Int}(hk:∀i:Nat,kp.getD i 0=0\/kp.getD i 0=1)(l:Nat):∀ws:List V,
  (XU ys cols pl kp ws).1.map (fun x=>bt x l)=(uJ ys (fun y=>bt (cols y) l) pl kp ws).1/\(XU ys cols pl kp ws).2.map (fun x=>bt x l)=(uJ ys (fun y=>bt (cols y) l) pl kp ws).2
 | []=>⟨rfl,rfl⟩
 | w::r=>by
  obtain ⟨e1,e2⟩:=jR (ys:=ys) (cols:=cols) (pl:=pl) hk l r
  have el:(XU ys cols pl kp r).2.length=(uJ ys (fun y=>bt (cols y) l) pl kp r).2.length:=by rw [<-e2,Qab]
  cases w with
  | str y =>
   show (if y∈allR then _ else if y∈ys then _ else _:List Int × List Int).1.map _=(if y∈allR then _ else if y∈ys then _ else _:List Int × List Int).1/\(if y∈allR then _ else if y∈ys then _ else _:List Int × List Int).2.map _=(if y∈allR then _ else if y∈ys then _ else _:List Int × List Int).2
   by_cases ha:y∈allR
   ·rw [Qau ha,Qau ha]
    constructor
    ·show bt _ l::_=_::_
     rw [okR_bt,yE (hk _),Qdj,Qc9,e1,el]
    ·show List.map _ (_++[_])=_++[_]
     rw [Qbh,e2]
     show _++[bt _ l]=_
     rw [Zde,yE (hk _),Qdj,e1,el]
   ·rw [Qan ha,Qan ha]
    by_cases hy:y∈ys
    ·rw [Qau hy,Qau hy]
     refine ⟨?_,e2⟩
     show bt _ l::List.map _ (List.drop _ _)=_::_
     rw [Qc9,e1]
    ·rw [Qan hy,Qan hy]
     refine ⟨?_,e2⟩
     show bt _ l::List.map _ (List.drop _ _)=_::_
     rw [Zdf,Qdj,Qc9,e1]
  | int z =>
   refine ⟨?_,e2⟩
   show bt (-(bt z pl)) l::List.map _ (List.drop _ _)=bt z pl::_
   rw [Qc9,e1,yE (YQ z pl)]
  | _=>exact ⟨e1,e2⟩
theorem JY:∀y∈Gy,y∉Z4:=by decide +kernel
theorem Zbp{y:Str}(hy:y∈GN)(is:List Int)(k:Nat):vG y is k=hld y is k:=by
 unfold GN at hy
 simp only [Qak,Qa3,Qcq] at hy
 rcases hy with rfl | rfl | rfl | rfl | rfl <;> rfl
theorem Zbq{y:Str}(hy:y∈GN)(bs:List Int)(h:Int):Zg2 y bs h=ans1 y bs h:=by
 unfold GN at hy
 simp only [Qak,Qa3,Qcq] at hy
 rcases hy with rfl | rfl | rfl | rfl | rfl <;> rfl
theorem uK{y:Str}(hy:y∈Gy)(hr:y∉GN)(bs:List Int):jQ y bs=once y bs:=by
 rcases zi y hy hr with ⟨rfl,_⟩ | ⟨rfl,_⟩ | ⟨rfl,_⟩ | ⟨rfl,_⟩ | ⟨rfl,_⟩ <;> rfl
theorem uL:∀y∈Z4,y∈allR->y = "same" \/ y = "under" \/ y = "beneath" \/ y = "nought" := by decide +kernel
theorem kz:∀y∈Z4,y∉allR->¬y = "same" /\ ¬y = "under" /\ ¬y = "beneath" /\ ¬y = "nought" := by decide +kernel
theorem Zbr{f:Nat->Int}(hf:∀i,f i=0\/f i=1){k W:Nat}(h:k < W):bt (sm f W) k=f k:=ud hf k W h
theorem Zbs(ρ:Str->Int){y:Str}{W k:Nat}(hk:k < W)(ha:y∈allR){is:List Int}(h:y∈Z4\/(y∈Gy/\is.length=Yq y)):Zg2 y (is.map fun x=>bt x k) (vG y is k)=bt (rwR W ρ (.str y) is) k:=by
 rcases h with hc | ⟨hs,hl⟩
 ·show _=bt (if y∈Z4 then _ else _) k
  rw [Qau hc,Zbr (vH y is) hk]
  have hs:=jP y is k
  rcases uL y hc ha with rfl | rfl | rfl | rfl
  ·show 1 - uY "same" _ _=1 - neA _ _ (k + 1)
   rw [<-hs]
   rfl
  ·show uY "under" _ _=brA _ _ (k + 1)
   rw [<-hs]
   rfl
  ·show 1 - (1 - (1 - List.getD _ 1 0) * List.getD _ 0 0) * (1 - brA _ _ k * (1 - (List.getD _ 1 0 + List.getD _ 0 0) % 2))=bnA _ _ k
   rw [X4,X4,bnA_br]
  ·show 1 - uY "nought" _ _=1 - nzA _ (k + 1)
   rw [<-hs]
   rfl
 ·have hr:=(zK y hs).mp ha
  show _=bt (if y∈Z4 then _ else _) k
  rw [Qan (JY y hs),Zbq hr,Zbp hr,ans_ok ρ hr hl,jE _ _ _ hk]
theorem uM(ρ:Str->Int){y:Str}{W k:Nat}(hk:k < W)(ha:y∉allR){is:List Int}(h:y∈Z4\/(y∈Gy/\is.length=Yq y)):jQ y (is.map fun x=>bt x k)=bt (rwR W ρ (.str y) is) k:=by
 rcases h with hc | ⟨hs,hl⟩
 ·show _=bt (if y∈Z4 then _ else _) k
  obtain ⟨h1,h2,h3,h4⟩:=kz y hc ha
  rw [Qau hc,Zbr (vH y is) hk]
  unfold clB
  rw [Qan h1,Qan h4,Qan h2,Qan h3]
 ·have hr:y∉GN:=fun z=>ha ((zK y hs).mpr z)
  show _=bt (if y∈Z4 then _ else _) k
  rw [Qan (JY y hs),uK hs hr,Ze2 ρ hs hr hl,jE _ _ _ hk]
noncomputable def kA(ys:List Str)(B:Nat)(w:V):Prop:=J5 ys B w\/∃y,w=.str y/\y∈Z4/\y∉ys
theorem Zbt(W:Nat)(ρ:Str->Int)(ws:List V)(k:Nat):(G6 W ρ ws k).length=(ws.filter vJ).length:=by
 induction ws with
 | nil=>rfl
 | cons w r ih =>
  show (G6 W ρ r k++_).length=_
  rw [Qac,ih,Qcl]
  split <;> rfl
theorem uN{ys:List Str}{B W k pl:Nat}{ρ:Str->Int}(hk:k < W)(hpl:pl=k\/(B<=pl/\B<=k))(hys:∀y∈ys,y∉YL)(kp:List Int):∀ws:List V,(∀w∈ws,kA ys B w)->Xi ws->(∃r,kp=G6 W ρ ws k++r)->uJ ys (fun y=>bt (ρ y) k) pl kp ws=((Ji W ρ ws).map (fun x=>bt x k),G6 W ρ ws (k + 1))
 | [],_,_,_=>rfl
 | w::r,hw,he,hkp=>by
  obtain ⟨r0,hr0⟩:=hkp
  have ih:=uN (ρ:=ρ) hk hpl hys kp r (fun w h=>hw w (Qag _ h)) he.2 ⟨_,by rw [hr0];show (_++_)++_=_;rw [Qb0]⟩
  have hlen:=vI W ρ r
  have htk:((Ji W ρ r).take (npw w)).length=npw w:=by rw [Qar,hlen];exact Qdg he.1
  have ml:=Zbt W ρ r
  have word:∀y,w=.str y->y∉ys->(y∈Z4\/(y∈Gy/\npw w=Yq y))->uJ ys (fun y=>bt (ρ y) k) pl kp (w::r)=((Ji W ρ (w::r)).map (fun x=>bt x k),G6 W ρ (w::r) (k + 1)):=by
   rintro y rfl hny hy
   have hy':y∈Z4\/(y∈Gy/\((Ji W ρ r).take (npw (.str y))).length=Yq y):=by rw [htk];exact hy
   by_cases ha:y∈allR
   ·have hrb:vJ (.str y)=true:=Qae ha
    have hg:kp.getD (G6 W ρ r (k + 1)).length 0=vG y ((Ji W ρ r).take (npw (.str y))) k:=by
     have e:G6 W ρ (.str y::r) k=G6 W ρ r k++[vG y ((Ji W ρ r).take (npw (.str y))) k]:=by
      show _++(if vJ (.str y)=true then _ else _)=_
      rw [Qau hrb]
      rfl
     rw [hr0,e,ml,<-ml k,Qb0,Qal,Qa0 (Qaj _),Qdr]
     rfl
    show (if y∈allR then _ else _)=_
    rw [Qau ha,ih]
    try dsimp only
    rw [hg,<-Qdj,Zbs ρ hk ha hy',<-jP]
    refine Qez ?_ ?_
    ·show _::_=bt _ k::((Ji W ρ r).drop (npw (.str y))).map _
     rw [Qc9]
    ·show _=_++(if vJ (.str y)=true then _ else _)
     rw [Qau hrb]
     rfl
   ·have hrb:¬vJ (.str y)=true:=fun z=>ha (Qa9 z)
    show (if y∈allR then _ else if y∈ys then _ else _)=_
    rw [Qan ha,Qan hny,ih]
    try dsimp only
    rw [<-Qdj,uM ρ hk ha hy']
    refine Qez ?_ ?_
    ·show _::_=bt _ k::((Ji W ρ r).drop (npw (.str y))).map _
     rw [Qc9]
    ·show _=_++(if vJ (.str y)=true then _ else _)
     rw [Qan hrb,Qbc]
  rcases hw w Qaf with (⟨y,rfl,hy,hny,hp⟩ | ⟨y,rfl,hy,hnr,hp⟩ | ⟨z,rfl,z0,z1,hp⟩) | ⟨y,rfl,hy,hny⟩
  ·exact word y rfl hny (.inr ⟨hy,hp⟩)
  ·have hna:y∉allR:=fun z=>hys y hy (qB y z)
   have hnc:y∉Z4:=fun z=>hys y hy (Xx y z)
   have hrb:¬vJ (.str y)=true:=fun z=>hna (Qa9 z)
   show (if y∈allR then _ else if y∈ys then _ else _)=_
   rw [Qan hna,Qau hy,ih]
   refine Qez ?_ ?_
   ·show _::_=bt (if y∈Z4 then _ else _) k::((Ji W ρ r).drop (npw (.str y))).map _
    rw [Qan hnc,jE _ _ _ hk,hp,List.take_zero,Qcw,Qcw]
    rfl
   ·show _=_++(if vJ (.str y)=true then _ else _)
    rw [Qan hrb,Qbc]
  ·show (bt z pl::(uJ ys (fun y=>bt (ρ y) k) pl kp r).1.drop (npw (.int z)),(uJ ys (fun y=>bt (ρ y) k) pl kp r).2)=_
   rw [ih]
   have ez:bt z pl=bt z k:=by
    rcases hpl with h | ⟨h1,h2⟩
    ·rw [h]
    ·rw [Zc6 z0 z1 h1,Zc6 z0 z1 h2]
   refine Qez ?_ ?_
   ·show bt z pl::_=bt (wwv ρ (.int z) ((Ji W ρ r).take (npw (.int z))) % 2 ^ W) k::((Ji W ρ r).drop (npw (.int z))).map _
    rw [jE _ _ _ hk,hp,Qcw,Qcw,ez]
    rfl
   ·show _=_++(if vJ (.int z)=true then _ else _)
    rw [Qan (fun z=>nomatch z),Qbc]
  ·exact word y rfl hny (.inl hy)
theorem zl{ys:List Str}{ν ν':Str->Int}{pl:Nat}{kp:List Int}(h:∀y∈ys,ν y=ν' y):∀ws:List V,uJ ys ν pl kp ws=uJ ys ν' pl kp ws
 | []=>rfl
 | w::r=>by
  have ih:=zl (pl:=pl) (kp:=kp) h r
  unfold uJ
  rw [ih]
  cases w with
  | str y =>
   by_cases hr:y∈allR
   ·simp only [Qau hr]
   ·by_cases hy:y∈ys
    ·simp only [Qan hr,Qau hy,h y hy]
    ·simp only [Qan hr,Qan hy]
  | _=>rfl
theorem vK{W:Nat}{ρ:Str->Int}{k:Nat}:∀{ws:List V},∀x∈G6 W ρ ws k,x=0\/x=1
 | w::r,x,h=>by
  have h:x∈G6 W ρ r k++if vJ w=true then [vG (strV w) ((Ji W ρ r).take (npw w)) k] else []:=h
  rcases Qa6.mp h with h | h
  ·exact vK x h
  ·split at h
   ·rw [Qav.mp h]
    exact Zfo _ _ _
   ·cases h
theorem Zfp(W:Nat)(ρ:Str->Int)(ws:List V)(k i:Nat):(G6 W ρ ws k).getD i 0=0\/(G6 W ρ ws k).getD i 0=1:=by
 rw [Qal]
 cases e:(G6 W ρ ws k)[i]? with
 | none=>exact .inl rfl
 | some x=>exact vK x (Qam e)
theorem jS(W:Nat)(ρ:Str->Int):∀ws:List V,G6 W ρ ws 0=List.replicate (ws.filter vJ).length 0
 | []=>rfl
 | w::r=>by
  show G6 W ρ r 0++_=_
  rw [jS W ρ r,Qcl]
  split
  ·rw [uI,Qaz,List.replicate_succ']
  ·rw [Qbc]
theorem jT{ys:List Str}{B:Nat}:∀{ws:List V},(∀w∈ws,kA ys B w)->Y8 ws=(ws.filter vJ).length
 | [],_=>rfl
 | w::r,h=>by
  rw [XO,jT (fun v hv=>h v (Qag _ hv)),Qcl]
  have e:inV w (allR.map V.str)=vJ w:=by
   rcases h w Qaf with (⟨y,rfl,_⟩ | ⟨y,rfl,_⟩ | ⟨z,rfl,_⟩) | ⟨y,rfl,_⟩
   ·exact Z2 _ _
   ·exact Z2 _ _
   ·exact G1 z _
   ·exact Z2 _ _
  rw [e]
  split <;> rfl
theorem xl{nm:List Str}{ws:List V}{ls:List Nat}{W k c:Nat}(hnd:nm.Nodup)(hk:∀y∈nm,y∉YL)(hw:∀w∈ws,kA nm 10 w)(he:Xi ws)(hW:k < W)(hc:ls[k]?=some c)(hcl:c < 2 ^ nm.length) :
  (Zf4 nm (Xd (2 ^ nm.length) nm) ws (min (k:Int) (lgB ws:Int),G6 W (x6 ls nm) ws k)).1.map (fun x=>bt x c)=(Ji W (x6 ls nm) ws).map (fun x=>bt x k)/\(Zf4 nm (Xd (2 ^ nm.length) nm) ws (min (k:Int) (lgB ws:Int),G6 W (x6 ls nm) ws k)).2.map (fun x=>bt x c)=G6 W (x6 ls nm) ws (k + 1):=by
 have hw2:∀w∈ws,kA nm (lgB ws) w:=fun w h=>by
  rcases hw w h with (z | z | ⟨z,rfl,h0,_,h3⟩) | z
  ·exact .inl (.inl z)
  ·exact .inl (.inr (.inl z))
  ·exact .inl (.inr (.inr ⟨z,rfl,h0,lgB_lt h h0,h3⟩))
  ·exact .inr z
 obtain ⟨e1,e2⟩:=jR (ys:=nm) (cols:=Xd (2 ^ nm.length) nm) (pl:=(min (k:Int) (lgB ws:Int)).toNat) (Zfp W (x6 ls nm) ws k) c ws
 have hν:∀y∈nm,bt (Xd (2 ^ nm.length) nm y) c=bt (x6 ls nm y) k:=fun y hy=>by
  obtain ⟨i,hi⟩:=Qdi.mp hy
  rw [Zbi hnd hi hcl,Zfg hnd hi hc]
 have e3:=zl (pl:=(min (k:Int) (lgB ws:Int)).toNat) (kp:=G6 W (x6 ls nm) ws k) hν ws
 have e4:=uN (ρ:=x6 ls nm) (pl:=(min (k:Int) (lgB ws:Int)).toNat) hW (by lia:(min (k:Int) (lgB ws:Int)).toNat=k\/(lgB ws<=(min (k:Int) (lgB ws:Int)).toNat/\lgB ws<=k)) hk (G6 W (x6 ls nm) ws k) ws hw2 he ⟨[],(Qbc _).symm⟩
 rw [e3,e4] at e1 e2
 exact ⟨e1,e2⟩
theorem uO{nm:List Str}{ws:List V}{ls:List Nat}{W:Nat}{o:Int}{o0 o1:V}{l:List (Int × List Int)}(hnd:nm.Nodup)(hk:∀y∈nm,y∉YL)(hw:∀w∈ws,kA nm 10 w)(he:Xi ws)(hW:W<=ls.length)(hls:∀x∈ls,x < 2 ^ nm.length)(ho:Ji W (x6 (ls.take W) nm) ws=[o])
  (B:BfE (nxT nm (Xd (2 ^ nm.length) nm) ws (lgB ws)) (0,List.replicate (Y8 ws) 0) l) :
  ∀k,k < W->(rnO (rnG (nxT nm (Xd (2 ^ nm.length) nm) ws (lgB ws)) l) (l.map (otT nm (Xd (2 ^ nm.length) nm) ws o0 o1)) 0 ls)[k]?=some (if bt o k=1 then o1 else o0):=by
 have cl:∀s∈l,∀x∈nxT nm (Xd (2 ^ nm.length) nm) ws (lgB ws) s,x∈l:=fun s hs x hx=>B.next hs hx
 generalize hρ:x6 (ls.take W) nm=ρ at *
 have e0:((0:Int),List.replicate (Y8 ws) (0:Int))=(min ((0:Nat):Int) (lgB ws:Int),G6 W ρ ws 0):=by
  rw [jS,jT hw,show min ((0:Nat):Int) (lgB ws:Int)=0 by lia]
 have at_:∀k,k < W->∃c,ls[k]?=some c/\(ls.take W)[k]?=some c/\c < 2 ^ nm.length:=fun k hk=>by
  have h1:ls[k]?=some ls[k]:=Qaa (by lia)
  exact ⟨_,h1,by rw [List.getElem?_take,Qau hk];exact h1,hls _ (Qam h1)⟩
 have step:∀k,k<=W->stN (rnG (nxT nm (Xd (2 ^ nm.length) nm) ws (lgB ws)) l) 0 (ls.take k)=ixG l (min (k:Int) (lgB ws:Int),G6 W ρ ws k)/\(min (k:Int) (lgB ws:Int),G6 W ρ ws k)∈l:=by
  intro k
  induction k with
  | zero =>
   intro _
   rw [<-e0]
   exact ⟨B.zero.symm,B.begin.2⟩
  | succ k ih =>
   intro hk1
   obtain ⟨i1,i2⟩:=ih (by lia)
   obtain ⟨c,hc,hc',hcl⟩:=at_ k (by lia)
   obtain ⟨_,e2⟩:=xl hnd hk hw he (show k < W by lia) hc' hcl
   rw [hρ] at e2
   have en:(nxT nm (Xd (2 ^ nm.length) nm) ws (lgB ws) (min (k:Int) (lgB ws:Int),G6 W ρ ws k))[c]?=some (min ((k + 1:Nat):Int) (lgB ws:Int),G6 W ρ ws (k + 1)):=by
    unfold nxT
    rw [qA hcl,e2]
    congr 2
    show min (min (k:Int) (lgB ws:Int) + 1) (lgB ws:Int)=_
    lia
   refine ⟨?_,B.next i2 (Qam en)⟩
   rw [take_snoc hc,zS,i1,Zdb cl i2,Qal,Qao,en]
   rfl
 intro k hkl
 obtain ⟨i1,i2⟩:=step k (by lia)
 obtain ⟨c,hc,hc',hcl⟩:=at_ k hkl
 obtain ⟨e1,_⟩:=xl hnd hk hw he hkl hc' hcl
 rw [hρ] at e1
 have hkl2:k < ls.length:=by lia
 have ek:ls=ls.take k++c::ls.drop (k + 1):=by
  rw [show c::ls.drop (k + 1)=ls.drop k by rw [Qbu hkl2];congr 1;exact (Qah.mp hc).2.symm,Qbo]
 have go:∀(nx:List (List Nat)) (ot:List (List V)) (s:Nat) (a:List Nat) (c:Nat) (r:List Nat),(rnO nx ot s (a++c::r))[a.length]?=some ((ot.getD (stN nx s a) []).getD c .non):=fun nx ot s a c r=>by
  induction a generalizing s with
  | nil=>rfl
  | cons d a ih=>exact ih _
 have g:=go (rnG (nxT nm (Xd (2 ^ nm.length) nm) ws (lgB ws)) l) (l.map (otT nm (Xd (2 ^ nm.length) nm) ws o0 o1)) 0 (ls.take k) c (ls.drop (k + 1))
 rw [<-ek,Qar,Qdg (by lia),i1,Zfh i2] at g
 rw [g]
 congr 1
 unfold otT
 rw [Qal,qA hcl]
 rw [ho] at e1
 generalize (Zf4 nm (Xd (2 ^ nm.length) nm) ws (min (k:Int) (lgB ws:Int),G6 W ρ ws k)).1=q at e1 ⊢
 have hq:q.length=1:=by
  have:=congrArg List.length e1
  rw [Qab] at this
  exact this
 match q,hq,e1 with
 | [x],_,e1 =>
  have e1:bt x c=bt o k:=by
   injection e1
  show (if bt x c=1 then o1 else o0)=_
  rw [e1]
inductive TyR(ys:List Str):List V->List Bool->Prop
 | nil:TyR ys [] []
 | sum {w:V} {r:List V} {ks:List Bool}:J5 ys 10 w->TyR ys r (List.replicate (npw w) false++ks)->TyR ys (w::r) (false::ks)
 | clm {y:Str} {r:List V} {ks:List Bool}:y∈Z4->y∉ys->TyR ys r (List.replicate (W0 (.str y)) false++(List.replicate (q8 (.str y)) true++ks))->TyR ys (.str y::r) (true::ks)
theorem xm:∀y∈Z4,npw (.str y)=W0 (.str y) + q8 (.str y):=by decide +kernel
theorem TyR.facts{ys:List Str}{ws:List V}{ks:List Bool}(h:TyR ys ws ks):(∀w∈ws,kA ys 10 w)/\Xi ws/\Gk ws=ks.length:=by
 induction h with
 | nil=>exact ⟨(fun _ h=>nomatch h),trivial,rfl⟩
 | @sum w r ks hw _ ih =>
  obtain ⟨h1,h2,h3⟩:=ih
  rw [Qac,Qa8] at h3
  refine ⟨fun v hv=>?_,⟨by lia,h2⟩,?_⟩
  ·rcases Qak.mp hv with rfl | hv
   ·exact .inl hw
   ·exact h1 v hv
  ·show Gk r - npw w + 1=ks.length + 1
   lia
 | @clm y r ks hy hn _ ih =>
  obtain ⟨h1,h2,h3⟩:=ih
  rw [Qac,Qac,Qa8,Qa8] at h3
  have e:=xm y hy
  refine ⟨fun v hv=>?_,⟨by lia,h2⟩,?_⟩
  ·rcases Qak.mp hv with rfl | hv
   ·exact .inr ⟨y,rfl,hy,hn⟩
   ·exact h1 v hv
  ·show Gk r - npw (.str y) + 1=ks.length + 1
   lia
noncomputable def RlV(W:Nat):Bool->V->Int->Prop
 | false,v,x=>v=.int x/\0<=x/\x < 2 ^ W
 | true,v,x=>v=.bl (decide (bt x (W - 1)=1))
inductive RlS(W:Nat):List Bool->List V->List Int->Prop
 | nil:RlS W [] [] []
 | cons {b:Bool} {bs:List Bool} {v:V} {vs:List V} {x:Int} {xs:List Int}:RlV W b v x->RlS W bs vs xs->RlS W (b::bs) (v::vs) (x::xs)
theorem RlS.cut{W:Nat}{as bs:List Bool}:∀{vs:List V} {xs:List Int},RlS W (as++bs) vs xs->RlS W as (vs.take as.length) (xs.take as.length)/\RlS W bs (vs.drop as.length) (xs.drop as.length):=by
 induction as with
 | nil=>exact fun h=>⟨.nil,h⟩
 | cons a as ih =>
  intro vs xs h
  cases h with
  | cons h1 h2 =>
   obtain ⟨g1,g2⟩:=ih h2
   exact ⟨.cons h1 g1,g2⟩
theorem RlS.ints{W n:Nat}:∀{vs:List V} {xs:List Int},RlS W (List.replicate n false) vs xs->vs=xs.map V.int/\xs.length=n/\∀x∈xs,0<=x/\x < 2 ^ W:=by
 induction n with
 | zero =>
  intro vs xs h
  cases h
  exact ⟨rfl,rfl,(fun _ h=>nomatch h)⟩
 | succ n ih =>
  intro vs xs h
  cases h with
  | cons h1 h2 =>
   obtain ⟨e1,e2,e3⟩:=ih h2
   obtain ⟨rfl,h3,h4⟩:=h1
   refine ⟨by rw [e1];rfl,by rw [Qaz,e2],fun x hx=>?_⟩
   rcases Qak.mp hx with rfl | hx
   ·exact ⟨h3,h4⟩
   ·exact e3 x hx
theorem RlS.bls{W n:Nat}:∀{vs:List V} {xs:List Int},RlS W (List.replicate n true) vs xs->vs=xs.map (fun x=>V.bl (decide (bt x (W - 1)=1)))/\xs.length=n:=by
 induction n with
 | zero =>
  intro vs xs h
  cases h
  exact ⟨rfl,rfl⟩
 | succ n ih =>
  intro vs xs h
  cases h with
  | cons h1 h2 =>
   obtain ⟨e1,e2⟩:=ih h2
   cases h1
   exact ⟨by rw [e1];rfl,by rw [Qaz,e2]⟩
theorem kB{x:Int}{W:Nat}(h0:0<=x)(h1:x < 2 ^ W):lo x W=x:=Qc5 h0 h1
theorem uP{x:Int}{k:Nat}(h0:0<=x)(h1:x < 2 ^ (k + 1)):sgA x k=sgn (2 ^ (k + 1)) x:=by
 have e:=qX x k
 rw [kB h0 h1] at e
 have b:=xC x k
 have hp:(2:Int) ^ (k + 1)=2 ^ k * 2:=Qbw 2 k
 unfold sgA sgn
 rcases YQ x k with a | a <;> rw [a] at e ⊢
 ·rw [Qan (by lia)]
  lia
 ·rw [Qau (by lia)]
  lia
theorem G7:∀y∈Z4,0 < W0 (.str y)->q8 (.str y)=0/\((y = "same" /\ W0 (.str y)=2)\/(y = "under" /\ W0 (.str y)=2)\/(y = "beneath" /\ W0 (.str y)=2)\/(y = "sign" /\ W0 (.str y)=1)\/(y = "nought" /\ W0 (.str y)=1)):=by decide +kernel
theorem kC:∀y∈Z4,¬0 < W0 (.str y)->(y = "both" /\ q8 (.str y)=2)\/(y = "either" /\ q8 (.str y)=2)\/(y = "so" /\ q8 (.str y)=2)\/(y = "never" /\ q8 (.str y)=1)\/(y = "yes" /\ q8 (.str y)=0):=by decide +kernel
theorem Zbu{W:Nat}(hW:1<=W){y:Str}(hy:y∈Z4)(hs:0 < W0 (.str y)){xs:List Int}(hl:xs.length=W0 (.str y))(hb:∀x∈xs,0<=x/\x < 2 ^ W):zH (2 ^ W) y xs=decide (clB y xs (W - 1)=1):=by
 obtain ⟨k,rfl⟩:∃k,W=k + 1:=⟨W - 1,by lia⟩
 show _=decide (clB y xs k=1)
 obtain ⟨_,h⟩:=G7 y hy hs
 rcases h with ⟨rfl,e⟩ | ⟨rfl,e⟩ | ⟨rfl,e⟩ | ⟨rfl,e⟩ | ⟨rfl,e⟩ <;> rw [e] at hl
 ·match xs,hl with
  | [a,b],_ =>
   have ha:=hb a Qaf
   have hb:=hb b (Qag _ Qaf)
   show decide (a=b)=decide (1 - neA a b (k + 1)=1)
   refine Qcn.mpr ?_
   unfold neA
   rw [kB ha.1 ha.2,kB hb.1 hb.2]
   split <;> lia
 ·match xs,hl with
  | [a,b],_ =>
   have ha:=hb a Qaf
   have hb:=hb b (Qag _ Qaf)
   show decide (a < b)=decide (brA a b (k + 1)=1)
   refine Qcn.mpr ?_
   unfold brA
   rw [kB ha.1 ha.2,kB hb.1 hb.2]
   split <;> lia
 ·match xs,hl with
  | [a,b],_ =>
   have ha:=hb a Qaf
   have hb:=hb b (Qag _ Qaf)
   show decide (sgn (2 ^ (k + 1)) a < sgn (2 ^ (k + 1)) b)=decide (bnA a b k=1)
   refine Qcn.mpr ?_
   unfold bnA
   rw [uP ha.1 ha.2,uP hb.1 hb.2]
   split <;> lia
 ·match xs,hl with
  | [a],_ =>
   have ha:=hb a Qaf
   show decide (sgn (2 ^ (k + 1)) a < 0)=decide (bt a k=1)
   refine Qcn.mpr ?_
   rw [<-uP ha.1 ha.2]
   have b:=xC a k
   unfold sgA
   rcases YQ a k with h | h <;> rw [h] <;> lia
 ·match xs,hl with
  | [a],_ =>
   have ha:=hb a Qaf
   show decide (a=0)=decide (1 - nzA a (k + 1)=1)
   refine Qcn.mpr ?_
   unfold nzA brA
   rw [kB ha.1 ha.2,show lo 0 (k + 1)=0 from Int.zero_emod _]
   split <;> lia
theorem Zbv{k:Nat}{y:Str}(hy:y∈Z4)(hs:¬0 < W0 (.str y)){xs:List Int}(hl:xs.length=q8 (.str y)):Zc2 y (xs.map fun x=>decide (bt x k=1))=decide (clB y xs k=1):=by
 rcases kC y hy hs with ⟨rfl,e⟩ | ⟨rfl,e⟩ | ⟨rfl,e⟩ | ⟨rfl,e⟩ | ⟨rfl,e⟩ <;> rw [e] at hl
 ·match xs,hl with
  | [a,b],_ =>
   show (decide (bt a k=1) && decide (bt b k=1))=decide (bt a k * bt b k=1)
   rcases YQ a k with h | h <;> rcases YQ b k with g | g <;> rw [h,g] <;> rfl
 ·match xs,hl with
  | [a,b],_ =>
   show (decide (bt a k=1) || decide (bt b k=1))=decide (1 - (1 - bt a k) * (1 - bt b k)=1)
   rcases YQ a k with h | h <;> rcases YQ b k with g | g <;> rw [h,g] <;> rfl
 ·match xs,hl with
  | [a,b],_ =>
   show (decide (bt b k=1) || !decide (bt a k=1))=decide (1 - (1 - (1 - bt a k)) * (1 - bt b k)=1)
   rcases YQ a k with h | h <;> rcases YQ b k with g | g <;> rw [h,g] <;> rfl
 ·match xs,hl with
  | [a],_ =>
   show (!decide (bt a k=1))=decide (1 - bt a k=1)
   rcases YQ a k with h | h <;> rw [h] <;> rfl
 ·match xs,hl with
  | [],_=>rfl
theorem zU{ys:List Str}{W:Nat}(hW:1<=W)(hys:∀y∈ys,y∉YL)(ρ:Str->Int){ws:List V}{ks:List Bool}(h:TyR ys ws ks):RlS W ks (JS (2 ^ W) ρ ws []) (Ji W ρ ws):=by
 have hp:(0:Int) < 2 ^ W:=Qct (by decide)
 induction h with
 | nil=>exact .nil
 | @sum w r ks hw _ ih =>
  obtain ⟨g1,g2⟩:=ih.cut
  rw [Qa8] at g1 g2
  obtain ⟨e1,e2,_⟩:=g1.ints
  rw [JT]
  have nc:∀xs,cvV (2 ^ W) ρ w xs=.int (wwv ρ w (xs.map iV) % 2 ^ W)/\∀is,rwR W ρ w is=wwv ρ w is % 2 ^ W:=by
   intro xs
   have no:∀y,w=.str y->y∉Z4->cvV (2 ^ W) ρ w xs=.int (wwv ρ w (xs.map iV) % 2 ^ W)/\∀is,rwR W ρ w is=wwv ρ w is % 2 ^ W:=by
    rintro y rfl hc
    exact ⟨Qan hc,fun is=>Qan hc⟩
   rcases hw with ⟨y,rfl,hy,_⟩ | ⟨y,rfl,hy,_⟩ | ⟨z,rfl,_⟩
   ·exact no y rfl (JY y hy)
   ·exact no y rfl fun z=>hys y hy (Xx y z)
   ·exact ⟨rfl,fun _=>rfl⟩
  refine .cons ?_ g2
  have em:((Ji W ρ r).take (npw w) |>.map V.int).map iV=(Ji W ρ r).take (npw w):=by
   rw [Qbn]
   exact Qeb (fun _=>rfl) _
  refine ⟨?_,?_⟩
  ·rw [(nc _).1,e1,em,(nc []).2]
  ·rw [(nc []).2]
   exact ⟨Qa4 _ (Qdh hp),Qay _ hp⟩
 | @clm y r ks hy hn _ ih =>
  have en:=xm y hy
  rw [JT]
  by_cases hs:0 < W0 (.str y)
  ·have h0:=(G7 y hy hs).1
   rw [h0,Qdo,Qc6] at ih
   obtain ⟨g1,g2⟩:=ih.cut
   rw [Qa8] at g1 g2
   rw [h0,Nat.add_zero] at en
   rw [<-en] at g1 g2
   obtain ⟨e1,e2,e3⟩:=g1.ints
   refine .cons ?_ g2
   have em:((Ji W ρ r).take (npw (.str y)) |>.map V.int).map iV=(Ji W ρ r).take (npw (.str y)):=by
    rw [Qbn]
    exact Qeb (fun _=>rfl) _
   show (if y∈Z4 then _ else _)=V.bl (decide (bt (if y∈Z4 then _ else _) (W - 1)=1))
   rw [Qau hy,Qau hy,Qau hs,e1,em,Zbu hW hy hs (by rw [e2,en]) e3,Zbr (vH _ _) (by lia)]
  ·have h0:W0 (.str y)=0:=by lia
   rw [h0,Qdo,Qc6] at ih
   obtain ⟨g1,g2⟩:=ih.cut
   rw [Qa8] at g1 g2
   rw [h0,Qey] at en
   rw [<-en] at g1 g2
   obtain ⟨e1,e2⟩:=g1.bls
   refine .cons ?_ g2
   have em:((Ji W ρ r).take (npw (.str y)) |>.map fun x=>V.bl (decide (bt x (W - 1)=1))).map bV=((Ji W ρ r).take (npw (.str y))).map fun x=>decide (bt x (W - 1)=1):=by
    rw [Qbn]
    rfl
   show (if y∈Z4 then _ else _)=V.bl (decide (bt (if y∈Z4 then _ else _) (W - 1)=1))
   rw [Qau hy,Qau hy,Qan hs,e1,em,Zbv hy hs (by rw [e2,en]),Zbr (vH _ _) (by lia)]
noncomputable def Seg(ys:List Str)(b:Bool)(ws:List V):Prop:=∀(r:List V) (ks:List Bool),TyR ys r ks->TyR ys (ws++r) (b::ks)
theorem uQ{ys:List Str}:∀{ws:List V},(∀w∈ws,J5 ys 10 w)->Xi ws->∀(r:List V) (ks:List Bool),TyR ys r ks->TyR ys (ws++r) (List.replicate (Gk ws) false++ks)
 | [],_,_,r,ks,h=>h
 | w::us,hw,he,r,ks,h=>by
  have ih:=uQ (fun v hv=>hw v (Qag _ hv)) he.2 r ks h
  show TyR ys (w::(us++r)) (List.replicate (Gk us - npw w + 1) false++ks)
  rw [List.replicate_succ]
  refine .sum (hw w Qaf) ?_
  show TyR ys (us++r) (List.replicate (npw w) false++(List.replicate (Gk us - npw w) false++ks))
  rw [<-Qb0,List.replicate_append_replicate,show npw w + (Gk us - npw w)=Gk us by have:=he.1;lia]
  exact ih
theorem Seg.sum{ys:List Str}{ws:List V}(hw:∀w∈ws,J5 ys 10 w)(he:Xi ws)(hs:Gk ws=1):Seg ys false ws:=fun r ks h=>by
 have:=uQ hw he r ks h
 rw [hs] at this
 exact this
theorem Seg.rel1{ys:List Str}{y:Str}{us:List V}(hy:y∈Z4)(hn:y∉ys)(h1:W0 (.str y)=1)(h2:q8 (.str y)=0)(h:Seg ys false us):Seg ys true (.str y::us):=fun r ks hr=>by
 refine .clm hy hn ?_
 rw [h1,h2]
 exact h r ks hr
theorem Seg.rel2{ys:List Str}{y:Str}{us vs:List V}(hy:y∈Z4)(hn:y∉ys)(h1:W0 (.str y)=2)(h2:q8 (.str y)=0)(h:Seg ys false us)(g:Seg ys false vs):Seg ys true (.str y::(us++vs)):=fun r ks hr=>by
 refine .clm hy hn ?_
 rw [h1,h2]
 show TyR ys ((us++vs)++r) _
 rw [Qb0]
 exact h _ _ (g r ks hr)
theorem Seg.clm0{ys:List Str}{y:Str}(hy:y∈Z4)(hn:y∉ys)(h1:W0 (.str y)=0)(h2:q8 (.str y)=0):Seg ys true [.str y]:=fun r ks hr=>by
 refine .clm hy hn ?_
 rw [h1,h2]
 exact hr
theorem Seg.clm1{ys:List Str}{y:Str}{us:List V}(hy:y∈Z4)(hn:y∉ys)(h1:W0 (.str y)=0)(h2:q8 (.str y)=1)(h:Seg ys true us):Seg ys true (.str y::us):=fun r ks hr=>by
 refine .clm hy hn ?_
 rw [h1,h2]
 exact h r ks hr
theorem Seg.clm2{ys:List Str}{y:Str}{us vs:List V}(hy:y∈Z4)(hn:y∉ys)(h1:W0 (.str y)=0)(h2:q8 (.str y)=2)(h:Seg ys true us)(g:Seg ys true vs):Seg ys true (.str y::(us++vs)):=fun r ks hr=>by
 refine .clm hy hn ?_
 rw [h1,h2]
 show TyR ys ((us++vs)++r) _
 rw [Qb0]
 exact h _ _ (g r ks hr)
theorem Seg.ty{ys:List Str}{b:Bool}{ws:List V}(h:Seg ys b ws):TyR ys ws [b]:=by
 have:=h [] [] .nil
 rw [Qbc] at this
 exact this
theorem kD{ys:List Str}{W:Nat}(hW:1<=W)(hys:∀y∈ys,y∉YL)(ρ:Str->Int){ws:List V}(h:TyR ys ws [true]):∃o,Ji W ρ ws=[o]/\JS (2 ^ W) ρ ws []=[.bl (decide (bt o (W - 1)=1))]:=by
 have g:=zU hW hys ρ h
 generalize JS (2 ^ W) ρ ws []=vs at g
 generalize Ji W ρ ws=xs at g
 cases g with
 | cons h1 h2 =>
  cases h2
  cases h1
  exact ⟨_,rfl,rfl⟩
theorem uR:∀y∈(["same","under","beneath","sign","nought","yes","under","beneath"]:List Str),y∈Z4/\q8 (.str y)=0/\((y∈(["sign","nought"]:List Str)/\y∉(["same","under","beneath"]:List Str)/\W0 (.str y)=1)\/(y∉(["sign","nought"]:List Str)/\y∈(["same","under","beneath"]:List Str)/\W0 (.str y)=2)\/(y∉(["sign","nought"]:List Str)/\y∉(["same","under","beneath"]:List Str)/\W0 (.str y)=0)):=by decide +kernel
theorem xn:∀y∈(["both","either","so"]:List Str),y∈Z4/\y∉allR/\W0 (.str y)=0/\q8 (.str y)=2:=by decide +kernel
theorem XE:("never" : Str)∈Z4/\("never" : Str)∉allR/\W0 (.str "never")=0/\q8 (.str "never")=1:=by decide +kernel
theorem yK(w:V)(r:List V):Y8 (w::r)<=Y8 r + 1:=by
 rw [XO]
 split <;> lia
theorem WQ{y:Str}(h:y∉allR)(r:List V):Y8 (.str y::r)=Y8 r:=by
 rw [XO,Z2,Qan fun z=>h (Qa9 z),Nat.add_zero]
theorem Yr.cons{H:Hp}{zs:List V}{rs:List (List V)}{a:Addr}{r:List V}(h:H a=some (.tup r))(z:Yr H zs rs):Yr H (.ref a::zs) (r::rs):=by
 refine ⟨by rw [Qaz,Qaz,z.1],fun i x hx=>?_⟩
 match i,hx with
 | 0,hx =>
  cases hx
  exact ⟨a,rfl,h⟩
 | i + 1,hx=>exact z.2 i x hx
theorem top1{a:Int}{j:Nat}(h0:0<=a)(h1:a < 2 ^ (j + 1)):(a / 2 ^ j=1/\2 ^ j<=a)\/(a / 2 ^ j=0/\a < 2 ^ j):=by
 have hp:(0:Int) < 2 ^ j:=Qct (by decide)
 have e:=Qbt a (2 ^ j)
 have m0:=Qa4 a (Qdh hp)
 have m1:=Qay a hp
 have q0:0<=a / 2 ^ j:=Qev h0 (Qew hp)
 have q2:a / 2 ^ j < 2:=Int.ediv_lt_of_lt_mul hp (by rw [Qcr];rw [Qbw] at h1;exact h1)
 have hq:a / 2 ^ j=0\/a / 2 ^ j=1:=by lia
 rcases hq with h | h
 ·rw [h,Int.mul_zero] at e
  exact .inr ⟨h,by lia⟩
 ·rw [h,Int.mul_one] at e
  exact .inl ⟨h,by lia⟩
theorem TyR.tail{ys:List Str}{w:V}{r:List V}{ks:List Bool}(h:TyR ys (w::r) ks):∃ks',TyR ys r ks':=by
 cases h with
 | sum _ h=>exact ⟨_,h⟩
 | clm _ _ h=>exact ⟨_,h⟩
theorem TyR.drop{ys:List Str}:∀{ws:List V} {ks:List Bool},TyR ys ws ks->∀j,∃ks',TyR ys (ws.drop j) ks'
 | [],ks,h,j=>by
  rw [List.drop_nil]
  exact ⟨_,h⟩
 | w::r,ks,h,0=>⟨_,h⟩
 | w::r,ks,h,j + 1=>by
  obtain ⟨_,h'⟩:=h.tail
  exact TyR.drop h' j
theorem vL(m:Int)(ρ:Str->Int):∀ws:List V,(JS m ρ ws []).length=Gk ws
 | []=>rfl
 | w::r=>by
  rw [JT,Qaz,Qbd,vL m ρ r]
  rfl
theorem Zfq{ys:List Str}{w:V}(hw:J5 ys 10 w)(hys:∀y∈ys,y∉YL)(m:Int)(ρ:Str->Int)(is:List Int):cvV m ρ w (is.map V.int)=.int (wwv ρ w is % m):=by
 have em:(is.map V.int).map iV=is:=by
  rw [Qbn]
  exact Qeb (fun _=>rfl) _
 have no:∀y,w=.str y->y∉Z4->cvV m ρ w (is.map V.int)=.int (wwv ρ w is % m):=by
  rintro y rfl hc
  have:cvV m ρ (.str y) (is.map V.int)=.int (wwv ρ (.str y) ((is.map V.int).map iV) % m):=Qan hc
  rw [em] at this
  exact this
 rcases hw with ⟨y,rfl,hy,_⟩ | ⟨y,rfl,hy,_⟩ | ⟨z,rfl,_⟩
 ·exact no y rfl (JY y hy)
 ·exact no y rfl fun z=>hys y hy (Xx y z)
 ·show V.int (wwv ρ (.int z) ((is.map V.int).map iV) % m)=_
  rw [em]
theorem part_of{ys:List Str}{W:Nat}(hW:1<=W)(hys:∀y∈ys,y∉YL)(ρ:Str->Int){x:V}{r:List V}{ks:List Bool}(h:TyR ys (x::r) ks) :
  (∃(is:List Int) (l:List V),J5 ys 10 x/\JS (2 ^ W) ρ r []=is.map V.int++l/\is.length=npw x/\(∀z∈is,0<=z/\z < 2 ^ W)/\cvV (2 ^ W) ρ x ((JS (2 ^ W) ρ r []).take (npw x))::(JS (2 ^ W) ρ r []).drop (npw x)=.int (wwv ρ x is % 2 ^ W)::l) \/
  (∃(y:Str) (is:List Int) (l:List V),x=.str y/\y∈Z4/\y∉ys/\0 < W0 (.str y)/\JS (2 ^ W) ρ r []=is.map V.int++l/\is.length=W0 (.str y)/\(∀z∈is,0<=z/\z < 2 ^ W)/\cvV (2 ^ W) ρ x ((JS (2 ^ W) ρ r []).take (npw x))::(JS (2 ^ W) ρ r []).drop (npw x)=.bl (zH (2 ^ W) y is)::l) \/
  (∃(y:Str) (bs:List Bool) (l:List V),x=.str y/\y∈Z4/\y∉ys/\¬0 < W0 (.str y)/\JS (2 ^ W) ρ r []=bs.map V.bl++l/\bs.length=q8 (.str y)/\cvV (2 ^ W) ρ x ((JS (2 ^ W) ρ r []).take (npw x))::(JS (2 ^ W) ρ r []).drop (npw x)=.bl (Zc2 y bs)::l):=by
 cases h with
 | @sum _ _ ks hw h =>
  obtain ⟨g1,_⟩:=(zU hW hys ρ h).cut
  rw [Qa8] at g1
  obtain ⟨e1,e2,e3⟩:=g1.ints
  refine .inl ⟨_,(JS (2 ^ W) ρ r []).drop (npw x),hw,?_,e2,e3,?_⟩
  ·rw [<-e1,Qbo]
  ·rw [e1,Zfq hw hys]
 | @clm y _ ks hy hn h =>
  have en:=xm y hy
  have g:=zU hW hys ρ h
  by_cases hs:0 < W0 (.str y)
  ·have h0:=(G7 y hy hs).1
   rw [h0,Qdo,Qc6] at g
   obtain ⟨g1,_⟩:=g.cut
   rw [Qa8] at g1
   rw [h0,Nat.add_zero] at en
   rw [<-en] at g1
   obtain ⟨e1,e2,e3⟩:=g1.ints
   refine .inr (.inl ⟨y,_,(JS (2 ^ W) ρ r []).drop (npw (.str y)),rfl,hy,hn,hs,?_,by rw [e2,en],e3,?_⟩)
   ·rw [<-e1,Qbo]
   ·rw [e1]
    have em:(((Ji W ρ r).take (npw (.str y))).map V.int).map iV=(Ji W ρ r).take (npw (.str y)):=by
     rw [Qbn]
     exact Qeb (fun _=>rfl) _
    show (if y∈Z4 then _ else _)::_=_
    rw [Qau hy,Qau hs,em]
  ·have h0:W0 (.str y)=0:=by lia
   rw [h0,Qdo,Qc6] at g
   obtain ⟨g1,_⟩:=g.cut
   rw [Qa8] at g1
   rw [h0,Qey] at en
   rw [<-en] at g1
   obtain ⟨e1,e2⟩:=g1.bls
   have eb:((Ji W ρ r).take (npw (.str y))).map (fun x=>V.bl (decide (bt x (W - 1)=1)))=(((Ji W ρ r).take (npw (.str y))).map fun x=>decide (bt x (W - 1)=1)).map V.bl:=by
    rw [Qbn]
    rfl
   rw [eb] at e1
   refine .inr (.inr ⟨y,((Ji W ρ r).take (npw (.str y))).map (fun x=>decide (bt x (W - 1)=1)),(JS (2 ^ W) ρ r []).drop (npw (.str y)),rfl,hy,hn,hs,?_,by rw [Qab,e2,en],?_⟩)
   ·rw [<-e1,Qbo]
   ·rw [e1]
    have em:∀bs:List Bool,(bs.map V.bl).map bV=bs:=fun bs=>by
     rw [Qbn]
     exact Qeb (fun _=>rfl) _
    show (if y∈Z4 then _ else _)::_=_
    rw [Qau hy,Qan hs,em]
theorem Zfr{H:Hp}{st:Addr}{v:V}{l:List V}(h:H st=some (.lst (v::l).reverse)):H st=some (.lst (l.reverse++[v])):=by rw [h,Qce]
noncomputable def Zfs(W:Nat)(y:Str)(vs:List V)(b:Bool):Prop :=
 (y = "yes" /\ vs=[]/\b=true)\/(∃v,y∈(["sign","nought","never"]:List Str)/\y ≠ "yes" /\ vs=[v]/\((y∈(["sign","nought"]:List Str)/\∃a:Int,v=.int a/\0<=a/\a < 2 ^ W/\b=zH (2 ^ W) y [a])\/(y = "never" /\ ∃p:Bool,v=.bl p/\b=Zc2 y [p]))) \/
 (∃v u,y∉(["sign","nought","never"]:List Str)/\y ≠ "yes" /\ vs=[v,u]/\((y∈(["same","under","beneath"]:List Str)/\∃a c:Int,v=.int a/\u=.int c/\0<=a/\a < 2 ^ W/\0<=c/\c < 2 ^ W/\b=zH (2 ^ W) y [a,c])\/(y∈(["both","either","so"]:List Str)/\∃p q:Bool,v=.bl p/\u=.bl q/\b=Zc2 y [p,q])))
theorem uS:∀y∈Z4,y∉(["not","neg","twice","low"]:List Str)/\y ≠ "pick" /\ y∉(["and","or","odd","add","sub"]:List Str):=by decide +kernel
theorem condS{W:Nat}{y:Str}{is:List Int}(hy:y∈Z4)(hs:0 < W0 (.str y))(hl:is.length=W0 (.str y))(hb:∀z∈is,0<=z/\z < 2 ^ W):Zfs W y (is.map V.int) (zH (2 ^ W) y is):=by
 have d1:∀y∈Z4,0 < W0 (.str y)->(W0 (.str y)=1/\y∈(["sign","nought"]:List Str)/\y∈(["sign","nought","never"]:List Str)/\y ≠ "yes")\/(W0 (.str y)=2/\y∈(["same","under","beneath"]:List Str)/\y∉(["sign","nought","never"]:List Str)/\y ≠ "yes"):=by decide +kernel
 rcases d1 y hy hs with ⟨e,h1,h2,h3⟩ | ⟨e,h1,h2,h3⟩ <;> rw [e] at hl
 ·match is,hl with
  | [a],_=>exact .inr (.inl ⟨_,h2,h3,rfl,.inl ⟨h1,a,rfl,(hb a Qaf).1,(hb a Qaf).2,rfl⟩⟩)
 ·match is,hl with
  | [a,c],_ =>
   have ha:=hb a Qaf
   have hc:=hb c (Qag _ Qaf)
   exact .inr (.inr ⟨_,_,h2,h3,rfl,.inl ⟨h1,a,c,rfl,rfl,ha.1,ha.2,hc.1,hc.2,rfl⟩⟩)
theorem condB{W:Nat}{y:Str}{bs:List Bool}(hy:y∈Z4)(hs:¬0 < W0 (.str y))(hl:bs.length=q8 (.str y)):Zfs W y (bs.map V.bl) (Zc2 y bs):=by
 have d1:∀y∈Z4,¬0 < W0 (.str y)->(q8 (.str y)=0/\y = "yes")\/(q8 (.str y)=1/\y = "never" /\ y∈(["sign","nought","never"]:List Str)/\y ≠ "yes")\/(q8 (.str y)=2/\y∈(["both","either","so"]:List Str)/\y∉(["sign","nought","never"]:List Str)/\y ≠ "yes"):=by decide +kernel
 rcases d1 y hy hs with ⟨e,h1⟩ | ⟨e,h1,h2,h3⟩ | ⟨e,h1,h2,h3⟩ <;> rw [e] at hl
 ·match bs,hl with
  | [],_ =>
   refine .inl ⟨h1,rfl,?_⟩
   rw [h1]
   rfl
 ·match bs,hl with
  | [p],_=>exact .inr (.inl ⟨_,h2,h3,rfl,.inr ⟨h1,p,rfl,rfl⟩⟩)
 ·match bs,hl with
  | [p,q],_=>exact .inr (.inr ⟨_,_,h2,h3,rfl,.inr ⟨h1,p,q,rfl,rfl,rfl⟩⟩)
structure G8(nm:List Str)(ws:List V):Prop where
 n3:nm.length<=3
 nd:nm.Nodup
 kp:∀y∈nm,y∉YL
 ln:ws.length<=100
 ty:TyR nm ws [true]
 rm:Y8 ws<=15
noncomputable abbrev otC(nm:List Str)(ws:List V):Int × List Int->List V:=otT nm (Xd (2 ^ nm.length) nm) ws (.bl false) (.bl true)
structure kE(nm:List Str)(ws:List V)(l:List (Int × List Int))(H:Hp)(m:Addr):Prop where
 b:BfE (nxS nm ws) (0,List.replicate (Y8 ws) 0) l
 m:M4 H m nm 0 (rnG (nxS nm ws) l) (l.map (otC nm ws))
theorem claimC:∀y∈Z4,(y∈allR/\1<=npw (.str y)/\(y∈Ze3->2<=npw (.str y)))\/(y∈ua/\y∉allR/\npw (.str y)=gY y):=by decide +kernel
theorem G8.wc{nm:List Str}{ws:List V}(S:G8 nm ws):∀w∈ws,jG nm w:=fun w h=>by
 rcases S.ty.facts.1 w h with h | ⟨y,rfl,hy,hn⟩
 ·exact Zbk S.kp h
 ·rcases claimC y hy with ⟨h1,h2,h3⟩ | ⟨h1,h2,h3⟩
  ·exact .inl ⟨y,rfl,h1,hn,h2,h3⟩
  ·exact .inr (.inl ⟨y,rfl,h1,h2,hn,h3⟩)
theorem G8.iz{nm:List Str}{ws:List V}(S:G8 nm ws):∀z:Int,V.int z∈ws->0<=z/\z < 2 ^ 10:=fun z h=>by
 rcases S.ty.facts.1 _ h with (⟨y,e,_⟩ | ⟨y,e,_⟩ | ⟨z',e,h0,h1,_⟩) | ⟨y,e,_⟩
 ·cases e
 ·cases e
 ·cases e
  exact ⟨h0,h1⟩
 ·cases e
theorem G8.big{nm:List Str}{ws:List V}(S:G8 nm ws):(10 + 1) * 2 ^ Y8 ws<=1000000:=by
 have:2 ^ Y8 ws<=2 ^ 15:=Qdl (by decide) S.rm
 lia
theorem G8.len{nm:List Str}{ws:List V}{l:List (Int × List Int)}(S:G8 nm ws)(B:BfE (nxS nm ws) (0,List.replicate (Y8 ws) 0) l):l.length<=1000000:=by
 have h:=ux (nx:=nxS nm ws) (b:=((0:Int),List.replicate (Y8 ws) (0:Int))) (U:=uni (Y8 ws) (lgB ws + 1)) (J7.mpr ⟨0,by lia,rfl,X0.mpr ⟨Qa8,fun x hx=>.inl (Qds hx)⟩⟩) (fun s hs=>zQ S.wc rfl hs) l.length
 rw [<-B.e,zN] at h
 have h2:lgB ws<=10:=uC S.iz
 have h3:=S.big
 exact Qba h (Qba (Qd9 _ (by lia)) h3)
theorem kE.wf{nm:List Str}{ws:List V}{l:List (Int × List Int)}{H:Hp}{m:Addr}(S:G8 nm ws)(M:kE nm ws l H m):Wf nm 0 (rnG (nxS nm ws) l) (l.map (otC nm ws)) true:=by
 obtain ⟨r1,r2⟩:=Zfk M.b (n:=2 ^ nm.length) (Zfi _ _ _ _)
 have hpos:0 < l.length:=Qd1 M.b.begin.2
 have ho:∀r∈l.map (otC nm ws),∀v∈r,v=.bl false\/v=.bl true:=fun r hr v hv=>by
  obtain ⟨s,_,rfl⟩:=Qa5.mp hr
  obtain ⟨c,_,rfl⟩:=Qa5.mp hv
  split
  ·exact .inr rfl
  ·exact .inl rfl
 refine ⟨S.n3,by rw [G4];exact hpos,by rw [G4];exact S.len M.b,by rw [G4,Qab],r1,r2,fun r hr=>?_,fun r hr v hv=>?_,fun r hr v hv=>?_⟩
 ·obtain ⟨s,_,rfl⟩:=Qa5.mp hr
  exact Zfj _ _ _ _ _ _
 ·rcases ho r hr v hv with e | e <;> rw [e] <;> exact .inl ⟨rfl,_,rfl⟩
 ·rcases ho r hr v hv with e | e <;> rw [e]
  ·exact .inl rfl
  ·exact .inr rfl
theorem kE.runs{nm:List Str}{ws:List V}{l:List (Int × List Int)}{H:Hp}{m:Addr}(S:G8 nm ws)(M:kE nm ws l H m):Runs (rnG (nxS nm ws) l) (l.map (otC nm ws)) nm.length:=by
 have W:=M.wf S
 exact ⟨W.b,W.ol,W.nr,W.nl,W.or⟩
theorem kE.same{nm:List Str}{ws:List V}{l:List (Int × List Int)}{H H':Hp}{m:Addr}(M:kE nm ws l H m)(e:ZG H H'):kE nm ws l H' m:=⟨M.b,M.m.same e⟩
theorem kE.off{nm:List Str}{ws:List V}{l:List (Int × List Int)}{H H':Hp}{m pw:Addr}{pz:Array Value}(M:kE nm ws l H m)(o:Zf5 pw H H')(hz:H pw=some (.tbl pz)):kE nm ws l H' m:=by
 obtain ⟨pn,ps,po,h1,h2,h3,h4⟩:=M.m.ex
 exact ⟨M.b,⟨⟨pn,ps,po,o.tup hz h1,o.tup hz h2,Jg h3 fun b xs e=>o.tup hz e,Jg h4 fun b xs e=>o.tup hz e⟩⟩⟩
theorem uT{nm:List Str}{ws:List V}{l:List (Int × List Int)}{H:Hp}{m:Addr}{ls:List Nat}{W:Nat}(S:G8 nm ws)(M:kE nm ws l H m)(hW:1<=W)(hW2:W<=ls.length)(hls:∀x∈ls,x < 2 ^ nm.length) :
  ∃b:Bool,JS (2 ^ W) (x6 (ls.take W) nm) ws []=[.bl b]/\(rnO (rnG (nxS nm ws) l) (l.map (otC nm ws)) 0 ls)[W - 1]?=some (.bl b):=by
 obtain ⟨o,e1,e2⟩:=kD hW S.kp (x6 (ls.take W) nm) S.ty
 refine ⟨_,e2,?_⟩
 have f:=S.ty.facts
 have h:=uO (o0:=.bl false) (o1:=.bl true) S.nd S.kp f.1 f.2.1 hW2 hls e1 M.b (W - 1) (by lia)
 rw [h]
 rcases YQ o (W - 1) with z | z <;> rw [z] <;> rfl
set_option genInjectivity false in
set_option genSizeOfSpec false in
structure Adr where
 a_words_at:Addr
 f_words_at:FuncData
 a_number_of:Addr
 f_number_of:FuncData
 a_sums_behind:Addr
 f_sums_behind:FuncData
 a_claims_behind:Addr
 f_claims_behind:FuncData
 a_remembers:Addr
 f_remembers:FuncData
 a_borrowed:Addr
 f_borrowed:FuncData
 a_out_at_once:Addr
 f_out_at_once:FuncData
 a_state_number:Addr
 f_state_number:FuncData
 a_longest_number:Addr
 f_longest_number:FuncData
 a_bits_at:Addr
 f_bits_at:FuncData
 a_law_whole:Addr
 f_law_whole:FuncData
 a_law_cell_at:Addr
 f_law_cell_at:FuncData
 a_law_numbers:Addr
 f_law_numbers:FuncData
 a_law_atom:Addr
 f_law_atom:FuncData
 a_law_word:Addr
 f_law_word:FuncData
 a_law_carries:Addr
 f_law_carries:FuncData
 a_law_one:Addr
 f_law_one:FuncData
 a_law_two:Addr
 f_law_two:FuncData
 a_law_signed:Addr
 f_law_signed:FuncData
 a_law_one_holds:Addr
 f_law_one_holds:FuncData
 a_law_letters:Addr
 f_law_letters:FuncData
 a_law_words:Addr
 f_law_words:FuncData
 a_law_led_to:Addr
 f_law_led_to:FuncData
 a_law_row_of:Addr
 f_law_row_of:FuncData
 a_law_run:Addr
 f_law_run:FuncData
 a_parts_of:Addr
 f_parts_of:FuncData
 a_name_columns:Addr
 f_name_columns:FuncData
 a_kept_then:Addr
 f_kept_then:FuncData
 a_out_by_kept:Addr
 f_out_by_kept:FuncData
 a_law_names:Addr
 f_law_names:FuncData
 a_law_sum:Addr
 f_law_sum:FuncData
 a_law_two_hold:Addr
 f_law_two_hold:FuncData
 a_law_is_machine:Addr
 f_law_is_machine:FuncData
 a_parts_taken:Addr
 f_parts_taken:FuncData
 a_law_claim:Addr
 f_law_claim:FuncData
 a_law_holds:Addr
 f_law_holds:FuncData
 a_stepped:Addr
 f_stepped:FuncData
 a_law_tells:Addr
 f_law_tells:FuncData
 a_machine_found:Addr
 f_machine_found:FuncData
 a_machine_telling:Addr
 f_machine_telling:FuncData
 a_claim_machine:Addr
 f_claim_machine:FuncData
 a_law:Addr
 f_law:FuncData
 c_machine_telling:Addr
 p_machine_telling:Addr
 g_SUM_PARTS:Addr
 g_SUMS_IN_CLAIM:Addr
 g_CLAIMS_IN_CLAIM:Addr
 g_REMEMBERING:Addr
structure Kg(K:PySem.W.Frag)(w:World)(mg:Str->Option Value)(x:Str)(a:Addr)(l:List (Str × Int)):Prop where
 m:mg x=some (.ref a)
 d:KD K w a l
structure Kt(K:PySem.W.Frag)(mg:Str->Option Value)(x:Str)(a:Addr)(l:List Str):Prop where
 m:mg x=some (.ref a)
 d:∀H,SqT K H a (l.map V.str)
structure Df(K:PySem.W.Frag)(mg:Str->Option Value)(x:Str)(st:Stmt)(ps:List Str)(f:Addr)(fd:FuncData):Prop where
 F:Fun K x x st f fd
 m:mg x=some (.ref f)
 b:Binds K fd ps []
set_option genInjectivity false in
set_option genSizeOfSpec false in
structure Txt(K:PySem.W.Frag)(w:World)(mg:Str->Option Value)(t:Adr):Prop where
 g_SUM_PARTS:Kg K w mg "SUM_PARTS" t.g_SUM_PARTS [("not",1),("neg",1),("twice",1),("low",1),("and",2),("or",2),("odd",2),("add",2),("sub",2),("pick",3)]
 g_SUMS_IN_CLAIM:Kg K w mg "SUMS_IN_CLAIM" t.g_SUMS_IN_CLAIM [("same",2),("under",2),("beneath",2),("sign",1),("nought",1)]
 g_CLAIMS_IN_CLAIM:Kg K w mg "CLAIMS_IN_CLAIM" t.g_CLAIMS_IN_CLAIM [("both",2),("either",2),("so",2),("never",1),("yes",0)]
 g_REMEMBERING:Kt K mg "REMEMBERING" t.g_REMEMBERING ["neg","twice","low","add","sub","same","under","beneath","nought"]
 d_words_at:Df K mg "words_at" X8 ["width"] t.a_words_at t.f_words_at
 d_number_of:Df K mg "number_of" Xp ["bits"] t.a_number_of t.f_number_of
 d_sums_behind:Df K mg "sums_behind" YC ["word"] t.a_sums_behind t.f_sums_behind
 d_claims_behind:Df K mg "claims_behind" Yn ["word"] t.a_claims_behind t.f_claims_behind
 d_remembers:Df K mg "remembers" Xq ["word"] t.a_remembers t.f_remembers
 d_borrowed:Df K mg "borrowed" X9 ["one","other","held"] t.a_borrowed t.f_borrowed
 d_out_at_once:Df K mg "out_at_once" YD ["word","parts"] t.a_out_at_once t.f_out_at_once
 d_state_number:Df K mg "state_number" Yz ["state","states","numbers"] t.a_state_number t.f_state_number
 d_longest_number:Df K mg "longest_number" ZR ["words"] t.a_longest_number t.f_longest_number
 d_bits_at:Df K mg "bits_at" XN ["columns","letter"] t.a_bits_at t.f_bits_at
 d_law_whole:Df K mg "_law_whole" Xr ["found"] t.a_law_whole t.f_law_whole
 d_law_cell_at:Df K mg "_law_cell_at" YE ["script","k"] t.a_law_cell_at t.f_law_cell_at
 d_law_numbers:Df K mg "_law_numbers" YF ["cell","many","most"] t.a_law_numbers t.f_law_numbers
 d_law_atom:Df K mg "_law_atom" XA ["number","names"] t.a_law_atom t.f_law_atom
 d_law_word:Df K mg "_law_word" XB ["number","left"] t.a_law_word t.f_law_word
 d_law_carries:Df K mg "_law_carries" Yv ["words"] t.a_law_carries t.f_law_carries
 d_law_one:Df K mg "_law_one" Wm ["word","one"] t.a_law_one t.f_law_one
 d_law_two:Df K mg "_law_two" Wn ["word","one","other"] t.a_law_two t.f_law_two
 d_law_signed:Df K mg "_law_signed" YX ["one","width"] t.a_law_signed t.f_law_signed
 d_law_one_holds:Df K mg "_law_one_holds" Yo ["word","one","width"] t.a_law_one_holds t.f_law_one_holds
 d_law_letters:Df K mg "_law_letters" YG ["names","width","values"] t.a_law_letters t.f_law_letters
 d_law_words:Df K mg "_law_words" Xs ["names","letters"] t.a_law_words t.f_law_words
 d_law_led_to:Df K mg "_law_led_to" YY ["begin","nexts"] t.a_law_led_to t.f_law_led_to
 d_law_row_of:Df K mg "_law_row_of" YZ ["row","many"] t.a_law_row_of t.f_law_row_of
 d_law_run:Df K mg "_law_run" Wo ["machine","letters"] t.a_law_run t.f_law_run
 d_parts_of:Df K mg "parts_of" XC ["word"] t.a_parts_of t.f_parts_of
 d_name_columns:Df K mg "name_columns" Yi ["names","letters"] t.a_name_columns t.f_name_columns
 d_kept_then:Df K mg "kept_then" Xt ["word","parts","held"] t.a_kept_then t.f_kept_then
 d_out_by_kept:Df K mg "out_by_kept" YH ["word","parts","held","then"] t.a_out_by_kept t.f_out_by_kept
 d_law_names:Df K mg "_law_names" Y7 ["cell","many"] t.a_law_names t.f_law_names
 d_law_sum:Df K mg "_law_sum" Wq ["numbers","names","most"] t.a_law_sum t.f_law_sum
 d_law_two_hold:Df K mg "_law_two_hold" Y0 ["word","one","other","width"] t.a_law_two_hold t.f_law_two_hold
 d_law_is_machine:Df K mg "_law_is_machine" Yd ["found","names","truths"] t.a_law_is_machine t.f_law_is_machine
 d_parts_taken:Df K mg "parts_taken" Yw ["stack","word"] t.a_parts_taken t.f_parts_taken
 d_law_claim:Df K mg "_law_claim" Xu ["numbers","names","long","most"] t.a_law_claim t.f_law_claim
 d_law_holds:Df K mg "_law_holds" Xv ["claim","width","values"] t.a_law_holds t.f_law_holds
 d_stepped:Df K mg "stepped" Wr ["words","columns","place","kept"] t.a_stepped t.f_stepped
 d_law_tells:Df K mg "_law_tells" Xw ["machine","claim","names","letters","first"] t.a_law_tells t.f_law_tells
 d_machine_found:Df K mg "machine_found" ZZ ["names","begin","step_of"] t.a_machine_found t.f_machine_found
 d_machine_telling:Df K mg "machine_telling" Z7 ["words","names","told"] t.a_machine_telling t.f_machine_telling
 d_claim_machine:Df K mg "claim_machine" Yp ["claim","names"] t.a_claim_machine t.f_claim_machine
 d_law:Df K mg "law" xA ["script"] t.a_law t.f_law
 k_machine_telling:t.f_machine_telling.code=.ref t.c_machine_telling
 z_abs:mg "abs" = none
 z_bool:mg "bool" = none
 z_enumerate:mg "enumerate" = none
 z_int:mg "int" = none
 z_isinstance:mg "isinstance" = none
 z_len:mg "len" = none
 z_list:mg "list" = none
 z_max:mg "max" = none
 z_min:mg "min" = none
 z_range:mg "range" = none
 z_reversed:mg "reversed" = none
 z_sorted:mg "sorted" = none
 z_tuple:mg "tuple" = none
set_option genInjectivity false in
set_option genSizeOfSpec false in
structure Tbs(mg:Str->Option Value)(base:Heap)(t:Adr):Prop where
 c_machine_telling:PySem.W.CodeHd base t.c_machine_telling t.p_machine_telling
 B:zD mg base
theorem W2:Z1 ["width","many","bit_number"] ["width"] (Zg X8):=⟨rfl,rfl,rfl,by decide +kernel,rfl,by decide +kernel,by decide +kernel⟩
theorem XW:Z1 ["bits","number","bit"] ["bits"] (Zg Xp):=⟨rfl,rfl,rfl,by decide +kernel,rfl,by decide +kernel,by decide +kernel⟩
theorem xF:Z1 ["word"] ["word"] (Zg YC):=⟨rfl,rfl,rfl,by decide +kernel,rfl,by decide +kernel,by decide +kernel⟩
theorem qg:Z1 ["word"] ["word"] (Zg Yn):=⟨rfl,rfl,rfl,by decide +kernel,rfl,by decide +kernel,by decide +kernel⟩
theorem jU:Z1 ["word"] ["word"] (Zg Xq):=⟨rfl,rfl,rfl,by decide +kernel,rfl,by decide +kernel,by decide +kernel⟩
theorem yL:Z1 ["one","other","held"] ["one","other","held"] (Zg X9):=⟨rfl,rfl,rfl,by decide +kernel,rfl,by decide +kernel,by decide +kernel⟩
theorem xG:Z1 ["word","parts"] ["word","parts"] (Zg YD):=⟨rfl,rfl,rfl,by decide +kernel,rfl,by decide +kernel,by decide +kernel⟩
theorem xo:Z1 ["state","states","numbers"] ["state","states","numbers"] (Zg Yz):=⟨rfl,rfl,rfl,by decide +kernel,rfl,by decide +kernel,by decide +kernel⟩
theorem G9:Z1 ["words"] ["words"] (Zg ZR):=⟨rfl,rfl,rfl,by decide +kernel,rfl,by decide +kernel,by decide +kernel⟩
theorem kF:Z1 ["columns","letter"] ["columns","letter"] (Zg XN):=⟨rfl,rfl,rfl,by decide +kernel,rfl,by decide +kernel,by decide +kernel⟩
theorem jV:Z1 ["found"] ["found"] (Zg Xr):=⟨rfl,rfl,rfl,by decide +kernel,rfl,by decide +kernel,by decide +kernel⟩
theorem xH:Z1 ["script","k"] ["script","k"] (Zg YE):=⟨rfl,rfl,rfl,by decide +kernel,rfl,by decide +kernel,by decide +kernel⟩
theorem ZC:Z1 ["cell","many","most","found","rest","k","one","two"] ["cell","many","most"] (Zg YF):=⟨rfl,rfl,rfl,by decide +kernel,rfl,by decide +kernel,by decide +kernel⟩
theorem yM:Z1 ["number","names"] ["number","names"] (Zg XA):=⟨rfl,rfl,rfl,by decide +kernel,rfl,by decide +kernel,by decide +kernel⟩
theorem W3:Z1 ["number","left","words","word"] ["number","left"] (Zg XB):=⟨rfl,rfl,rfl,by decide +kernel,rfl,by decide +kernel,by decide +kernel⟩
theorem xI:Z1 ["words"] ["words"] (Zg Yv):=⟨rfl,rfl,rfl,by decide +kernel,rfl,by decide +kernel,by decide +kernel⟩
theorem kG:Z1 ["word","one"] ["word","one"] (Zg Wm):=⟨rfl,rfl,rfl,by decide +kernel,rfl,by decide +kernel,by decide +kernel⟩
theorem kH:Z1 ["word","one","other"] ["word","one","other"] (Zg Wn):=⟨rfl,rfl,rfl,by decide +kernel,rfl,by decide +kernel,by decide +kernel⟩
theorem zV:Z1 ["one","width"] ["one","width"] (Zg YX):=⟨rfl,rfl,rfl,by decide +kernel,rfl,by decide +kernel,by decide +kernel⟩
theorem qh:Z1 ["word","one","width"] ["word","one","width"] (Zg Yo):=⟨rfl,rfl,rfl,by decide +kernel,rfl,by decide +kernel,by decide +kernel⟩
theorem Y1:Z1 ["names","width","values","letters","k","letter","i"] ["names","width","values"] (Zg YG):=⟨rfl,rfl,rfl,by decide +kernel,rfl,by decide +kernel,by decide +kernel⟩
theorem Xa:Z1 ["names","letters","words","i","word","k"] ["names","letters"] (Zg Xs):=⟨rfl,rfl,rfl,by decide +kernel,rfl,by decide +kernel,by decide +kernel⟩
theorem YI:Z1 ["begin","nexts","there","seen","k","state"] ["begin","nexts"] (Zg YY):=⟨rfl,rfl,rfl,by decide +kernel,rfl,by decide +kernel,by decide +kernel⟩
theorem zW:Z1 ["row","many"] ["row","many"] (Zg YZ):=⟨rfl,rfl,rfl,by decide +kernel,rfl,by decide +kernel,by decide +kernel⟩
theorem Ws:Z1 ["machine","letters","state","told","letter"] ["machine","letters"] (Zg Wo):=⟨rfl,rfl,rfl,by decide +kernel,rfl,by decide +kernel,by decide +kernel⟩
theorem yN:Z1 ["word"] ["word"] (Zg XC):=⟨rfl,rfl,rfl,by decide +kernel,rfl,by decide +kernel,by decide +kernel⟩
theorem Xk:Z1 ["names","letters","columns","place","name"] ["names","letters"] (Zg Yi):=⟨rfl,rfl,rfl,by decide +kernel,rfl,by decide +kernel,by decide +kernel⟩
theorem GO:Z1 ["word","parts","held","one"] ["word","parts","held"] (Zg Xt):=⟨rfl,rfl,rfl,by decide +kernel,rfl,by decide +kernel,by decide +kernel⟩
theorem xJ:Z1 ["word","parts","held","then"] ["word","parts","held","then"] (Zg YH):=⟨rfl,rfl,rfl,by decide +kernel,rfl,by decide +kernel,by decide +kernel⟩
theorem Yh:Z1 ["cell","many","xs","menu","some","base","at","turn"] ["cell","many"] (Zg Y7):=⟨rfl,rfl,rfl,by decide +kernel,rfl,by decide +kernel,by decide +kernel⟩
theorem ZP:Z1 ["numbers","names","most","some","left","number","word","wants","built","part"] ["numbers","names","most"] (Zg Wq):=⟨rfl,rfl,rfl,by decide +kernel,rfl,by decide +kernel,by decide +kernel⟩
theorem xp:Z1 ["word","one","other","width"] ["word","one","other","width"] (Zg Y0):=⟨rfl,rfl,rfl,by decide +kernel,rfl,by decide +kernel,by decide +kernel⟩
theorem ZW:Z1 ["found","names","truths","nexts","out","k","state","bit"] ["found","names","truths"] (Zg Yd):=⟨rfl,rfl,rfl,by decide +kernel,rfl,by decide +kernel,by decide +kernel⟩
theorem xK:Z1 ["stack","word"] ["stack","word"] (Zg Yw):=⟨rfl,rfl,rfl,by decide +kernel,rfl,by decide +kernel,by decide +kernel⟩
theorem Z6:Z1 ["numbers","names","long","most","some","left","k","xs","word","one","other","claim"] ["numbers","names","long","most"] (Zg Xu):=⟨rfl,rfl,rfl,by decide +kernel,rfl,by decide +kernel,by decide +kernel⟩
theorem Xb:Z1 ["claim","width","values","size","told","word","one","other"] ["claim","width","values"] (Zg Xv):=⟨rfl,rfl,rfl,by decide +kernel,rfl,by decide +kernel,by decide +kernel⟩
theorem XF:Z1 ["words","columns","place","kept","stack","later","word","parts","held"] ["words","columns","place","kept"] (Zg Wr):=⟨rfl,rfl,rfl,by decide +kernel,rfl,by decide +kernel,by decide +kernel⟩
theorem WR:Z1 ["machine","claim","names","letters","first","told","width"] ["machine","claim","names","letters","first"] (Zg Xw):=⟨rfl,rfl,rfl,by decide +kernel,rfl,by decide +kernel,by decide +kernel⟩
theorem Ye:Z1 ["names","begin","step_of","states","numbers","steps","out","told"] ["names","begin","step_of"] (Zg ZZ):=⟨rfl,rfl,rfl,by decide +kernel,rfl,by decide +kernel,by decide +kernel⟩
theorem ZQ:Z1 ["words","names","told","letters","columns","last_place","step_of","begin"] ["words","names","told"] (Zg Z7):=⟨rfl,rfl,rfl,by decide +kernel,rfl,by decide +kernel,by decide +kernel⟩
theorem qi:Z1 ["claim","names"] ["claim","names"] (Zg Yp):=⟨rfl,rfl,rfl,by decide +kernel,rfl,by decide +kernel,by decide +kernel⟩
theorem YR:Z1 ["script","shape","names","long","many","most","numbers","claim","kept","found","width","values","k","letters"] ["script"] (Zg xA):=⟨rfl,rfl,rfl,by decide +kernel,rfl,by decide +kernel,by decide +kernel⟩
theorem Jh:Zer (Zg Xf) ["state"] ["step","place","reached"] ["words","columns","last_place","letters","told"]:=⟨by rfl,by rfl,by rfl,by decide +kernel,by decide +kernel,by decide +kernel,by decide +kernel⟩
section
variable {P:Program}{w:World}{K:PySem.W.Frag}{mg:Str->Option Value}{base:Heap}{t:Adr}
inductive JZ(vs:List V)(H:Hp)(Q:VK):Prop
 | mk (w:Nat):(vs=[.int w])->(w<=1000)->(Q (.int (2 ^ w)) H)->JZ vs H Q
noncomputable def xq(K:PySem.W.Frag):Sp:=fun vs H Q _=>JZ vs H Q
theorem yO (T:Txt K w mg t) (TB:Tbs mg base t):ZO P w K mg base CX0 1 t.a_words_at t.f_words_at ["width"] (xq K):=by
 refine T.d_words_at.F.ok W2 (fun vs H Q E h=>?_) (fun cdv A outer s H vs Q E hr h=>?_)
 ·obtain ⟨w,rfl,hw,k⟩:=h
  rfl
 ·obtain ⟨w,rfl,hw,k⟩:=h
  have hu:=Yj hr
  refine ⟨_,@QSs.out _ _ _ (Zb (Zq (i:=1) W2.nd rfl (Or.inl rfl) Zd)
    (Zb (YN PassesOwn.never rfl (Ym rfl T.z_range (Zj (qv 0) Ze)) (Yc (i:=2) W2.nd rfl (Or.inl rfl))
    (Zf (Zq (i:=1) W2.nd rfl (Or.inl rfl) (Zi YT (qv 1) Zd))))
    (Zf (Zt (qv 1))))),?_⟩
  clear hu hr
  try dsimp only [L2.cxK,L2.cxK2]
  refine L2.let3 ?_
  intro U2 U1
  refine ⟨_,rfl,(w:Int),rfl,by lia,by lia,YM (fun i σ H2=>∃v,σ=[some (.int w),some (.int (2 ^ i)),v]/\H2=H) ⟨none,rfl,rfl⟩ ?_ ?_⟩
  ·rintro i σ H2 hi hz_
   refine Z5 fun Gz hGz=>?_
   obtain ⟨v,rfl,rfl⟩:=hz_
   refine hGz ?_
   clear hGz Gz
   refine ⟨_,rfl,_,_,rfl,rfl,.inr (.inr ⟨by decide,by decide⟩),some (.int (0 + (i:Int))),?_,rfl⟩
   rw [pow_succ']
   rfl
  ·rintro σ H2 hz_
   refine Z5 fun Gz hGz=>?_
   obtain ⟨v,rfl,rfl⟩:=hz_
   refine hGz ?_
   clear hGz Gz
   refine ⟨_,rfl,?_⟩
   rw [Qat]
   exact k
theorem Zbw{ms:List Int}{i:Nat}{x:V}(h:(ms.map V.int)[i]?=some x):∃b,x=V.int b/\ms[i]?=some b:=by
 rw [Qao] at h
 cases e:ms[i]? with
 | none=>rw [e] at h;cases h
 | some b=>rw [e] at h;exact ⟨b,(Option.some.inj h).symm,rfl⟩
inductive Jj(K:PySem.W.Frag)(vs:List V)(H:Hp)(Q:VK):Prop
 | mk (p:Addr) (ns:List Int):(vs=[.ref p])->(SqT K H p (ns.map V.int))->(Q (.int (hor ns.reverse)) H)->Jj K vs H Q
noncomputable def GP(K:PySem.W.Frag):Sp:=fun vs H Q _=>Jj K vs H Q
theorem jW (T:Txt K w mg t) (TB:Tbs mg base t):ZO P w K mg base CX0 1 t.a_number_of t.f_number_of ["bits"] (GP K):=by
 refine T.d_number_of.F.ok XW (fun vs H Q E h=>?_) (fun cdv A outer s H vs Q E hr h=>?_)
 ·obtain ⟨p,ns,rfl,hp,k⟩:=h
  rfl
 ·obtain ⟨p,ns,rfl,hp,k⟩:=h
  have hu:=Yj hr
  refine ⟨_,@QSs.out _ _ _ (Zb (Zq (i:=1) XW.nd rfl (Or.inl rfl) Zd)
    (Zb (YN PassesOwn.never rfl (gc rfl T.z_reversed (qv 0)) (Yc (i:=2) XW.nd rfl (Or.inl rfl))
    (Zf (Zq (i:=1) XW.nd rfl (Or.inl rfl) (Zi ZX (Zi YT (qv 1) Zd) (qv 2)))))
    (Zf (Zt (qv 1))))),?_⟩
  clear hu hr
  try dsimp only [L2.cxK,L2.cxK2]
  refine L2.let3 ?_
  intro U2 U1
  refine ⟨_,rfl,p,_,rfl,hp,gg (K:=K) (a:=p) (xs:=ns.map V.int) (fun i σ H2=>∃v,σ=[some (.ref p),some (.int (hor (ns.reverse.take i))),v]/\H2=H) ⟨none,rfl,rfl⟩ (fun i σ H2 _ ⟨_,_,e⟩=>by rw [e];exact hp) ?_ ?_⟩
  ·rintro i x σ H2 hx hz_
   refine Z5 fun Gz hGz=>?_
   obtain ⟨v,rfl,rfl⟩:=hz_
   refine hGz ?_
   clear hGz Gz
   rw [<-List.map_reverse] at hx
   obtain ⟨b,rfl,hb⟩:=Zbw hx
   refine ⟨_,rfl,_,_,rfl,rfl,.inr (.inr ⟨by decide,by decide⟩),_,rfl,_,_,rfl,rfl,some (.int b),?_,rfl⟩
   rw [Zbc hb]
   rfl
  ·rintro σ H2 hz_
   refine Z5 fun Gz hGz=>?_
   obtain ⟨v,rfl,rfl⟩:=hz_
   refine hGz ?_
   clear hGz Gz
   refine ⟨_,rfl,?_⟩
   rw [Qb9 (by rw [Qb2,Qab];exact Qaj _)]
   exact k
inductive W5(vs:List V)(H:Hp)(Q:VK):Prop
 | mk (k:Key):(vs=[kV k])->(Q (.int (J4 T1 k + J4 T2 k)) H)->W5 vs H Q
noncomputable def Jk(K:PySem.W.Frag):Sp:=fun vs H Q _=>W5 vs H Q
theorem xM (T:Txt K w mg t) (TB:Tbs mg base t):ZO P w K mg base CX0 1 t.a_sums_behind t.f_sums_behind ["word"] (Jk K):=by
 refine T.d_sums_behind.F.ok xF (fun vs H Q E h=>?_) (fun cdv A outer s H vs Q E hr h=>?_)
 ·obtain ⟨kk,rfl,k⟩:=h
  rfl
 ·obtain ⟨kk,rfl,k⟩:=h
  have hu:=Yj hr
  refine ⟨_,@QSs.out _ _ _ (Zf (Zt (Zi ZX (yx (z6 (v:=.ref t.g_SUM_PARTS) rfl T.g_SUM_PARTS.m rfl) (qv 0) Zd) (yx (z6 (v:=.ref t.g_SUMS_IN_CLAIM) rfl T.g_SUMS_IN_CLAIM.m rfl) (qv 0) Zd)))),?_⟩
  clear hu hr
  try dsimp only [L2.cxK,L2.cxK2]
  refine ⟨t.g_SUM_PARTS,T1,rfl,T.g_SUM_PARTS.d,_,rfl,kk,rfl,t.g_SUMS_IN_CLAIM,T2,rfl,T.g_SUMS_IN_CLAIM.d,_,rfl,kk,rfl,?_⟩
  rw [kget,kget]
  exact ⟨_,_,rfl,rfl,k⟩
inductive XX(vs:List V)(H:Hp)(Q:VK):Prop
 | mk (k:Key):(vs=[kV k])->(Q (.int (J4 T3 k)) H)->XX vs H Q
noncomputable def W6(K:PySem.W.Frag):Sp:=fun vs H Q _=>XX vs H Q
theorem qj (T:Txt K w mg t) (TB:Tbs mg base t):ZO P w K mg base CX0 1 t.a_claims_behind t.f_claims_behind ["word"] (W6 K):=by
 refine T.d_claims_behind.F.ok qg (fun vs H Q E h=>?_) (fun cdv A outer s H vs Q E hr h=>?_)
 ·obtain ⟨kk,rfl,k⟩:=h
  rfl
 ·obtain ⟨kk,rfl,k⟩:=h
  have hu:=Yj hr
  refine ⟨_,@QSs.out _ _ _ (Zf (Zt (yx (z6 (v:=.ref t.g_CLAIMS_IN_CLAIM) rfl T.g_CLAIMS_IN_CLAIM.m rfl) (qv 0) Zd))),?_⟩
  clear hu hr
  try dsimp only [L2.cxK,L2.cxK2]
  refine ⟨t.g_CLAIMS_IN_CLAIM,T3,rfl,T.g_CLAIMS_IN_CLAIM.d,_,rfl,kk,rfl,?_⟩
  rw [kget]
  exact k
inductive Jl(vs:List V)(H:Hp)(Q:VK):Prop
 | mk (x:V):(vs=[x])->(Xc x=true)->(Q (.bl (inV x (allR.map V.str))) H)->Jl vs H Q
noncomputable def WS(K:PySem.W.Frag):Sp:=fun vs H Q _=>Jl vs H Q
theorem GQ (T:Txt K w mg t) (TB:Tbs mg base t):ZO P w K mg base CX0 1 t.a_remembers t.f_remembers ["word"] (WS K):=by
 refine T.d_remembers.F.ok jU (fun vs H Q E h=>?_) (fun cdv A outer s H vs Q E hr h=>?_)
 ·obtain ⟨x,rfl,hx,k⟩:=h
  rfl
 ·obtain ⟨x,rfl,hx,k⟩:=h
  have hu:=Yj hr
  refine ⟨_,@QSs.out _ _ _ (Zf (Zt (WM ZT (qv 0) (z6 (v:=.ref t.g_REMEMBERING) rfl T.g_REMEMBERING.m rfl) (by with_unfolding_all rfl)))),?_⟩
  clear hu hr
  try dsimp only [L2.cxK,L2.cxK2]
  exact ⟨_,rfl,t.g_REMEMBERING,_,rfl,.inr (T.g_REMEMBERING.d H),hx,gO _,k⟩
inductive Ga(vs:List V)(H:Hp)(Q:VK):Prop
 | mk (a b h:Int):(vs=[.int a,.int b,.int h])->(Q (.int (Zgy a b h)) H)->Ga vs H Q
noncomputable def J8(K:PySem.W.Frag):Sp:=fun vs H Q _=>Ga vs H Q
theorem xr (T:Txt K w mg t) (TB:Tbs mg base t):ZO P w K mg base CX0 1 t.a_borrowed t.f_borrowed ["one","other","held"] (J8 K):=by
 refine T.d_borrowed.F.ok yL (fun vs H Q E h=>?_) (fun cdv A outer s H vs Q E hr h=>?_)
 ·obtain ⟨a,b,h,rfl,k⟩:=h
  rfl
 ·obtain ⟨a,b,h,rfl,k⟩:=h
  have hu:=Yj hr
  refine ⟨_,@QSs.out _ _ _ (Zf (Zt (Zi x8 (Zi Xl (Wd qE (qv 0)) (qv 1)) (Zi Xl (qv 2) (Wd qE (Zi qD (qv 0) (qv 1))))))),?_⟩
  clear hu hr
  try dsimp only [L2.cxK,L2.cxK2]
  exact ⟨_,rfl,_,rfl,_,rfl,_,_,rfl,rfl,_,rfl,_,rfl,_,rfl,_,_,rfl,rfl,_,rfl,_,_,rfl,rfl,_,_,rfl,rfl,k⟩
inductive W7(vs:List V)(H:Hp)(Q:VK):Prop
 | mk (y:Str) (p:Addr) (is:List Int):(vs=[.str y,.ref p])->(H p=some (.lst (is.map V.int)))->(y∈ua)->(is.length=gY y)->(∀H',ZG H H'->Q (.int (oaI y is)) H')->W7 vs H Q
noncomputable def Jm(K:PySem.W.Frag):Sp:=fun vs H Q _=>W7 vs H Q
theorem xN (T:Txt K w mg t) (TB:Tbs mg base t):ZO P w K mg base CX0 1 t.a_out_at_once t.f_out_at_once ["word","parts"] (Jm K):=by
 refine T.d_out_at_once.F.ok xG (fun vs H Q E h=>?_) (fun cdv A outer s H vs Q E hr h=>?_)
 ·obtain ⟨y,p,is,rfl,hp,hy,hl,k⟩:=h
  rfl
 ·obtain ⟨y,p,is,rfl,hp,hy,hl,k⟩:=h
  have hu:=Yj hr
  refine ⟨_,@QSs.out _ _ _ (Zb (Z8 (Zn Yb (qv 0) Zh (Zx _))
    (Zf (Zt (Wd XS Zd))) Zu)
    (Zb (Z8 (Zn Yb (qv 0) Zh (Zx _))
    (Zf (Zt (Zz Zv (qv 1) Zd (fun _ _=>rfl)))) Zu)
    (Zb (Z8 (Zn ZT (qv 0) (ZH (Zj Zh (Zj Zh Ze))) (by with_unfolding_all rfl))
    (Zf (Zt (Wd qE (Zz Zv (qv 1) Zd (fun _ _=>rfl))))) Zu)
    (Zb (Z8 (Zn ZT (qv 0) (ZH (Zj Zh (Zj Zh Ze))) (by with_unfolding_all rfl))
    (Zf (Zt (Zi Xl (Zz Zv (qv 1) Zd (fun _ _=>rfl)) (Zz Zv (qv 1) Zd (fun _ _=>rfl))))) Zu)
    (Zb (Z8 (Zn ZT (qv 0) (ZH (Zj Zh (Zj Zh Ze))) (by with_unfolding_all rfl))
    (Zf (Zt (Zi x8 (Zz Zv (qv 1) Zd (fun _ _=>rfl)) (Zz Zv (qv 1) Zd (fun _ _=>rfl))))) Zu)
    (Zb (Z8 (Zn Yb (qv 0) Zh (Zx _))
    (Zf (Zt (Zi qD (Zz Zv (qv 1) Zd (fun _ _=>rfl)) (Zz Zv (qv 1) Zd (fun _ _=>rfl))))) Zu)
    (Zb (Z8 (Zn Yb (qv 0) Zh (Zx _))
    (Zf (Zt (Zi x8 (Wd qE (Zz Zv (qv 1) Zd (fun _ _=>rfl))) (Zz Zv (qv 1) Zd (fun _ _=>rfl))))) Zu)
    (Zf (Zt (Zi x8 (Zi Xl (Zz Zv (qv 1) Zd (fun _ _=>rfl)) (Zz Zv (qv 1) Zd (fun _ _=>rfl))) (Zi Xl (Wd qE (Zz Zv (qv 1) Zd (fun _ _=>rfl))) (Zz Zv (qv 1) Zd (fun _ _=>rfl))))))))))))),?_⟩
  clear hu
  try dsimp only [L2.cxK,L2.cxK2]
  refine L2.let8 ?_
  intro U7 U6 U5 U4 U3 U2 U1
  unfold oaI at k
  refine ⟨_,rfl,rfl,_,rfl,?_⟩
  by_cases h1:y = "yes"
  ·rw [Qae (congrArg V.str h1)]
   rw [Qau h1] at k
   refine YS ?_
   exact ⟨_,rfl,k H (ZG.refl _)⟩
  rw [Qad (fun z=>h1 (by injection z))]
  rw [Qan h1] at k
  refine ZU ⟨_,rfl,rfl,_,rfl,?_⟩
  by_cases h2:y = "sign"
  ·rw [Qae (congrArg V.str h2)]
   rw [Qau h2] at k
   refine YS ?_
   exact ⟨_,rfl,p,_,0,_,rfl,rfl,SqL.of hp,Z3 0 rfl (qY hl (by rw [h2];decide +kernel)),k H (ZG.refl _)⟩
  rw [Qad (fun z=>h2 (by injection z))]
  rw [Qan h2] at k
  refine ZU ⟨_,rfl,by show 2<=sizeLine;decide,fun q hq=>⟨q,_,rfl,.inr (SqT.of Za),rfl,rfl,_,rfl,?_⟩⟩
  show if inV (.str y) ((["not","never"]:List Str).map V.str)=true then _ else _
  rw [Z2]
  have sq:=Zc (o:=.tup [.str "not",.str "never"]) hq
  have pq:=sq _ _ hp
  generalize upd H q (.tup [.str "not",.str "never"])=H1 at *
  by_cases h3:y = "not" \/ y = "never"
  ·rw [Qae (by simp only [Qak,Qa3,Qcq];exact h3)]
   rw [Qau h3] at k
   refine YS ?_
   exact ⟨_,rfl,p,_,0,_,rfl,rfl,SqL.of pq,Z3 0 rfl (qY hl (by rcases h3 with h | h <;> rw [h] <;> decide +kernel)),_,rfl,k H1 sq⟩
  rw [Qad (by simp only [Qak,Qa3,Qcq];exact h3)]
  rw [Qan h3] at k
  refine ZU ⟨_,rfl,by show 2<=sizeLine;decide,fun r hr=>⟨r,_,rfl,.inr (SqT.of Za),rfl,rfl,_,rfl,?_⟩⟩
  show if inV (.str y) ((["and","both"]:List Str).map V.str)=true then _ else _
  rw [Z2]
  have sr:=Zc (o:=.tup [.str "and",.str "both"]) hr
  have pr:=sr _ _ pq
  generalize upd H1 r (.tup [.str "and",.str "both"])=H2 at *
  by_cases h4:y = "and" \/ y = "both"
  ·rw [Qae (by simp only [Qak,Qa3,Qcq];exact h4)]
   rw [Qau h4] at k
   refine YS ?_
   have l2:2<=is.length:=qY hl (by rcases h4 with h | h <;> rw [h] <;> decide +kernel)
   exact ⟨_,rfl,p,_,0,_,rfl,rfl,SqL.of pr,Z3 0 rfl (by lia),_,rfl,p,_,1,_,rfl,rfl,SqL.of pr,Z3 1 rfl l2,_,_,rfl,rfl,k H2 (sq.trans sr)⟩
  rw [Qad (by simp only [Qak,Qa3,Qcq];exact h4)]
  rw [Qan h4] at k
  refine ZU ⟨_,rfl,by show 2<=sizeLine;decide,fun t1 ht1=>⟨t1,_,rfl,.inr (SqT.of Za),rfl,rfl,_,rfl,?_⟩⟩
  show if inV (.str y) ((["or","either"]:List Str).map V.str)=true then _ else _
  rw [Z2]
  have st1:=Zc (o:=.tup [.str "or",.str "either"]) ht1
  have pt1:=st1 _ _ pr
  generalize upd H2 t1 (.tup [.str "or",.str "either"])=H3 at *
  by_cases h5:y = "or" \/ y = "either"
  ·rw [Qae (by simp only [Qak,Qa3,Qcq];exact h5)]
   rw [Qau h5] at k
   refine YS ?_
   have l2:2<=is.length:=qY hl (by rcases h5 with h | h <;> rw [h] <;> decide +kernel)
   exact ⟨_,rfl,p,_,0,_,rfl,rfl,SqL.of pt1,Z3 0 rfl (by lia),_,rfl,p,_,1,_,rfl,rfl,SqL.of pt1,Z3 1 rfl l2,_,_,rfl,rfl,k H3 ((sq.trans sr).trans st1)⟩
  rw [Qad (by simp only [Qak,Qa3,Qcq];exact h5)]
  rw [Qan h5] at k
  refine ZU ⟨_,rfl,rfl,_,rfl,?_⟩
  by_cases h6:y = "odd"
  ·rw [Qae (congrArg V.str h6)]
   rw [Qau h6] at k
   refine YS ?_
   have l2:2<=is.length:=qY hl (by rw [h6];decide +kernel)
   exact ⟨_,rfl,p,_,0,_,rfl,rfl,SqL.of pt1,Z3 0 rfl (by lia),_,rfl,p,_,1,_,rfl,rfl,SqL.of pt1,Z3 1 rfl l2,_,_,rfl,rfl,k H3 ((sq.trans sr).trans st1)⟩
  rw [Qad (fun z=>h6 (by injection z))]
  rw [Qan h6] at k
  refine ZU ⟨_,rfl,rfl,_,rfl,?_⟩
  by_cases h7:y = "so"
  ·rw [Qae (congrArg V.str h7)]
   rw [Qau h7] at k
   refine YS ?_
   have l2:2<=is.length:=qY hl (by rw [h7];decide +kernel)
   exact ⟨_,rfl,p,_,0,_,rfl,rfl,SqL.of pt1,Z3 0 rfl (by lia),_,rfl,_,rfl,p,_,1,_,rfl,rfl,SqL.of pt1,Z3 1 rfl l2,_,_,rfl,rfl,k H3 ((sq.trans sr).trans st1)⟩
  rw [Qad (fun z=>h7 (by injection z))]
  rw [Qan h7] at k
  have l3:3<=is.length:=qY hl (kj y hy h1 h2 h3 h4 h5 h6 h7)
  exact ZU ⟨_,rfl,p,_,0,_,rfl,rfl,SqL.of pt1,Z3 0 rfl (by lia),_,rfl,p,_,1,_,rfl,rfl,SqL.of pt1,Z3 1 rfl (by lia),_,_,rfl,rfl,_,rfl,p,_,0,_,rfl,rfl,SqL.of pt1,Z3 0 rfl (by lia),_,rfl,_,rfl,p,_,2,_,rfl,rfl,SqL.of pt1,Z3 2 rfl l3,_,_,rfl,rfl,_,_,rfl,rfl,k H3 ((sq.trans sr).trans st1)⟩
inductive Wt(vs:List V)(H:Hp)(Q:VK):Prop
 | mk (κ:Type) (dq:DecidableEq κ) (sk:SK κ) (v:V) (st nd:Addr) (k:κ) (l:List κ) (ws:List V):(vs=[v,.ref st,.ref nd])->(H st=some (.lst ws))->(ws.length=l.length)->(sk.dic H nd l)->(sk.at_ H k v)->(l.Nodup)->(l.length < 10000000)->(∀H' ws',H' st=some (.lst ws')->((k∈l/\ws'=ws)\/(k∉l/\ws'=ws++[v]))->sk.dic H' nd (Xe l k)->(∀b o,H b=some o->b≠st->b≠nd->H' b=some o)->(∀b,H b=none->H' b=none)->Q (.int ((Xe l k).idxOf k:Int)) H')->Wt vs H Q
noncomputable def WT(K:PySem.W.Frag):Sp:=fun vs H Q _=>Wt vs H Q
theorem xt (T:Txt K w mg t) (TB:Tbs mg base t):ZO P w K mg base CX0 1 t.a_state_number t.f_state_number ["state","states","numbers"] (WT K):=by
 refine T.d_state_number.F.ok xo (fun vs H Q E h=>?_) (fun cdv A outer s H vs Q E hr h=>?_)
 ·obtain ⟨κ,_,sk,v,st,nd,k0,l,ws,rfl,hst,hal,n,hk,hnd,hl,k⟩:=h
  rfl
 ·obtain ⟨κ,_,sk,v,st,nd,k0,l,ws,rfl,hst,hal,n,hk,hnd,hl,k⟩:=h
  have hu:=Yj hr
  refine ⟨_,@QSs.out _ _ _ (Zb (Z8 (Zn (OpR.or (gI (vj hr)) (JL hu)) (qv 0) (qv 2) (by with_unfolding_all rfl))
    (Zb (QS.or (Zep (vj hr) (qv 2) (qv 0) (Zm Zk (by rfl) T.z_len ZE (Zj (qv 1) Ze)) rfl) (qP hu (qv 2) (qv 0) (Zm Zk (by rfl) T.z_len ZE (Zj (qv 1) Ze)) rfl))
    (Zf (ZY (Y3 Qai Qap Qaq Z9 (qv 1) (Zj (qv 0) Ze))))) Zu)
    (Zf (Zt (QE.or (Zeo (vj hr) (qv 2) (qv 0) (fun _ _=>rfl)) (zB hu (qv 2) (qv 0) (fun _ _=>rfl)))))),?_⟩
  clear hu hr
  try dsimp only [L2.cxK,L2.cxK2]
  refine L2.let2 ?_
  intro U1
  have hsn:st≠nd:=fun z=>by
   obtain ⟨o,e,_,h⟩:=SK.ne n
   rw [<-z,hst] at e
   cases e
   exact h _ rfl
  cases sk with
  | int f inj =>
   have n:H nd=some (.dK (nk (l.map f))):=n
   have hk:v=.int (f k0):=hk
   subst hk
   have hm:f k0∈l.map f↔k0∈l:=⟨fun z=>let ⟨a,ha,e⟩:=Qa5.mp z;inj _ _ e ▸ ha,fun z=>Qbi z⟩
   have hnf:(l.map f).Nodup:=by
    unfold List.Nodup
    rw [Qeo]
    exact List.Pairwise.imp (fun hne e=>hne (inj _ _ e)) hnd
   have ei:=Zcx f k0 (Xe l k0) fun a _ e=>inj _ _ e
   have em:=vm f l k0 fun a _ e=>inj _ _ e
   refine ⟨_,rfl,_,rfl,.inr ⟨nd,YW (nk (l.map f)) (.inl (f k0)),rfl,.inl ⟨nk (l.map f),.inl (f k0),.inl n,rfl,rfl⟩,_,rfl,?_⟩⟩
   by_cases hs:k0∈l
   ·have e1:Xe l k0=l:=Qau hs
    rw [e1] at k ei
    rw [um (hm.mpr hs) hnf]
    refine ZU (.inr ⟨_,rfl,_,rfl,nd,_,rfl,.inl ⟨nk (l.map f),.inl (f k0),.inl n,rfl,(um (hm.mpr hs) hnf).symm⟩,?_⟩)
    rw [ei]
    exact k H ws hst (.inl ⟨hs,rfl⟩) n (fun _ _ e _ _=>e) fun _ e=>e
   ·have e1:Xe l k0=l++[k0]:=Qan hs
    have hs':f k0∉l.map f:=fun z=>hs (hm.mp z)
    rw [e1] at k ei em
    rw [Ze7 hs']
    have hn2:((l++[k0]).map f).Nodup:=by
     rw [<-em]
     exact Jd hnf _
    refine YS (.inr ⟨_,rfl,st,_,rfl,.inl (SqL.of hst),_,rfl,_,rfl,nd,_,rfl,Zaq.k (k:=.inl (f k0)) n (by rw [nk_len,Qab];exact JV (by lia)),?_⟩)
    rw [hal,show (l.length:Int)=((l.map f).length:Int) by rw [Qab],nk_put hs']
    have e2:l.map f++[f k0]=(l++[k0]).map f:=by rw [Qbh];rfl
    rw [e2]
    have hst2:upd H nd (.dK (nk ((l++[k0]).map f))) st=some (.lst ws):=by rw [Zo hsn];exact hst
    refine ⟨_,rfl,.inl ⟨rfl,_,SqL.of hst2⟩,_,rfl,st,_,_,rfl,rfl,hst2,JV (by lia),?_⟩
    have hnd3:upd (upd H nd (.dK (nk ((l++[k0]).map f)))) st (.lst (ws++[.int (f k0)])) nd=some (.dK (nk ((l++[k0]).map f))):=by rw [Zo hsn.symm];exact Za
    refine .inr ⟨_,rfl,_,rfl,nd,_,rfl,.inl ⟨_,.inl (f k0),.inl hnd3,rfl,(um (Qbi (by simp)) hn2).symm⟩,?_⟩
    rw [ei]
    refine k _ (ws++[.int (f k0)]) Za (.inr ⟨hs,rfl⟩) hnd3 (fun b o e h1 h2=>?_) fun b e=>?_
    ·rw [Zo h1,Zo h2]
     exact e
    ·rw [Zo (fun z=>by rw [z,hst] at e;cases e),Zo (fun z=>by rw [z,n] at e;cases e)]
     exact e
  | key kn =>
   have n:yg kn H nd (Wz l):=n
   obtain ⟨a,rfl,hk⟩:=hk
   refine ⟨_,rfl,_,rfl,.inl ⟨κ,_,kn,nd,a,k0,_,rfl,rfl,n,hk,_,rfl,?_⟩⟩
   by_cases hm:k0∈l
   ·have e1:Xe l k0=l:=Qau hm
    have hv:=qR l k0 hm hnd
    rw [e1] at k
    rw [hv]
    exact ZU (.inl ⟨_,rfl,_,rfl,κ,_,kn,nd,a,k0,_,_,rfl,rfl,n,hk,hv,k H ws hst (.inl ⟨hm,rfl⟩) n (fun _ _ e _ _=>e) fun _ e=>e⟩)
   ·have e1:Xe l k0=l++[k0]:=Qan hm
    have hv:=zd l k0 hm
    have hn2:(l++[k0]).Nodup:=e1 ▸ Jd hnd k0
    rw [e1] at k
    rw [hv]
    refine YS (.inl ⟨_,rfl,st,_,rfl,.inl (SqL.of hst),_,rfl,_,rfl,κ,_,kn,nd,a,k0,_,rfl,rfl,n,hk,hv,?_,fun H2 n2 o2 hx=>?_⟩)
    ·rw [j7]
     exact JV (by lia)
    rw [hal] at n2
    rw [<-zc] at n2
    have hst2:=o2 _ _ hst hsn
    refine ⟨_,rfl,.inl ⟨rfl,_,SqL.of hst2⟩,_,rfl,st,_,_,rfl,rfl,hst2,JV (by lia),?_⟩
    have n3:yg kn (upd H2 st (.lst (ws++[.ref a]))) nd (Wz (l++[k0])):=SK.off (sk:=.key kn) n2 hst2
    have hk2:kn.at_ H2 k0 a:=kn.keep _ _ _ _ (fun b xs e=>o2 b _ e fun z=>by
     obtain ⟨o,e3,h3,_⟩:=ur n
     rw [z,e3] at e
     cases e
     exact h3 _ rfl) hk
    have hk3:kn.at_ (upd H2 st (.lst (ws++[.ref a]))) k0 a:=kn.keep _ _ _ _ (fun b xs e=>by rw [Zo (XG e hst2 fun z=>nomatch z)];exact e) hk2
    refine .inl ⟨_,rfl,_,rfl,κ,_,kn,nd,a,k0,_,_,rfl,rfl,n3,hk3,qR _ _ (by simp) hn2,k _ (ws++[.ref a]) Za (.inr ⟨hm,rfl⟩) n3 (fun b o e h1 h2=>?_) fun b e=>?_⟩
    ·rw [Zo h1]
     exact o2 b o e h2
    ·obtain ⟨oo,rfl⟩:=hx
     rw [Zo (fun z=>by rw [z,hst] at e;cases e),Zo (fun z=>by
      obtain ⟨o,e3,_⟩:=ur n
      rw [z,e3] at e
      cases e)]
     exact e
inductive XQ(vs:List V)(H:Hp)(Q:VK):Prop
 | mk (tw:Addr) (ws:List V):(vs=[.ref tw])->(H tw=some (.tup ws))->(ws.length<=1000)->((∀w∈ws,(∃y,w=.str y)\/∃z:Int,w=.int z))->(∀(L:Nat) H',(∀z:Int,V.int z∈ws->Builtin.Int.intBits z<=L)->(L=0\/∃z:Int,V.int z∈ws/\L=Builtin.Int.intBits z)->ZG H H'->Q (.int (L:Int)) H')->XQ vs H Q
noncomputable def Wu(K:PySem.W.Frag):Sp:=fun vs H Q _=>XQ vs H Q
theorem GA (T:Txt K w mg t) (TB:Tbs mg base t):ZO P w K mg base CX0 1 t.a_longest_number t.f_longest_number ["words"] (Wu K):=by
 refine T.d_longest_number.F.ok G9 (fun vs H Q E h=>?_) (fun cdv A outer s H vs Q E hr h=>?_)
 ·obtain ⟨tw,ws,rfl,ht,hl,hw,k⟩:=h
  rfl
 ·obtain ⟨tw,ws,rfl,ht,hl,hw,k⟩:=h
  have hu:=Yj hr
  refine ⟨_,@QSs.out _ _ _ (Zf (Zt (Zeu rfl rfl T.z_max (Wy (⟨by rfl,by decide +kernel,by decide +kernel,by rfl,by decide +kernel,by decide +kernel,by rfl,by decide +kernel⟩:YO (Zg ZR) _ ["words"] "word" [] []) (GH (qv 0)) (fun _ _ _ _=>(wU (X2 (Zm (show WJ _ (.builtin "isinstance") (rIsi K) from Xy) (by rfl) T.z_isinstance ZN (Zj (qv 0) (Zj (Wc (v:=.ty "int") (by rfl) T.z_int jo rfl) Ze)))))) (fun _ _ _ _=>(show QE _ _ (Zg4 K "int" Zgr (jb 0)) from (GI PySem.F.plainAttrs_int PySem.F.slot_int_bit_length PySem.F.type_int_bit_length Zev (qv 0))))) Zd))),?_⟩
  clear hu hr
  try dsimp only [L2.cxK,L2.cxK2]
  refine ⟨_,rfl,tw,rfl,⟨_,SqT.of ht⟩,qw (K:=K) (a:=tw) (xs:=ws) (fun i zs H'=>zs=(J6 (ws.take i)).map V.int/\H'=H) ⟨rfl,rfl⟩ (fun i zs H' h=>?_) (fun i zs H' h=>by rw [h.2];exact SqT.of ht) (fun i x zs H1 R hR hx h=>?_) (fun zs H1 h p hp=>?_)⟩
  ·rw [h.1,Qab]
   have:=jM (ws.take i)
   rw [Qar] at this
   exact Qaw (Zp (by lia))
  ·obtain ⟨rfl,rfl⟩:=h
   rcases hw x (Qam hx) with ⟨y,rfl⟩ | ⟨z,rfl⟩
   ·refine ⟨_,rfl,_,_,_,_,rfl,.str y,Xn,_,rfl,ZU (hR _ _ ⟨?_,rfl⟩)⟩
    rw [take_snoc hx,xg]
    exact congrArg (List.map V.int) (Qbc _).symm
   ·refine ⟨_,rfl,_,_,_,_,rfl,.int z,XH,_,rfl,YS ⟨_,rfl,rfl,z,rfl,rfl,hR _ _ ⟨?_,rfl⟩⟩⟩
    rw [take_snoc hx,xg,Qbh]
    rfl
  ·obtain ⟨rfl,rfl⟩:=h
   have sp:=Zc (o:=.lst ((J6 (ws.take ws.length)).map V.int)) hp
   refine ⟨p,J6 (ws.take ws.length),rfl,SqL.of Za,fun e=>?_,fun m hm hx=>?_⟩
   ·rw [Qbr] at e
    refine k 0 _ (fun z hz=>?_) (.inl rfl) sp
    have:=xh hz
    rw [e] at this
    cases this
   ·rw [Qbr] at hm hx
    obtain ⟨z,hz,rfl⟩:=vA hm
    exact k _ _ (fun y hy=>Int.ofNat_le.mp (hx _ (xh hy))) (.inr ⟨z,hz,rfl⟩) sp
inductive GR(vs:List V)(H:Hp)(Q:VK):Prop
 | mk (p:Addr) (cs:List Int) (l:Nat):(vs=[.ref p,.int (l:Int)])->(H p=some (.lst (cs.map V.int)))->(cs.length<=1000)->(l<=100)->(∀t H',H t=none->H' t=some (.tup ((cs.map fun c=>bt c l).map V.int))->ZG H H'->Q (.ref t) H')->GR vs H Q
noncomputable def zm(K:PySem.W.Frag):Sp:=fun vs H Q _=>GR vs H Q
theorem kI (T:Txt K w mg t) (TB:Tbs mg base t):ZO P w K mg base CX0 1 t.a_bits_at t.f_bits_at ["columns","letter"] (zm K):=by
 refine T.d_bits_at.F.ok kF (fun vs H Q E h=>?_) (fun cdv A outer s H vs Q E hr h=>?_)
 ·obtain ⟨p,cs,l,rfl,hp,hl,hl2,k⟩:=h
  rfl
 ·obtain ⟨p,cs,l,rfl,hp,hl,hl2,k⟩:=h
  have hu:=Yj hr
  refine ⟨_,@QSs.out _ _ _ (Zf (Zt (Yy ZM (by rfl) T.z_tuple YA (Zj (Wy (⟨by rfl,by decide +kernel,by decide +kernel,by rfl,by decide +kernel,by decide +kernel,by rfl,by decide +kernel⟩:YO (Zg XN) _ ["columns","letter"] "column" ["letter"] [1]) (We (qv 0)) (fun _ _ _ _=>JH) (fun _ _ _ _=>(Zi Xl (Zi GF (qv 0) (qv 1)) Zd))) Ze)))),?_⟩
  clear hu hr
  try dsimp only [L2.cxK,L2.cxK2]
  refine ⟨_,rfl,p,rfl,⟨_,SqL.of hp⟩,comp_map (xs:=cs.map V.int) (fI fun c=>V.int (bt c l)) (SqL.of hp) (by rw [Qab];exact Qaw (Zp (by lia))) (fun v hv R hR=>?_) (fun q hq=>?_)⟩
  ·obtain ⟨c,_,rfl⟩:=Qa5.mp hv
   refine ⟨_,rfl,_,rfl,_,_,rfl,rfl,Qbl l,_,_,rfl,rfl,?_⟩
   have e:fI (fun c=>V.int (bt c l)) (V.int c)=V.int (Builtin.bitAnd (c / 2 ^ (l:Int).toNat) 1):=by
    show V.int (bt c l)=_
    rw [and_1,Qat]
    rfl
   rw [e] at hR
   exact hR
  ·refine ⟨q,_,rfl,.inl ⟨SqL.of Za,fun t ht=>?_⟩⟩
   have s2:=Zc (o:=.lst ((cs.map V.int).map (fI fun c=>V.int (bt c l)))) hq
   refine k t _ (s2.free ht) ?_ (s2.trans (Zc ht))
   rw [Za,Qbn,Qbn]
   rfl
inductive Jn(vs:List V)(H:Hp)(Q:VK):Prop
 | mk (z:Int):(vs=[.int z])->(Q (.bl true) H)->Jn vs H Q
noncomputable def GS(K:PySem.W.Frag):Sp:=fun vs H Q _=>Jn vs H Q
theorem jX (T:Txt K w mg t) (TB:Tbs mg base t):ZO P w K mg base CX0 1 t.a_law_whole t.f_law_whole ["found"] (GS K):=by
 refine T.d_law_whole.F.ok jV (fun vs H Q E h=>?_) (fun cdv A outer s H vs Q E hr h=>?_)
 ·obtain ⟨z,rfl,k⟩:=h
  rfl
 ·obtain ⟨z,rfl,k⟩:=h
  have hu:=Yj hr
  refine ⟨_,@QSs.out _ _ _ (Zf (Zt (yW (Zm Xy (by rfl) T.z_isinstance ZN (Zj (qv 0) (Zj (Wc (v:=.ty "int") (by rfl) T.z_int jo rfl) Ze))) (xT (wR (Zm Xy (by rfl) T.z_isinstance ZN (Zj (qv 0) (Zj (Wc (v:=.ty "bool") (by rfl) T.z_bool wQ rfl) Ze)))))))),?_⟩
  clear hu hr
  try dsimp only [L2.cxK,L2.cxK2]
  exact ⟨_,rfl,_,_,_,_,rfl,.int z,XH,_,rfl,YS ⟨_,rfl,_,_,_,_,rfl,.int z,GG,_,rfl,k⟩⟩
inductive W8(K:PySem.W.Frag)(vs:List V)(H:Hp)(Q:VK):Prop
 | mk (a:Addr) (ns:List Int) (j:Nat):(vs=[.ref a,.int (j:Int)])->(SqL K H a (ns.map V.int))->(∀v:Int,Q (.int v) H)->W8 K vs H Q
noncomputable def Jo(K:PySem.W.Frag):Sp:=fun vs H Q _=>W8 K vs H Q
theorem xO (T:Txt K w mg t) (TB:Tbs mg base t):ZO P w K mg base CX0 1 t.a_law_cell_at t.f_law_cell_at ["script","k"] (Jo K):=by
 refine T.d_law_cell_at.F.ok xH (fun vs H Q E h=>?_) (fun cdv A outer s H vs Q E hr h=>?_)
 ·obtain ⟨a,ns,j,rfl,hS,k⟩:=h
  rfl
 ·obtain ⟨a,ns,j,rfl,hS,k⟩:=h
  have hu:=Yj hr
  refine ⟨_,@QSs.out _ _ _ (Zb (Z8 (Zn qF (qv 1) (Zm Zk (by rfl) T.z_len ZE (Zj (qv 0) Ze)) (Zx _))
    (Zf (Zt (Zz Zv (qv 0) (qv 1) (fun _ _=>rfl)))) Zu)
    (Zf (Zt Zd))),?_⟩
  clear hu hr
  try dsimp only [L2.cxK,L2.cxK2]
  refine L2.let2 ?_
  intro U1
  refine ⟨_,rfl,_,rfl,a,_,rfl,.inl hS,_,_,rfl,rfl,_,rfl,Gj (fun h=>?_) (fun h=>?_)⟩
  ·have hj:j < ns.length:=by
    have:=Qa9 h
    rw [Qab] at this
    lia
   exact ⟨_,rfl,_,rfl,a,_,_,_,rfl,rfl,hS,Yl (by rw [Qao,Qaa hj];rfl),k _⟩
  ·exact k 0
inductive W9(vs:List V)(H:Hp)(Q:VK):Prop
 | mk (cell:Int) (many most:Nat):(vs=[.int cell,.int (many:Int),.int (most:Int)])->(many<=1000)->(1<=most)->(most<=1000003)->(∀p (ns:List Int) H',H p=none->H' p=some (.lst (ns.map V.int))->ns.length=many->(∀x∈ns,0<=x/\x < (most:Int))->ZG H H'->Q (.ref p) H')->W9 vs H Q
noncomputable def Wh(K:PySem.W.Frag):Sp:=fun vs H Q _=>W9 vs H Q
theorem Jp (T:Txt K w mg t) (TB:Tbs mg base t):ZO P w K mg base CX0 1 t.a_law_numbers t.f_law_numbers ["cell","many","most"] (Wh K):=by
 refine T.d_law_numbers.F.ok ZC (fun vs H Q E h=>?_) (fun cdv A outer s H vs Q E hr h=>?_)
 ·obtain ⟨cell,many,most,rfl,hmany,hm1,hm2,k⟩:=h
  rfl
 ·obtain ⟨cell,many,most,rfl,hmany,hm1,hm2,k⟩:=h
  have hu:=Yj hr
  refine ⟨_,@QSs.out _ _ _ (Zb (Zq (i:=3) ZC.nd rfl (Or.inl rfl) (Ys Ze))
    (Zb (Zq (i:=4) ZC.nd rfl (Or.inl rfl) (Zm Zae (by rfl) T.z_abs bt_abs (Zj (qv 0) Ze)))
    (Zb (Z8 (Zn Zdw (qv 4) (Zi Zb4 Zd Zd) (Zx _))
    (Zb (Zq (i:=4) ZC.nd rfl (Or.inl rfl) (Zi X1 (qv 4) (Zi Zb4 Zd Zd)))
    (Zb (YN PassesOwn.never rfl (Ym rfl T.z_range (Zj (qv 1) Ze)) (Yc (i:=5) ZC.nd rfl (Or.inl rfl))
    (Zb (ZY (Y3 Qai Qap Qaq Z9 (qv 3) (Zj (Zi ZF (qv 4) (qv 2)) Ze)))
    (Zf (Zq (i:=4) ZC.nd rfl (Or.inl rfl) (Zi Ya (qv 4) (qv 2))))))
    (Zf (Zt (qv 3))))) Zu)
    (Zb (Zq (i:=6) ZC.nd rfl (Or.inl rfl) (Zi ZF (Zi ZX (Zi YT (qv 0) Zd) Zd) Zd))
    (Zb (Zq (i:=7) ZC.nd rfl (Or.inl rfl) (Zi ZF (Zi ZX (Zi YT (qv 0) Zd) Zd) Zd))
    (Zb (YN PassesOwn.never rfl (Ym rfl T.z_range (Zj (qv 1) Ze)) (Yc (i:=5) ZC.nd rfl (Or.inl rfl))
    (Zb (Zq (i:=6) ZC.nd rfl (Or.inl rfl) (Zi ZF (Zi ZX (Zi ZX (Zi YT (qv 6) Zd) (qv 7)) (qv 5)) Zd))
    (Zb (Zq (i:=7) ZC.nd rfl (Or.inl rfl) (Zi ZF (Zi ZX (Zi YT (qv 7) (qv 7)) (qv 6)) Zd))
    (Zf (ZY (Y3 Qai Qap Qaq Z9 (qv 3) (Zj (Zi ZF (Zi Ya (Zi ZX (qv 6) (qv 7)) Zd) (qv 2)) Ze)))))))
    (Zf (Zt (qv 3))))))))),?_⟩
  clear hu hr
  try dsimp only [L2.cxK,L2.cxK2]
  refine L2.let7 ?_
  intro U6 U5 U4 U3 U2 U1
  refine ⟨by show 0<=sizeLine;decide,fun p hp=>?_⟩
  refine ⟨_,rfl,_,rfl,?_⟩
  refine ⟨_,rfl,_,_,rfl,rfl,⟨by decide,by decide,by decide⟩,_,_,rfl,rfl,_,rfl,Gj (fun _=>?_) (fun _=>?_)⟩
  ·refine ⟨_,rfl,_,_,rfl,rfl,⟨by decide,by decide,by decide⟩,_,_,rfl,rfl,?_⟩
   refine ⟨_,rfl,(many:Int),rfl,by lia,by lia,YM (fun i σ H2=>∃(r:Int) (u:Option V) (ns:List Int),σ=[some (.int cell),some (.int many),some (.int most),some (.ref p),some (.int r),u,none,none]/\H2 p=some (.lst (ns.map V.int))/\ns.length=i/\(∀x∈ns,0<=x/\x < (most:Int))/\ZG H H2/\i<=many) ⟨_,none,[],rfl,Za,rfl,(fun _ h=>nomatch h),Zc hp,Qbg _⟩ ?_ ?_⟩
   ·rintro i σ H2 hi hz_
    refine Z5 fun Gz hGz=>?_
    obtain ⟨r,u,ns,rfl,h2,hl,hb,s2,hi2⟩:=hz_
    refine hGz ?_
    clear hGz Gz
    rw [Qat] at hi
    refine ⟨_,rfl,.inl ⟨rfl,_,SqL.of h2⟩,_,rfl,_,rfl,_,_,rfl,rfl,(by show (0:Int) < most;lia),p,_,_,rfl,rfl,h2,?_,?_⟩
    ·rw [Qab,hl]
     exact Zp (by lia)
    ·refine ⟨_,rfl,_,rfl,_,_,rfl,rfl,.of (by lia) (by lia),_,_,ns++[r % most],rfl,?_,?_,?_,?_,hi⟩
     ·rw [Za,Qbh]
      rfl
     ·rw [Qac,hl]
      rfl
     ·exact vo hb ⟨Qa4 _ (by lia),Qay _ (by lia)⟩
     ·exact ZI s2 hp
   ·rintro σ H2 hz_
    refine Z5 fun Gz hGz=>?_
    obtain ⟨r,u,ns,rfl,h2,hl,hb,s2,hi2⟩:=hz_
    refine hGz ?_
    clear hGz Gz
    rw [Qat] at hl
    exact ⟨_,rfl,k p ns H2 hp h2 hl hb s2⟩
  ·refine ⟨_,rfl,_,_,rfl,rfl,.inr (.inr ⟨by decide,by decide⟩),_,_,rfl,rfl,_,_,rfl,rfl,(by show (0:Int) < 2147483629;decide),?_⟩
   refine ⟨_,rfl,_,_,rfl,rfl,.inr (.inr ⟨by decide,by decide⟩),_,_,rfl,rfl,_,_,rfl,rfl,(by show (0:Int) < 1000000007;decide),?_⟩
   refine ⟨_,rfl,(many:Int),rfl,by lia,by lia,YM (fun i σ H2=>∃(r one two:Int) (u:Option V) (ns:List Int),σ=[some (.int cell),some (.int many),some (.int most),some (.ref p),some (.int r),u,some (.int one),some (.int two)]/\0<=one/\one < 2147483629/\0<=two/\two < 1000000007/\H2 p=some (.lst (ns.map V.int))/\ns.length=i/\(∀x∈ns,0<=x/\x < (most:Int))/\ZG H H2/\i<=many) ⟨_,_,_,none,[],rfl,Qa4 _ (by decide),Qay _ (by decide),Qa4 _ (by decide),Qay _ (by decide),Za,rfl,(fun _ h=>nomatch h),Zc hp,Qbg _⟩ ?_ ?_⟩
   ·rintro i σ H2 hi hz_
    refine Z5 fun Gz hGz=>?_
    obtain ⟨r,one,two,u,ns,rfl,o0,o1,t0,t1,h2,hl,hb,s2,hi2⟩:=hz_
    refine hGz ?_
    clear hGz Gz
    rw [Qat] at hi
    refine ⟨_,rfl,_,_,rfl,rfl,.inr (.inr ⟨by decide,by decide⟩),_,rfl,_,_,rfl,rfl,_,rfl,_,_,rfl,rfl,_,_,rfl,rfl,(by show (0:Int) < 2147483629;decide),?_⟩
    try dsimp only
    generalize h1e:(one * 69069 + two + (0 + (i:Int))) % 2147483629=one'
    have p0:0<=one':=by lia
    have p1:one' < 2147483629:=by lia
    refine ⟨_,rfl,_,rfl,_,_,rfl,rfl,.inr (.inl ⟨by lia,by lia⟩),_,rfl,_,_,rfl,rfl,_,_,rfl,rfl,(by show (0:Int) < 1000000007;decide),?_⟩
    try dsimp only
    generalize h2e:(two * two + one') % 1000000007=two'
    have q0:0<=two':=by lia
    have q1:two' < 1000000007:=by lia
    refine ⟨_,rfl,.inl ⟨rfl,_,SqL.of h2⟩,_,rfl,_,rfl,_,_,rfl,rfl,_,_,rfl,rfl,.of (by decide) (by decide),_,rfl,_,_,rfl,rfl,(by show (0:Int) < most;lia),p,_,_,rfl,rfl,h2,?_,?_⟩
    ·rw [Qab,hl]
     exact Zp (by lia)
    ·refine ⟨_,one',two',_,ns++[(one' + two') / 16 % most],rfl,p0,p1,q0,q1,?_,?_,?_,?_,hi⟩
     ·rw [Za,Qbh]
      rfl
     ·rw [Qac,hl]
      rfl
     ·exact vo hb ⟨Qa4 _ (by lia),Qay _ (by lia)⟩
     ·exact ZI s2 hp
   ·rintro σ H2 hz_
    refine Z5 fun Gz hGz=>?_
    obtain ⟨r,one,two,u,ns,rfl,o0,o1,t0,t1,h2,hl,hb,s2,hi2⟩:=hz_
    refine hGz ?_
    clear hGz Gz
    rw [Qat] at hl
    exact ⟨_,rfl,k p ns H2 hp h2 hl hb s2⟩
inductive Gb(vs:List V)(H:Hp)(Q:VK):Prop
 | mk (n:Int) (tn:Addr) (ys:List Str):(vs=[.int n,.ref tn])->(0<=n)->(H tn=some (.tup (ys.map V.str)))->(ys.length<=1000)->(∀p w H',H p=none->H' p=some (.tup [w])->jB ys w->ZG H H'->Q (.ref p) H')->Gb vs H Q
noncomputable def J9(K:PySem.W.Frag):Sp:=fun vs H Q _=>Gb vs H Q
theorem yP (T:Txt K w mg t) (TB:Tbs mg base t):ZO P w K mg base CX0 1 t.a_law_atom t.f_law_atom ["number","names"] (J9 K):=by
 refine T.d_law_atom.F.ok yM (fun vs H Q E h=>?_) (fun cdv A outer s H vs Q E hr h=>?_)
 ·obtain ⟨n,tn,ys,rfl,hn,ht,hl,k⟩:=h
  rfl
 ·obtain ⟨n,tn,ys,rfl,hn,ht,hl,k⟩:=h
  have hu:=Yj hr
  refine ⟨_,@QSs.out _ _ _ (Zb (Z8 (JE (jq (Zn qF (Zi ZF (qv 0) Zd) Zd (Zx _)) (qN (Zn Zdv (Zm Zk (by rfl) T.z_len ZE (Zj (qv 1) Ze)) Zd (Zx _)))))
    (Zf (Zt (ZH (Zj (Zz ZL (qv 1) (Zi ZF (Zi Ya (qv 0) Zd) (Zm Zk (by rfl) T.z_len ZE (Zj (qv 1) Ze))) (fun _ _=>rfl)) Ze)))) Zu)
    (Zb (Z8 (Zn Yb (Zi ZF (qv 0) Zd) Zd (Zx _))
    (Zf (Zt (ZH (Zj (Zi ZF (Zi Ya (qv 0) Zd) Zd) Ze)))) Zu)
    (Zf (Zt (ZH (Zj (Zi ZF (Zi Ya (qv 0) Zd) Zd) Ze)))))),?_⟩
  clear hu hr
  try dsimp only [L2.cxK,L2.cxK2]
  refine L2.let3 ?_
  intro U2 U1
  have fin:∀z:Int,0<=z->z < 1000->∀p,H p=none->Q (.ref p) (upd H p (.tup [.int z])):=fun z h0 h1 p hp=>k p _ _ hp Za (.inr ⟨z,rfl,h0,h1⟩) (Zc hp)
  have rest:U1 { nx:=fun _ H'=>Q .non H',rt:=Q } [some (.int n),some (.ref tn)] H:=by
   refine ⟨_,rfl,_,_,rfl,rfl,(by show (0:Int) < 20;decide),rfl,_,rfl,Gj (fun _=>?_) (fun _=>?_)⟩
   ·refine ⟨_,rfl,_,_,rfl,rfl,.of (by decide) (by decide),_,_,rfl,rfl,(by show (0:Int) < 3;decide),by show 1<=sizeLine;decide,fun p hp=>?_⟩
    exact fin _ (Qa4 _ (by decide)) (by have:=Qay (n / 20) (show (0:Int) < 3 by decide);lia) p hp
   ·refine ⟨_,rfl,_,_,rfl,rfl,.of (by decide) (by decide),_,_,rfl,rfl,(by show (0:Int) < 1000;decide),by show 1<=sizeLine;decide,fun p hp=>?_⟩
    exact fin _ (Qa4 _ (by decide)) (Qay _ (by decide)) p hp
  refine ⟨_,rfl,_,_,rfl,rfl,(by show (0:Int) < 20;decide),_,_,rfl,rfl,_,rfl,Gj (fun _=>?_) (fun _=>?_)⟩
  ·refine ⟨_,rfl,tn,_,rfl,.inr (SqT.of ht),_,_,rfl,rfl,_,rfl,Gj (fun hg=>?_) (fun _=>rest)⟩
   have hpos:0 < ys.length:=by
    have:=Qa9 hg
    rw [Qab] at this
    lia
   have hp:(0:Int) < ((ys.map V.str).length:Int):=by rw [Qab];lia
   obtain ⟨y,hy,ey⟩:=Je (ys:=ys) (i:=n / 20 % ((ys.map V.str).length:Int)) (Qa4 _ (by lia)) (by have:=Qay (n / 20) hp;rw [Qab] at this ⊢;exact this)
   exact ⟨_,rfl,_,rfl,_,_,rfl,rfl,.of (by decide) (by decide),_,rfl,tn,_,rfl,.inr (SqT.of ht),_,_,rfl,rfl,hp,tn,_,_,_,rfl,rfl,SqT.of ht,ey,by show 1<=sizeLine;decide,fun p hp=>k p _ _ hp Za (.inl ⟨y,hy,rfl⟩) (Zc hp)⟩
  ·exact ZU rest
inductive Gd(vs:List V)(H:Hp)(Q:VK):Prop
 | mk (n l:Int):(vs=[.int n,.int l])->(0<=n)->(∀(y:Str) H',(y = "" \/ y∈Gy)->(l=0->y∉GN)->ZG H H'->Q (.str y) H')->Gd vs H Q
noncomputable def xu(K:PySem.W.Frag):Sp:=fun vs H Q _=>Gd vs H Q
noncomputable def wdA:List Str:=["","","","","","","not","neg","twice","low","and","or","odd","add","sub"]
noncomputable def wdB:List Str:=["add","sub","pick","pick","odd"]
noncomputable def Zdg:List Str:=["","","","","","","not","neg","twice","low","and","or","odd","add","sub","add","sub","pick","pick","odd"]
theorem wrd_ok:∀y∈Zdg,y = "" \/ y∈Gy:=by decide +kernel
theorem yQ (T:Txt K w mg t) (TB:Tbs mg base t):ZO P w K mg base CX0 1 t.a_law_word t.f_law_word ["number","left"] (xu K):=by
 refine T.d_law_word.F.ok W3 (fun vs H Q E h=>?_) (fun cdv A outer s H vs Q E hr h=>?_)
 ·obtain ⟨n,l,rfl,hn,k⟩:=h
  rfl
 ·obtain ⟨n,l,rfl,hn,k⟩:=h
  have hu:=Yj hr
  refine ⟨_,@QSs.out _ _ _ (Zb (Zq (i:=2) W3.nd rfl (Or.inl rfl) (Ys (Zj Zh (Zj Zh (Zj Zh (Zj Zh (Zj Zh (Zj Zh (Zj Zh (Zj Zh (Zj Zh (Zj Zh (Zj Zh (Zj Zh (Zj Zh (Zj Zh (Zj Zh Ze)))))))))))))))))
    (Zb (Zq (i:=2) W3.nd rfl (Or.inl rfl) (Zi qL (qv 2) (Ys (Zj Zh (Zj Zh (Zj Zh (Zj Zh (Zj Zh Ze))))))))
    (Zb (Zq (i:=3) W3.nd rfl (Or.inl rfl) (Zz Zv (qv 2) (Zi ZF (qv 0) Zd) (fun _ _=>rfl)))
    (Zb (Z8 (JE (jq (Zn Yb (qv 1) Zd (Zx _)) (qN (Zn ZT (qv 3) (ZH (Zj Zh (Zj Zh (Zj Zh Ze)))) (by with_unfolding_all rfl)))))
    (Zf (Zt Zh)) Zu)
    (Zb (Z8 (JE (jq (Zn Yb (qv 1) Zd (Zx _)) (qN (Zn ZT (qv 3) (ZH (Zj Zh (Zj Zh Ze))) (by with_unfolding_all rfl)))))
    (Zf (Zt (Zz Zv (Ys (Zj Zh (Zj Zh (Zj Zh Ze)))) (Zi ZF (Zi Ya (qv 0) Zd) Zd) (fun _ _=>rfl)))) Zu)
    (Zf (Zt (qv 3)))))))),?_⟩
  clear hu hr
  try dsimp only [L2.cxK,L2.cxK2]
  refine L2.let6 ?_
  intro U5 U4 U3 U2 U1
  have b20:0<=n % 20/\n % 20 < 20:=⟨Qa4 _ (by decide),Qay _ (by decide)⟩
  refine ⟨by show 15<=sizeLine;decide,fun m1 hm1=>Zl ⟨_,rfl,by show 5<=sizeLine;decide,fun m2 hm2=>⟨m1,m2,_,_,rfl,rfl,Zc hm2 _ _ Za,Za,by show 20<=sizeLine;decide,fun m hm=>Zl ?_⟩⟩⟩
  have s1:ZG H (upd (upd (upd H m1 (.lst (wdA.map V.str))) m2 (.lst (wdB.map V.str))) m (.lst (Zdg.map V.str))):=(Zc (o:=.lst (wdA.map V.str)) hm1).trans ((Zc (o:=.lst (wdB.map V.str)) hm2).trans (Zc (o:=.lst (Zdg.map V.str)) hm))
  have hm':upd (upd (upd H m1 (.lst (wdA.map V.str))) m2 (.lst (wdB.map V.str))) m (.lst (Zdg.map V.str)) m=some (.lst (Zdg.map V.str)):=Za
  show U2 _ _ (upd (upd (upd H m1 (.lst (wdA.map V.str))) m2 (.lst (wdB.map V.str))) m (.lst (Zdg.map V.str)))
  generalize upd (upd (upd H m1 (.lst (wdA.map V.str))) m2 (.lst (wdB.map V.str))) m (.lst (Zdg.map V.str))=H1 at *
  obtain ⟨y,hy,ey⟩:=Je (ys:=Zdg) (i:=n % 20) b20.1 b20.2
  have hyw:=wrd_ok y hy
  refine ⟨_,rfl,_,rfl,_,_,rfl,rfl,(by show (0:Int) < 20;decide),m,_,_,_,rfl,rfl,SqL.of hm',ey,Zl ?_⟩
  have last:∀(H2:Hp),ZG H H2->(l=0->y∉GN)->U5 { nx:=fun _ H'=>Q .non H',rt:=Q } [some (.int n),some (.int l),some (.ref m),some (.str y)] H2:=fun H2 s2 h=>⟨_,rfl,k y H2 hyw h s2⟩
  have r1:∀z:Str,z∈GN↔(z∈(["neg","twice","low"]:List Str)\/z∈(["add","sub"]:List Str)):=fun z=>by
   unfold GN
   simp only [Qak,Qa3,Qcq]
   constructor
   ·rintro (h | h | h | h | h) <;> simp [h]
   ·rintro ((h | h | h) | (h | h)) <;> simp [h]
  have two:∀(H2:Hp),ZG H H2->(l=0->y∉(["neg","twice","low"]:List Str))->U4 { nx:=fun _ H'=>Q .non H',rt:=Q } [some (.int n),some (.int l),some (.ref m),some (.str y)] H2:=fun H2 s2 h=>by
   refine ⟨_,rfl,rfl,_,rfl,?_⟩
   by_cases hl:l=0
   ·rw [Qae (congrArg V.int hl)]
    refine YS ⟨_,rfl,by show 2<=sizeLine;decide,fun q hq=>⟨q,_,rfl,.inr (SqT.of Za),rfl,rfl,_,rfl,?_⟩⟩
    show if inV (.str y) ((["add","sub"]:List Str).map V.str)=true then _ else _
    rw [Z2]
    have s3:=s2.trans (Zc (o:=.tup [.str "add",.str "sub"]) hq)
    by_cases h2:y∈(["add","sub"]:List Str)
    ·rw [Qae h2]
     obtain ⟨z,hz,ez⟩:=Je (ys:=["and","or","odd"]) (i:=n / 20 % 3) (Qa4 _ (by decide)) (Qay _ (by decide))
     refine YS ⟨by show 3<=sizeLine;decide,fun g hg=>⟨_,rfl,_,_,rfl,rfl,.of (by decide) (by decide),_,_,rfl,rfl,(by show (0:Int) < 3;decide),g,_,_,_,rfl,rfl,SqL.of Za,ez,?_⟩⟩
     obtain ⟨g1,g2⟩:=(by decide +kernel:∀z∈(["and","or","odd"]:List Str),z∈Gy/\z∉GN) z hz
     exact k z _ (.inr g1) (fun _=>g2) (s3.trans (Zc hg))
    ·rw [Qad h2]
     exact ZU (last _ s3 fun h0 z=>((r1 y).mp z).elim (h h0) h2)
   ·rw [Qad fun z=>hl (by injection z)]
    exact ZU (last _ s2 fun h0=>absurd h0 hl)
  refine ⟨_,rfl,rfl,_,rfl,?_⟩
  by_cases hl:l=0
  ·rw [Qae (congrArg V.int hl)]
   refine YS ⟨_,rfl,by show 3<=sizeLine;decide,fun q hq=>⟨q,_,rfl,.inr (SqT.of Za),rfl,rfl,_,rfl,?_⟩⟩
   show if inV (.str y) ((["neg","twice","low"]:List Str).map V.str)=true then _ else _
   rw [Z2]
   have s3:=s1.trans (Zc (o:=.tup [.str "neg",.str "twice",.str "low"]) hq)
   by_cases h2:y∈(["neg","twice","low"]:List Str)
   ·rw [Qae h2]
    exact YS (k "not" _ (.inr (by decide +kernel)) (fun _=>by decide +kernel) s3)
   ·rw [Qad h2]
    exact ZU (two _ s3 fun _=>h2)
  ·rw [Qad fun z=>hl (by injection z)]
   exact ZU (two _ s1 fun h0=>absurd h0 hl)
inductive WA(vs:List V)(H:Hp)(Q:VK):Prop
 | mk (p:Addr) (ws:List V):(vs=[.ref p])->((H p=some (.lst ws)\/H p=some (.tup ws)))->((∀w∈ws,(∃y,w=.str y)\/∃z,w=.int z))->(ws.length<=100)->(∀H',ZG H H'->Q (.int (ws.filter jF).length) H')->WA vs H Q
noncomputable def Wi(K:PySem.W.Frag):Sp:=fun vs H Q _=>WA vs H Q
theorem Jq (T:Txt K w mg t) (TB:Tbs mg base t):ZO P w K mg base CX0 1 t.a_law_carries t.f_law_carries ["words"] (Wi K):=by
 refine T.d_law_carries.F.ok xI (fun vs H Q E h=>?_) (fun cdv A outer s H vs Q E hr h=>?_)
 ·obtain ⟨p,ws,rfl,hp,hw,hl,k⟩:=h
  rfl
 ·obtain ⟨p,ws,rfl,hp,hw,hl,k⟩:=h
  have hu:=Yj hr
  refine ⟨_,@QSs.out _ _ _ (Zf (Zt (Zm Zk (by rfl) T.z_len ZE (Zj (Wy (⟨by rfl,by decide +kernel,by decide +kernel,by rfl,by decide +kernel,by decide +kernel,by rfl,by decide +kernel⟩:YO (Zg Yv) _ ["words"] "word" [] []) (QI.or (We (qv 0)) (GH (qv 0))) (fun _ _ _ _=>(wU (Zn (show OpR _ (compareOp .In) (rIn K false) from ZT) (qv 0) (ZH (Zj Zh (Zj Zh (Zj Zh (Zj Zh (Zj Zh Ze)))))) (by with_unfolding_all rfl)))) (fun _ _ _ _=>(qv 0))) Ze)))),?_⟩
  clear hu
  try dsimp only [L2.cxK,L2.cxK2]
  have hin:∀x∈ws,Xc x=true/\inV x ((["add","sub","neg","twice","low"]:List Str).map V.str)=jF x:=fun x hx=>by
   rcases hw x hx with ⟨y,rfl⟩ | ⟨z,rfl⟩
   ·refine ⟨rfl,?_⟩
    rw [Z2]
    show decide _=decide _
    refine Qcn.mpr ?_
    unfold GN
    simp only [Qak,Qa3,Qcq]
    constructor
    ·rintro (h | h | h | h | h) <;> simp [h]
    ·rintro (h | h | h | h | h) <;> simp [h]
   ·exact ⟨rfl,G1 z _⟩
  have fin:∀(zs:List V) (H1:Hp),zs=(ws.take ws.length).filter jF/\ZG H H1->∀q,H1 q=none->(tCB (fun xs H Q=>∃p ys,xs=[V.ref p]/\(SqL K H p ys\/SqT K H p ys)/\Q (V.int ys.length) H) (fun _ H Q=>Q [.ref q] H)) [] (upd H1 q (.lst zs)) Q:=by
   rintro zs H1 hz_ q hq
   refine Z5 fun Gz hGz=>?_
   obtain ⟨rfl,s1⟩:=hz_
   refine hGz ?_
   clear hGz Gz
   refine ⟨q,_,rfl,.inl (SqL.of Za),?_⟩
   rw [Qbr]
   exact k _ (s1.trans (Zc hq))
  have long:∀i,((ws.take i).filter jF).length<=sizeLine:=fun i=>Qaw (Zp (Qba (Qde _ _) (by rw [Qar];lia)))
  have grow:∀(i:Nat) (x:V),ws[i]?=some x->((ws.take (i + 1)).filter jF)=if jF x=true then (ws.take i).filter jF++[x] else (ws.take i).filter jF:=fun i x hx=>by
   rw [take_snoc hx,Qdb,Qcl]
   split
   ·rfl
   ·rw [List.filter_nil,Qbc]
  rcases hp with hp | hp
  ·refine .inl ⟨_,rfl,p,rfl,⟨_,SqL.of hp⟩,JI (K:=K) (a:=p) (xs:=ws) (fun i zs H'=>zs=(ws.take i).filter jF/\ZG H H') ⟨rfl,ZG.refl _⟩ (fun i zs H' h=>by rw [h.1];exact long i) (fun i zs H' h=>SqL.of (h.2 _ _ hp)) (fun i x zs H1 R hR hx h=>?_) (fun zs H1 h q hq=>fin zs H1 h q hq)⟩
   obtain ⟨rfl,s1⟩:=h
   obtain ⟨f1,f2⟩:=hin x (Qam hx)
   refine ⟨_,rfl,by show 5<=sizeLine;decide,fun q hq=>⟨q,_,rfl,.inr (SqT.of Za),f1,rfl,_,rfl,?_⟩⟩
   show if inV x ((["add","sub","neg","twice","low"]:List Str).map V.str)=true then _ else _
   rw [f2]
   have s2:=s1.trans (Zc (o:=.tup [.str "add",.str "sub",.str "neg",.str "twice",.str "low"]) hq)
   have g:=grow i x hx
   by_cases hr:jF x=true
   ·rw [Qau hr] at g ⊢
    exact ⟨_,rfl,hR _ _ ⟨g.symm,s2⟩⟩
   ·rw [Qan hr] at g ⊢
    exact hR _ _ ⟨g.symm,s2⟩
  ·refine .inr ⟨_,rfl,p,rfl,⟨_,SqT.of hp⟩,qw (K:=K) (a:=p) (xs:=ws) (fun i zs H'=>zs=(ws.take i).filter jF/\ZG H H') ⟨rfl,ZG.refl _⟩ (fun i zs H' h=>by rw [h.1];exact long i) (fun i zs H' h=>SqT.of (h.2 _ _ hp)) (fun i x zs H1 R hR hx h=>?_) (fun zs H1 h q hq=>fin zs H1 h q hq)⟩
   obtain ⟨rfl,s1⟩:=h
   obtain ⟨f1,f2⟩:=hin x (Qam hx)
   refine ⟨_,rfl,by show 5<=sizeLine;decide,fun q hq=>⟨q,_,rfl,.inr (SqT.of Za),f1,rfl,_,rfl,?_⟩⟩
   show if inV x ((["add","sub","neg","twice","low"]:List Str).map V.str)=true then _ else _
   rw [f2]
   have s2:=s1.trans (Zc (o:=.tup [.str "add",.str "sub",.str "neg",.str "twice",.str "low"]) hq)
   have g:=grow i x hx
   by_cases hr:jF x=true
   ·rw [Qau hr] at g ⊢
    exact ⟨_,rfl,hR _ _ ⟨g.symm,s2⟩⟩
   ·rw [Qan hr] at g ⊢
    exact hR _ _ ⟨g.symm,s2⟩
inductive GU(vs:List V)(H:Hp)(Q:VK):Prop
 | mk (y:Str) (a:Int):(vs=[.str y,.int a])->(Q (.int (Zg8 y a)) H)->GU vs H Q
noncomputable def zo(K:PySem.W.Frag):Sp:=fun vs H Q _=>GU vs H Q
theorem kJ (T:Txt K w mg t) (TB:Tbs mg base t):ZO P w K mg base CX0 1 t.a_law_one t.f_law_one ["word","one"] (zo K):=by
 refine T.d_law_one.F.ok kG (fun vs H Q E h=>?_) (fun cdv A outer s H vs Q E hr h=>?_)
 ·obtain ⟨y,a,rfl,k⟩:=h
  rfl
 ·obtain ⟨y,a,rfl,k⟩:=h
  have hu:=Yj hr
  refine ⟨_,@QSs.out _ _ _ (Zb (Z8 (Zn Yb (qv 0) Zh (Zx _))
    (Zf (Zt (Zi X1 (Wd XS Zd) (qv 1)))) Zu)
    (Zb (Z8 (Zn Yb (qv 0) Zh (Zx _))
    (Zf (Zt (Wd XS (qv 1)))) Zu)
    (Zb (Z8 (Zn Yb (qv 0) Zh (Zx _))
    (Zf (Zt (Zi YT Zd (qv 1)))) Zu)
    (Zf (Zt (Zi Xl (qv 1) (Wd XS (qv 1)))))))),?_⟩
  clear hu hr
  try dsimp only [L2.cxK,L2.cxK2]
  refine L2.let4 ?_
  intro U3 U2 U1
  unfold Zg8 at k
  refine ⟨_,rfl,rfl,_,rfl,?_⟩
  by_cases h1:y = "not"
  ·rw [Qae (congrArg V.str h1)]
   rw [Qau h1,show Builtin.bitNot a=-1 - a by unfold Builtin.bitNot;lia] at k
   exact YS ⟨1,rfl,_,rfl,_,_,rfl,rfl,k⟩
  rw [Qad (fun z=>h1 (by injection z))]
  rw [Qan h1] at k
  refine ZU ⟨_,rfl,rfl,_,rfl,?_⟩
  by_cases h2:y = "neg"
  ·rw [Qae (congrArg V.str h2)]
   rw [Qau h2] at k
   exact YS ⟨_,rfl,_,rfl,k⟩
  rw [Qad (fun z=>h2 (by injection z))]
  rw [Qan h2] at k
  refine ZU ⟨_,rfl,rfl,_,rfl,?_⟩
  by_cases h3:y = "twice"
  ·rw [Qae (congrArg V.str h3)]
   rw [Qau h3,show a + a=2 * a by lia] at k
   exact YS ⟨_,rfl,_,_,rfl,rfl,.inr (.inl ⟨by decide,by decide⟩),k⟩
  rw [Qad (fun z=>h3 (by injection z))]
  rw [Qan h3] at k
  exact ZU ⟨_,rfl,_,rfl,_,rfl,_,_,rfl,rfl,k⟩
inductive GV(vs:List V)(H:Hp)(Q:VK):Prop
 | mk (y:Str) (a b:Int):(vs=[.str y,.int a,.int b])->(Q (.int (Zg9 y a b)) H)->GV vs H Q
noncomputable def zp(K:PySem.W.Frag):Sp:=fun vs H Q _=>GV vs H Q
theorem kK (T:Txt K w mg t) (TB:Tbs mg base t):ZO P w K mg base CX0 1 t.a_law_two t.f_law_two ["word","one","other"] (zp K):=by
 refine T.d_law_two.F.ok kH (fun vs H Q E h=>?_) (fun cdv A outer s H vs Q E hr h=>?_)
 ·obtain ⟨y,a,b,rfl,k⟩:=h
  rfl
 ·obtain ⟨y,a,b,rfl,k⟩:=h
  have hu:=Yj hr
  refine ⟨_,@QSs.out _ _ _ (Zb (Z8 (Zn Yb (qv 0) Zh (Zx _))
    (Zf (Zt (Zi Xl (qv 1) (qv 2)))) Zu)
    (Zb (Z8 (Zn Yb (qv 0) Zh (Zx _))
    (Zf (Zt (Zi x8 (qv 1) (qv 2)))) Zu)
    (Zb (Z8 (Zn Yb (qv 0) Zh (Zx _))
    (Zf (Zt (Zi qD (qv 1) (qv 2)))) Zu)
    (Zb (Z8 (Zn Yb (qv 0) Zh (Zx _))
    (Zf (Zt (Zi ZX (qv 1) (qv 2)))) Zu)
    (Zf (Zt (Zi X1 (qv 1) (qv 2)))))))),?_⟩
  clear hu hr
  try dsimp only [L2.cxK,L2.cxK2]
  refine L2.let5 ?_
  intro U4 U3 U2 U1
  unfold Zg9 at k
  refine ⟨_,rfl,rfl,_,rfl,?_⟩
  by_cases h1:y = "and"
  ·rw [Qae (congrArg V.str h1)]
   rw [Qau h1] at k
   exact YS ⟨_,rfl,_,rfl,_,_,rfl,rfl,k⟩
  rw [Qad (fun z=>h1 (by injection z))]
  rw [Qan h1] at k
  refine ZU ⟨_,rfl,rfl,_,rfl,?_⟩
  by_cases h2:y = "or"
  ·rw [Qae (congrArg V.str h2)]
   rw [Qau h2] at k
   exact YS ⟨_,rfl,_,rfl,_,_,rfl,rfl,k⟩
  rw [Qad (fun z=>h2 (by injection z))]
  rw [Qan h2] at k
  refine ZU ⟨_,rfl,rfl,_,rfl,?_⟩
  by_cases h3:y = "odd"
  ·rw [Qae (congrArg V.str h3)]
   rw [Qau h3] at k
   exact YS ⟨_,rfl,_,rfl,_,_,rfl,rfl,k⟩
  rw [Qad (fun z=>h3 (by injection z))]
  rw [Qan h3] at k
  refine ZU ⟨_,rfl,rfl,_,rfl,?_⟩
  by_cases h4:y = "add"
  ·rw [Qae (congrArg V.str h4)]
   rw [Qau h4] at k
   exact YS ⟨_,rfl,_,rfl,_,_,rfl,rfl,k⟩
  rw [Qad (fun z=>h4 (by injection z))]
  rw [Qan h4] at k
  exact ZU ⟨_,rfl,_,rfl,_,_,rfl,rfl,k⟩
inductive WU(vs:List V)(H:Hp)(Q:VK):Prop
 | mk (a:Int) (W:Nat):(vs=[.int a,.int (W:Int)])->(1<=W)->(W<=64)->(0<=a)->(a < 2 ^ W)->(Q (.int (sgn (2 ^ W) a)) H)->WU vs H Q
noncomputable def Ge(K:PySem.W.Frag):Sp:=fun vs H Q _=>WU vs H Q
theorem zX (T:Txt K w mg t) (TB:Tbs mg base t):ZO P w K mg base CX0 1 t.a_law_signed t.f_law_signed ["one","width"] (Ge K):=by
 refine T.d_law_signed.F.ok zV (fun vs H Q E h=>?_) (fun cdv A outer s H vs Q E hr h=>?_)
 ·obtain ⟨a,W,rfl,hW,hW2,a0,a1,k⟩:=h
  rfl
 ·obtain ⟨a,W,rfl,hW,hW2,a0,a1,k⟩:=h
  have hu:=Yj hr
  refine ⟨_,@QSs.out _ _ _ (Zb (Z8 (Zn Yb (Zi GF (qv 0) (Zi X1 (qv 1) Zd)) Zd (Zx _))
    (Zf (Zt (Zi X1 (qv 0) (Zi GD Zd (qv 1))))) Zu)
    (Zf (Zt (qv 0)))),?_⟩
  clear hu hr
  try dsimp only [L2.cxK,L2.cxK2]
  refine L2.let2 ?_
  intro U1
  obtain ⟨j,rfl⟩:∃j,W=j + 1:=⟨W - 1,by lia⟩
  have et:(((j + 1:Nat):Int) - 1).toNat=j:=by lia
  have hp:(2:Int) ^ (j + 1)=2 ^ j * 2:=Qbw 2 j
  refine ⟨_,rfl,_,rfl,_,_,rfl,rfl,_,_,rfl,rfl,(by show (0:Int)<=((j + 1:Nat):Int) - 1;lia),rfl,_,rfl,?_⟩
  show if decide (V.int (a / 2 ^ (((j + 1:Nat):Int) - 1).toNat)=V.int 1)=true then _ else _
  rw [et]
  rcases top1 a0 a1 with ⟨h1,h2⟩ | ⟨h1,h2⟩ <;> rw [h1]
  ·rw [Qae rfl]
   refine YS ⟨_,rfl,_,rfl,_,_,rfl,rfl,⟨Qbl _,by lia,by decide⟩,_,_,rfl,rfl,?_⟩
   have e:a - 1 * 2 ^ ((j + 1:Nat):Int).toNat=sgn (2 ^ (j + 1)) a:=by
    unfold sgn
    rw [Qau (by lia),Qer,Qat]
   show Q (.int (a - 1 * 2 ^ ((j + 1:Nat):Int).toNat)) H
   rw [e]
   exact k
  ·rw [Qad (by intro z;injection z with z;cases z)]
   refine ZU ⟨_,rfl,?_⟩
   have e:sgn (2 ^ (j + 1)) a=a:=by
    unfold sgn
    rw [Qan (by lia)]
   rw [e] at k
   exact k
inductive XY(vs:List V)(H:Hp)(Q:VK):Prop
 | mk (y:Str) (W:Nat) (v:V) (r:Bool):(vs=[.str y,v,.int (W:Int)])->(1<=W)->(W<=64)->(((y∈(["sign","nought"]:List Str)/\∃a:Int,v=.int a/\0<=a/\a < 2 ^ W/\r=zH (2 ^ W) y [a])\/(y = "never" /\ ∃p:Bool,v=.bl p/\r=Zc2 y [p])))->(Q (.bl r) H)->XY vs H Q
noncomputable def WC(K:PySem.W.Frag):Sp:=fun vs H Q _=>XY vs H Q
theorem qk (T:Txt K w mg t) (TB:Tbs mg base t):ZO P w K mg base CX0 1 t.a_law_one_holds t.f_law_one_holds ["word","one","width"] (WC K):=by
 refine T.d_law_one_holds.F.ok qh (fun vs H Q E h=>?_) (fun cdv A outer s H vs Q E hr h=>?_)
 ·obtain ⟨y,W,v,r,rfl,hW,hW2,hy,k⟩:=h
  rfl
 ·obtain ⟨y,W,v,r,rfl,hW,hW2,hy,k⟩:=h
  have hu:=Yj hr
  refine ⟨_,@QSs.out _ _ _ (Zb (Z8 (Zn Yb (qv 0) Zh (Zx _))
    (Zf (Zt (WM Yb (Zi GF (qv 1) (Zi X1 (qv 2) Zd)) Zd (Zx _)))) Zu)
    (Zb (Z8 (Zn Yb (qv 0) Zh (Zx _))
    (Zf (Zt (WM Yb (qv 1) Zd (Zx _)))) Zu)
    (Zf (Zt (wR (qv 1)))))),?_⟩
  clear hu hr
  try dsimp only [L2.cxK,L2.cxK2]
  refine L2.let3 ?_
  intro U2 U1
  refine ⟨_,rfl,rfl,_,rfl,?_⟩
  rcases hy with ⟨hy,a,rfl,a0,a1,rfl⟩ | ⟨rfl,p,rfl,rfl⟩
  ·simp only [Qak,Qa3,Qcq] at hy
   rcases hy with rfl | rfl
   ·rw [Qae rfl]
    obtain ⟨j,rfl⟩:∃j,W=j + 1:=⟨W - 1,by lia⟩
    have et:(((j + 1:Nat):Int) - 1).toNat=j:=by lia
    have hp:(2:Int) ^ (j + 1)=2 ^ j * 2:=Qbw 2 j
    refine YS ⟨_,rfl,_,rfl,_,_,rfl,rfl,_,_,rfl,rfl,(by show (0:Int)<=((j + 1:Nat):Int) - 1;lia),rfl,?_⟩
    have e:decide (V.int (a / 2 ^ (((j + 1:Nat):Int) - 1).toNat)=V.int 1)=zH (2 ^ (j + 1)) "sign" [a]:=by
     rw [et]
     show _=decide (sgn (2 ^ (j + 1)) a < 0)
     refine Qcn.mpr ?_
     unfold sgn
     rcases top1 a0 a1 with ⟨h1,h2⟩ | ⟨h1,h2⟩ <;> rw [h1]
     ·rw [Qau (by lia)]
      exact ⟨fun _=>by lia,fun _=>rfl⟩
     ·rw [Qan (by lia)]
      exact ⟨fun z=>(by injection z with z;cases z),fun z=>(by lia)⟩
    show Q (.bl (decide (V.int (a / 2 ^ (((j + 1:Nat):Int) - 1).toNat)=V.int 1))) H
    rw [e]
    exact k
   ·rw [Qad (by decide +kernel)]
    refine ZU ⟨_,rfl,rfl,_,rfl,?_⟩
    rw [Qae rfl]
    exact YS ⟨_,rfl,rfl,(congrArg (fun z=>Q (V.bl z) H) (Qcn.mpr ⟨fun e=>(by rw [show a=0 from e]),fun e=>(by injection e)⟩)).mp k⟩
  ·rw [Qad (by decide +kernel)]
   refine ZU ⟨_,rfl,rfl,_,rfl,?_⟩
   rw [Qad (by decide +kernel)]
   exact ZU ⟨_,rfl,_,rfl,k⟩
inductive WD(vs:List V)(H:Hp)(Q:VK):Prop
 | mk (nm d:Addr) (w:Nat) (ys:List Str) (kvs:List (Key × V)) (f:Str->Int):(vs=[.ref nm,.int (w:Int),.ref d])->(H nm=some (.tup (ys.map V.str)))->(Rd H d (.dK kvs))->((∀y∈ys,YW kvs (.inr y)=some (.int (f y))/\0<=f y))->(ys.length<=3)->(w<=60)->(∀p H',H p=none->H' p=some (.lst ((List.range w).map fun k=>.int (ltr ys f k)))->ZG H H'->Q (.ref p) H')->WD vs H Q
noncomputable def Jr(K:PySem.W.Frag):Sp:=fun vs H Q _=>WD vs H Q
theorem xP (T:Txt K w mg t) (TB:Tbs mg base t):ZO P w K mg base CX0 1 t.a_law_letters t.f_law_letters ["names","width","values"] (Jr K):=by
 refine T.d_law_letters.F.ok Y1 (fun vs H Q E h=>?_) (fun cdv A outer s H vs Q E hr h=>?_)
 ·obtain ⟨nm,d,w,ys,kvs,f,rfl,hn,hd,hv,hy3,hw,k⟩:=h
  rfl
 ·obtain ⟨nm,d,w,ys,kvs,f,rfl,hn,hd,hv,hy3,hw,k⟩:=h
  have hu:=Yj hr
  refine ⟨_,@QSs.out _ _ _ (Zb (Zq (i:=3) Y1.nd rfl (Or.inl rfl) (Ys Ze))
    (Zb (YN PassesOwn.never rfl (Ym rfl T.z_range (Zj (qv 1) Ze)) (Yc (i:=4) Y1.nd rfl (Or.inl rfl))
    (Zb (Zq (i:=5) Y1.nd rfl (Or.inl rfl) Zd)
    (Zb (YN PassesOwn.never rfl (Ym rfl T.z_range (Zj (Zm Zk (by rfl) T.z_len ZE (Zj (qv 0) Ze)) Ze)) (Yc (i:=6) Y1.nd rfl (Or.inl rfl))
    (Zf (Zq (i:=5) Y1.nd rfl (Or.inl rfl) (Zi ZX (qv 5) (Zi GD (Zi Xl (Zi GF (zB hu (qv 2) (Zz ZL (qv 0) (qv 6) (fun _ _=>rfl)) (fun _ _=>rfl)) (qv 4)) Zd) (qv 6))))))
    (Zf (ZY (Y3 Qai Qap Qaq Z9 (qv 3) (Zj (qv 5) Ze)))))))
    (Zf (Zt (qv 3))))),?_⟩
  clear hu hr
  try dsimp only [L2.cxK,L2.cxK2]
  refine L2.let3 ?_
  intro U2 U1
  have eN:((ys.map V.str).length:Int).toNat=ys.length:=by rw [Qat,Qab]
  refine ⟨by show 0<=sizeLine;decide,fun l hl=>?_⟩
  have u1:=Zc (o:=.lst []) hl
  refine ⟨_,rfl,(w:Int),rfl,by lia,by lia,YM (n:=w) (fun i σ H2=>∃u5 u6 u7,σ=[some (.ref nm),some (.int w),some (.ref d),some (.ref l),u5,u6,u7]/\H2 l=some (.lst ((List.range i).map fun k=>V.int (ltr ys f k)))/\ZG H H2/\i<=w) ⟨none,none,none,rfl,Za,u1,Qbg _⟩ ?_ ?_⟩
  ·rintro i σ H2 hi hz_
   refine Z5 fun Gz hGz=>?_
   obtain ⟨u5,u6,u7,rfl,h2,s2,_⟩:=hz_
   refine hGz ?_
   clear hGz Gz
   refine ⟨_,rfl,nm,_,rfl,.inr (SqT.of (s2 _ _ hn)),_,rfl,?_,?_,YM (fun j σ H3=>∃v7,σ=[some (.ref nm),some (.int w),some (.ref d),some (.ref l),some (.int (0 + (i:Int))),some (.int (sm (fun s=>f (ys.getD s Str.empty) / 2 ^ i % 2) j)),v7]/\H3=H2/\j<=ys.length) ⟨u7,rfl,rfl,Qbg _⟩ ?_ ?_⟩
   ·rw [Qab]
    lia
   ·rw [Qab]
    lia
   ·rintro j σ H3 hj hz_
    refine Z5 fun Gz hGz=>?_
    obtain ⟨v7,rfl,rfl,_⟩:=hz_
    refine hGz ?_
    clear hGz Gz
    rw [eN] at hj
    have hy:ys[j]?=some ys[j]:=Qaa hj
    have hm:=Qbz hj
    have ey:ys.getD j Str.empty=ys[j]:=by rw [Qal,hy];rfl
    have hat:atI (ys.map V.str) (0 + (j:Int))=some (.str ys[j]):=by
     rw [Qcm]
     exact Yl (by rw [Qao,hy];rfl)
    obtain ⟨hv1,hv2⟩:=hv _ hm
    have eb:Builtin.bitAnd (f ys[j] / 2 ^ (0 + (i:Int)).toNat) 1=f ys[j] / 2 ^ i % 2:=by
     rw [Qcm,Qat,Ze4 (div_nn hv2 i)]
    have b01:=Zgz (f ys[j]) i
    refine ⟨_,rfl,_,rfl,_,rfl,_,rfl,nm,_,_,_,rfl,rfl,SqT.of (s2 _ _ hn),hat,d,_,rfl,.inl ⟨kvs,.inr ys[j],Ze6 hd s2,rfl,hv1.symm⟩,_,rfl,_,_,rfl,rfl,(by show (0:Int)<=0 + (i:Int);lia),_,_,rfl,rfl,_,rfl,_,_,rfl,rfl,⟨by lia,by lia,?_⟩,_,_,rfl,rfl,some (.int (0 + (j:Int))),?_,rfl,hj⟩
    ·rw [eb]
     lia
    ·have ej:(0 + (j:Int)).toNat=j:=by lia
     rw [eb,ej]
     show _=[_,_,_,_,_,some (V.int (sm (fun s=>f (ys.getD s Str.empty) / 2 ^ i % 2) j + f (ys.getD j Str.empty) / 2 ^ i % 2 * 2 ^ j)),_]
     rw [ey]
     rfl
   ·rw [eN]
    rintro σ H3 hz_
    refine Z5 fun Gz hGz=>?_
    obtain ⟨v7,rfl,rfl,_⟩:=hz_
    refine hGz ?_
    clear hGz Gz
    refine ⟨_,rfl,.inl ⟨rfl,_,SqL.of h2⟩,_,rfl,l,_,_,rfl,rfl,h2,?_,_,_,_,rfl,?_,ZI s2 hl,hi⟩
    ·rw [Qab,Qbp]
     exact Zp (by lia)
    ·rw [Za,Qex,Qbh]
     rfl
  ·rintro σ H2 hz_
   refine Z5 fun Gz hGz=>?_
   obtain ⟨u5,u6,u7,rfl,h2,s2,_⟩:=hz_
   refine hGz ?_
   clear hGz Gz
   exact ⟨_,rfl,k l H2 hl h2 s2⟩
inductive Js(vs:List V)(H:Hp)(Q:VK):Prop
 | mk (nm l:Addr) (ys:List Str) (ls:List Nat):(vs=[.ref nm,.ref l])->(H nm=some (.tup (ys.map V.str)))->(ys.Nodup)->(ys.length<=3)->(H l=some (.lst (ls.map Wj)))->(ls.length<=64)->(∀d kvs H',H d=none->H' d=some (.dK kvs)->km kvs ys (x6 ls ys)->ZG H H'->Q (.ref d) H')->Js vs H Q
noncomputable def WV(K:PySem.W.Frag):Sp:=fun vs H Q _=>Js vs H Q
theorem jY (T:Txt K w mg t) (TB:Tbs mg base t):ZO P w K mg base CX0 1 t.a_law_words t.f_law_words ["names","letters"] (WV K):=by
 refine T.d_law_words.F.ok Xa (fun vs H Q E h=>?_) (fun cdv A outer s H vs Q E hr h=>?_)
 ·obtain ⟨nm,l,ys,ls,rfl,hn,hnd,hy3,hl,hl64,k⟩:=h
  rfl
 ·obtain ⟨nm,l,ys,ls,rfl,hn,hnd,hy3,hl,hl64,k⟩:=h
  have hu:=Yj hr
  refine ⟨_,@QSs.out _ _ _ (Zb (Zq (i:=2) Xa.nd rfl (Or.inl rfl) yw)
    (Zb (YN PassesOwn.never rfl (Ym rfl T.z_range (Zj (Zm Zk (by rfl) T.z_len ZE (Zj (qv 0) Ze)) Ze)) (Yc (i:=3) Xa.nd rfl (Or.inl rfl))
    (Zb (Zq (i:=4) Xa.nd rfl (Or.inl rfl) Zd)
    (Zb (YN PassesOwn.never rfl (Ym rfl T.z_range (Zj (Zm Zk (by rfl) T.z_len ZE (Zj (qv 1) Ze)) Ze)) (Yc (i:=5) Xa.nd rfl (Or.inl rfl))
    (Zf (Zq (i:=4) Xa.nd rfl (Or.inl rfl) (Zi ZX (qv 4) (Zi GD (Zi Xl (Zi GF (Zz Zv (qv 1) (qv 5) (fun _ _=>rfl)) (qv 3)) Zd) (qv 5))))))
    (Zf (qP hu (qv 2) (Zz ZL (qv 0) (qv 3) (fun _ _=>rfl)) (qv 4) rfl)))))
    (Zf (Zt (qv 2))))),?_⟩
  clear hu hr
  try dsimp only [L2.cxK,L2.cxK2]
  refine L2.let3 ?_
  intro U2 U1
  have eN:((ys.map V.str).length:Int).toNat=ys.length:=by rw [Qat,Qab]
  have eL:((ls.map Wj).length:Int).toNat=ls.length:=by rw [Qat,Qab]
  intro d hd
  have u1:=Zc (o:=.dK []) hd
  refine ⟨_,rfl,nm,_,rfl,.inr (SqT.of (u1 _ _ hn)),_,rfl,?_,?_,YM (fun i σ H2=>∃u3 u4 u5 kvs,σ=[some (.ref nm),some (.ref l),some (.ref d),u3,u4,u5]/\H2 d=some (.dK kvs)/\km kvs (ys.take i) (x6 ls ys)/\kvs.length<=i/\i<=ys.length/\ZG H H2) ⟨none,none,none,[],rfl,Za,⟨fun y h=>(by cases h),fun y _=>rfl⟩,Qaj _,Qbg _,u1⟩ ?_ ?_⟩
  ·rw [Qab]
   lia
  ·rw [Qab]
   lia
  ·rintro i σ H2 hi hz_
   refine Z5 fun Gz hGz=>?_
   obtain ⟨u3,u4,u5,kvs,rfl,h2,hc,hkl,_,s2⟩:=hz_
   refine hGz ?_
   clear hGz Gz
   rw [eN] at hi
   have hy:ys[i]?=some ys[i]:=Qaa hi
   have hat:atI (ys.map V.str) (0 + (i:Int))=some (.str ys[i]):=by
    rw [Qcm]
    exact Yl (by rw [Qao,hy];rfl)
   refine ⟨_,rfl,l,_,rfl,.inl (SqL.of (s2 _ _ hl)),_,rfl,by rw [Qab];lia,by rw [Qab];lia,YM (fun j σ H3=>∃u5,σ=[some (.ref nm),some (.ref l),some (.ref d),some (.int (0 + (i:Int))),some (.int (sm (fun k=>bt ((ls.getD k 0:Nat):Int) i) j)),u5]/\H3=H2) ⟨u5,rfl,rfl⟩ ?_ ?_⟩
   ·rintro j σ H3 hj hz_
    refine Z5 fun Gz hGz=>?_
    obtain ⟨u5,rfl,rfl⟩:=hz_
    refine hGz ?_
    clear hGz Gz
    rw [eL] at hj
    have hlj:ls[j]?=some (ls.getD j 0):=by rw [Qal,Qaa hj];rfl
    have eb:Builtin.bitAnd (((ls.getD j 0:Nat):Int) / 2 ^ (0 + (i:Int)).toNat) 1=bt ((ls.getD j 0:Nat):Int) i:=by
     rw [and_1,Qcm,Qat]
     rfl
    have b01:=YQ ((ls.getD j 0:Nat):Int) i
    refine ⟨_,rfl,_,rfl,_,rfl,l,_,_,_,rfl,rfl,SqL.of (s2 _ _ hl),by rw [Qcm];exact Yl (by rw [Qao,hlj];rfl),_,rfl,_,_,rfl,rfl,(by show (0:Int)<=0 + (i:Int);lia),_,_,rfl,rfl,_,rfl,_,_,rfl,rfl,⟨by lia,by lia,?_⟩,_,_,rfl,rfl,some (.int (0 + (j:Int))),?_,rfl⟩
    ·rw [eb]
     lia
    ·have ej:(0 + (j:Int)).toNat=j:=by lia
     rw [eb,ej]
     rfl
   ·rw [eL]
    rintro σ H3 hz_
    refine Z5 fun Gz hGz=>?_
    obtain ⟨u5,rfl,rfl⟩:=hz_
    refine hGz ?_
    clear hGz Gz
    have ev:sm (fun k=>bt ((ls.getD k 0:Nat):Int) i) ls.length=x6 ls ys ys[i]:=by
     unfold x6
     rw [xi hnd hy]
    rw [ev]
    have lp:=XJ kvs (.inr ys[i]) (.int (x6 ls ys ys[i]))
    refine ⟨_,rfl,_,rfl,_,rfl,_,rfl,nm,_,_,_,rfl,rfl,SqT.of (s2 _ _ hn),hat,d,_,rfl,Zaq.k (k:=.inr ys[i]) h2 (Zp (by lia)),_,_,_,_,rfl,Za,⟨fun z hz=>?_,fun z hz=>?_⟩,by lia,hi,ZI s2 hd⟩
    ·rw [take_snoc hy] at hz
     rw [JJ]
     by_cases hzy:z=ys[i]
     ·rw [Qau (by rw [hzy]),hzy]
     ·rw [Qan (fun e=>hzy (Sum.inr.inj e))]
      rcases Qa6.mp hz with h | h
      ·exact hc.1 z h
      ·exact absurd (Qav.mp h) hzy
    ·rw [take_snoc hy] at hz
     rw [JJ,Qan (fun e=>hz (Qa6.mpr (.inr (Qav.mpr (Sum.inr.inj e)))))]
     exact hc.2 z fun h=>hz (Qa6.mpr (.inl h))
  ·rintro σ H2 hz_
   refine Z5 fun Gz hGz=>?_
   obtain ⟨u3,u4,u5,kvs,rfl,h2,hc,hkl,_,s2⟩:=hz_
   refine hGz ?_
   clear hGz Gz
   rw [eN,Qbr] at hc
   exact ⟨_,rfl,k d kvs H2 hd h2 hc s2⟩
inductive WW(vs:List V)(H:Hp)(Q:VK):Prop
 | mk (b:Nat) (ps:Addr) (nx:List (List Nat)):(vs=[.int (b:Int),.ref ps])->(qf H ps (nx.map ja))->(b < nx.length)->((∀row∈nx,row.length<=8/\∀s∈row,s < nx.length))->(nx.length<=1000000)->(∀p (l:List Nat) H',H p=none->H' p=some (.lst (l.map Wj))->BfsE nx b l->ZG H H'->Q (.ref p) H')->WW vs H Q
noncomputable def Gf(K:PySem.W.Frag):Sp:=fun vs H Q _=>WW vs H Q
theorem zY (T:Txt K w mg t) (TB:Tbs mg base t):ZO P w K mg base CX0 1 t.a_law_led_to t.f_law_led_to ["begin","nexts"] (Gf K):=by
 refine T.d_law_led_to.F.ok YI (fun vs H Q E h=>?_) (fun cdv A outer s H vs Q E hr h=>?_)
 ·obtain ⟨b,ps,nx,rfl,Rs,hb,hnx,h2,k⟩:=h
  rfl
 ·obtain ⟨b,ps,nx,rfl,Rs,hb,hnx,h2,k⟩:=h
  have hu:=Yj hr
  refine ⟨_,@QSs.out _ _ _ (Zb (Zq (i:=2) YI.nd rfl (Or.inl rfl) (Ys (Zj (qv 0) Ze)))
    (Zb (Zq (i:=3) YI.nd rfl (Or.inl rfl) (gC (ve (qv 0) WK gB) rfl rfl (fun z=>nomatch z) (by decide)))
    (Zb (Zq (i:=4) YI.nd rfl (Or.inl rfl) Zd)
    (Zb (qr PassesOwn.never (Zn qF (qv 4) (Zm Zk (by rfl) T.z_len ZE (Zj (qv 2) Ze)) (Zx _))
    (Zb (YN PassesOwn.never rfl (GH (Zz ZL (qv 1) (Zz Zv (qv 2) (qv 4) (fun _ _=>rfl)) (fun _ _=>rfl))) (Yc (i:=5) YI.nd rfl (Or.inl rfl))
    (Zf (Z8 (Zn (JL hu) (qv 5) (qv 3) (by with_unfolding_all rfl))
    (Zb (qP hu (qv 3) (qv 5) WK rfl)
    (Zf (ZY (Y3 Qai Qap Qaq Z9 (qv 2) (Zj (qv 5) Ze))))) Zu)))
    (Zf (Zq (i:=4) YI.nd rfl (Or.inl rfl) (Zi ZX (qv 4) Zd)))))
    (Zf (Zt (qv 2))))))),?_⟩
  clear hu
  try dsimp only [L2.cxK,L2.cxK2]
  refine L2.let5 ?_
  intro U4 U3 U2 U1
  have hr:∀row∈nx,∀s∈row,s < nx.length:=fun row h=>(hnx row h).2
  obtain ⟨bs,hps,hbs,hsb⟩:=uo Rs
  refine ⟨_,rfl,by show 1<=sizeLine;decide,fun p hp=>?_⟩
  have s1:=Zc (o:=.lst [.int (b:Int)]) hp
  refine Zl ?_
  refine fun d hd=>?_
  have hdp:p≠d:=Zs Za hd
  have hdH:H d=none:=s1.free hd
  have s2:=s1.trans (Zc (o:=.dK []) hd)
  refine ⟨_,rfl,Za,[(.inl (b:Int),.bl true)],rfl,by show 1<=15;decide,Zl ?_⟩
  have em:qO [] [((.inl (b:Int):Key),V.bl true)]=trK [b]:=rfl
  rw [em,yi]
  have s3:ZG H (upd (upd H p (.lst [.int (b:Int)])) d (.dK (trK [b]))):=s1.trans (Zc hd)
  have hp3:upd (upd H p (.lst [.int (b:Int)])) d (.dK (trK [b])) p=some (.lst ((x5 nx b 0).map Wj)):=by rw [Zo hdp];exact Za
  have hd3:upd (upd H p (.lst [.int (b:Int)])) d (.dK (trK [b])) d=some (.dK (trK (x5 nx b 0))):=Za
  generalize upd (upd H p (.lst [.int (b:Int)])) d (.dK (trK [b]))=H3 at *
  refine zG (fun σ H2=>∃(i:Nat) (u5:Option V),σ=[some (.int (b:Int)),some (.ref ps),some (.ref p),some (.ref d),some (.int (i:Int)),u5]/\H2 p=some (.lst ((x5 nx b i).map Wj))/\H2 d=some (.dK (trK (x5 nx b i)))/\(∀j,j < i->j < (x5 nx b j).length)/\i<=(x5 nx b i).length/\ZG H H2) (fun σ _=>match σ with | [_,_,_,_,some (.int m),_]=>nx.length - m.toNat | _=>0) ⟨0,none,rfl,hp3,hd3,(fun j hj=>absurd hj (Qeh _)),Qbg _,s3⟩ ?_
  rintro σ H4 hz_
  refine Z5 fun Gz hGz=>?_
  obtain ⟨i,u5,rfl,hp4,hd4,hgo,hil,s4⟩:=hz_
  refine hGz ?_
  clear hGz Gz
  have hlen:=Ze8 hb hr i
  have hnd:=xb nx b i
  have hltA:=uq hb hr i
  have eN:x5 nx b (i + 1)=Zf3 nx (x5 nx b i) i:=rfl
  generalize hl0:x5 nx b i=l0 at *
  refine ⟨_,rfl,_,rfl,p,_,rfl,.inl (SqL.of hp4),_,_,rfl,rfl,_,rfl,?_⟩
  rw [Qab]
  refine Gj (fun hlt=>?_) (fun hlt=>?_)
  ·have hlt':i < l0.length:=by
    have:=Qa9 hlt
    lia
   refine ⟨fun σ' H'=>∃(u5:Option V),σ'=[some (.int (b:Int)),some (.ref ps),some (.ref p),some (.ref d),some (.int ((i + 1:Nat):Int)),u5]/\H' p=some (.lst ((x5 nx b (i + 1)).map Wj))/\H' d=some (.dK (trK (x5 nx b (i + 1))))/\ZG H H',?_,?_⟩
   ·rintro σ' H' hz_
    refine Z5 fun Gz hGz=>?_
    obtain ⟨u5,rfl,h5,h6,s5⟩:=hz_
    refine hGz ?_
    clear hGz Gz
    have hpre:l0.length<=(x5 nx b (i + 1)).length:=by
     obtain ⟨r,e⟩:=qz (nx.getD (l0.getD i 0) []) l0
     rw [eN]
     unfold Zf3
     rw [e,Qac]
     lia
    refine ⟨nx.length - (i + 1),?_,?_,i + 1,u5,rfl,h5,h6,fun j hj=>?_,by lia,s5⟩
    ·show nx.length - (i + 1) < nx.length - (i:Int).toNat
     rw [Qat]
     lia
    ·show _=nx.length - ((i + 1:Nat):Int).toNat
     rw [Qat]
    ·by_cases hji:j=i
     ·rw [hji,hl0]
      exact hlt'
     ·exact hgo j (by lia)
   ·have hps4:=s4 _ _ hps
    obtain ⟨si,hsi⟩:∃si,l0[i]?=some si:=⟨_,Qaa hlt'⟩
    have hsn:si < nx.length:=hltA _ (Qam hsi)
    have hbl:bs.length=nx.length:=by rw [hbs,Qab]
    obtain ⟨row,hrow⟩:∃row,nx[si]?=some row:=⟨_,Qaa hsn⟩
    obtain ⟨br,hbi⟩:∃br,bs[si]?=some br:=⟨_,Qaa (by lia)⟩
    have hbr:=hsb _ _ _ (by rw [Qao,hrow];rfl) hbi
    obtain ⟨r8,rlt⟩:=hnx _ (Qam hrow)
    have eS:x5 nx b (i + 1)=row.foldl Xe l0:=by
     rw [eN]
     unfold Zf3
     rw [Qal,Qal,hsi]
     show (nx[si]?.getD []).foldl Xe _=_
     rw [hrow]
     rfl
    rw [eS]
    refine ⟨_,rfl,_,rfl,_,rfl,p,_,(i:Int),Wj si,rfl,rfl,SqL.of hp4,Yl (by rw [Qao,hsi];rfl),ps,_,_,V.ref br,rfl,rfl,SqT.of hps4,Yl (by rw [Qao,hbi];rfl),_,rfl,⟨_,SqT.of (s4 _ _ hbr)⟩,?_⟩
    refine zy (K:=K) (xs:=ja row) (fun j σ H5=>∃(u5:Option V),σ=[some (.int (b:Int)),some (.ref ps),some (.ref p),some (.ref d),some (.int (i:Int)),u5]/\H5 p=some (.lst (((row.take j).foldl Xe l0).map Wj))/\H5 d=some (.dK (trK ((row.take j).foldl Xe l0)))/\ZG H H5) ⟨u5,rfl,hp4,hd4,s4⟩ (fun j σ H5 _ ⟨_,_,_,_,s⟩=>SqT.of (s _ _ hbr)) ?_ ?_
    ·rintro j x σ H5 hx hz_
     refine Z5 fun Gz hGz=>?_
     obtain ⟨u6,rfl,hp5,hd5,s5⟩:=hz_
     refine hGz ?_
     clear hGz Gz
     unfold ja at hx
     rw [Qao] at hx
     obtain ⟨s',hs',rfl⟩:=Qco.mp hx
     have e1:(row.take (j + 1)).foldl Xe l0=Xe ((row.take j).foldl Xe l0) s':=by
      rw [take_snoc hs',Qdk]
      rfl
     have hll:((row.take j).foldl Xe l0).length<=2000000:=by
      have h7:∀(r l:List Nat),(r.foldl Xe l).length<=l.length + r.length:=by
       intro r
       induction r with
       | nil=>exact fun l=>Qaj _
       | cons k r ih =>
        intro l
        have h1:=ih (Xe l k)
        have h2:=vk l k
        rw [Qc4,Qaz]
        lia
      have:=h7 (row.take j) l0
      rw [Qar] at this
      lia
     rw [e1]
     generalize (row.take j).foldl Xe l0=l' at *
     refine ⟨_,rfl,_,rfl,d,YW (trK l') (.inl (s':Int)),rfl,.inl ⟨trK l',.inl (s':Int),.inl hd5,rfl,rfl⟩,_,rfl,?_⟩
     by_cases hm:s'∈l'
     ·rw [Ze9 hm,show Xe l' s'=l' from Qau hm]
      exact ZU ⟨_,rfl,hp5,hd5,s5⟩
     ·rw [Zbf hm,show Xe l' s'=l'++[s'] from Qan hm]
      refine YS ⟨_,rfl,_,rfl,d,_,rfl,Zaq.k (k:=.inl (s':Int)) hd5 (by unfold trK;rw [Qab];exact JV (by lia)),?_⟩
      rw [Zfa hm]
      have hp6:upd H5 d (.dK (trK (l'++[s']))) p=some (.lst (l'.map Wj)):=by rw [Zo hdp];exact hp5
      refine ⟨_,rfl,.inl ⟨rfl,_,SqL.of hp6⟩,_,rfl,p,_,_,rfl,rfl,hp6,by rw [Qab];exact JV (by lia),_,rfl,?_,?_,ZI (ZI s5 hdH) hp⟩
      ·rw [Za,Qbh]
       rfl
      ·rw [Zo hdp.symm]
       exact Za
    ·rintro σ H5 hz_
     refine Z5 fun Gz hGz=>?_
     obtain ⟨u6,rfl,hp5,hd5,s5⟩:=hz_
     refine hGz ?_
     clear hGz Gz
     rw [show (ja row).length=row.length from Qab ..,Qbr] at hp5 hd5
     exact ⟨_,rfl,_,_,rfl,rfl,_,rfl,hp5,hd5,s5⟩
  ·have hle:l0.length=i:=by
    have:¬(i:Int) < (l0.length:Int):=fun z=>hlt (Qae z)
    lia
   exact ⟨_,rfl,k p l0 H4 hp hp4 ⟨by rw [hle,hl0],fun j hj=>hgo j (by lia)⟩ s4⟩
inductive WX(vs:List V)(H:Hp)(Q:VK):Prop
 | mk (a:Addr) (xs:List V) (m:Nat):(vs=[.ref a,.int (m:Int)])->(H a=some (.tup xs))->(Q (.bl (decide (xs.length=m))) H)->WX vs H Q
noncomputable def Gg(K:PySem.W.Frag):Sp:=fun vs H Q _=>WX vs H Q
theorem zZ (T:Txt K w mg t) (TB:Tbs mg base t):ZO P w K mg base CX0 1 t.a_law_row_of t.f_law_row_of ["row","many"] (Gg K):=by
 refine T.d_law_row_of.F.ok zW (fun vs H Q E h=>?_) (fun cdv A outer s H vs Q E hr h=>?_)
 ·obtain ⟨a,xs,m,rfl,ha,k⟩:=h
  rfl
 ·obtain ⟨a,xs,m,rfl,ha,k⟩:=h
  have hu:=Yj hr
  refine ⟨_,@QSs.out _ _ _ (Zf (Zt (yW (Zm Xy (by rfl) T.z_isinstance ZN (Zj (qv 0) (Zj (Wc (v:=.ty "tuple") (by rfl) T.z_tuple YA rfl) Ze))) (xT (WM Yb (Zm Zk (by rfl) T.z_len ZE (Zj (qv 0) Ze)) (qv 1) (Zx _)))))),?_⟩
  clear hu hr
  try dsimp only [L2.cxK,L2.cxK2]
  refine ⟨_,rfl,_,_,_,_,rfl,.tup ha,J2,_,rfl,YS ⟨_,rfl,a,_,rfl,.inr (SqT.of ha),_,rfl,rfl,?_⟩⟩
  have e:decide (V.int (xs.length:Int)=V.int (m:Int))=decide (xs.length=m):=by
   by_cases h:xs.length=m
   ·rw [Qae h,Qae (by rw [h])]
   ·rw [Qad h,Qad fun z=>h (by injection z with z;lia)]
  rw [e]
  exact k
inductive GW(vs:List V)(H:Hp)(Q:VK):Prop
 | mk (m l:Addr) (nm:List Str) (nx:List (List Nat)) (ot:List (List V)) (ls:List Nat):(vs=[.ref m,.ref l])->(M4 H m nm 0 nx ot)->(Runs nx ot nm.length)->(H l=some (.lst (ls.map Wj)))->(ls.length<=1000)->((∀x∈ls,x < 2 ^ nm.length))->(∀p H',H p=none->H' p=some (.lst (rnO nx ot 0 ls))->ZG H H'->Q (.ref p) H')->GW vs H Q
noncomputable def zq(K:PySem.W.Frag):Sp:=fun vs H Q _=>GW vs H Q
theorem kL (T:Txt K w mg t) (TB:Tbs mg base t):ZO P w K mg base CX0 1 t.a_law_run t.f_law_run ["machine","letters"] (zq K):=by
 refine T.d_law_run.F.ok Ws (fun vs H Q E h=>?_) (fun cdv A outer s H vs Q E hr h=>?_)
 ·obtain ⟨m,l,nm,nx,ot,ls,rfl,M,W,hl,hll,hlt,k⟩:=h
  rfl
 ·obtain ⟨m,l,nm,nx,ot,ls,rfl,M,W,hl,hll,hlt,k⟩:=h
  have hu:=Yj hr
  refine ⟨_,@QSs.out _ _ _ (Zb (Zq (i:=2) Ws.nd rfl (Or.inl rfl) (Zz ZL (qv 0) Zd (fun _ _=>rfl)))
    (Zb (Zq (i:=3) Ws.nd rfl (Or.inl rfl) (Ys Ze))
    (Zb (YN PassesOwn.never rfl (We (qv 1)) (Yc (i:=4) Ws.nd rfl (Or.inl rfl))
    (Zb (ZY (Y3 Qai Qap Qaq Z9 (qv 3) (Zj (Zz ZL (Zz ZL (Zz ZL (qv 0) Zd (fun _ _=>rfl)) (qv 2) (fun _ _=>rfl)) (qv 4) (fun _ _=>rfl)) Ze)))
    (Zf (Zq (i:=2) Ws.nd rfl (Or.inl rfl) (Zz ZL (Zz ZL (Zz ZL (qv 0) Zd (fun _ _=>rfl)) (qv 2) (fun _ _=>rfl)) (qv 4) (fun _ _=>rfl))))))
    (Zf (Zt (qv 3)))))),?_⟩
  clear hu
  try dsimp only [L2.cxK,L2.cxK2]
  refine L2.let4 ?_
  intro U3 U2 U1
  refine Z5 fun Gz hGz=>?_
  obtain ⟨pn,ps,po,hm,hn,R,O⟩:=M.ex
  refine hGz ?_
  clear hGz Gz
  refine ⟨_,rfl,m,_,1,_,rfl,rfl,SqT.of hm,rfl,Zl ⟨by show 0<=sizeLine;decide,fun p hp=>Zl ?_⟩⟩
  have s0:=Zc (o:=.lst []) hp
  refine ⟨_,rfl,l,rfl,⟨_,SqL.of (s0 _ _ hl)⟩,zx (K:=K) (a:=l) (xs:=ls.map Wj) (fun i σ H2=>∃(s:Nat) (u4:Option V),σ=[some (.ref m),some (.ref l),some (.int (s:Int)),some (.ref p),u4]/\s=stN nx 0 (ls.take i)/\s < nx.length/\H2 p=some (.lst (rnO nx ot 0 (ls.take i)))/\i<=ls.length/\ZG H H2) ⟨0,none,rfl,rfl,W.pos,Za,Qbg _,s0⟩ (fun i σ H2 _ ⟨_,_,_,_,_,_,_,s⟩=>SqL.of (s _ _ hl)) ?_ ?_⟩
  ·rintro i x σ H2 hx hz_
   refine Z5 fun Gz hGz=>?_
   obtain ⟨s,u4,rfl,hs,hsl,h2,hi,s2⟩:=hz_
   refine hGz ?_
   clear hGz Gz
   obtain ⟨c,rfl,hc⟩:=ue hx
   have hil:=(Qah.mp hc).1
   have hcl:=hlt c (Qam hc)
   refine Z5 fun Gz hGz=>?_
   obtain ⟨as1,a1,g1,g2,g3⟩:=zL (R.same s2) (i:=s) (by rw [Qab];exact hsl)
   refine hGz ?_
   clear hGz Gz
   refine Z5 fun Gz hGz=>?_
   obtain ⟨as2,a2,f1,f2,f3⟩:=zL (O.same s2) (i:=s) (by rw [W.ol];exact hsl)
   refine hGz ?_
   clear hGz Gz
   rw [jK] at g3
   have hm2:=s2 _ _ hm
   have lr:=W.nr _ (getD_mem hsl)
   have lo:=W.or _ (getD_mem (show s < ot.length by rw [W.ol];exact hsl))
   have e1:=vE nx ot 0 (ls.take i) c
   have e2:=zS nx 0 (ls.take i) c
   rw [<-take_snoc hc] at e1 e2
   rw [<-hs] at e1 e2
   have hln:(rnO nx ot 0 (ls.take i)).length=i:=by rw [uF,Qar];lia
   have ho:(ot.getD s [])[c]?=some ((ot.getD s []).getD c .non):=getD_at (by lia)
   have hr:(nx.getD s [])[c]?=some ((nx.getD s []).getD c 0):=getD_at (by lia)
   refine ⟨_,rfl,.inl ⟨rfl,_,SqL.of h2⟩,_,rfl,m,_,3,_,rfl,rfl,SqT.of hm2,rfl,_,rfl,po,_,_,_,rfl,rfl,SqT.of f1,f2,_,rfl,a2,_,_,_,rfl,rfl,SqT.of f3,Yl ho,p,_,_,rfl,rfl,h2,by rw [hln];exact Zp (by lia),?_⟩
   have s3:ZG H (upd H2 p (.lst (rnO nx ot 0 (ls.take i)++[(ot.getD s []).getD c .non]))):=ZI s2 hp
   have t3:∀{b:Addr} {xs:List V},H2 b=some (.tup xs)->upd H2 p (.lst (rnO nx ot 0 (ls.take i)++[(ot.getD s []).getD c .non])) b=some (.tup xs):=fun e=>by rw [Zo (XG e h2 fun z=>nomatch z)];exact e
   refine ⟨_,rfl,m,_,2,_,rfl,rfl,SqT.of (t3 hm2),rfl,_,rfl,ps,_,_,_,rfl,rfl,SqT.of (t3 g1),g2,_,rfl,a1,_,_,Wj ((nx.getD s []).getD c 0),rfl,rfl,SqT.of (t3 g3),Yl (by unfold ja;rw [Qao,hr];rfl),(nx.getD s []).getD c 0,_,rfl,e2.symm,W.nl _ (getD_mem hsl) _ (Qam hr),?_,hil,s3⟩
   rw [Za,e1]
  ·rintro σ H2 hz_
   refine Z5 fun Gz hGz=>?_
   obtain ⟨s,u4,rfl,hs,hsl,h2,hi,s2⟩:=hz_
   refine hGz ?_
   clear hGz Gz
   rw [Qab,Qbr] at h2
   exact ⟨_,rfl,k p H2 hp h2 s2⟩
inductive Gh(vs:List V)(H:Hp)(Q:VK):Prop
 | mk (k:Key):(vs=[kV k])->(Q (.int (X7 k)) H)->Gh vs H Q
noncomputable def xw(K:PySem.W.Frag):Sp:=fun vs H Q _=>Gh vs H Q
theorem yR (T:Txt K w mg t) (TB:Tbs mg base t):ZO P w K mg base CX0 2 t.a_parts_of t.f_parts_of ["word"] (xw K):=by
 have G_sums_behind:ZO P w K mg base CX0 1 t.a_sums_behind t.f_sums_behind ["word"] (Jk K):=xM T TB
 have G_claims_behind:ZO P w K mg base CX0 1 t.a_claims_behind t.f_claims_behind ["word"] (W6 K):=qj T TB
 refine T.d_parts_of.F.ok yN (fun vs H Q E h=>?_) (fun cdv A outer s H vs Q E hr h=>?_)
 ·obtain ⟨kk,rfl,k⟩:=h
  rfl
 ·obtain ⟨kk,rfl,k⟩:=h
  have hu:=Yj hr
  refine ⟨_,@QSs.out _ _ _ (Zf (Zt (Zi ZX (Zr G_sums_behind (hr.mono (by decide)) rfl T.d_sums_behind.m T.d_sums_behind.F.kp T.d_sums_behind.b .nil ZK (Zj (qv 0) Ze)) (Zr G_claims_behind (hr.mono (by decide)) rfl T.d_claims_behind.m T.d_claims_behind.F.kp T.d_claims_behind.b .nil ZK (Zj (qv 0) Ze))))),?_⟩
  clear hu hr
  try dsimp only [L2.cxK,L2.cxK2]
  exact ⟨_,rfl,kk,rfl,_,rfl,kk,rfl,_,_,rfl,rfl,k⟩
inductive Wv(vs:List V)(H:Hp)(Q:VK):Prop
 | mk (tn tl:Addr) (ys:List Str) (L:Nat):(vs=[.ref tn,.ref tl])->(H tn=some (.tup (ys.map V.str)))->(ys.Nodup)->(ys.length<=10)->(H tl=some (.lst ((List.range L).map fun i:Nat=>V.int (i:Int))))->(L<=100)->(∀dv kvs H',H dv=none->H' dv=some (.dK kvs)->km kvs ys (Xd L ys)->ZG H H'->Q (.ref dv) H')->Wv vs H Q
noncomputable def WY(K:PySem.W.Frag):Sp:=fun vs H Q _=>Wv vs H Q
theorem xx (T:Txt K w mg t) (TB:Tbs mg base t):ZO P w K mg base CX0 2 t.a_name_columns t.f_name_columns ["names","letters"] (WY K):=by
 have G_number_of:ZO P w K mg base CX0 1 t.a_number_of t.f_number_of ["bits"] (GP K):=jW T TB
 refine T.d_name_columns.F.ok Xk (fun vs H Q E h=>?_) (fun cdv A outer s H vs Q E hr h=>?_)
 ·obtain ⟨tn,tl,ys,L,rfl,hn,hnd,hn3,hl,hL,k⟩:=h
  rfl
 ·obtain ⟨tn,tl,ys,L,rfl,hn,hnd,hn3,hl,hL,k⟩:=h
  have hu:=Yj hr
  refine ⟨_,@QSs.out _ _ _ (Zb (Zq (i:=2) Xk.nd rfl (Or.inl rfl) yw)
    (Zb (YN PassesOwn.never rfl (Zat rfl T.z_enumerate (qv 0)) (Zei rfl (Yc (i:=3) Xk.nd rfl (Or.inr rfl)) (Yc (i:=4) Xk.nd rfl (Or.inl rfl)))
    (Zf (qP hu (qv 2) (qv 4) (Zr G_number_of (hr.mono (by decide)) rfl T.d_number_of.m T.d_number_of.F.kp T.d_number_of.b .nil ZK (Zj (Yy ZM (by rfl) T.z_tuple YA (Zj (Wy (⟨by rfl,by decide +kernel,by decide +kernel,by rfl,by decide +kernel,by decide +kernel,by rfl,by decide +kernel⟩:YO (Zg Yi) _ ["names","letters","columns","place","name"] "letter" ["place"] [3]) (We (qv 1)) (fun _ _ _ _=>JH) (fun _ _ _ _=>(Zi Xl (Zi GF (qv 0) (qv 1)) Zd))) Ze)) Ze)) rfl)))
    (Zf (Zt (qv 2))))),?_⟩
  clear hu hr
  try dsimp only [L2.cxK,L2.cxK2]
  refine L2.let3 ?_
  intro U2 U1
  refine fun dv hdv=>Zl ?_
  have s1:=Zc (o:=.dK []) hdv
  refine ⟨_,rfl,tn,_,rfl,SqT.of (s1 _ _ hn),Zau (K:=K) (a:=tn) (xs:=ys.map V.str) (fun i σ H2=>∃(kvs:List (Key × V)) (u3 u4:Option V),σ=[some (.ref tn),some (.ref tl),some (.ref dv),u3,u4]/\H2 dv=some (.dK kvs)/\km kvs (ys.take i) (Xd L ys)/\kvs.length<=i/\i<=ys.length/\ZG H H2) ⟨[],none,none,rfl,Za,⟨fun y h=>(by cases h),fun y _=>rfl⟩,Qaj _,Qbg _,s1⟩ (fun i σ H2 _ ⟨_,_,_,_,_,_,_,_,s⟩=>SqT.of (s _ _ hn)) ?_ ?_⟩
  ·rintro i x σ H2 p hx hp hz_
   refine Z5 fun Gz hGz=>?_
   obtain ⟨kvs,u3,u4,rfl,h2,hc,hkl,_,s2⟩:=hz_
   refine hGz ?_
   clear hGz Gz
   rw [Qao] at hx
   obtain ⟨y,hy,rfl⟩:=Qco.mp hx
   have hi:=(Qah.mp hy).1
   have s3:=s2.trans (Zc (o:=.tup [.int (i:Int),.str y]) hp)
   have h3:=Zc (o:=.tup [.int (i:Int),.str y]) hp _ _ h2
   generalize upd H2 p (.tup [.int (i:Int),.str y])=H3 at *
   have hl3:=s3 _ _ hl
   refine ⟨_,rfl,tl,rfl,⟨_,SqL.of hl3⟩,comp_map (xs:=(List.range L).map fun i:Nat=>V.int (i:Int)) (fI fun c=>V.int (bt c i)) (SqL.of hl3) (by rw [Qab,Qbp];exact Qaw (Zp (by lia))) (fun v hv R hR=>?_) (fun q hq=>?_)⟩
   ·obtain ⟨c,_,rfl⟩:=Qa5.mp hv
    refine ⟨_,rfl,_,rfl,_,_,rfl,rfl,Qbl i,_,_,rfl,rfl,?_⟩
    have e:fI (fun c=>V.int (bt c i)) (V.int (c:Int))=V.int (Builtin.bitAnd ((c:Int) / 2 ^ (i:Int).toNat) 1):=by
     show V.int (bt (c:Int) i)=_
     rw [and_1,Qat]
     rfl
    rw [e] at hR
    exact hR
   have ex:((List.range L).map fun i:Nat=>V.int (i:Int)).map (fI fun c=>V.int (bt c i))=((List.range L).map fun l:Nat=>bt (l:Int) i).map V.int:=by
    rw [Qbn,Qbn]
    rfl
   rw [ex]
   have s4:=Zc (o:=.lst (((List.range L).map fun l:Nat=>bt (l:Int) i).map V.int)) hq
   refine ⟨q,_,rfl,.inl ⟨SqL.of Za,fun t ht=>?_⟩⟩
   have s5:=s4.trans (Zc (o:=.tup (((List.range L).map fun l:Nat=>bt (l:Int) i).map V.int)) ht)
   have h5:=s5 _ _ h3
   refine ⟨t,(List.range L).map fun l:Nat=>bt (l:Int) i,rfl,SqT.of Za,?_⟩
   generalize upd (upd H3 q (.lst (((List.range L).map fun l:Nat=>bt (l:Int) i).map V.int))) t (.tup (((List.range L).map fun l:Nat=>bt (l:Int) i).map V.int))=H5 at *
   have hv:hor ((List.range L).map fun l:Nat=>bt (l:Int) i).reverse=Xd L ys y:=by
    unfold Xd
    rw [xi hnd hy]
   rw [hv]
   have lp:=XJ kvs (.inr y) (.int (Xd L ys y))
   refine ⟨_,rfl,_,rfl,dv,_,rfl,Zaq.k (k:=.inr y) h5 (Zp (by lia)),putK kvs (.inr y) (.int (Xd L ys y)),_,_,rfl,Za,⟨fun z hz=>?_,fun z hz=>?_⟩,by lia,hi,ZI (s3.trans s5) hdv⟩
   ·rw [take_snoc hy] at hz
    rw [JJ]
    by_cases hzy:z=y
    ·rw [Qau (by rw [hzy]),hzy]
    ·rw [Qan (fun e=>hzy (Sum.inr.inj e))]
     rcases Qa6.mp hz with h | h
     ·exact hc.1 z h
     ·exact absurd (Qav.mp h) hzy
   ·rw [take_snoc hy] at hz
    rw [JJ,Qan (fun e=>hz (Qa6.mpr (.inr (Qav.mpr (Sum.inr.inj e)))))]
    exact hc.2 z fun h=>hz (Qa6.mpr (.inl h))
  ·rintro σ H2 hz_
   refine Z5 fun Gz hGz=>?_
   obtain ⟨kvs,u3,u4,rfl,h2,hc,hkl,_,s2⟩:=hz_
   refine hGz ?_
   clear hGz Gz
   rw [Qab,Qbr] at hc
   exact ⟨_,rfl,k dv kvs H2 hdv h2 hc s2⟩
inductive Jt(vs:List V)(H:Hp)(Q:VK):Prop
 | mk (y:Str) (p:Addr) (is:List Int) (h:Int):(vs=[.str y,.ref p,.int h])->(H p=some (.lst (is.map V.int)))->(1<=is.length)->(y∈allR)->((y∈Ze3->2<=is.length))->(∀H',ZG H H'->Q (.int (ktI y is h)) H')->Jt vs H Q
noncomputable def GX(K:PySem.W.Frag):Sp:=fun vs H Q _=>Jt vs H Q
theorem jZ (T:Txt K w mg t) (TB:Tbs mg base t):ZO P w K mg base CX0 2 t.a_kept_then t.f_kept_then ["word","parts","held"] (GX K):=by
 have G_borrowed:ZO P w K mg base CX0 1 t.a_borrowed t.f_borrowed ["one","other","held"] (J8 K):=xr T TB
 refine T.d_kept_then.F.ok GO (fun vs H Q E h=>?_) (fun cdv A outer s H vs Q E hr h=>?_)
 ·obtain ⟨y,p,is,h,rfl,hp,l1,hy,l2,k⟩:=h
  rfl
 ·obtain ⟨y,p,is,h,rfl,hp,l1,hy,l2,k⟩:=h
  have hu:=Yj hr
  refine ⟨_,@QSs.out _ _ _ (Zb (Zq (i:=3) GO.nd rfl (Or.inl rfl) (Zz Zv (qv 1) Zd (fun _ _=>rfl)))
    (Zb (Z8 (Zn Yb (qv 0) Zh (Zx _))
    (Zf (Zt (qv 3))) Zu)
    (Zb (Z8 (Zn ZT (qv 0) (ZH (Zj Zh (Zj Zh (Zj Zh Ze)))) (by with_unfolding_all rfl))
    (Zf (Zt (Zi x8 (qv 3) (qv 2)))) Zu)
    (Zb (Z8 (Zn Yb (qv 0) Zh (Zx _))
    (Zf (Zt (Zi x8 (Zi qD (qv 3) (Zz Zv (qv 1) Zd (fun _ _=>rfl))) (qv 2)))) Zu)
    (Zb (Z8 (Zn Yb (qv 0) Zh (Zx _))
    (Zf (Zt (Zi x8 (Zi Xl (qv 3) (Zz Zv (qv 1) Zd (fun _ _=>rfl))) (Zi Xl (qv 2) (Zi x8 (qv 3) (Zz Zv (qv 1) Zd (fun _ _=>rfl))))))) Zu)
    (Zf (Zt (Zr G_borrowed (hr.mono (by decide)) rfl T.d_borrowed.m T.d_borrowed.F.kp T.d_borrowed.b .nil ZK (Zj (qv 3) (Zj (Zz Zv (qv 1) Zd (fun _ _=>rfl)) (Zj (qv 2) Ze))))))))))),?_⟩
  clear hu hr
  try dsimp only [L2.cxK,L2.cxK2]
  refine L2.let6 ?_
  intro U5 U4 U3 U2 U1
  have hy2:¬y = "twice" -> ¬(y = "neg" \/ y = "low" \/ y = "nought")->y∈Ze3:=gZ y hy
  unfold ktI at k
  refine ⟨_,rfl,p,_,0,_,rfl,rfl,SqL.of hp,Z3 0 rfl l1,Zl ⟨_,rfl,rfl,_,rfl,?_⟩⟩
  by_cases h1:y = "twice"
  ·rw [Qae (congrArg V.str h1)]
   rw [Qau h1] at k
   refine YS ?_
   exact ⟨_,rfl,k H (ZG.refl _)⟩
  rw [Qad (fun z=>h1 (by injection z))]
  rw [Qan h1] at k
  refine ZU ⟨_,rfl,by show 3<=sizeLine;decide,fun q hq=>⟨q,_,rfl,.inr (SqT.of Za),rfl,rfl,_,rfl,?_⟩⟩
  show if inV (.str y) ((["neg","low","nought"]:List Str).map V.str)=true then _ else _
  rw [Z2]
  have sq:=Zc (o:=.tup [.str "neg",.str "low",.str "nought"]) hq
  have pq:=sq _ _ hp
  generalize upd H q (.tup [.str "neg",.str "low",.str "nought"])=H1 at *
  by_cases h2:y = "neg" \/ y = "low" \/ y = "nought"
  ·rw [Qae (by simp only [Qak,Qa3,Qcq];exact h2)]
   rw [Qau h2] at k
   refine YS ?_
   exact ⟨_,rfl,_,rfl,_,_,rfl,rfl,k H1 sq⟩
  rw [Qad (by simp only [Qak,Qa3,Qcq];exact h2)]
  rw [Qan h2] at k
  refine ZU ⟨_,rfl,rfl,_,rfl,?_⟩
  by_cases h3:y = "same"
  ·rw [Qae (congrArg V.str h3)]
   rw [Qau h3] at k
   refine YS ?_
   exact ⟨_,rfl,_,rfl,p,_,1,_,rfl,rfl,SqL.of pq,Z3 1 rfl (l2 (by rw [h3];decide +kernel)),_,_,rfl,rfl,_,rfl,_,_,rfl,rfl,k H1 sq⟩
  rw [Qad (fun z=>h3 (by injection z))]
  rw [Qan h3] at k
  refine ZU ⟨_,rfl,rfl,_,rfl,?_⟩
  by_cases h4:y = "add"
  ·rw [Qae (congrArg V.str h4)]
   rw [Qau h4] at k
   refine YS ?_
   have l3:=l2 (by rw [h4];decide +kernel)
   exact ⟨_,rfl,_,rfl,p,_,1,_,rfl,rfl,SqL.of pq,Z3 1 rfl l3,_,_,rfl,rfl,_,rfl,_,rfl,_,rfl,p,_,1,_,rfl,rfl,SqL.of pq,Z3 1 rfl l3,_,_,rfl,rfl,_,_,rfl,rfl,_,_,rfl,rfl,k H1 sq⟩
  rw [Qad (fun z=>h4 (by injection z))]
  rw [Qan h4] at k
  exact ZU ⟨_,rfl,_,rfl,p,_,1,_,rfl,rfl,SqL.of pq,Z3 1 rfl (l2 (hy2 h1 h2)),_,rfl,_,_,_,rfl,k H1 sq⟩
inductive WE(vs:List V)(H:Hp)(Q:VK):Prop
 | mk (y:Str) (p:Addr) (is:List Int) (h n:Int):(vs=[.str y,.ref p,.int h,.int n])->(H p=some (.lst (is.map V.int)))->(1<=is.length)->(y∈allR)->((y∈Ze3->2<=is.length))->(∀H',ZG H H'->Q (.int (okI y is h n)) H')->WE vs H Q
noncomputable def Ju(K:PySem.W.Frag):Sp:=fun vs H Q _=>WE vs H Q
theorem xQ (T:Txt K w mg t) (TB:Tbs mg base t):ZO P w K mg base CX0 2 t.a_out_by_kept t.f_out_by_kept ["word","parts","held","then"] (Ju K):=by
 have G_borrowed:ZO P w K mg base CX0 1 t.a_borrowed t.f_borrowed ["one","other","held"] (J8 K):=xr T TB
 refine T.d_out_by_kept.F.ok xJ (fun vs H Q E h=>?_) (fun cdv A outer s H vs Q E hr h=>?_)
 ·obtain ⟨y,p,is,h,n,rfl,hp,l1,hy,l2,k⟩:=h
  rfl
 ·obtain ⟨y,p,is,h,n,rfl,hp,l1,hy,l2,k⟩:=h
  have hu:=Yj hr
  refine ⟨_,@QSs.out _ _ _ (Zb (Z8 (Zn ZT (qv 0) (ZH (Zj Zh (Zj Zh Ze))) (by with_unfolding_all rfl))
    (Zf (Zt (Zi qD (Zi qD (Zz Zv (qv 1) Zd (fun _ _=>rfl)) (Zz Zv (qv 1) Zd (fun _ _=>rfl))) (qv 2)))) Zu)
    (Zb (Z8 (Zn Yb (qv 0) Zh (Zx _))
    (Zf (Zt (Zi qD (Zz Zv (qv 1) Zd (fun _ _=>rfl)) (qv 2)))) Zu)
    (Zb (Z8 (Zn Yb (qv 0) Zh (Zx _))
    (Zf (Zt (qv 2))) Zu)
    (Zb (Z8 (Zn Yb (qv 0) Zh (Zx _))
    (Zf (Zt (Zi Xl (Zz Zv (qv 1) Zd (fun _ _=>rfl)) (Wd qE (qv 2))))) Zu)
    (Zb (Z8 (Zn ZT (qv 0) (ZH (Zj Zh (Zj Zh Ze))) (by with_unfolding_all rfl))
    (Zf (Zt (Wd qE (qv 3)))) Zu)
    (Zb (Z8 (Zn Yb (qv 0) Zh (Zx _))
    (Zf (Zt (qv 3))) Zu)
    (Zf (Zt (Zr G_borrowed (hr.mono (by decide)) rfl T.d_borrowed.m T.d_borrowed.F.kp T.d_borrowed.b .nil ZK (Zj (Zz Zv (qv 1) Zd (fun _ _=>rfl)) (Zj (Zz Zv (qv 1) Zd (fun _ _=>rfl)) (Zj (qv 2) Ze)))))))))))),?_⟩
  clear hu
  try dsimp only [L2.cxK,L2.cxK2]
  refine L2.let7 ?_
  intro U6 U5 U4 U3 U2 U1
  unfold okI at k
  refine ⟨_,rfl,by show 2<=sizeLine;decide,fun q hq=>⟨q,_,rfl,.inr (SqT.of Za),rfl,rfl,_,rfl,?_⟩⟩
  show if inV (.str y) ((["add","sub"]:List Str).map V.str)=true then _ else _
  rw [Z2]
  have sq:=Zc (o:=.tup [.str "add",.str "sub"]) hq
  have pq:=sq _ _ hp
  generalize upd H q (.tup [.str "add",.str "sub"])=H1 at *
  by_cases h1:y = "add" \/ y = "sub"
  ·rw [Qae (by simp only [Qak,Qa3,Qcq];exact h1)]
   rw [Qau h1] at k
   refine YS ?_
   have l3:2<=is.length:=l2 (by rcases h1 with h | h <;> rw [h] <;> decide +kernel)
   exact ⟨_,rfl,p,_,0,_,rfl,rfl,SqL.of pq,Z3 0 rfl l1,_,rfl,p,_,1,_,rfl,rfl,SqL.of pq,Z3 1 rfl l3,_,_,rfl,rfl,_,rfl,_,_,rfl,rfl,k H1 sq⟩
  rw [Qad (by simp only [Qak,Qa3,Qcq];exact h1)]
  rw [Qan h1] at k
  refine ZU ⟨_,rfl,rfl,_,rfl,?_⟩
  by_cases h2:y = "neg"
  ·rw [Qae (congrArg V.str h2)]
   rw [Qau h2] at k
   refine YS ?_
   exact ⟨_,rfl,p,_,0,_,rfl,rfl,SqL.of pq,Z3 0 rfl l1,_,rfl,_,_,rfl,rfl,k H1 sq⟩
  rw [Qad (fun z=>h2 (by injection z))]
  rw [Qan h2] at k
  refine ZU ⟨_,rfl,rfl,_,rfl,?_⟩
  by_cases h3:y = "twice"
  ·rw [Qae (congrArg V.str h3)]
   rw [Qau h3] at k
   refine YS ?_
   exact ⟨_,rfl,k H1 sq⟩
  rw [Qad (fun z=>h3 (by injection z))]
  rw [Qan h3] at k
  refine ZU ⟨_,rfl,rfl,_,rfl,?_⟩
  by_cases h4:y = "low"
  ·rw [Qae (congrArg V.str h4)]
   rw [Qau h4] at k
   refine YS ?_
   exact ⟨_,rfl,p,_,0,_,rfl,rfl,SqL.of pq,Z3 0 rfl l1,_,rfl,_,rfl,_,_,rfl,rfl,k H1 sq⟩
  rw [Qad (fun z=>h4 (by injection z))]
  rw [Qan h4] at k
  refine ZU ⟨_,rfl,by show 2<=sizeLine;decide,fun r hr=>⟨r,_,rfl,.inr (SqT.of Za),rfl,rfl,_,rfl,?_⟩⟩
  show if inV (.str y) ((["same","nought"]:List Str).map V.str)=true then _ else _
  rw [Z2]
  have sr:=Zc (o:=.tup [.str "same",.str "nought"]) hr
  have pr:=sr _ _ pq
  generalize upd H1 r (.tup [.str "same",.str "nought"])=H2 at *
  by_cases h5:y = "same" \/ y = "nought"
  ·rw [Qae (by simp only [Qak,Qa3,Qcq];exact h5)]
   rw [Qau h5] at k
   refine YS ?_
   exact ⟨_,rfl,_,rfl,k H2 (sq.trans sr)⟩
  rw [Qad (by simp only [Qak,Qa3,Qcq];exact h5)]
  rw [Qan h5] at k
  refine ZU ⟨_,rfl,rfl,_,rfl,?_⟩
  by_cases h6:y = "under"
  ·rw [Qae (congrArg V.str h6)]
   rw [Qau h6] at k
   refine YS ?_
   exact ⟨_,rfl,k H2 (sq.trans sr)⟩
  rw [Qad (fun z=>h6 (by injection z))]
  rw [Qan h6] at k
  exact ZU ⟨_,rfl,p,_,1,_,rfl,rfl,SqL.of pr,Z3 1 rfl (l2 (gZ y hy h3 (fun z=>by rcases z with z | z | z;exact h2 z;exact h4 z;exact h5 (.inr z)))),_,rfl,p,_,0,_,rfl,rfl,SqL.of pr,Z3 0 rfl l1,_,rfl,_,_,_,rfl,k H2 (sq.trans sr)⟩
noncomputable def xy:List Str:=["x","y","ab","aba","nots","adda","lowly","z","orb","xx","samer","pickaxes","yesx","subx","a","ba"]
noncomputable def vow:List Nat:=[97,101,105,111,117]
noncomputable def cns:List Nat:=("bcdfghjkmpqrtvxz" : Str).cps.toList
theorem Zft:∀y∈xy,y∉YL:=by decide +kernel
theorem uU:xy.Nodup:=by decide +kernel
theorem zt:∀c∈cns,c∉vow/\c∉("lnsw" : Str).cps.toList:=by decide +kernel
theorem Zfu:∀c∈("lnsw" : Str).cps.toList,c∉vow:=by decide +kernel
theorem Zbx:∀y∈YL,∃c∈y.cps.toList,c∈vow:=by decide +kernel
theorem uV{y:Str}(h:∀c∈y.cps.toList,c∉vow):y∉YL:=fun z=>let ⟨c,h1,h2⟩:=Zbx y z;h c h1 h2
inductive Jv(vs:List V)(H:Hp)(Q:VK):Prop
 | mk (cell:Int) (many:Nat):(vs=[.int cell,.int (many:Int)])->(many<=3)->(∀p (ys:List Str) H',H p=none->H' p=some (.tup (ys.map V.str))->ys.length<=3->ys.Nodup->(∀y∈ys,y∉YL)->ZG H H'->Q (.ref p) H')->Jv vs H Q
noncomputable def GY(K:PySem.W.Frag):Sp:=fun vs H Q _=>Jv vs H Q
theorem Zfv{ys:List Str}{x s:Int}(h0:0<=x)(s1:1<=s)(s2:s<=5)(hl:ys.length=3)(h:∀(i:Nat) (y:Str),ys[i]?=some y->xy[((x + (i:Int) * s) % 16).toNat]?=some y):ys.Nodup:=by
 match ys,hl with
 | [a,b,c],_ =>
  have ha:=h 0 a rfl
  have hb:=h 1 b rfl
  have hc:=h 2 c rfl
  have ne:∀{i j:Int} {u v:Str},0<=i->i < 16->0<=j->j < 16->i≠j->xy[i.toNat]?=some u->xy[j.toNat]?=some v->u≠v:=fun {i j u v} i0 i1 j0 j1 hij hu hv e=>by
   subst e
   have e1:=xi uU hu
   have e2:=xi uU hv
   lia
  have b0:∀z:Int,0<=z % 16/\z % 16 < 16:=fun z=>⟨Qa4 _ (by decide),Qay _ (by decide)⟩
  have n1:=ne (b0 _).1 (b0 _).2 (b0 _).1 (b0 _).2 (by lia) ha hb
  have n2:=ne (b0 _).1 (b0 _).2 (b0 _).1 (b0 _).2 (by lia) ha hc
  have n3:=ne (b0 _).1 (b0 _).2 (b0 _).1 (b0 _).2 (by lia) hb hc
  simp [n1,n2,n3]
theorem ya (T:Txt K w mg t) (TB:Tbs mg base t):ZO P w K mg base CX0 2 t.a_law_names t.f_law_names ["cell","many"] (GY K):=by
 have G_law_numbers:ZO P w K mg base CX0 1 t.a_law_numbers t.f_law_numbers ["cell","many","most"] (Wh K):=Jp T TB
 refine T.d_law_names.F.ok Yh (fun vs H Q E h=>?_) (fun cdv A outer s H vs Q E hr h=>?_)
 ·obtain ⟨cell,many,rfl,hmany,k⟩:=h
  rfl
 ·obtain ⟨cell,many,rfl,hmany,k⟩:=h
  have hu:=Yj hr
  refine ⟨_,@QSs.out _ _ _ (Zb (Zq (i:=2) Yh.nd rfl (Or.inr rfl) (Zr G_law_numbers (hr.mono (by decide)) rfl T.d_law_numbers.m T.d_law_numbers.F.kp T.d_law_numbers.b .nil ZK (Zj (qv 0) (Zj Zd (Zj Zd Ze)))))
    (Zb (Zq (i:=3) Yh.nd rfl (Or.inr rfl) (Ys (Zj Zh (Zj Zh (Zj Zh (Zj Zh (Zj Zh (Zj Zh (Zj Zh (Zj Zh (Zj Zh (Zj Zh (Zj Zh (Zj Zh Ze))))))))))))))
    (Zb (Zq (i:=3) Yh.nd rfl (Or.inr rfl) (Zi qL (qv 3) (Ys (Zj Zh (Zj Zh (Zj Zh (Zj Zh Ze)))))))
    (Zb (yo (i:=4) Yh.nd rfl rfl (⟨by rfl,by decide +kernel,by decide +kernel,by rfl,by decide +kernel,by decide +kernel,by rfl,by decide +kernel⟩:YO (Zg Y7) _ ["cell","many","xs","menu","some","base","at","turn"] "k" ["menu","xs"] [3,2]) (Ym rfl T.z_range (Zj Zd Ze)) (fun _ _ _ _=>JH) (fun _ _ _ _=>(Zz (show IxR _ (Zfy K) from Zv) (qv 1) (Zi ZF (Zi ZX (Zz (show IxR _ (Zfy K) from Zv) (qv 2) Zd (fun _ _=>rfl)) (Zi YT (qv 0) (Zi ZX Zd (Zi ZF (Zz (show IxR _ (Zfy K) from Zv) (qv 2) Zd (fun _ _=>rfl)) Zd)))) Zd) (fun _ _=>rfl))))
    (Zb (Z8 (Zn Yb (Zi ZF (Zz Zv (qv 2) Zd (fun _ _=>rfl)) Zd) Zd (Zx _))
    (Zb (Zq (i:=5) Yh.nd rfl (Or.inl rfl) (Y3 PySem.F.plainAttrs_str PySem.F.slot_str_join PySem.F.type_str_join Zeb Zh (Zj (Wy (⟨by rfl,by decide +kernel,by decide +kernel,by rfl,by decide +kernel,by decide +kernel,by rfl,by decide +kernel⟩:YO (Zg Y7) _ ["cell","many","xs","menu","some","base","at","turn"] "k" ["xs"] [2]) (Ym rfl T.z_range (Zj (Zi ZX Zd (Zi ZF (Zz Zv (qv 2) Zd (fun _ _=>rfl)) Zd)) Ze)) (fun _ _ _ _=>JH) (fun _ _ _ _=>(Zz wH Zh (Zi ZF (Zz (show IxR _ (Zfy K) from Zv) (qv 1) (Zi ZX Zd (qv 0)) (fun _ _=>rfl)) Zd) (fun _ _=>rfl)))) Ze)))
    (Zb (Zq (i:=6) Yh.nd rfl (Or.inl rfl) (Zi ZF (Zz Zv (qv 2) Zd (fun _ _=>rfl)) (Zm jk (by rfl) T.z_len ZE (Zj (qv 5) Ze))))
    (Zf (Zq (i:=4) Yh.nd rfl (Or.inl rfl) (Ys (Zj (qv 5) (Zj (Zi Gm (qv 5) (Zz wH Zh (Zi ZF (Zz Zv (qv 2) Zd (fun _ _=>rfl)) Zd) (fun _ _=>rfl))) (Zj (Zi Gm (Zi Gm (Yf Zco (qv 5) YU (Yu (qv 6))) (Zz wH Zh (Zi ZF (Zz Zv (qv 2) Zd (fun _ _=>rfl)) Zd) (fun _ _=>rfl))) (Yf Zco (qv 5) (Yu (Zi ZX (qv 6) Zd)) YU)) Ze)))))))) Zu)
    (Zb (Zq (i:=7) Yh.nd rfl (Or.inl rfl) (Zi ZF (Zi Ya (Zz Zv (qv 2) Zd (fun _ _=>rfl)) Zd) Zd))
    (Zf (Zt (Yy ZM (by rfl) T.z_tuple YA (Zj (Zm jv (by rfl) T.z_sorted wO (Zj (Yf Xm (Zi qL (Yf Xm (qv 4) (Yu (qv 7)) YU) (Yf Xm (qv 4) YU (Yu (qv 7)))) YU (Yu (qv 1))) Ze)) Ze)))))))))),?_⟩
  clear hu hr
  try dsimp only [L2.cxK,L2.cxK2]
  refine L2.let7 ?_
  intro U6 U5 U4 U3 U2 U1
  refine ⟨_,rfl,cell,12,400,rfl,by decide,by decide,by decide,fun p ns H1 hp h1 hl hb s1=>?_⟩
  have hx:∀j,j < 12->0<=ns.getD j 0/\ns.getD j 0 < 400:=fun j hj=>Zew hb j (by lia)
  refine ⟨by show 12<=sizeLine;decide,fun m1 hm1=>?_⟩
  refine ⟨_,rfl,by show 4<=sizeLine;decide,fun m2 hm2=>⟨m1,m2,_,_,rfl,rfl,Zc hm2 _ _ Za,Za,by show 16<=sizeLine;decide,fun m hm=>?_⟩⟩
  have s4:=((Zc (o:=.lst [.str "x",.str "y",.str "ab",.str "aba",.str "nots",.str "adda",.str "lowly",.str "z",.str "orb",.str "xx",.str "samer",.str "pickaxes"]) hm1).trans (Zc (o:=.lst [.str "yesx",.str "subx",.str "a",.str "ba"]) hm2)).trans (Zc (o:=.lst (xy.map V.str)) hm)
  refine ⟨3,rfl,by decide,by decide,jA (n:=3) (fun i v=>∃y,v=.str y/\xy[((ns.getD 1 0 + (i:Int) * (1 + ns.getD 2 0 % 5)) % 16).toNat]?=some y) (by decide) (fun i hi R hR=>?_) (fun vs hvl hvP q hq=>?_)⟩
  ·have e0:0<=(ns.getD 1 0 + (0 + (i:Int)) * (1 + ns.getD 2 0 % 5)) % 16:=Qa4 _ (by decide)
   have e1:(ns.getD 1 0 + (0 + (i:Int)) * (1 + ns.getD 2 0 % 5)) % 16 < 16:=Qay _ (by decide)
   rw [Qcm] at e0 e1
   obtain ⟨y,hy⟩:∃y,xy[((ns.getD 1 0 + (i:Int) * (1 + ns.getD 2 0 % 5)) % 16).toNat]?=some y:=⟨_,Qaa (by show _ < 16;lia)⟩
   have ey:atI (xy.map V.str) ((ns.getD 1 0 + (0 + (i:Int)) * (1 + ns.getD 2 0 % 5)) % 16)=some (.str y):=by
    rw [Qcm]
    obtain ⟨j,hj⟩:∃j:Nat,(ns.getD 1 0 + (i:Int) * (1 + ns.getD 2 0 % 5)) % 16=(j:Int):=⟨_,(Qcp e0).symm⟩
    rw [hj,Qat] at hy
    rw [hj]
    exact Yl (by rw [Qao,hy];rfl)
   exact ⟨_,rfl,_,rfl,p,_,_,_,rfl,rfl,SqL.of (s4 _ _ h1),Z3 1 rfl (by lia),_,rfl,_,rfl,p,_,_,_,rfl,rfl,SqL.of (s4 _ _ h1),Z3 2 rfl (by lia),_,_,rfl,rfl,(by show (0:Int) < 5;decide),_,_,rfl,rfl,_,_,rfl,rfl,.inr (.inl ⟨by lia,by lia⟩),_,_,rfl,rfl,_,_,rfl,rfl,(by show (0:Int) < 16;decide),m,xy.map V.str,_,_,rfl,rfl,SqL.of Za,ey,hR _ ⟨y,rfl,hy⟩⟩
  obtain ⟨ys,rfl,_⟩:=yA (P:=fun _=>True) (fun v hv=>by
   obtain ⟨i,hi⟩:=Qdi.mp hv
   obtain ⟨y,e,_⟩:=hvP i v hi
   exact ⟨y,e,trivial⟩)
  rw [Qab] at hvl
  have hyi:∀(i:Nat) (y:Str),ys[i]?=some y->xy[((ns.getD 1 0 + (i:Int) * (1 + ns.getD 2 0 % 5)) % 16).toNat]?=some y:=fun i y hy=>by
   obtain ⟨z,e,h⟩:=hvP i (.str y) (by rw [Qao,hy];rfl)
   injection e with e
   rw [e]
   exact h
  have hys:∀y∈ys,y∉YL:=fun y hy=>by
   obtain ⟨i,hi⟩:=Qdi.mp hy
   exact Zft y (Qam (hyi i y hi))
  have b2:=hx 2 (by decide)
  have hyd:ys.Nodup:=Zfv (x:=ns.getD 1 0) (s:=1 + ns.getD 2 0 % 5) (hx 1 (by decide)).1 (by lia) (by lia) hvl hyi
  have s5:=s4.trans (Zc (o:=.lst (ys.map V.str)) hq)
  refine Zl ?_
  refine Gx (fun σ H'=>∃(q:Addr) (ys:List Str) (b a:Option V),σ=[some (.int cell),some (.int many),some (.ref p),some (.ref m),some (.ref q),b,a,none]/\H' q=some (.lst (ys.map V.str))/\ys.length=3/\ys.Nodup/\(∀y∈ys,y∉YL)/\ZG H1 H') (fun N hN=>?_) ?_
  ·refine ⟨_,rfl,p,_,_,_,rfl,rfl,SqL.of (s5 _ _ h1),Z3 0 rfl (by lia),_,_,rfl,rfl,(by show (0:Int) < 2;decide),rfl,_,rfl,Gj (fun _=>?_) (fun _=>?_)⟩
   ·have b1:=hx 1 (by decide)
    refine ⟨rfl,_,rfl,p,_,_,_,rfl,rfl,SqL.of (s5 _ _ h1),Z3 1 rfl (by lia),_,_,rfl,rfl,(by show (0:Int) < 7;decide),_,_,rfl,rfl,_,rfl,?_,?_,jA (n:=(1 + ns.getD 1 0 % 7).toNat) (fun _ v=>∃y,v=.str y/\∃c,y=⟨#[c]⟩/\c∈cns) ?_ (fun i hi R hR=>?_) (fun vs hvl hvP l hl2=>?_)⟩
    ·lia
    ·lia
    ·exact Qaw (Zp (by lia))
    ·obtain ⟨c,hc,ec⟩:=y9 (z:=("bcdfghjkmpqrtvxz" : Str)) (i:=ns.getD (3 + i) 0 % 16) 16 (by decide +kernel) (Qa4 _ (by decide)) (Qay _ (by decide))
     exact ⟨_,rfl,_,rfl,_,_,rfl,rfl,p,_,_,_,rfl,rfl,SqL.of (s5 _ _ h1),Z3 (3 + i) (by lia) (by lia),_,_,rfl,rfl,(by show (0:Int) < 16;decide),_,_,c,rfl,rfl,by decide +kernel,ec,hR _ ⟨_,rfl,c,rfl,hc⟩⟩
    obtain ⟨zs,rfl,hzs⟩:=yA (P:=fun y=>∃c,y=⟨#[c]⟩/\c∈cns) (mem_at hvP)
    rw [Qab] at hvl
    obtain ⟨f1,f2,f3⟩:=gN hzs
    have s6:=s5.trans (Zc (o:=.lst (zs.map V.str)) hl2)
    refine ⟨_,l,zs,rfl,rfl,SqL.of Za,?_,?_⟩
    ·rw [f3]
     show zs.length + zs.length * 0<=_
     lia
    have js:=kh ("" : Str) (by decide +kernel) zs
    rw [<-js] at f1 f2
    generalize Txt.join ("" : Str) zs=B at *
    have hB:B.length=zs.length:=by rw [len_signs];exact f1
    refine ⟨_,rfl,p,_,_,_,rfl,rfl,SqL.of (s6 _ _ h1),Z3 2 rfl (by lia),_,rfl,B,rfl,Qaw (Zp (by lia)),_,_,rfl,rfl,(by show (0:Int) < B.length;lia),?_⟩
    try dsimp only
    have a0:0<=ns.getD 2 0 % (B.length:Int):=Qa4 _ (by lia)
    have a1:ns.getD 2 0 % (B.length:Int) < B.length:=Qay _ (by lia)
    generalize ns.getD 2 0 % (B.length:Int)=a at *
    obtain ⟨j,rfl⟩:∃j:Nat,a=(j:Int):=⟨a.toNat,by lia⟩
    obtain ⟨c1,hc1,ec1⟩:=y9 (z:=("bcdfghjkmpqrtvxz" : Str)) (i:=ns.getD 10 0 % 16) 16 (by decide +kernel) (Qa4 _ (by decide)) (Qay _ (by decide))
    obtain ⟨c2,hc2,ec2⟩:=y9 (z:=("lnsw" : Str)) (i:=ns.getD 11 0 % 4) 4 (by decide +kernel) (Qa4 _ (by decide)) (Qay _ (by decide))
    have hs1:(Txt.slice B none (some (j:Int))).cps.toList=B.cps.toList.take j:=Za4 (by lia)
    have hs2:(Txt.slice B (some ((j:Int) + 1)) none).cps.toList=B.cps.toList.drop (j + 1):=kg (i:=j + 1) (by lia)
    have l1:=Txt.slice_le B none (some (j:Int))
    have l2:=Txt.slice_le B (some ((j:Int) + 1)) none
    have one:∀c:Nat,(⟨#[c]⟩:Str).length=1:=fun _=>rfl
    refine ⟨_,rfl,_,rfl,_,rfl,p,_,_,_,rfl,rfl,SqL.of (s6 _ _ h1),Z3 10 rfl (by lia),_,_,rfl,rfl,(by show (0:Int) < 16;decide),_,_,c1,rfl,rfl,by decide +kernel,ec1,_,_,rfl,rfl,?_,?_⟩
    ·rw [one]
     exact Qaw (Zp (by lia))
    refine ⟨_,rfl,_,rfl,_,rfl,_,rfl,Qaw (Zp (by lia)),_,rfl,p,_,_,_,rfl,rfl,SqL.of (s6 _ _ h1),Z3 11 rfl (by lia),_,_,rfl,rfl,(by show (0:Int) < 4;decide),_,_,c2,rfl,rfl,by decide +kernel,ec2,_,_,rfl,rfl,?_,?_⟩
    ·rw [one]
     exact Qaw (Zp (by lia))
    refine ⟨_,rfl,_,rfl,_,_,rfl,rfl,_,rfl,_,rfl,Qaw (Zp (by lia)),_,_,rfl,rfl,?_,by show 3<=sizeLine;decide,fun g hg=>?_⟩
    ·rw [Str.length_append,one]
     exact Qaw (Zp (by lia))
    refine hN _ _ ⟨g,[B,B++⟨#[c1]⟩,Txt.slice B none (some (j:Int))++⟨#[c2]⟩++Txt.slice B (some ((j:Int) + 1)) none],_,_,rfl,Za,rfl,?_,?_,s6.trans (Zc hg)⟩
    ·have e1:(B++⟨#[c1]⟩:Str).cps.toList=B.cps.toList++[c1]:=Xg _ _
     have e2:(Txt.slice B none (some (j:Int))++⟨#[c2]⟩++Txt.slice B (some ((j:Int) + 1)) none).cps.toList=B.cps.toList.take j++[c2]++B.cps.toList.drop (j + 1):=by rw [Xg,Xg,hs1,hs2]
     have lB:=len_signs B
     have jl:j < B.cps.toList.length:=by lia
     have at3:(B.cps.toList.take j++[c2]++B.cps.toList.drop (j + 1))[j]?=some c2:=by
      rw [Qb0,Qa0 (by rw [Qar];lia),Qar,Qdg (by lia),Qdr]
      rfl
     have nc2:∀c,B.cps.toList[j]?=some c->c≠c2:=fun c hc e=>(zt c (f2 c (Qam hc))).2 (by rw [e];exact hc2)
     have d12:B≠B++⟨#[c1]⟩:=fun e=>by
      have:=congrArg (fun s:Str=>s.cps.toList.length) e
      simp only [e1,Qac,Qaz,Qc3] at this
      lia
     have d13:B≠Txt.slice B none (some (j:Int))++⟨#[c2]⟩++Txt.slice B (some ((j:Int) + 1)) none:=fun e=>by
      have e3:=congrArg (fun s:Str=>s.cps.toList) e
      simp only [e2] at e3
      rw [<-e3] at at3
      exact nc2 _ at3 rfl
     have d23:B++⟨#[c1]⟩≠Txt.slice B none (some (j:Int))++⟨#[c2]⟩++Txt.slice B (some ((j:Int) + 1)) none:=fun e=>by
      have e3:=congrArg (fun s:Str=>s.cps.toList) e
      simp only [e1,e2] at e3
      rw [<-e3,Qa2 jl] at at3
      exact nc2 _ at3 rfl
     simp [d12,d13,d23]
    ·intro y hy
     simp only [Qak,Qa3,Qcq] at hy
     rcases hy with rfl | rfl | rfl
     ·exact uV fun c hc=>(zt c (f2 c hc)).1
     ·refine uV fun c hc=>?_
      rw [Xg] at hc
      rcases Qa6.mp hc with h | h
      ·exact (zt c (f2 c h)).1
      ·rw [Qav.mp h]
       exact (zt c1 hc1).1
     ·refine uV fun c hc=>?_
      rw [Xg,Xg,hs1,hs2] at hc
      rcases Qa6.mp hc with h | h
      ·rcases Qa6.mp h with h | h
       ·exact (zt c (f2 c (Qcj h))).1
       ·rw [Qav.mp h]
        exact Zfu c2 hc2
      ·exact (zt c (f2 c (Qb5 h))).1
   ·exact hN _ _ ⟨q,ys,none,none,rfl,Za,hvl,hyd,hys,s5⟩
  rintro σ H' hz_
  refine Z5 fun Gz hGz=>?_
  obtain ⟨q,ys,b,a,rfl,hq,hl3,hyd,hys,s6⟩:=hz_
  refine hGz ?_
  clear hGz Gz
  refine ⟨_,rfl,p,_,_,_,rfl,rfl,SqL.of (s6 _ _ h1),Z3 0 rfl (by lia),_,_,rfl,rfl,.of (by decide) (by decide),_,_,rfl,rfl,(by show (0:Int) < 3;decide),?_⟩
  try dsimp only
  have t0:0<=ns.getD 0 0 / 2 % 3:=by lia
  generalize ns.getD 0 0 / 2 % 3=t at *
  obtain ⟨t,rfl⟩:∃j:Nat,t=(j:Int):=⟨t.toNat,by lia⟩
  refine ⟨_,rfl,_,rfl,_,rfl,q,_,rfl,SqL.of hq,fun l1 hl1=>?_⟩
  rw [X6,JR]
  have u1:=Zc (o:=.lst ((ys.drop t).map V.str)) hl1
  refine ⟨_,rfl,_,rfl,_,rfl,q,_,rfl,SqL.of (u1 _ _ hq),fun l2 hl2=>?_⟩
  rw [X6,WO]
  have u2:=Zc (o:=.lst ((ys.take t).map V.str)) hl2
  refine ⟨l1,l2,_,_,rfl,rfl,u2 _ _ Za,Za,?_,fun l3 hl3'=>?_⟩
  ·rw [Qab,Qab,Qbd,Qar]
   exact Qaw (Zp (by lia))
  rw [<-Qbh]
  have u3:=Zc (o:=.lst ((ys.drop t++ys.take t).map V.str)) hl3'
  refine ⟨_,rfl,_,rfl,l3,_,rfl,SqL.of Za,fun l4 hl4=>?_⟩
  rw [X6,WO]
  have u4:=Zc (o:=.lst (((ys.drop t++ys.take t).take many).map V.str)) hl4
  refine ⟨l4,_,rfl,SqL.of Za,?_,fun l5 ms hl5 hpm hsr=>⟨l5,_,rfl,.inl ⟨SqL.of Za,fun l6 hl6=>?_⟩⟩⟩
  ·rw [Qar]
   lia
  have u5:=Zc (o:=.lst (ms.map V.str)) hl5
  have u:=s1.trans (s6.trans (((u1.trans u2).trans (u3.trans u4)).trans u5))
  refine k l6 ms _ (u.free hl6) Za ?_ ?_ ?_ (u.trans (Zc hl6))
  ·rw [hpm.length_eq,Qar]
   lia
  ·refine hpm.nodup_iff.mpr (List.Nodup.sublist (Qem _ _) ?_)
   exact (List.perm_append_comm.nodup_iff).mpr (by rw [Qbo];exact hyd)
  ·intro y hy
   have:=Qcj (hpm.mem_iff.mp hy)
   rcases Qa6.mp this with z | z
   ·exact hys y (Qb5 z)
   ·exact hys y (Qcj z)
inductive GZ(vs:List V)(H:Hp)(Q:VK):Prop
 | mk (pn tn:Addr) (ns:List Int) (ys:List Str) (most:Nat):(vs=[.ref pn,.ref tn,.int (most:Int)])->(H pn=some (.lst (ns.map V.int)))->(1<=ns.length)->(ns.length<=20)->((∀x∈ns,0<=x))->(H tn=some (.tup (ys.map V.str)))->(ys.length<=3)->((∀y∈ys,y∉YL))->(∀p ws H',H' p=some (.tup ws)->ws.length < 2 * ns.length->(∀w∈ws,J5 ys 10 w)->Xi ws->Gk ws=1->Y8 ws<=most->ZG H H'->Q (.ref p) H')->GZ vs H Q
noncomputable def zu(K:PySem.W.Frag):Sp:=fun vs H Q _=>GZ vs H Q
noncomputable def Y2 (y:Str):Nat:=if y = "pick" then 3 else if y∈(["not","neg","twice","low"]:List Str) then 1 else 2
theorem kM:∀y∈Gy,Yq y=Y2 y:=by decide +kernel
theorem Zfw(y:Str):1<=Y2 y/\Y2 y<=3:=by
 unfold Y2
 split
 ·lia
 ·split <;> lia
theorem kN (T:Txt K w mg t) (TB:Tbs mg base t):ZO P w K mg base CX0 2 t.a_law_sum t.f_law_sum ["numbers","names","most"] (zu K):=by
 have G_law_atom:ZO P w K mg base CX0 1 t.a_law_atom t.f_law_atom ["number","names"] (J9 K):=yP T TB
 have G_law_carries:ZO P w K mg base CX0 1 t.a_law_carries t.f_law_carries ["words"] (Wi K):=Jq T TB
 have G_law_word:ZO P w K mg base CX0 1 t.a_law_word t.f_law_word ["number","left"] (xu K):=yQ T TB
 refine T.d_law_sum.F.ok ZP (fun vs H Q E h=>?_) (fun cdv A outer s H vs Q E hr h=>?_)
 ·obtain ⟨pn,tn,ns,ys,most,rfl,hpn,h1,h20,hns,htn,hy3,hyk,k⟩:=h
  rfl
 ·obtain ⟨pn,tn,ns,ys,most,rfl,hpn,h1,h20,hns,htn,hy3,hyk,k⟩:=h
  have hu:=Yj hr
  refine ⟨_,@QSs.out _ _ _ (Zb (Zq (i:=3) ZP.nd rfl (Or.inl rfl) (Ys Ze))
    (Zb (Zq (i:=4) ZP.nd rfl (Or.inl rfl) (qv 2))
    (Zb (YN PassesOwn.never rfl (We (qv 0)) (Yc (i:=5) ZP.nd rfl (Or.inl rfl))
    (Zb (Zq (i:=6) ZP.nd rfl (Or.inl rfl) (Zr G_law_word (hr.mono (by decide)) rfl T.d_law_word.m T.d_law_word.F.kp T.d_law_word.b .nil ZK (Zj (qv 5) (Zj (qv 4) Ze))))
    (Zb (Zq (i:=7) ZP.nd rfl (Or.inl rfl) Zd)
    (Zb (Z8 (Zn ZT (qv 6) (ZH (Zj Zh (Zj Zh (Zj Zh (Zj Zh Ze))))) (by with_unfolding_all rfl))
    (Zf (Zq (i:=7) ZP.nd rfl (Or.inl rfl) Zd)) Zu)
    (Zb (Z8 (Zn Yb (qv 6) Zh (Zx _))
    (Zf (Zq (i:=7) ZP.nd rfl (Or.inl rfl) Zd)) Zu)
    (Zf (Z8 (JE (Gn (Zn Yb (qv 6) Zh (Zx _)) (JD (Zn qF (Zm Zk (by rfl) T.z_len ZE (Zj (qv 3) Ze)) (qv 7) (Zx _)))))
    (Zf (ZY (Y3 Qai Qap Qaq Z9 (qv 3) (Zj (Zr G_law_atom (hr.mono (by decide)) rfl T.d_law_atom.m T.d_law_atom.F.kp T.d_law_atom.b .nil ZK (Zj (qv 5) (Zj (qv 1) Ze))) Ze)))) (Zb (Zq (i:=4) ZP.nd rfl (Or.inl rfl) (Zi X1 (qv 4) (Zr G_law_carries (hr.mono (by decide)) rfl T.d_law_carries.m T.d_law_carries.F.kp T.d_law_carries.b .nil ZK (Zj (Ys (Zj (qv 6) Ze)) Ze))))
    (Zb (Zq (i:=8) ZP.nd rfl (Or.inl rfl) (ZH (Zj (qv 6) Ze)))
    (Zb (YN PassesOwn.never rfl (We (Yf Xm (qv 3) (Yu (Zi X1 (Zm Zk (by rfl) T.z_len ZE (Zj (qv 3) Ze)) (qv 7))) YU)) (Yc (i:=9) ZP.nd rfl (Or.inl rfl))
    (Zf (Zq (i:=8) ZP.nd rfl (Or.inl rfl) (Zi YJ (qv 8) (qv 9)))))
    (Zf (Zq (i:=3) ZP.nd rfl (Or.inl rfl) (Zi qL (Yf Xm (qv 3) YU (Yu (Zi X1 (Zm Zk (by rfl) T.z_len ZE (Zj (qv 3) Ze)) (qv 7)))) (Ys (Zj (qv 8) Ze)))))))))))))))
    (Zb (qr PassesOwn.never (Zn Zdv (Zm Zk (by rfl) T.z_len ZE (Zj (qv 3) Ze)) Zd (Zx _))
    (Zf (Zq (i:=3) ZP.nd rfl (Or.inl rfl) (Zi qL (Yf Xm (qv 3) YU (Yu (Wd XS Zd))) (Ys (Zj (Zi YJ (Zi YJ (ZH (Zj (Zz Zv (Ys (Zj Zh (Zj Zh (Zj Zh Ze)))) (Zi ZF (Zm Zk (by rfl) T.z_len ZE (Zj (qv 3) Ze)) Zd) (fun _ _=>rfl)) Ze)) (Zz Zv (qv 3) (Wd XS Zd) (fun _ _=>rfl))) (Zz Zv (qv 3) (Wd XS Zd) (fun _ _=>rfl))) Ze))))))
    (Zf (Zt (Zz Zv (qv 3) Zd (fun _ _=>rfl)))))))),?_⟩
  clear hu
  try dsimp only [L2.cxK,L2.cxK2]
  refine L2.let5 ?_
  intro U4 U3 U2 U1
  refine ⟨by show 0<=sizeLine;decide,fun so hso=>Zl ⟨_,rfl,Zl ?_⟩⟩
  have s0:=Zc (o:=.lst []) hso
  refine ⟨_,rfl,pn,rfl,⟨_,SqL.of (s0 _ _ hpn)⟩,zx (K:=K) (a:=pn) (xs:=ns.map V.int) (fun i σ H2=>∃(so:Addr) (left:Nat) (u5 u6 u7 u8 u9:Option V) (zs:List V) (pss:List (List V)),σ=[some (.ref pn),some (.ref tn),some (.int (most:Int)),some (.ref so),some (.int (left:Int)),u5,u6,u7,u8,u9]/\H2 so=some (.lst zs)/\H so=none/\Yr H2 zs pss/\yJ ys pss/\Y8 pss.flatten + left=most/\pss.flatten.length<=i/\pss.length<=i/\(1<=i->1<=pss.length)/\i<=ns.length/\ZG H H2) ⟨so,most,none,none,none,none,none,[],[],rfl,Za,hso,Yr.nil,(fun ps hp=>by cases hp),Qey _,Qaj _,Qaj _,(fun h=>absurd h (Nat.not_succ_le_zero _)),Qbg _,s0⟩ (fun i σ H2 _ ⟨_,_,_,_,_,_,_,_,_,_,_,_,_,_,_,_,_,_,_,s⟩=>SqL.of (s _ _ hpn)) ?_ ?_⟩
  ·rintro i x σ H2 hx hz_
   refine Z5 fun Gz hGz=>?_
   obtain ⟨so,left,u5,u6,u7,u8,u9,zs,pss,rfl,h2,hso0,R2,G2,hrem,hfl,hpl,hp1,_,s2⟩:=hz_
   refine hGz ?_
   clear hGz Gz
   rw [Qao] at hx
   obtain ⟨n,hn,rfl⟩:=Qco.mp hx
   have hi:i < ns.length:=(Qah.mp hn).1
   have hn0:=hns n (Qam hn)
   have hzl:=R2.1
   refine ⟨_,rfl,_,rfl,n,(left:Int),rfl,hn0,fun y H3 hy hyr s3=>Zl ?_⟩
   have s23:=s2.trans s3
   have h3:=s3 _ _ h2
   have R3:=R2.same s3
   refine Gx (fun σ H'=>σ=[some (.ref pn),some (.ref tn),some (.int (most:Int)),some (.ref so),some (.int (left:Int)),some (.int n),some (.str y),some (.int 2),u8,u9]/\H'=H3) (fun N hN=>hN _ _ ⟨rfl,rfl⟩) ?_
   rintro σ H3 hz_
   refine Z5 fun Gz hGz=>?_
   obtain ⟨rfl,rfl⟩:=hz_
   refine hGz ?_
   clear hGz Gz
   refine Jc (fun σ H'=>σ=[some (.ref pn),some (.ref tn),some (.int (most:Int)),some (.ref so),some (.int (left:Int)),some (.int n),some (.str y),some (.int (if y∈(["not","neg","twice","low"]:List Str) then 1 else 2)),u8,u9]/\ZG H3 H') (fun N hN=>?_) ?_
   ·refine ⟨_,rfl,by show 4<=sizeLine;decide,fun q hq=>⟨q,_,rfl,.inr (SqT.of Za),rfl,rfl,_,rfl,?_⟩⟩
    show if inV (.str y) ((["not","neg","twice","low"]:List Str).map V.str)=true then _ else _
    rw [Z2]
    have sq:=Zc (o:=.tup [.str "not",.str "neg",.str "twice",.str "low"]) hq
    by_cases h:y∈(["not","neg","twice","low"]:List Str)
    ·rw [Qau h] at hN
     rw [Qae h]
     exact YS (hN _ _ ⟨rfl,sq⟩)
    ·rw [Qan h] at hN
     rw [Qad h]
     exact ZU (hN _ _ ⟨rfl,sq⟩)
   rintro σ H4 hz_
   refine Z5 fun Gz hGz=>?_
   obtain ⟨rfl,s4⟩:=hz_
   refine hGz ?_
   clear hGz Gz
   refine Jc (fun σ H'=>σ=[some (.ref pn),some (.ref tn),some (.int (most:Int)),some (.ref so),some (.int (left:Int)),some (.int n),some (.str y),some (.int (Y2 y:Int)),u8,u9]/\H'=H4) (fun N hN=>?_) ?_
   ·refine ⟨_,rfl,rfl,_,rfl,?_⟩
    unfold Y2 at hN
    by_cases h:y = "pick"
    ·rw [Qau h] at hN
     rw [Qae (congrArg V.str h)]
     exact YS (hN _ _ ⟨rfl,rfl⟩)
    ·rw [Qan h] at hN
     rw [Qad fun z=>h (by injection z)]
     refine ZU (hN _ _ ⟨?_,rfl⟩)
     split <;> rfl
   rintro σ H5 hz_
   refine Z5 fun Gz hGz=>?_
   obtain ⟨rfl,rfl⟩:=hz_
   refine hGz ?_
   clear hGz Gz
   have s24:=s23.trans s4
   have h4:=s4 _ _ h3
   have R4:=R3.same s4
   have hbw:=Zfw y
   have atom:∀(D:Ends),(∀σ' H',(∃(so:Addr) (left:Nat) (u5 u6 u7 u8 u9:Option V) (zs:List V) (pss:List (List V)),σ'=[some (.ref pn),some (.ref tn),some (.int (most:Int)),some (.ref so),some (.int (left:Int)),u5,u6,u7,u8,u9]/\H' so=some (.lst zs)/\H so=none/\Yr H' zs pss/\yJ ys pss/\Y8 pss.flatten + left=most/\pss.flatten.length<=i + 1/\pss.length<=i + 1/\(1<=i + 1->1<=pss.length)/\i + 1<=ns.length/\ZG H H')->D.nx σ' H')->Zdp (tBM K "list" wI (jb 3) (qH (vT (J9 K) [] E0 (qH (jb 5) (qH (jb 1) Zfx))) Zfx)) D [some (.ref pn),some (.ref tn),some (.int (most:Int)),some (.ref so),some (.int (left:Int)),some (.int n),some (.str y),some (.int (Y2 y:Int)),u8,u9] H5:=by
    intro D hD
    refine ⟨_,rfl,.inl ⟨rfl,_,SqL.of h4⟩,_,rfl,_,rfl,n,tn,ys,rfl,hn0,s24 _ _ htn,by lia,fun p w H6 hp0 hp hleaf s6=>?_⟩
    have h6:=s6 _ _ h4
    obtain ⟨w1,w2,w3⟩:=uE hyk hleaf
    refine ⟨so,_,_,rfl,rfl,h6,Zp (by lia),hD _ _ ⟨so,left,_,_,_,_,_,zs++[.ref p],pss++[[w]],rfl,Za,hso0,?_,?_,?_,?_,?_,?_,hi,ZI (s24.trans s6) hso0⟩⟩
    ·exact (Jf (fun b xs e=>by rw [Zo (XG e h6 fun z=>nomatch z)];exact e) (R4.same s6)).snoc (by rw [Zo (XG hp h6 fun z=>nomatch z)];exact hp)
    ·intro ps hps
     rcases Qa6.mp hps with hps | hps
     ·exact G2 ps hps
     ·rw [Qav.mp hps]
      exact ⟨ky w2,fun v hv=>by rw [Qav.mp hv];exact w1⟩
    ·rw [Qbq,Xj]
     show Y8 pss.flatten + Y8 [w] + left=most
     rw [XO,w3]
     exact hrem
    ·rw [Qbq,Qac]
     show _ + 1<=_
     lia
    ·rw [Qac]
     show _ + 1<=_
     lia
    ·intro _
     rw [Qac]
     show 1<=_ + 1
     lia
   refine ⟨_,rfl,rfl,_,rfl,?_⟩
   by_cases hye:y = ""
   ·rw [Qae (congrArg V.str hye)]
    exact YS (YS (atom _ fun _ _ z=>z))
   rw [Qad fun z=>hye (by injection z)]
   refine ZU ⟨_,rfl,so,_,rfl,.inl (SqL.of h4),_,rfl,_,_,rfl,rfl,_,rfl,Gj (fun _=>atom _ fun _ _ z=>z) (fun hlt=>?_)⟩
   have hw:Y2 y<=zs.length:=by
    have:¬((zs.length:Int) < (Y2 y:Int)):=fun z=>hlt (Qae z)
    lia
   have hys:y∈Gy:=hy.resolve_left hye
   obtain ⟨w1,w2,w3⟩:=zR hyk hys
   refine ⟨_,rfl,_,rfl,by show 1<=sizeLine;decide,fun q hq=>⟨q,[.str y],rfl,.inl Za,(fun v hv=>.inl ⟨y,Qav.mp hv⟩),by show 1<=100;decide,fun H6 s6=>⟨_,_,rfl,rfl,Zl ?_⟩⟩⟩
   have s56:=(Zc (o:=.lst [.str y]) hq).trans s6
   obtain ⟨left',hl'⟩:∃left':Nat,(left:Int) - (([V.str y].filter jF).length:Int)=(left':Int)/\left=left' + if y∈GN then 1 else 0:=by
    by_cases hr:y∈GN
    ·have h0:left≠0:=fun z=>hyr (by rw [z];rfl) hr
     have e:[V.str y].filter jF=[.str y]:=List.filter_cons_of_pos (Qae hr)
     exact ⟨left - 1,by rw [e];show (left:Int) - 1=_;lia,by rw [Qau hr];lia⟩
    ·have e:[V.str y].filter jF=[]:=List.filter_cons_of_neg fun z=>hr (Qa9 z)
     exact ⟨left,by rw [e];show (left:Int) - 0=_;lia,by rw [Qan hr];lia⟩
   try dsimp only
   rw [hl'.1]
   refine ⟨_,rfl,by show 1<=sizeLine;decide,fun b0 hb0=>Zl ?_⟩
   have s57:=s56.trans (Zc (o:=.tup [.str y]) hb0)
   have h7:=s57 _ _ h4
   have R7:=R4.same s57
   have hb7:=Za (H:=H6) (a:=b0) (o:=.tup [.str y])
   try dsimp only
   generalize upd H6 b0 (.tup [.str y])=H7 at *
   have ecut:J1 zs (some ((zs.length:Int) - (Y2 y:Int))) none=zs.drop (zs.length - Y2 y):=by
    rw [show ((zs.length:Int) - (Y2 y:Int))=((zs.length - Y2 y:Nat):Int) by lia]
    exact uh zs _
   have ecut2:J1 zs none (some ((zs.length:Int) - (Y2 y:Int)))=zs.take (zs.length - Y2 y):=by
    rw [show ((zs.length:Int) - (Y2 y:Int))=((zs.length - Y2 y:Nat):Int) by lia]
    exact ug zs _
   refine ⟨_,rfl,_,rfl,so,_,rfl,.inl (SqL.of h7),_,rfl,_,_,rfl,rfl,_,rfl,so,_,rfl,SqL.of h7,fun l1 hl1=>⟨l1,rfl,⟨_,SqL.of Za⟩,?_⟩⟩
   have s78:=Zc (o:=.lst (J1 zs (some ((zs.length:Int) - (Y2 y:Int))) none)) hl1
   have h8:=s78 _ _ h7
   have R8:=R7.same s78
   have hb8:=s78 _ _ hb7
   have hl18:=Za (H:=H7) (a:=l1) (o:=.lst (J1 zs (some ((zs.length:Int) - (Y2 y:Int))) none))
   have s28:=s24.trans (s57.trans s78)
   refine zx (K:=K) (a:=l1) (xs:=J1 zs (some ((zs.length:Int) - (Y2 y:Int))) none) (fun j σ H'=>∃(bt9:Addr) (u9:Option V),σ=[some (.ref pn),some (.ref tn),some (.int (most:Int)),some (.ref so),some (.int (left':Int)),some (.int n),some (.str y),some (.int (Y2 y:Int)),some (.ref bt9),u9]/\H' bt9=some (.tup (.str y::((pss.drop (pss.length - Y2 y)).take j).flatten))/\ZG (upd H7 l1 (.lst (J1 zs (some ((zs.length:Int) - (Y2 y:Int))) none))) H') ⟨b0,_,rfl,hb8,ZG.refl _⟩ (fun j σ H' _ ⟨_,_,_,_,s⟩=>SqL.of (s _ _ hl18)) ?_ ?_
   ·rintro j x σ H9 hx hz_
    refine Z5 fun Gz hGz=>?_
    obtain ⟨bt9,u9,rfl,hb9,s9⟩:=hz_
    refine hGz ?_
    clear hGz Gz
    rw [ecut,hzl] at hx
    refine Z5 fun Gz hGz=>?_
    obtain ⟨a,r,rfl,hr,ha⟩:=(R8.drop (pss.length - Y2 y)).at hx
    refine hGz ?_
    clear hGz Gz
    have hlen:((pss.drop (pss.length - Y2 y)).take j).flatten.length + r.length<=100:=by
     have e1:((pss.drop (pss.length - Y2 y)).take (j + 1)).flatten.length<=pss.flatten.length:=by
      have e2:pss.flatten=(pss.take (pss.length - Y2 y)).flatten++(((pss.drop (pss.length - Y2 y)).take (j + 1)).flatten++((pss.drop (pss.length - Y2 y)).drop (j + 1)).flatten):=by rw [<-Qbq,Qbo,<-Qbq,Qbo]
      rw [e2,Qac,Qac]
      lia
     rw [take_snoc hr,Qbq,Qac,Qbj,Qc0,Qbc] at e1
     lia
    refine ⟨_,rfl,_,rfl,bt9,a,_,_,rfl,rfl,hb9,s9 _ _ ha,?_,fun p9 H10 hp9 s10=>⟨p9,_,rfl,?_,s9.trans s10⟩⟩
    ·rw [Qaz]
     exact Qaw (Zp (by lia))
    ·rw [hp9,take_snoc hr,Qbq,Qbj,Qc0,Qbc,Qcz]
   ·rintro σ H9 hz_
    refine Z5 fun Gz hGz=>?_
    obtain ⟨bt9,u9,rfl,hb9,s9⟩:=hz_
    refine hGz ?_
    clear hGz Gz
    rw [ecut,Qbd,hzl,Qb9 (by rw [Qbd];lia)] at hb9
    have h9:=s9 _ _ h8
    refine ⟨_,rfl,_,rfl,so,_,rfl,.inl (SqL.of h9),_,rfl,_,_,rfl,rfl,_,rfl,so,_,rfl,SqL.of h9,fun l2 hl2=>⟨_,rfl,by show 1<=sizeLine;decide,fun l3 hl3=>?_⟩⟩
    rw [ecut2] at hl3 ⊢
    have s10:=Zc (o:=.lst (zs.take (zs.length - Y2 y))) hl2
    have s11:=s10.trans (Zc (o:=.lst [.ref bt9]) hl3)
    refine ⟨l2,l3,_,_,rfl,rfl,Zc hl3 _ _ Za,Za,?_,fun l4 hl4=>?_⟩
    ·rw [Qar]
     exact Qaw (Zp (by show _ + 1<=_;lia))
    have s12:=s11.trans (Zc (o:=.lst (zs.take (zs.length - Y2 y)++[.ref bt9])) hl4)
    have s2z:=s28.trans (s9.trans s12)
    obtain ⟨f1,f2⟩:=xj pss (.str y) (pss.length - Y2 y)
    refine ⟨l4,left',_,_,_,_,_,zs.take (zs.length - Y2 y)++[.ref bt9],pss.take (pss.length - Y2 y)++[.str y::(pss.drop (pss.length - Y2 y)).flatten],rfl,Za,(s28.trans (s9.trans s11)).free hl4,?_,G2.word hyk hys (kM y hys) (by lia),?_,by lia,?_,?_,hi,s2z⟩
    ·have e9:pss.length - Y2 y=zs.length - Y2 y:=by lia
     rw [e9] at hb9 ⊢
     exact ((R8.same (s9.trans s12)).take _).snoc (s12 _ _ hb9)
    ·rw [f2,w3]
     have:=hl'.2
     by_cases hr:y∈GN
     ·rw [Qau hr] at this
      rw [Qau (Qae hr)]
      lia
     ·rw [Qan hr] at this
      rw [Qan (fun z=>hr (Qa9 z))]
      lia
    ·rw [Qac,Qar]
     show _ + 1<=_
     lia
    ·intro _
     rw [Qac]
     show 1<=_ + 1
     lia
  ·rintro σ H2 hz_
   refine Z5 fun Gz hGz=>?_
   obtain ⟨so,left,u5,u6,u7,u8,u9,zs,pss,rfl,h2,hso0,R2,G2,hrem,hfl,hpl,hp1,_,s2⟩:=hz_
   refine hGz ?_
   clear hGz Gz
   rw [Qab] at hfl hpl hp1
   have hp1:=hp1 h1
   refine zG (fun σ H2=>∃(so:Addr) (zs:List V) (pss:List (List V)),σ=[some (.ref pn),some (.ref tn),some (.int (most:Int)),some (.ref so),some (.int (left:Int)),u5,u6,u7,u8,u9]/\H2 so=some (.lst zs)/\Yr H2 zs pss/\yJ ys pss/\Y8 pss.flatten<=most/\pss.flatten.length + pss.length<=2 * ns.length/\1<=pss.length/\ZG H H2) (fun σ H=>match σ with | [_,_,_,some (.ref so),_,_,_,_,_,_]=>(match H so with | some (.lst zs)=>zs.length | _=>0) | _=>0) ⟨so,zs,pss,rfl,h2,R2,G2,by lia,by lia,hp1,s2⟩ ?_
   rintro σ H2 hz_
   refine Z5 fun Gz hGz=>?_
   obtain ⟨so,zs,pss,rfl,h2,R2,G2,hrem,hfl,hp1,s2⟩:=hz_
   refine hGz ?_
   clear hGz Gz
   have hzl:=R2.1
   refine ⟨_,rfl,so,_,rfl,.inl (SqL.of h2),_,_,rfl,rfl,_,rfl,Gj (fun hgt=>?_) (fun hng=>?_)⟩
   ·have hz2:2<=zs.length:=by
     have:=Qa9 hgt
     lia
    refine ⟨fun σ' H'=>∃(so:Addr) (zs':List V) (pss':List (List V)),σ'=[some (.ref pn),some (.ref tn),some (.int (most:Int)),some (.ref so),some (.int (left:Int)),u5,u6,u7,u8,u9]/\H' so=some (.lst zs')/\Yr H' zs' pss'/\yJ ys pss'/\Y8 pss'.flatten<=most/\pss'.flatten.length + pss'.length<=2 * ns.length/\1<=pss'.length/\zs'.length < zs.length/\ZG H H',?_,?_⟩
    ·rintro σ' H' hz_
     refine Z5 fun Gz hGz=>?_
     obtain ⟨so',zs',pss',rfl,g1,g2,g3,g4,g5,g6,g7,g8⟩:=hz_
     refine hGz ?_
     clear hGz Gz
     refine ⟨zs'.length,?_,?_,so',zs',pss',rfl,g1,g2,g3,g4,g5,g6,g8⟩
     ·show zs'.length < (match H2 so with | some (.lst zs)=>zs.length | _=>0)
      rw [h2]
      exact g7
     ·show _=(match H' so' with | some (.lst zs)=>zs.length | _=>0)
      rw [g1]
    ·have pl:pss.length=zs.length:=hzl.symm
     obtain ⟨a,ha1,ha⟩:=R2.2 (zs.length - 2) _ (Qaa (by lia))
     obtain ⟨b,hb1,hb⟩:=R2.2 (zs.length - 1) _ (Qaa (by lia))
     have at2:=qC (n:=2) ha1 (by lia) (by decide)
     have at1:=qC (n:=1) hb1 (by lia) (by decide)
     have ecut:J1 zs none (some (-2))=zs.take (zs.length - 2):=jO (xs:=zs) (n:=2) hz2 (by decide)
     have e2:pss.drop (zs.length - 2)=[pss[zs.length - 2]'(by lia),pss[zs.length - 1]'(by lia)]:=by
      rw [Qbu (by lia),Qbu (by lia),List.drop_of_length_le (by lia)]
      congr 2
      congr 1
      lia
     generalize pss[zs.length - 2]'(by lia)=pa at *
     generalize pss[zs.length - 1]'(by lia)=pb at *
     have hpab:pa.length + pb.length<=pss.flatten.length:=by
      have e3:pss.flatten=(pss.take (zs.length - 2)).flatten++(pss.drop (zs.length - 2)).flatten:=by rw [<-Qbq,Qbo]
      rw [e3,e2,Qac]
      show _<=_ + (pa++(pb++[])).length
      rw [Qbc,Qac]
      lia
     obtain ⟨y,hy,ey⟩:=Je (ys:=["and","or","odd"]) (i:=(zs.length:Int) % 3) (Qa4 _ (by decide)) (Qay _ (by decide))
     obtain ⟨y1,y2,y3⟩:=(by decide +kernel:∀z∈(["and","or","odd"]:List Str),z∈Gy/\z∉GN/\Yq z=2) y hy
     obtain ⟨w1,w2,w3⟩:=zR hyk y1
     refine ⟨_,rfl,_,rfl,_,rfl,so,_,rfl,SqL.of h2,fun l1 hl1=>⟨by show 3<=sizeLine;decide,fun g hg=>?_⟩⟩
     have s3:=Zc (o:=.lst (J1 zs none (some (-2)))) hl1
     have s4:=s3.trans (Zc (o:=.lst [.str "and",.str "or",.str "odd"]) hg)
     refine ⟨_,rfl,so,_,rfl,.inl (SqL.of (s4 _ _ h2)),_,_,rfl,rfl,(by show (0:Int) < 3;decide),g,_,_,_,rfl,rfl,SqL.of Za,ey,by show 1<=sizeLine;decide,fun q1 hq1=>?_⟩
     have s5:=s4.trans (Zc (o:=.tup [.str y]) hq1)
     refine ⟨_,rfl,_,rfl,so,_,-2,.ref a,rfl,rfl,SqL.of (s5 _ _ h2),at2,q1,a,_,_,rfl,rfl,Za,s5 _ _ ha,?_,fun q2 H6 hq2 s6=>?_⟩
     ·exact Qaw (Zp (by show 1 + _<=_;lia))
     have s26:=s5.trans s6
     refine ⟨_,rfl,_,rfl,so,_,-1,.ref b,rfl,rfl,SqL.of (s26 _ _ h2),at1,q2,b,_,_,rfl,rfl,hq2,s26 _ _ hb,?_,fun q3 H7 hq3 s7=>⟨by show 1<=sizeLine;decide,fun l3 hl3=>⟨l1,l3,J1 zs none (some (-2)),[.ref q3],rfl,rfl,?_,Za,?_,fun l4 hl4=>?_⟩⟩⟩
     ·exact Qaw (Zp (by rw [Qac];show 1 + _ + _<=_;lia))
     ·exact ((Zc hg).trans ((Zc hq1).trans (s6.trans (s7.trans (Zc hl3))))) _ _ Za
     ·rw [ecut,Qar]
      exact Qaw (Zp (by show _ + 1<=_;lia))
     have s8:=s26.trans (s7.trans (Zc (o:=.lst [.ref q3]) hl3))
     have s9:=s8.trans (Zc (o:=.lst (J1 zs none (some (-2))++[.ref q3])) hl4)
     obtain ⟨f1,f2⟩:=xj pss (.str y) (zs.length - 2)
     have G3:=G2.word hyk y1 y3 (by lia)
     rw [show pss.length - 2=zs.length - 2 by lia] at G3
     rw [e2] at f1 f2 G3
     have efl:[pa,pb].flatten=pa++pb:=by simp
     rw [efl] at f1 f2 G3
     have hq3':H7 q3=some (.tup (.str y::(pa++pb))):=by rw [hq3];rfl
     refine Zl ⟨l4,zs.take (zs.length - 2)++[.ref q3],pss.take (zs.length - 2)++[.str y::(pa++pb)],rfl,?_,?_,G3,?_,?_,?_,?_,s2.trans s9⟩
     ·rw [Za,ecut]
     ·exact ((R2.same s9).take _).snoc (((Zc hl3).trans (Zc hl4)) _ _ hq3')
     ·rw [f2,w3,Qan (fun z=>y2 (Qa9 z))]
      exact hrem
     ·rw [f1,Qac,Qar]
      show _ + 1 + (_ + 1)<=2 * ns.length
      lia
     ·rw [Qac]
      show 1<=_ + 1
      lia
     ·rw [Qac,Qar]
      show _ + 1 < _
      lia
   ·have hz1:zs.length=1:=by
     have:¬((1:Int) < (zs.length:Int)):=fun z=>hng (Qae z)
     lia
    match zs,pss,hz1,hzl,R2,G2,hrem,hfl,h2 with
    | [z],[ps],_,_,R2,G2,hrem,hfl,h2 =>
     refine Z5 fun Gz hGz=>?_
     obtain ⟨a,r,rfl,hr,ha⟩:=R2.at (i:=0) rfl
     refine hGz ?_
     clear hGz Gz
     cases hr
     obtain ⟨g1,g2⟩:=G2 ps Qaf
     obtain ⟨e1,e2⟩:=g1.one
     rw [Qbj,Qc0,Qbc] at hrem hfl
     exact ⟨_,rfl,so,_,0,_,rfl,rfl,SqL.of h2,rfl,k a ps H2 ha (by lia) g2 e1 e2 hrem s2⟩
inductive Ww(vs:List V)(H:Hp)(Q:VK):Prop
 | mk (y:Str) (W:Nat) (v u:V) (r:Bool):(vs=[.str y,v,u,.int (W:Int)])->(1<=W)->(W<=64)->(((y∈(["same","under","beneath"]:List Str)/\∃a b:Int,v=.int a/\u=.int b/\0<=a/\a < 2 ^ W/\0<=b/\b < 2 ^ W/\r=zH (2 ^ W) y [a,b])\/(y∈(["both","either","so"]:List Str)/\∃p q:Bool,v=.bl p/\u=.bl q/\r=Zc2 y [p,q])))->(Q (.bl r) H)->Ww vs H Q
noncomputable def WZ(K:PySem.W.Frag):Sp:=fun vs H Q _=>Ww vs H Q
theorem x4 (T:Txt K w mg t) (TB:Tbs mg base t):ZO P w K mg base CX0 2 t.a_law_two_hold t.f_law_two_hold ["word","one","other","width"] (WZ K):=by
 have G_law_signed:ZO P w K mg base CX0 1 t.a_law_signed t.f_law_signed ["one","width"] (Ge K):=zX T TB
 refine T.d_law_two_hold.F.ok xp (fun vs H Q E h=>?_) (fun cdv A outer s H vs Q E hr h=>?_)
 ·obtain ⟨y,W,v,u,r,rfl,hW,hW2,hy,k⟩:=h
  rfl
 ·obtain ⟨y,W,v,u,r,rfl,hW,hW2,hy,k⟩:=h
  have hu:=Yj hr
  refine ⟨_,@QSs.out _ _ _ (Zb (Z8 (Zn Yb (qv 0) Zh (Zx _))
    (Zf (Zt (WM Yb (qv 1) (qv 2) (Zx _)))) Zu)
    (Zb (Z8 (Zn Yb (qv 0) Zh (Zx _))
    (Zf (Zt (WM qF (qv 1) (qv 2) (Zx _)))) Zu)
    (Zb (Z8 (Zn Yb (qv 0) Zh (Zx _))
    (Zf (Zt (WM qF (Zr G_law_signed (hr.mono (by decide)) rfl T.d_law_signed.m T.d_law_signed.F.kp T.d_law_signed.b .nil ZK (Zj (qv 1) (Zj (qv 3) Ze))) (Zr G_law_signed (hr.mono (by decide)) rfl T.d_law_signed.m T.d_law_signed.F.kp T.d_law_signed.b .nil ZK (Zj (qv 2) (Zj (qv 3) Ze))) (Zx _)))) Zu)
    (Zb (Z8 (Zn Yb (qv 0) Zh (Zx _))
    (Zf (Zt (yW (qv 1) (xT (qv 2))))) Zu)
    (Zb (Z8 (Zn Yb (qv 0) Zh (Zx _))
    (Zf (Zt (Zgi (qv 1) (xT (qv 2))))) Zu)
    (Zf (Zt (Zgi (qv 2) (xT (wR (qv 1))))))))))),?_⟩
  clear hu hr
  try dsimp only [L2.cxK,L2.cxK2]
  refine L2.let6 ?_
  intro U5 U4 U3 U2 U1
  refine ⟨_,rfl,rfl,_,rfl,?_⟩
  rcases hy with ⟨hy,a,b,rfl,rfl,a0,a1,b0,b1,rfl⟩ | ⟨hy,p,q,rfl,rfl,rfl⟩
  ·simp only [Qak,Qa3,Qcq] at hy
   rcases hy with rfl | rfl | rfl
   ·rw [Qae rfl]
    exact YS ⟨_,rfl,_,rfl,rfl,(congrArg (fun z=>Q (V.bl z) H) (Qcn.mpr ⟨fun e=>(by rw [show a=b from e]),fun e=>(by injection e)⟩)).mp k⟩
   ·rw [Qad (by decide +kernel)]
    refine ZU ⟨_,rfl,rfl,_,rfl,?_⟩
    rw [Qae rfl]
    exact YS ⟨_,rfl,_,rfl,_,_,rfl,rfl,k⟩
   ·rw [Qad (by decide +kernel)]
    refine ZU ⟨_,rfl,rfl,_,rfl,?_⟩
    rw [Qad (by decide +kernel)]
    refine ZU ⟨_,rfl,rfl,_,rfl,?_⟩
    rw [Qae rfl]
    exact YS ⟨_,rfl,_,rfl,a,W,rfl,hW,hW2,a0,a1,_,rfl,_,rfl,b,W,rfl,hW,hW2,b0,b1,_,_,rfl,rfl,k⟩
  ·simp only [Qak,Qa3,Qcq] at hy
   have n3:∀y∈(["both","either","so"]:List Str),y ≠ "same" /\ y ≠ "under" /\ y ≠ "beneath" := by decide +kernel
   obtain ⟨n1,n2,n3⟩:=n3 y (by simp only [Qak,Qa3,Qcq];exact hy)
   rw [Qad fun z=>n1 (by injection z)]
   refine ZU ⟨_,rfl,rfl,_,rfl,?_⟩
   rw [Qad fun z=>n2 (by injection z)]
   refine ZU ⟨_,rfl,rfl,_,rfl,?_⟩
   rw [Qad fun z=>n3 (by injection z)]
   refine ZU ⟨_,rfl,rfl,_,rfl,?_⟩
   rcases hy with rfl | rfl | rfl
   ·rw [Qae rfl]
    refine YS ⟨_,rfl,_,rfl,?_⟩
    cases p with
    | true=>exact YS ⟨_,rfl,k⟩
    | false=>exact ZU k
   ·rw [Qad (by decide +kernel)]
    refine ZU ⟨_,rfl,rfl,_,rfl,?_⟩
    rw [Qae rfl]
    refine YS ⟨_,rfl,_,rfl,?_⟩
    cases p with
    | true=>exact YS k
    | false=>exact ZU ⟨_,rfl,k⟩
   ·rw [Qad (by decide +kernel)]
    refine ZU ⟨_,rfl,rfl,_,rfl,?_⟩
    rw [Qad (by decide +kernel)]
    refine ZU ⟨_,rfl,_,rfl,?_⟩
    cases q with
    | true=>exact YS k
    | false=>exact ZU ⟨_,rfl,_,rfl,k⟩
inductive XR(vs:List V)(H:Hp)(Q:VK):Prop
 | mk (m p:Addr) (nm:List Str) (nx:List (List Nat)) (ot:List (List V)) (tr:Bool):(vs=[.ref m,.ref p,.bl tr])->(M4 H m nm 0 nx ot)->(H p=some (.tup (nm.map V.str)))->(Wf nm 0 nx ot tr)->(∀H',ZG H H'->Q (.bl true) H')->XR vs H Q
noncomputable def Wx(K:PySem.W.Frag):Sp:=fun vs H Q _=>XR vs H Q
theorem GB (T:Txt K w mg t) (TB:Tbs mg base t):ZO P w K mg base CX0 2 t.a_law_is_machine t.f_law_is_machine ["found","names","truths"] (Wx K):=by
 have G_law_whole:ZO P w K mg base CX0 1 t.a_law_whole t.f_law_whole ["found"] (GS K):=jX T TB
 have G_law_row_of:ZO P w K mg base CX0 1 t.a_law_row_of t.f_law_row_of ["row","many"] (Gg K):=zZ T TB
 refine T.d_law_is_machine.F.ok ZW (fun vs H Q E h=>?_) (fun cdv A outer s H vs Q E hr h=>?_)
 ·obtain ⟨m,p,nm,nx,ot,tr,rfl,M,hp,W,k⟩:=h
  rfl
 ·obtain ⟨m,p,nm,nx,ot,tr,rfl,M,hp,W,k⟩:=h
  have hu:=Yj hr
  refine ⟨_,@QSs.out _ _ _ (Zb (Z8 (JE (Gn (WN (X2 (Zr G_law_row_of (hr.mono (by decide)) rfl T.d_law_row_of.m T.d_law_row_of.F.kp T.d_law_row_of.b .nil ZK (Zj (qv 0) (Zj Zd Ze))))) (Gn (WN (X2 (Zm Xy (by rfl) T.z_isinstance ZN (Zj (Zz ZL (qv 0) Zd (fun _ _=>rfl)) (Zj (Wc (v:=.ty "tuple") (by rfl) T.z_tuple YA rfl) Ze))))) (JD (Zn (Zek (yZ hr)) (Zz ZL (qv 0) Zd (fun _ _=>rfl)) (Yy ZM (by rfl) T.z_tuple YA (Zj (qv 1) Ze)) (Zx _))))))
    (Zf (Zt WK)) Zu)
    (Zb (Zq (i:=3) ZW.nd rfl (Or.inl rfl) (Zz ZL (qv 0) Zd (fun _ _=>rfl)))
    (Zb (Zq (i:=4) ZW.nd rfl (Or.inl rfl) (Zz ZL (qv 0) Zd (fun _ _=>rfl)))
    (Zb (Z8 (JE (Gn (WN (X2 (Zr G_law_whole (hr.mono (by decide)) rfl T.d_law_whole.m T.d_law_whole.F.kp T.d_law_whole.b .nil ZK (Zj (Zz ZL (qv 0) Zd (fun _ _=>rfl)) Ze)))) (Gn (WN (X2 (Zm Xy (by rfl) T.z_isinstance ZN (Zj (qv 3) (Zj (Wc (v:=.ty "tuple") (by rfl) T.z_tuple YA rfl) Ze))))) (JD (WN (X2 (Zr G_law_row_of (hr.mono (by decide)) rfl T.d_law_row_of.m T.d_law_row_of.F.kp T.d_law_row_of.b .nil ZK (Zj (qv 4) (Zj (Zm Zk (by rfl) T.z_len ZE (Zj (qv 3) Ze)) Ze)))))))))
    (Zf (Zt WK)) Zu)
    (Zb (Z8 (JE (Gn (Zn qF (Zz ZL (qv 0) Zd (fun _ _=>rfl)) Zd (Zx _)) (JD (Zn Zdw (Zz ZL (qv 0) Zd (fun _ _=>rfl)) (Zm Zk (by rfl) T.z_len ZE (Zj (qv 3) Ze)) (Zx _)))))
    (Zf (Zt WK)) Zu)
    (Zb (YN PassesOwn.never rfl (Ym rfl T.z_range (Zj (Zm Zk (by rfl) T.z_len ZE (Zj (qv 3) Ze)) Ze)) (Yc (i:=5) ZW.nd rfl (Or.inl rfl))
    (Zb (Z8 (JE (Gn (WN (X2 (Zr G_law_row_of (hr.mono (by decide)) rfl T.d_law_row_of.m T.d_law_row_of.F.kp T.d_law_row_of.b .nil ZK (Zj (Zz ZL (qv 3) (qv 5) (fun _ _=>rfl)) (Zj (Zi GD Zd (Zm Zk (by rfl) T.z_len ZE (Zj (qv 1) Ze))) Ze))))) (JD (WN (X2 (Zr G_law_row_of (hr.mono (by decide)) rfl T.d_law_row_of.m T.d_law_row_of.F.kp T.d_law_row_of.b .nil ZK (Zj (Zz ZL (qv 4) (qv 5) (fun _ _=>rfl)) (Zj (Zi GD Zd (Zm Zk (by rfl) T.z_len ZE (Zj (qv 1) Ze))) Ze))))))))
    (Zf (Zt WK)) Zu)
    (Zb (YN PassesOwn.never rfl (GH (Zz ZL (qv 3) (qv 5) (fun _ _=>rfl))) (Yc (i:=6) ZW.nd rfl (Or.inl rfl))
    (Zf (Z8 (JE (Gn (WN (X2 (Zr G_law_whole (hr.mono (by decide)) rfl T.d_law_whole.m T.d_law_whole.F.kp T.d_law_whole.b .nil ZK (Zj (qv 6) Ze)))) (Gn (Zn qF (qv 6) Zd (Zx _)) (JD (Zn Zdw (qv 6) (Zm Zk (by rfl) T.z_len ZE (Zj (qv 3) Ze)) (Zx _))))))
    (Zf (Zt WK)) Zu)))
    (Zf (YN PassesOwn.never rfl (GH (Zz ZL (qv 4) (qv 5) (fun _ _=>rfl))) (Yc (i:=7) ZW.nd rfl (Or.inl rfl))
    (Zf (Z8 (JE (Gn (Zn Zdu (Zm Xy (by rfl) T.z_isinstance ZN (Zj (qv 7) (Zj (Wc (v:=.ty "bool") (by rfl) T.z_bool wQ rfl) Ze))) (qv 2) (Zx _)) (Gn (WN (X2 (Zm Xy (by rfl) T.z_isinstance ZN (Zj (qv 7) (Zj (Wc (v:=.ty "int") (by rfl) T.z_int jo rfl) Ze))))) (JD (Zn jj (qv 7) (ZH (Zj Zd (Zj Zd Ze))) (by with_unfolding_all rfl))))))
    (Zf (Zt WK)) Zu)))))))
    (Zf (Zt WK)))))))),?_⟩
  clear hu hr
  try dsimp only [L2.cxK,L2.cxK2]
  refine L2.let7 ?_
  intro U6 U5 U4 U3 U2 U1
  refine Z5 fun Gz hGz=>?_
  obtain ⟨pn,ps,po,hm,hn,R,O⟩:=M.ex
  refine hGz ?_
  clear hGz Gz
  have hb:=W.b
  have hle:=W.le
  have hol:=W.ol
  obtain ⟨as,has,las,_⟩:=id R
  obtain ⟨os,hos,los,_⟩:=id O
  rw [Qab] at las
  refine ⟨_,rfl,m,_,4,rfl,hm,_,rfl,?_⟩
  refine ZU ⟨_,rfl,m,_,0,_,rfl,rfl,SqT.of hm,rfl,_,_,_,_,rfl,.tup hn,J2,_,rfl,ZU ⟨_,rfl,m,_,0,_,rfl,rfl,SqT.of hm,rfl,_,rfl,p,_,rfl,.inr ⟨SqT.of hp,pn,p,_,_,rfl,rfl,SqT.of hn,SqT.of hp,jL _,jL _,_,rfl,?_⟩⟩⟩
  show if (!gv (nm.map V.str) (nm.map V.str))=true then _ else _
  rw [v8,Qae rfl]
  refine ZU ?_
  refine ⟨_,rfl,m,_,2,_,rfl,rfl,SqT.of hm,rfl,_,rfl,m,_,3,_,rfl,rfl,SqT.of hm,rfl,?_⟩
  refine ⟨_,rfl,m,_,1,_,rfl,rfl,SqT.of hm,rfl,_,rfl,_,rfl,ZU ⟨_,rfl,_,_,_,_,rfl,.tup has,J2,_,rfl,ZU ⟨_,rfl,_,rfl,ps,_,rfl,.inr (SqT.of has),po,_,as.length,rfl,hos,_,rfl,?_⟩⟩⟩
  try dsimp only
  rw [Qae (show os.length=as.length by lia)]
  refine ZU ?_
  refine ⟨_,rfl,m,_,1,_,rfl,rfl,SqT.of hm,rfl,_,_,rfl,rfl,_,rfl,Gj (fun z=>absurd (Qa9 z) (by lia)) (fun _=>⟨_,rfl,m,_,1,_,rfl,rfl,SqT.of hm,rfl,_,rfl,ps,_,rfl,.inr (SqT.of has),_,_,rfl,rfl,_,rfl,Gj (fun z=>absurd (Qa9 z) (by lia)) (fun _=>?_)⟩)⟩
  refine ⟨_,rfl,ps,_,rfl,.inr (SqT.of has),_,rfl,by lia,by lia,zb (n:=((as.length:Nat):Int).toNat) (fun i σ H2=>∃u5 u6 u7,σ=[some (.ref m),some (.ref p),some (.bl tr),some (.ref ps),some (.ref po),u5,u6,u7]/\ZG H H2) ⟨none,none,none,rfl,ZG.refl H⟩ ?_ ?_⟩
  ·rintro i σ H2 hi hz_ N bk r hN
   refine Z5 fun Gz hGz=>?_
   obtain ⟨u5,u6,u7,rfl,s2⟩:=hz_
   refine hGz ?_
   clear hGz Gz
   rw [Qat] at hi
   refine Z5 fun Gz hGz=>?_
   obtain ⟨as1,a1,g1,g2,g3⟩:=zL R (i:=i) (by rw [Qab];lia)
   refine hGz ?_
   clear hGz Gz
   refine Z5 fun Gz hGz=>?_
   obtain ⟨as2,a2,f1,f2,f3⟩:=zL O (i:=i) (by lia)
   refine hGz ?_
   clear hGz Gz
   rw [jK] at g3
   rw [Qcm]
   have eL:(1:Int) * 2 ^ ((nm.map V.str).length:Int).toNat=((2 ^ nm.length:Nat):Int):=by
    rw [Qer,Qat,Qab,Qdw]
    rfl
   have hp2:=s2 _ _ hp
   have hn3:=W.n3
   have mrow:=getD_mem (show i < nx.length by lia)
   have mout:=getD_mem (show i < ot.length by lia)
   have lrow:=W.nr _ mrow
   have lout:=W.or _ mout
   refine ⟨_,rfl,_,rfl,ps,as1,(i:Int),V.ref a1,rfl,rfl,SqT.of (s2 _ _ g1),g2,_,rfl,p,_,rfl,.inr (SqT.of hp2),_,_,rfl,rfl,⟨Qbl _,by rw [Qab];lia,by decide⟩,a1,_,2 ^ nm.length,by rw [<-eL];rfl,s2 _ _ g3,?_⟩
   rw [Qae (show (ja (nx.getD i [])).length=2 ^ nm.length by unfold ja;rw [Qab,lrow])]
   refine ⟨_,rfl,ZU ?_⟩
   refine ⟨_,rfl,_,rfl,po,as2,(i:Int),V.ref a2,rfl,rfl,SqT.of (s2 _ _ f1),f2,_,rfl,p,_,rfl,.inr (SqT.of hp2),_,_,rfl,rfl,⟨Qbl _,by rw [Qab];lia,by decide⟩,a2,_,2 ^ nm.length,by rw [<-eL];rfl,s2 _ _ f3,?_⟩
   rw [Qae lout]
   refine ⟨_,rfl,ZU ?_⟩
   refine ⟨_,rfl,_,rfl,ps,as1,(i:Int),V.ref a1,rfl,rfl,SqT.of (s2 _ _ g1),g2,_,rfl,⟨_,SqT.of (s2 _ _ g3)⟩,?_⟩
   refine zy (K:=K) (xs:=ja (nx.getD i [])) (fun j σ H3=>∃u6 u7,σ=[some (.ref m),some (.ref p),some (.bl tr),some (.ref ps),some (.ref po),some (.int (i:Int)),u6,u7]/\ZG H H3) ⟨u6,u7,rfl,s2⟩ (fun j σ H3 _ ⟨_,_,_,s⟩=>SqT.of (s _ _ g3)) ?_ ?_
   ·rintro j x σ H3 hx hz_
    refine Z5 fun Gz hGz=>?_
    obtain ⟨u6,u7,rfl,s3⟩:=hz_
    refine hGz ?_
    clear hGz Gz
    unfold ja at hx
    rw [Qao] at hx
    obtain ⟨c,hc,rfl⟩:=Qco.mp hx
    have hlt:=W.nl _ mrow _ (Qam hc)
    refine ⟨_,rfl,(c:Int),rfl,_,rfl,ZU ⟨_,rfl,_,_,rfl,rfl,_,rfl,Gj (fun z=>absurd (Qa9 z) (by lia)) (fun _=>⟨_,rfl,_,rfl,ps,_,rfl,.inr (SqT.of (s3 _ _ has)),_,_,rfl,rfl,_,rfl,Gj (fun z=>absurd (Qa9 z) (by lia)) (fun _=>⟨_,_,rfl,s3⟩)⟩)⟩⟩
   ·rintro σ H3 hz_
    refine Z5 fun Gz hGz=>?_
    obtain ⟨u6,u7,rfl,s3⟩:=hz_
    refine hGz ?_
    clear hGz Gz
    refine ⟨_,rfl,_,rfl,po,as2,(i:Int),V.ref a2,rfl,rfl,SqT.of (s3 _ _ f1),f2,_,rfl,⟨_,SqT.of (s3 _ _ f3)⟩,?_⟩
    refine zy (K:=K) (xs:=ot.getD i []) (fun j σ H4=>∃u6 u7,σ=[some (.ref m),some (.ref p),some (.bl tr),some (.ref ps),some (.ref po),some (.int (i:Int)),u6,u7]/\ZG H H4) ⟨u6,u7,rfl,s3⟩ (fun j σ H4 _ ⟨_,_,_,s⟩=>SqT.of (s _ _ f3)) ?_ ?_
    ·rintro j x σ H4 hx hz_
     refine Z5 fun Gz hGz=>?_
     obtain ⟨u6,u7,rfl,s4⟩:=hz_
     refine hGz ?_
     clear hGz Gz
     have hk:=W.ok _ mout _ (Qam hx)
     have hbt:=W.bit _ mout _ (Qam hx)
     have hin:inV x [.int 0,.int 1]=true:=by
      rcases hk with ⟨_,y,rfl⟩ | ⟨_,y,rfl⟩
      ·cases y <;> rfl
      ·rcases hbt with e | e
       ·cases e
        rfl
       ·cases e
        rfl
     rcases hk with ⟨ht,y,rfl⟩ | ⟨ht,y,rfl⟩
     ·subst ht
      refine ⟨_,rfl,_,_,_,_,rfl,.bl _,z8,_,rfl,rfl,_,rfl,?_⟩
      show if (!decide (V.bl true=V.bl true))=true then _ else _
      rw [Qae rfl]
      refine ZU ⟨_,rfl,_,_,_,_,rfl,.bl _,jw,_,rfl,ZU ⟨_,rfl,by show 2<=sizeLine;decide,fun pt hpt=>⟨pt,_,rfl,.inr (SqT.of Za),rfl,rfl,_,rfl,?_⟩⟩⟩
      show if (!inV _ _)=true then _ else _
      rw [hin]
      exact ZU ⟨_,_,rfl,s4.trans (Zc hpt)⟩
     ·subst ht
      refine ⟨_,rfl,_,_,_,_,rfl,.int _,GG,_,rfl,rfl,_,rfl,?_⟩
      show if (!decide (V.bl false=V.bl false))=true then _ else _
      rw [Qae rfl]
      refine ZU ⟨_,rfl,_,_,_,_,rfl,.int _,XH,_,rfl,ZU ⟨_,rfl,by show 2<=sizeLine;decide,fun pt hpt=>⟨pt,_,rfl,.inr (SqT.of Za),rfl,rfl,_,rfl,?_⟩⟩⟩
      show if (!inV _ _)=true then _ else _
      rw [hin]
      exact ZU ⟨_,_,rfl,s4.trans (Zc hpt)⟩
    ·rintro σ H4 hz_
     refine Z5 fun Gz hGz=>?_
     obtain ⟨u6,u7,rfl,s4⟩:=hz_
     refine hGz ?_
     clear hGz Gz
     exact hN _ _ ⟨_,_,_,rfl,s4⟩
  ·rintro σ H2 hz_
   refine Z5 fun Gz hGz=>?_
   obtain ⟨u5,u6,u7,rfl,s2⟩:=hz_
   refine hGz ?_
   clear hGz Gz
   exact k H2 s2
inductive WG(vs:List V)(H:Hp)(Q:VK):Prop
 | mk (s:Addr) (stk:List V) (w:V):(vs=[.ref s,w])->(H s=some (.lst stk.reverse))->(w=kV (keyOf w))->(npw w<=stk.length)->(stk.length<=100)->(∀pl H',H pl=none->H' pl=some (.lst (stk.take (npw w)))->H' s=some (.lst (stk.drop (npw w)).reverse)->(∀b o,H b=some o->b≠s->H' b=some o)->Q (.ref pl) H')->WG vs H Q
noncomputable def Jw(K:PySem.W.Frag):Sp:=fun vs H Q _=>WG vs H Q
theorem xR (T:Txt K w mg t) (TB:Tbs mg base t):ZO P w K mg base CX0 3 t.a_parts_taken t.f_parts_taken ["stack","word"] (Jw K):=by
 have G_parts_of:ZO P w K mg base CX0 2 t.a_parts_of t.f_parts_of ["word"] (xw K):=yR T TB
 refine T.d_parts_taken.F.ok xK (fun vs H Q E h=>?_) (fun cdv A outer s H vs Q E hr h=>?_)
 ·obtain ⟨st,stk,x,rfl,hs,hx,hn,hl,k⟩:=h
  rfl
 ·obtain ⟨st,stk,x,rfl,hs,hx,hn,hl,k⟩:=h
  have hu:=Yj hr
  refine ⟨_,@QSs.out _ _ _ (Zf (Zt (Wy (⟨by rfl,by decide +kernel,by decide +kernel,by rfl,by decide +kernel,by decide +kernel,by rfl,by decide +kernel⟩:YO (Zg Yw) _ ["stack","word"] "part" ["stack"] [0]) (Ym rfl T.z_range (Zj (Zr G_parts_of (hr.mono (by decide)) rfl T.d_parts_of.m T.d_parts_of.F.kp T.d_parts_of.b .nil ZK (Zj (qv 1) Ze)) Ze)) (fun _ _ _ _=>JH) (fun _ _ _ _=>(show QE _ _ (Zg4 K "list" rPop (jb 1)) from (GI Qai Qcf Qcg qK (qv 1))))))),?_⟩
  clear hu hr
  try dsimp only [L2.cxK,L2.cxK2]
  refine ⟨_,rfl,keyOf x,congrArg (fun z=>[z]) hx,X7 (keyOf x),rfl,?_,?_,xW (n:=(X7 (keyOf x)).toNat) (fun i zs H2=>i<=npw x/\zs=stk.take i/\H2 st=some (.lst (stk.drop i).reverse)/\∀b o,H b=some o->b≠st->H2 b=some o) ⟨Qbg _,rfl,hs,fun b o e _=>e⟩ ?_ ?_ ?_⟩
  ·have:=qT (keyOf x)
   lia
  ·have:=qT (keyOf x)
   lia
  ·rintro i zs H2 hz_
   refine Z5 fun Gz hGz=>?_
   obtain ⟨_,rfl,_,_⟩:=hz_
   refine hGz ?_
   clear hGz Gz
   rw [Qar]
   exact Qaw (Zp (by lia))
  ·rintro i zs H2 R hR hi hz_
   refine Z5 fun Gz hGz=>?_
   obtain ⟨hi1,rfl,h2,o2⟩:=hz_
   refine hGz ?_
   clear hGz Gz
   have hi2:i < npw x:=hi
   have hi3:i < stk.length:=by lia
   rw [Zey hi3] at h2
   unfold Zfz
   try dsimp only
   rw [Qau rfl]
   refine ⟨_,rfl,.inl ⟨rfl,_,SqL.of h2⟩,st,_,stk[i],rfl,rfl,h2,Xz _ _,hR _ _ ⟨hi2,?_,?_,fun b o e hb=>?_⟩⟩
   ·rw [take_snoc (Qaa hi3)]
   ·rw [Za,Qb6]
   ·rw [Zo hb]
    exact o2 b o e hb
  ·rintro zs H2 hz_ l hl2
   refine Z5 fun Gz hGz=>?_
   obtain ⟨hi1,rfl,h2,o2⟩:=hz_
   refine hGz ?_
   clear hGz Gz
   have hlH:H l=none:=by
    cases q:H l with
    | none=>rfl
    | some o =>
     by_cases hb:l=st
     ·rw [hb,h2] at hl2
      cases hl2
     ·rw [o2 l o q hb] at hl2
      cases hl2
   have hls:st≠l:=Zs h2 hl2
   refine k l _ hlH Za ?_ fun b o e hb=>?_
   ·rw [Zo hls]
    exact h2
   ·rw [Zo (Zs e hlH)]
    exact o2 b o e hb
inductive Jx(vs:List V)(H:Hp)(Q:VK):Prop
 | mk (pn tn:Addr) (ns:List Int) (ys:List Str) (many long most:Nat):(vs=[.ref pn,.ref tn,.int (long:Int),.int (most:Int)])->(H pn=some (.lst (ns.map V.int)))->(ns.length=many * (2 * long + 1))->(1<=many)->(many<=3)->(1<=long)->(long<=6)->((∀x∈ns,0<=x))->(H tn=some (.tup (ys.map V.str)))->(ys.length<=3)->((∀y∈ys,y∉YL))->(∀p ws H',H' p=some (.tup ws)->Seg ys true ws->ws.length < (4 * long + 1) * many->Y8 ws<=most + many->ZG H H'->Q (.ref p) H')->Jx vs H Q
noncomputable def qa(K:PySem.W.Frag):Sp:=fun vs H Q _=>Jx vs H Q
theorem yb (T:Txt K w mg t) (TB:Tbs mg base t):ZO P w K mg base CX0 3 t.a_law_claim t.f_law_claim ["numbers","names","long","most"] (qa K):=by
 have G_law_carries:ZO P w K mg base CX0 1 t.a_law_carries t.f_law_carries ["words"] (Wi K):=Jq T TB
 have G_law_sum:ZO P w K mg base CX0 2 t.a_law_sum t.f_law_sum ["numbers","names","most"] (zu K):=kN T TB
 refine T.d_law_claim.F.ok Z6 (fun vs H Q E h=>?_) (fun cdv A outer s H vs Q E hr h=>?_)
 ·obtain ⟨pn,tn,ns,ys,many,long,most,rfl,hpn,hnl,hm1,hm3,hg1,hg6,hns,htn,hy3,hyk,k⟩:=h
  rfl
 ·obtain ⟨pn,tn,ns,ys,many,long,most,rfl,hpn,hnl,hm1,hm3,hg1,hg6,hns,htn,hy3,hyk,k⟩:=h
  have hu:=Yj hr
  refine ⟨_,@QSs.out _ _ _ (Zb (Zq (i:=4) Z6.nd rfl (Or.inl rfl) (Ys Ze))
    (Zb (Zq (i:=5) Z6.nd rfl (Or.inl rfl) (qv 3))
    (Zb (YN PassesOwn.never rfl (Ym rfl T.z_range (Zj (Zi Ya (Zm Zk (by rfl) T.z_len ZE (Zj (qv 0) Ze)) (Zi ZX (Zi YT Zd (qv 2)) Zd)) Ze)) (Yc (i:=6) Z6.nd rfl (Or.inl rfl))
    (Zb (Zq (i:=7) Z6.nd rfl (Or.inl rfl) (Yf Xm (qv 0) (Yu (Zi YT (Zi ZX (Zi YT Zd (qv 2)) Zd) (qv 6))) (Yu (Zi YT (Zi ZX (Zi YT Zd (qv 2)) Zd) (Zi ZX (qv 6) Zd)))))
    (Zb (Zq (i:=8) Z6.nd rfl (Or.inl rfl) (Zz Zv (Ys (Zj Zh (Zj Zh (Zj Zh (Zj Zh (Zj Zh (Zj Zh (Zj Zh (Zj Zh Ze))))))))) (Zi ZF (Zz Zv (qv 7) Zd (fun _ _=>rfl)) Zd) (fun _ _=>rfl)))
    (Zb (Zq (i:=9) Z6.nd rfl (Or.inl rfl) (Zr G_law_sum (hr.mono (by decide)) rfl T.d_law_sum.m T.d_law_sum.F.kp T.d_law_sum.b .nil ZK (Zj (Yf Xm (qv 7) (Yu Zd) (Yu (Zi ZX (qv 2) Zd))) (Zj (qv 1) (Zj (qv 5) Ze)))))
    (Zb (Zq (i:=5) Z6.nd rfl (Or.inl rfl) (Zi X1 (qv 5) (Zr G_law_carries (hr.mono (by decide)) rfl T.d_law_carries.m T.d_law_carries.F.kp T.d_law_carries.b .nil ZK (Zj (qv 9) Ze))))
    (Zb (Zq (i:=10) Z6.nd rfl (Or.inl rfl) (Zr G_law_sum (hr.mono (by decide)) rfl T.d_law_sum.m T.d_law_sum.F.kp T.d_law_sum.b .nil ZK (Zj (Yf Xm (qv 7) (Yu (Zi ZX (qv 2) Zd)) YU) (Zj (qv 1) (Zj (qv 5) Ze)))))
    (Zb (Zq (i:=11) Z6.nd rfl (Or.inl rfl) (ZH (Zj (qv 8) Ze)))
    (Zb (Z8 (Zn ZT (qv 8) (ZH (Zj Zh (Zj Zh Ze))) (by with_unfolding_all rfl))
    (Zf (Zq (i:=11) Z6.nd rfl (Or.inl rfl) (Zi YJ (ZH (Zj (qv 8) Ze)) (qv 9)))) Zu)
    (Zb (Z8 (Zn ZT (qv 8) (ZH (Zj Zh (Zj Zh (Zj Zh Ze)))) (by with_unfolding_all rfl))
    (Zb (Zq (i:=5) Z6.nd rfl (Or.inl rfl) (Zi X1 (qv 5) (Zr G_law_carries (hr.mono (by decide)) rfl T.d_law_carries.m T.d_law_carries.F.kp T.d_law_carries.b .nil ZK (Zj (qv 10) Ze))))
    (Zf (Zq (i:=11) Z6.nd rfl (Or.inl rfl) (Zi YJ (Zi YJ (ZH (Zj (qv 8) Ze)) (qv 9)) (qv 10))))) Zu)
    (Zb (Z8 (Zn Yb (Zi ZF (Zi Ya (Zz Zv (qv 7) Zd (fun _ _=>rfl)) Zd) Zd) Zd (Zx _))
    (Zf (Zq (i:=11) Z6.nd rfl (Or.inl rfl) (Zi YJ (ZH (Zj Zh Ze)) (qv 11)))) Zu)
    (Zf (ZY (Y3 Qai Qap Qaq Z9 (qv 4) (Zj (qv 11) Ze))))))))))))))
    (Zb (qr PassesOwn.never (Zn Zdv (Zm Zk (by rfl) T.z_len ZE (Zj (qv 4) Ze)) Zd (Zx _))
    (Zb (Zq (i:=8) Z6.nd rfl (Or.inl rfl) (Zz Zv (Ys (Zj Zh (Zj Zh (Zj Zh Ze)))) (Zi ZF (Zi ZX (Zi Ya (Zz Zv (qv 0) Zd (fun _ _=>rfl)) Zd) (Zm Zk (by rfl) T.z_len ZE (Zj (qv 4) Ze))) Zd) (fun _ _=>rfl)))
    (Zf (Z8 (Zn Yb (Zi ZF (Zi Ya (Zz Zv (qv 0) Zd (fun _ _=>rfl)) Zd) Zd) Zd (Zx _))
    (Zf (Zq (i:=4) Z6.nd rfl (Or.inl rfl) (Zi qL (Yf Xm (qv 4) YU (Yu (Wd XS Zd))) (Ys (Zj (Zi YJ (Zi YJ (ZH (Zj (qv 8) Ze)) (Zz Zv (qv 4) (Wd XS Zd) (fun _ _=>rfl))) (Zz Zv (qv 4) (Wd XS Zd) (fun _ _=>rfl))) Ze))))) (Zf (Zq (i:=4) Z6.nd rfl (Or.inl rfl) (Zi qL (Ys (Zj (Zi YJ (Zi YJ (ZH (Zj (qv 8) Ze)) (Zz Zv (qv 4) Zd (fun _ _=>rfl))) (Zz Zv (qv 4) Zd (fun _ _=>rfl))) Ze)) (Yf Xm (qv 4) (Yu Zd) YU))))))))
    (Zf (Zt (Zz Zv (qv 4) Zd (fun _ _=>rfl)))))))),?_⟩
  clear hu
  try dsimp only [L2.cxK,L2.cxK2]
  refine L2.let5 ?_
  intro U4 U3 U2 U1
  have hL:(2:Int) * (long:Int) + 1=((2 * long + 1:Nat):Int):=by lia
  have eM:((ns.map V.int).length:Int) / (2 * (long:Int) + 1)=(many:Int):=by
   rw [Qab,hL,hnl,Qdx]
   exact Int.mul_ediv_cancel _ (by lia)
  refine ⟨by show 0<=sizeLine;decide,fun so hso=>Zl ⟨_,rfl,Zl ?_⟩⟩
  have s0:=Zc (o:=.lst []) hso
  have sm2:Zal 2 (long:Int):=.inl ⟨by decide,by lia⟩
  refine ⟨_,rfl,pn,_,rfl,.inl (SqL.of (s0 _ _ hpn)),_,rfl,_,_,rfl,rfl,sm2,_,_,rfl,rfl,_,_,rfl,rfl,.of (by show (0:Int) < 2 * (long:Int) + 1;lia) (by show 2 * (long:Int) + 1 < _;lia),_,rfl,by rw [eM];lia,by rw [eM];lia,?_⟩
  rw [eM,Qat]
  refine YM (n:=many) (fun i σ H2=>∃(left:Nat) (u6 u7 u8 u9 u10 u11:Option V) (zs:List V) (pss:List (List V)),σ=[some (.ref pn),some (.ref tn),some (.int (long:Int)),some (.int (most:Int)),some (.ref so),some (.int (left:Int)),u6,u7,u8,u9,u10,u11]/\H2 so=some (.lst zs)/\Yr H2 zs pss/\(∀ps∈pss,Seg ys true ps)/\Y8 pss.flatten + left<=most + i/\pss.flatten.length<=4 * long * i/\pss.length=i/\ZG H H2) ⟨most,none,none,none,none,none,none,[],[],rfl,Za,Yr.nil,(fun _ h=>nomatch h),Qet (Qey _),Qbg _,rfl,s0⟩ ?_ ?_
  ·rintro i σ H2 hi hz_
   refine Z5 fun Gz hGz=>?_
   obtain ⟨left,u6,u7,u8,u9,u10,u11,zs,pss,rfl,h2,R2,G2,hrem,hfl,hpl,s2⟩:=hz_
   refine hGz ?_
   clear hGz Gz
   have hi:i < many:=hi
   have hiL:(2 * long + 1) * (i + 1)<=ns.length:=by
    rw [hnl,Nat.mul_comm many]
    exact Nat.mul_le_mul_left _ hi
   have hns39:ns.length<=39:=by
    rw [hnl]
    exact Qba (Qel hm3 (show 2 * long + 1<=13 by lia)) (by decide)
   have e1:(2 * (long:Int) + 1) * (0 + (i:Int))=(((2 * long + 1) * i:Nat):Int):=by
    rw [Qcm,hL,Qdx]
   have e2:(2 * (long:Int) + 1) * (0 + (i:Int) + 1)=(((2 * long + 1) * (i + 1):Nat):Int):=by
    rw [Qcm,hL,Qdx]
    rfl
   have hpn2:=s2 _ _ hpn
   refine ⟨_,rfl,_,rfl,_,_,rfl,rfl,sm2,_,_,rfl,rfl,_,rfl,_,_,rfl,rfl,.inl ⟨by lia,by lia⟩,_,rfl,_,rfl,_,_,rfl,rfl,sm2,_,_,rfl,rfl,_,rfl,_,_,rfl,rfl,_,_,rfl,rfl,.inl ⟨by lia,by lia⟩,_,rfl,pn,_,rfl,SqL.of hpn2,fun lx hlx=>Zl ?_⟩
   try dsimp only
   rw [e1,e2,X6,j8 _ _ _ (Qba (Nat.mul_le_mul_left _ (Qee i)) hiL)]
   have hbl:((ns.drop ((2 * long + 1) * i)).take ((2 * long + 1) * (i + 1) - (2 * long + 1) * i)).length=2 * long + 1:=by
    rw [Qar,Qbd,Nat.mul_add,Nat.mul_one]
    rw [Nat.mul_add,Nat.mul_one] at hiL
    lia
   have hbp:∀x∈(ns.drop ((2 * long + 1) * i)).take ((2 * long + 1) * (i + 1) - (2 * long + 1) * i),0<=x:=fun x hx=>hns x (Qb5 (Qcj hx))
   generalize (ns.drop ((2 * long + 1) * i)).take ((2 * long + 1) * (i + 1) - (2 * long + 1) * i)=bl at *
   have s3:=Zc (o:=.lst (bl.map V.int)) hlx
   have hlx3:(upd H2 lx (.lst (bl.map V.int))) lx=some (.lst (bl.map V.int)):=Za
   generalize upd H2 lx (.lst (bl.map V.int))=H3 at *
   obtain ⟨b0,hb0⟩:∃b0,bl[0]?=some b0:=⟨_,Qaa (by lia)⟩
   have hb00:=hbp b0 (Qam hb0)
   have at0:atI (bl.map V.int) ((0:Nat):Int)=some (.int b0):=Yl (by rw [Qao,hb0];rfl)
   obtain ⟨y,hy,ey⟩:=Je (ys:=["same","under","beneath","sign","nought","yes","under","beneath"]) (i:=b0 % 8) (Qa4 _ (by decide)) (Qay _ (by decide))
   obtain ⟨y1,y2,y3⟩:=uR y hy
   have yn:y∉ys:=fun z=>hyk y z (Xx y y1)
   refine ⟨by show 8<=sizeLine;decide,fun g hg=>⟨_,rfl,lx,_,0,_,rfl,rfl,SqL.of (Zc hg _ _ hlx3),at0,_,_,rfl,rfl,(by show (0:Int) < 8;decide),g,_,_,_,rfl,rfl,SqL.of Za,ey,Zl ?_⟩⟩
   have s4:=Zc (o:=.lst [.str "same",.str "under",.str "beneath",.str "sign",.str "nought",.str "yes",.str "under",.str "beneath"]) hg
   have e3:(long:Int) + 1=((long + 1:Nat):Int):=by lia
   refine ⟨_,rfl,1,rfl,_,rfl,_,_,rfl,rfl,_,rfl,lx,_,rfl,SqL.of (s4 _ _ hlx3),fun l1 hl1=>?_⟩
   try dsimp only
   have e4:kQ bl (some 1) (some ((long + 1:Nat):Int))=(bl.drop 1).take (long + 1 - 1):=j8 bl 1 (long + 1) (by lia)
   rw [e3,X6,e4]
   have s5:=Zc (o:=.lst (((bl.drop 1).take (long + 1 - 1)).map V.int)) hl1
   have n1:((bl.drop 1).take (long + 1 - 1)).length=long:=by
    rw [Qar,Qbd]
    lia
   have s25:=s2.trans (s3.trans (s4.trans s5))
   refine ⟨_,rfl,_,rfl,l1,tn,_,ys,left,rfl,Za,by lia,by lia,fun x hx=>hbp x (Qb5 (Qcj hx)),s25 _ _ htn,hy3,hyk,fun p1 w1 H6 hp1 hl1' hw1 he1 hs1 hr1 s6=>Zl ?_⟩
   have s26:=s25.trans s6
   have si:∀{ws:List V},(∀w∈ws,J5 ys 10 w)->∀w∈ws,(∃y,w=.str y)\/∃z,w=.int z:=fun h w hw=>by
    rcases h w hw with ⟨y,e,_⟩ | ⟨y,e,_⟩ | ⟨z,e,_⟩
    ·exact .inl ⟨y,e⟩
    ·exact .inl ⟨y,e⟩
    ·exact .inr ⟨z,e⟩
   refine ⟨_,rfl,_,rfl,p1,w1,rfl,.inr hp1,si hw1,by lia,fun H7 s7=>⟨_,_,rfl,rfl,Zl ?_⟩⟩
   rw [<-xk hyk hw1]
   have el1:(left:Int) - (Y8 w1:Int)=((left - Y8 w1:Nat):Int):=by lia
   try dsimp only
   rw [el1]
   have s36:=s4.trans (s5.trans (s6.trans s7))
   have s27:=s26.trans s7
   refine ⟨_,rfl,_,rfl,_,_,rfl,rfl,_,rfl,lx,_,rfl,SqL.of (s36 _ _ hlx3),fun l2 hl2=>?_⟩
   try dsimp only
   rw [e3,X6,JR]
   have s8:=Zc (o:=.lst ((bl.drop (long + 1)).map V.int)) hl2
   have n2:(bl.drop (long + 1)).length=long:=by
    rw [Qbd]
    lia
   refine ⟨_,rfl,_,rfl,l2,tn,_,ys,left - Y8 w1,rfl,Za,by lia,by lia,fun x hx=>hbp x (Qb5 hx),(s27.trans s8) _ _ htn,hy3,hyk,fun p2 w2 H9 hp2 hl2' hw2 he2 hs2 hr2 s9=>Zl ?_⟩
   have s79:=s7.trans (s8.trans s9)
   have hp1':=s79 _ _ hp1
   rw [n1] at hl1'
   rw [n2] at hl2'
   have h29:=((s3.trans s36).trans (s8.trans s9))
   refine ⟨_,rfl,by show 1<=sizeLine;decide,fun c0 hc0=>Zl ?_⟩
   have s10:=Zc (o:=.tup [.str y]) hc0
   refine Gx (fun σ H'=>∃(tc:Addr) (cw:List V),σ=[some (.ref pn),some (.ref tn),some (.int (long:Int)),some (.int (most:Int)),some (.ref so),some (.int ((left - Y8 w1:Nat):Int)),some (.int (0 + (i:Int))),some (.ref lx),some (.str y),some (.ref p1),some (.ref p2),some (.ref tc)]/\H' tc=some (.tup cw)/\cw=(if y∈(["sign","nought"]:List Str) then .str y::w1 else [.str y])/\ZG H9 H') (fun N hN=>?_) ?_
   ·refine ⟨_,rfl,by show 2<=sizeLine;decide,fun q hq=>⟨q,_,rfl,.inr (SqT.of Za),rfl,rfl,_,rfl,?_⟩⟩
    show if inV (.str y) ((["sign","nought"]:List Str).map V.str)=true then _ else _
    rw [Z2]
    have sq:=s10.trans (Zc (o:=.tup [.str "sign",.str "nought"]) hq)
    by_cases h:y∈(["sign","nought"]:List Str)
    ·rw [Qae h]
     exact YS ⟨_,rfl,by show 1<=sizeLine;decide,fun q1 hq1=>⟨_,rfl,q1,p1,_,_,rfl,rfl,Za,(sq.trans (Zc hq1)) _ _ hp1',Qaw (Zp (by show 1 + w1.length<=1000;lia)),fun q2 H' hq2 s'=>Zl (hN _ _ ⟨q2,_,rfl,hq2,(Qau h).symm,sq.trans ((Zc hq1).trans s')⟩)⟩⟩
    ·rw [Qad h]
     exact ZU (hN _ _ ⟨c0,_,rfl,Zc hq _ _ Za,(Qan h).symm,sq⟩)
   rintro σ H11 hz_
   refine Z5 fun Gz hGz=>?_
   obtain ⟨tc,cw,rfl,htc,ecw,s11⟩:=hz_
   refine hGz ?_
   clear hGz Gz
   refine Jc (fun σ H'=>∃(lf:Nat) (tc:Addr) (cw:List V),σ=[some (.ref pn),some (.ref tn),some (.int (long:Int)),some (.int (most:Int)),some (.ref so),some (.int (lf:Int)),some (.int (0 + (i:Int))),some (.ref lx),some (.str y),some (.ref p1),some (.ref p2),some (.ref tc)]/\H' tc=some (.tup cw)/\Seg ys true cw/\cw.length < 4 * long/\Y8 cw + lf<=left + 1/\ZG H9 H') (fun N hN=>?_) ?_
   ·refine ⟨_,rfl,by show 3<=sizeLine;decide,fun q hq=>⟨q,_,rfl,.inr (SqT.of Za),rfl,rfl,_,rfl,?_⟩⟩
    show if inV (.str y) ((["same","under","beneath"]:List Str).map V.str)=true then _ else _
    rw [Z2]
    have sq:=s11.trans (Zc (o:=.tup [.str "same",.str "under",.str "beneath"]) hq)
    rcases y3 with ⟨a1,a2,a3⟩ | ⟨a1,a2,a3⟩ | ⟨a1,a2,a3⟩
    ·rw [Qad a2]
     rw [Qau a1] at ecw
     subst ecw
     refine ZU (hN _ _ ⟨_,tc,_,rfl,Zc hq _ _ htc,Seg.rel1 y1 yn a3 y2 (Seg.sum hw1 he1 hs1),by show w1.length + 1 < _;lia,?_,sq⟩)
     have:=yK (.str y) w1
     lia
    ·rw [Qae a2]
     refine YS ⟨_,rfl,_,rfl,p2,w2,rfl,.inr (sq _ _ hp2),si hw2,by lia,fun H' s'=>⟨_,_,rfl,rfl,Zl ?_⟩⟩
     rw [<-xk hyk hw2]
     have el2:((left - Y8 w1:Nat):Int) - (Y8 w2:Int)=((left - Y8 w1 - Y8 w2:Nat):Int):=by lia
     try dsimp only
     rw [el2]
     have sq':=sq.trans s'
     refine ⟨_,rfl,by show 1<=sizeLine;decide,fun q1 hq1=>⟨_,rfl,q1,p1,_,_,rfl,rfl,Za,(sq'.trans (Zc hq1)) _ _ hp1',Qaw (Zp (by show 1 + w1.length<=1000;lia)),fun q2 H2' hq2 s2'=>?_⟩⟩
     have sq2:=sq'.trans ((Zc hq1).trans s2')
     refine ⟨_,rfl,q2,p2,_,_,rfl,rfl,hq2,sq2 _ _ hp2,Qaw (Zp (by rw [Qac];show 1 + w1.length + w2.length<=1000;lia)),fun q3 H3' hq3 s3'=>Zl (hN _ _ ⟨_,q3,_,rfl,hq3,Seg.rel2 y1 yn a3 y2 (Seg.sum hw1 he1 hs1) (Seg.sum hw2 he2 hs2),?_,?_,sq2.trans s3'⟩)⟩
     ·show (w1++w2).length + 1 < _
      rw [Qac]
      lia
     ·have h1:=yK (.str y) (w1++w2)
      rw [Xj] at h1
      show Y8 (.str y::(w1++w2)) + _<=_
      lia
    ·rw [Qad a2]
     rw [Qan a1] at ecw
     subst ecw
     refine ZU (hN _ _ ⟨_,tc,_,rfl,Zc hq _ _ htc,Seg.clm0 y1 yn a3 y2,by show 1 < _;lia,?_,sq⟩)
     have:Y8 [.str y]<=0 + 1:=yK (.str y) []
     lia
   clear htc ecw s11 tc cw H11
   rintro σ H11 hz_
   refine Z5 fun Gz hGz=>?_
   obtain ⟨lf,tc,cw,rfl,htc,hcs,hcl,hcr,s11⟩:=hz_
   refine hGz ?_
   clear hGz Gz
   refine Jc (fun σ H'=>∃(lf:Nat) (tc:Addr) (cw:List V),σ=[some (.ref pn),some (.ref tn),some (.int (long:Int)),some (.int (most:Int)),some (.ref so),some (.int (lf:Int)),some (.int (0 + (i:Int))),some (.ref lx),some (.str y),some (.ref p1),some (.ref p2),some (.ref tc)]/\H' tc=some (.tup cw)/\Seg ys true cw/\cw.length<=4 * long/\Y8 cw + lf<=left + 1/\ZG H9 H') (fun N hN=>?_) ?_
   ·refine ⟨_,rfl,lx,_,0,_,rfl,rfl,SqL.of ((s36.trans ((s8.trans s9).trans s11)) _ _ hlx3),at0,_,_,rfl,rfl,.of (by decide) (by decide),_,_,rfl,rfl,(by show (0:Int) < 3;decide),rfl,_,rfl,Gj (fun _=>?_) (fun _=>?_)⟩
    ·exact ⟨by show 1<=sizeLine;decide,fun q1 hq1=>⟨_,rfl,q1,tc,_,_,rfl,rfl,Za,Zc hq1 _ _ htc,Qaw (Zp (by show 1 + cw.length<=1000;lia)),fun q2 H' hq2 s'=>Zl (hN _ _ ⟨lf,q2,_,rfl,hq2,Seg.clm1 XE.1 (fun z=>hyk _ z (Xx _ XE.1)) XE.2.2.1 XE.2.2.2 hcs,by show cw.length + 1<=_;lia,by show Y8 (.str "never" :: cw) + lf<=_;rw [WQ XE.2.1];exact hcr,s11.trans ((Zc hq1).trans s')⟩)⟩⟩
    ·exact hN _ _ ⟨lf,tc,cw,rfl,htc,hcs,by lia,hcr,s11⟩
   clear htc hcs hcl hcr s11 tc cw lf H11
   rintro σ H11 hz_
   refine Z5 fun Gz hGz=>?_
   obtain ⟨lf,tc,cw,rfl,htc,hcs,hcl,hcr,s11⟩:=hz_
   refine hGz ?_
   clear hGz Gz
   have s211:=(h29.trans s11)
   have h11:=s211 _ _ h2
   have R11:=R2.same s211
   have hzl:=R2.1
   refine ⟨_,rfl,.inl ⟨rfl,_,SqL.of h11⟩,_,rfl,so,_,_,rfl,rfl,h11,Zp (by lia),⟨lf,_,_,_,_,_,_,zs++[.ref tc],pss++[cw],rfl,Za,?_,?_,?_,?_,?_,ZI (s2.trans s211) hso⟩⟩
   ·exact (Jf (fun b xs e=>by rw [Zo (XG e h11 fun z=>nomatch z)];exact e) R11).snoc (by rw [Zo (XG htc h11 fun z=>nomatch z)];exact htc)
   ·intro ps hps
    rcases Qa6.mp hps with hps | hps
    ·exact G2 ps hps
    ·rw [Qav.mp hps]
     exact hcs
   ·rw [Qbq,Xj,Qbj,Qc0,Qbc]
    lia
   ·rw [Qbq,Qac,Qbj,Qc0,Qbc,Nat.mul_add,Nat.mul_one]
    lia
   ·rw [Qac,hpl]
    rfl
  rintro σ H2 hz_
  refine Z5 fun Gz hGz=>?_
  obtain ⟨left,u6,u7,u8,u9,u10,u11,zs,pss,rfl,h2,R2,G2,hrem,hfl,hpl,s2⟩:=hz_
  refine hGz ?_
  clear hGz Gz
  have eC:(4 * long + 1) * many=4 * long * many + many:=by rw [Nat.add_mul,Nat.one_mul]
  have cC:(4 * long + 1) * many<=75:=Qba (Qel (show 4 * long + 1<=25 by lia) hm3) (by decide)
  have hn1:1<=ns.length:=by
   rw [hnl]
   exact Nat.mul_pos (by lia) (by lia)
  obtain ⟨n0,hn0⟩:∃n0,ns[0]?=some n0:=⟨_,Qaa (by lia)⟩
  have at0:atI (ns.map V.int) ((0:Nat):Int)=some (.int n0):=Yl (by rw [Qao,hn0];rfl)
  refine zG (fun σ H2=>∃(so:Addr) (u8:Option V) (zs:List V) (pss:List (List V)),σ=[some (.ref pn),some (.ref tn),some (.int (long:Int)),some (.int (most:Int)),some (.ref so),some (.int (left:Int)),u6,u7,u8,u9,u10,u11]/\H2 so=some (.lst zs)/\Yr H2 zs pss/\(∀ps∈pss,Seg ys true ps)/\Y8 pss.flatten<=most + many/\pss.flatten.length + pss.length<=(4 * long + 1) * many/\1<=pss.length/\ZG H H2) (fun σ H=>match σ with | [_,_,_,_,some (.ref so),_,_,_,_,_,_,_]=>(match H so with | some (.lst zs)=>zs.length | _=>0) | _=>0) ⟨so,u8,zs,pss,rfl,h2,R2,G2,by lia,by lia,by lia,s2⟩ ?_
  clear h2 R2 G2 hrem hfl hpl s2 hso s0 so zs pss u8 H2
  rintro σ H2 hz_
  refine Z5 fun Gz hGz=>?_
  obtain ⟨so,u8,zs,pss,rfl,h2,R2,G2,hrem,hfl,hp1,s2⟩:=hz_
  refine hGz ?_
  clear hGz Gz
  have hzl:=R2.1
  refine ⟨_,rfl,so,_,rfl,.inl (SqL.of h2),_,_,rfl,rfl,_,rfl,Gj (fun hgt=>?_) (fun hng=>?_)⟩
  ·have hz2:2<=zs.length:=by
    have:=Qa9 hgt
    lia
   refine ⟨fun σ' H'=>∃(so:Addr) (u8:Option V) (zs':List V) (pss':List (List V)),σ'=[some (.ref pn),some (.ref tn),some (.int (long:Int)),some (.int (most:Int)),some (.ref so),some (.int (left:Int)),u6,u7,u8,u9,u10,u11]/\H' so=some (.lst zs')/\Yr H' zs' pss'/\(∀ps∈pss',Seg ys true ps)/\Y8 pss'.flatten<=most + many/\pss'.flatten.length + pss'.length<=(4 * long + 1) * many/\1<=pss'.length/\zs'.length < zs.length/\ZG H H',?_,?_⟩
   ·rintro σ' H' hz_
    refine Z5 fun Gz hGz=>?_
    obtain ⟨so',u8',zs',pss',rfl,g1,g2,g3,g4,g5,g6,g7,g8⟩:=hz_
    refine hGz ?_
    clear hGz Gz
    refine ⟨zs'.length,?_,?_,so',u8',zs',pss',rfl,g1,g2,g3,g4,g5,g6,g8⟩
    ·show zs'.length < (match H2 so with | some (.lst zs)=>zs.length | _=>0)
     rw [h2]
     exact g7
    ·show _=(match H' so' with | some (.lst zs)=>zs.length | _=>0)
     rw [g1]
   ·have pl:pss.length=zs.length:=hzl.symm
    obtain ⟨y,hy,ey⟩:=Je (ys:=["both","either","so"]) (i:=(n0 / 24 + (zs.length:Int)) % 3) (Qa4 _ (by decide)) (Qay _ (by decide))
    obtain ⟨y1,y2,y3,y4⟩:=xn y hy
    have yn:y∉ys:=fun z=>hyk y z (Xx y y1)
    refine ⟨by show 3<=sizeLine;decide,fun g hg=>?_⟩
    have s3:=Zc (o:=.lst [.str "both",.str "either",.str "so"]) hg
    have hpn3:=(s2.trans s3) _ _ hpn
    refine ⟨_,rfl,pn,_,0,_,rfl,rfl,SqL.of hpn3,at0,_,_,rfl,rfl,.of (by decide) (by decide),_,rfl,so,_,rfl,.inl (SqL.of (s3 _ _ h2)),_,_,rfl,rfl,_,_,rfl,rfl,(by show (0:Int) < 3;decide),g,_,_,_,rfl,rfl,SqL.of Za,ey,Zl ?_⟩
    refine ⟨_,rfl,pn,_,0,_,rfl,rfl,SqL.of hpn3,at0,_,_,rfl,rfl,.of (by decide) (by decide),_,_,rfl,rfl,(by show (0:Int) < 2;decide),rfl,_,rfl,Gj (fun _=>?_) (fun _=>?_)⟩
    ·obtain ⟨a,ha1,ha⟩:=R2.2 (zs.length - 2) _ (Qaa (by lia))
     obtain ⟨b,hb1,hb⟩:=R2.2 (zs.length - 1) _ (Qaa (by lia))
     have at2:=qC (n:=2) ha1 (by lia) (by decide)
     have at1:=qC (n:=1) hb1 (by lia) (by decide)
     have ecut:J1 zs none (some (-2))=zs.take (zs.length - 2):=jO (xs:=zs) (n:=2) hz2 (by decide)
     have ga:=G2 _ (Qbz (show zs.length - 2 < pss.length by lia))
     have gb:=G2 _ (Qbz (show zs.length - 1 < pss.length by lia))
     have e2:pss.drop (zs.length - 2)=[pss[zs.length - 2]'(by lia),pss[zs.length - 1]'(by lia)]:=by
      rw [Qbu (by lia),Qbu (by lia),List.drop_of_length_le (by lia)]
      congr 2
      congr 1
      lia
     generalize pss[zs.length - 2]'(by lia)=pa at *
     generalize pss[zs.length - 1]'(by lia)=pb at *
     have hpab:pa.length + pb.length<=pss.flatten.length:=by
      have e3:pss.flatten=(pss.take (zs.length - 2)).flatten++(pss.drop (zs.length - 2)).flatten:=by rw [<-Qbq,Qbo]
      rw [e3,e2,Qac]
      show _<=_ + (pa++(pb++[])).length
      rw [Qbc,Qac]
      lia
     refine ⟨_,rfl,_,rfl,_,rfl,so,_,rfl,SqL.of (s3 _ _ h2),fun l1 hl1=>⟨_,rfl,by show 1<=sizeLine;decide,fun q1 hq1=>?_⟩⟩
     have s4:=s3.trans (Zc (o:=.lst (J1 zs none (some (-2)))) hl1)
     have s5:=s4.trans (Zc (o:=.tup [.str y]) hq1)
     refine ⟨_,rfl,_,rfl,so,_,-2,.ref a,rfl,rfl,SqL.of (s5 _ _ h2),at2,q1,a,_,_,rfl,rfl,Za,s5 _ _ ha,Qaw (Zp (by show 1 + _<=_;lia)),fun q2 H6 hq2 s6=>?_⟩
     have s26:=s5.trans s6
     refine ⟨_,rfl,_,rfl,so,_,-1,.ref b,rfl,rfl,SqL.of (s26 _ _ h2),at1,q2,b,_,_,rfl,rfl,hq2,s26 _ _ hb,?_,fun q3 H7 hq3 s7=>⟨by show 1<=sizeLine;decide,fun l3 hl3=>⟨l1,l3,J1 zs none (some (-2)),[.ref q3],rfl,rfl,?_,Za,?_,fun l4 hl4=>?_⟩⟩⟩
     ·exact Qaw (Zp (by rw [Qac];show 1 + _ + _<=_;lia))
     ·exact ((Zc hq1).trans (s6.trans (s7.trans (Zc hl3)))) _ _ Za
     ·rw [ecut,Qar]
      exact Qaw (Zp (by show _ + 1<=_;lia))
     have s8:=s26.trans (s7.trans (Zc (o:=.lst [.ref q3]) hl3))
     have s9:=s8.trans (Zc (o:=.lst (J1 zs none (some (-2))++[.ref q3])) hl4)
     obtain ⟨f1,f2⟩:=xj pss (.str y) (zs.length - 2)
     rw [e2] at f1 f2
     have efl:[pa,pb].flatten=pa++pb:=by simp
     rw [efl] at f1 f2
     have hq3':H7 q3=some (.tup (.str y::(pa++pb))):=by rw [hq3];rfl
     refine Zl ⟨l4,_,zs.take (zs.length - 2)++[.ref q3],pss.take (zs.length - 2)++[.str y::(pa++pb)],rfl,?_,?_,?_,?_,?_,?_,?_,s2.trans s9⟩
     ·rw [Za,ecut]
     ·exact ((R2.same s9).take _).snoc (((Zc hl3).trans (Zc hl4)) _ _ hq3')
     ·intro ps hps
      rcases Qa6.mp hps with hps | hps
      ·exact G2 ps (Qcj hps)
      ·rw [Qav.mp hps]
       exact Seg.clm2 y1 yn y3 y4 ga gb
     ·rw [f2,Z2,Qan (fun z=>y2 (Qa9 z))]
      exact hrem
     ·rw [f1,Qac,Qar]
      show _ + 1 + (_ + 1)<=_
      lia
     ·rw [Qac]
      show 1<=_ + 1
      lia
     ·rw [Qac,Qar]
      show _ + 1 < _
      lia
    ·match zs,pss,hzl,hz2,R2,G2,hrem,hfl,hp1,h2 with
     | z1::z2::zr,pa::pb::pr,hzl,hz2,R2,G2,hrem,hfl,hp1,h2 =>
      obtain ⟨a,ha1,ha⟩:=R2.2 0 pa rfl
      obtain ⟨b,hb1,hb⟩:=R2.2 1 pb rfl
      cases ha1
      cases hb1
      have ga:=G2 pa Qaf
      have gb:=G2 pb (Qag _ Qaf)
      have ecut:J1 (V.ref a::V.ref b::zr) (some 2) none=zr:=by
       have:=JR (V.ref a::V.ref b::zr) 2
       exact this
      have efl:(pa::pb::pr).flatten.length=pa.length + pb.length + pr.flatten.length:=by
       rw [Qbj,Qbj,Qac,Qac]
       lia
      have elr:(pa::pb::pr).length=pr.length + 2:=rfl
      have elz:(V.ref a::V.ref b::zr).length=zr.length + 2:=rfl
      rw [elz,elr] at hzl
      rw [efl,elr] at hfl
      refine ⟨_,rfl,by show 1<=sizeLine;decide,fun q1 hq1=>?_⟩
      have s5:=s3.trans (Zc (o:=.tup [.str y]) hq1)
      refine ⟨_,rfl,so,_,((0:Nat):Int),.ref a,rfl,rfl,SqL.of (s5 _ _ h2),Yl rfl,q1,a,_,_,rfl,rfl,Za,s5 _ _ ha,Qaw (Zp (by show 1 + _<=_;lia)),fun q2 H6 hq2 s6=>?_⟩
      have s26:=s5.trans s6
      refine ⟨_,rfl,so,_,((1:Nat):Int),.ref b,rfl,rfl,SqL.of (s26 _ _ h2),Yl rfl,q2,b,_,_,rfl,rfl,hq2,s26 _ _ hb,?_,fun q3 H7 hq3 s7=>⟨by show 1<=sizeLine;decide,fun l3 hl3=>?_⟩⟩
      ·exact Qaw (Zp (by rw [Qac];show 1 + _ + _<=_;lia))
      have s8:=s26.trans (s7.trans (Zc (o:=.lst [.ref q3]) hl3))
      refine ⟨_,rfl,2,rfl,so,_,rfl,SqL.of (s8 _ _ h2),fun l1 hl1=>?_⟩
      rw [ecut]
      have s9:=s8.trans (Zc (o:=.lst zr) hl1)
      refine ⟨l3,l1,[.ref q3],zr,rfl,rfl,Zc hl1 _ _ Za,Za,Qaw (Zp (by show 1 + zr.length<=1000;lia)),fun l4 hl4=>?_⟩
      have s10:=s9.trans (Zc (o:=.lst ([.ref q3]++zr)) hl4)
      have hq3':H7 q3=some (.tup (.str y::(pa++pb))):=by rw [hq3];rfl
      refine Zl ⟨l4,_,.ref q3::zr,(.str y::(pa++pb))::pr,rfl,Za,?_,?_,?_,?_,?_,?_,s2.trans s10⟩
      ·exact Yr.cons (((Zc hl3).trans ((Zc hl1).trans (Zc hl4))) _ _ hq3') ((R2.same s10).drop 2)
      ·intro ps hps
       rcases Qak.mp hps with rfl | hps
       ·exact Seg.clm2 y1 yn y3 y4 ga gb
       ·exact G2 ps (Qag _ (Qag _ hps))
      ·rw [Qbj,Xj,WQ y2,Xj]
       rw [Qbj,Qbj,Xj,Xj] at hrem
       lia
      ·rw [Qbj,Qac,Qaz,Qac,Qaz]
       lia
      ·show 1<=pr.length + 1
       lia
      ·show zr.length + 1 < zr.length + 2
       lia
  ·have hz1:zs.length=1:=by
    have:¬((1:Int) < (zs.length:Int)):=fun z=>hng (Qae z)
    lia
   match zs,pss,hz1,hzl,R2,G2,hrem,hfl,h2 with
   | [z],[ps],_,_,R2,G2,hrem,hfl,h2 =>
    refine Z5 fun Gz hGz=>?_
    obtain ⟨a,r,rfl,hr,ha⟩:=R2.at (i:=0) rfl
    refine hGz ?_
    clear hGz Gz
    cases hr
    rw [Qbj,Qc0,Qbc] at hrem hfl
    exact ⟨_,rfl,so,_,0,_,rfl,rfl,SqL.of h2,rfl,k a ps H2 ha (G2 ps Qaf) (by have:([ps]:List (List V)).length=1:=rfl;lia) hrem s2⟩
inductive Jy(vs:List V)(H:Hp)(Q:VK):Prop
 | mk (tw dv:Addr) (W:Nat) (ys:List Str) (ws:List V) (kvs:List (Key × V)) (ρ:Str->Int) (b:Bool):(vs=[.ref tw,.int (W:Int),.ref dv])->(1<=W)->(W<=64)->(H tw=some (.tup ws))->(ws.length<=100)->(H dv=some (.dK kvs))->(km kvs ys ρ)->((∀y∈ys,0<=ρ y/\ρ y < 2 ^ W))->((∀y∈ys,y∉YL))->(TyR ys ws [true])->(JS (2 ^ W) ρ ws []=[.bl b])->(∀H',ZG H H'->Q (.bl b) H')->Jy vs H Q
noncomputable def Ja(K:PySem.W.Frag):Sp:=fun vs H Q _=>Jy vs H Q
theorem yc (T:Txt K w mg t) (TB:Tbs mg base t):ZO P w K mg base CX0 3 t.a_law_holds t.f_law_holds ["claim","width","values"] (Ja K):=by
 have G_law_one:ZO P w K mg base CX0 1 t.a_law_one t.f_law_one ["word","one"] (zo K):=kJ T TB
 have G_law_one_holds:ZO P w K mg base CX0 1 t.a_law_one_holds t.f_law_one_holds ["word","one","width"] (WC K):=qk T TB
 have G_law_two:ZO P w K mg base CX0 1 t.a_law_two t.f_law_two ["word","one","other"] (zp K):=kK T TB
 have G_law_two_hold:ZO P w K mg base CX0 2 t.a_law_two_hold t.f_law_two_hold ["word","one","other","width"] (WZ K):=x4 T TB
 refine T.d_law_holds.F.ok Xb (fun vs H Q E h=>?_) (fun cdv A outer s H vs Q E hr h=>?_)
 ·obtain ⟨tw,dv,W,ys,ws,kvs,ρ,b,rfl,hW1,hW,ht,hl,hd,hc,hρ,hyk,hty,hrun,k⟩:=h
  rfl
 ·obtain ⟨tw,dv,W,ys,ws,kvs,ρ,b,rfl,hW1,hW,ht,hl,hd,hc,hρ,hyk,hty,hrun,k⟩:=h
  have hu:=Yj hr
  refine ⟨_,@QSs.out _ _ _ (Zb (Zq (i:=3) Xb.nd rfl (Or.inl rfl) (Zi GD Zd (qv 1)))
    (Zb (Zq (i:=4) Xb.nd rfl (Or.inl rfl) (Ys Ze))
    (Zb (YN PassesOwn.never rfl (GH (qe_rev rv_tup (qv 0) (Wd XS Zd))) (Yc (i:=5) Xb.nd rfl (Or.inl rfl))
    (Zf (Z8 (X2 (Zm Xy (by rfl) T.z_isinstance ZN (Zj (qv 5) (Zj (Wc (v:=.ty "int") (by rfl) T.z_int jo rfl) Ze))))
    (Zf (ZY (Y3 Qai Qap Qaq Z9 (qv 4) (Zj (Zi ZF (qv 5) (qv 3)) Ze)))) (Zf (Z8 (Zn (xZ hu) (qv 5) (qv 2) (by with_unfolding_all rfl))
    (Zf (ZY (Y3 Qai Qap Qaq Z9 (qv 4) (Zj (zB hu (qv 2) (qv 5) (fun _ _=>rfl)) Ze)))) (Zf (Z8 (Zn Yb (qv 5) Zh (Zx _))
    (Zf (ZY (Y3 Qai Qap Qaq Z9 (qv 4) (Zj WK Ze)))) (Zf (Z8 (Zn ZT (qv 5) (ZH (Zj Zh (Zj Zh (Zj Zh (Zj Zh Ze))))) (by with_unfolding_all rfl))
    (Zf (ZY (Y3 Qai Qap Qaq Z9 (qv 4) (Zj (Zi ZF (Zr G_law_one (hr.mono (by decide)) rfl T.d_law_one.m T.d_law_one.F.kp T.d_law_one.b .nil ZK (Zj (qv 5) (Zj (GI Qai Qcf Qcg qK (qv 4)) Ze))) (qv 3)) Ze)))) (Zf (Z8 (Zn ZT (qv 5) (ZH (Zj Zh (Zj Zh (Zj Zh Ze)))) (by with_unfolding_all rfl))
    (Zf (ZY (Y3 Qai Qap Qaq Z9 (qv 4) (Zj (Zr G_law_one_holds (hr.mono (by decide)) rfl T.d_law_one_holds.m T.d_law_one_holds.F.kp T.d_law_one_holds.b .nil ZK (Zj (qv 5) (Zj (GI Qai Qcf Qcg qK (qv 4)) (Zj (qv 1) Ze)))) Ze)))) (Zb (Zq (i:=6) Xb.nd rfl (Or.inl rfl) (GI Qai Qcf Qcg qK (qv 4)))
    (Zb (Zq (i:=7) Xb.nd rfl (Or.inl rfl) (GI Qai Qcf Qcg qK (qv 4)))
    (Zf (Z8 (Zn Yb (qv 5) Zh (Zx _))
    (Zf (ZY (Y3 Qai Qap Qaq Z9 (qv 4) (Zj (Zi x8 (Zi Xl (qv 6) (qv 7)) (Zi Xl (Zi X1 (Zi X1 (qv 3) Zd) (qv 6)) (GI Qai Qcf Qcg qK (qv 4)))) Ze)))) (Zf (Z8 (Zn ZT (qv 5) (ZH (Zj Zh (Zj Zh (Zj Zh (Zj Zh (Zj Zh Ze)))))) (by with_unfolding_all rfl))
    (Zf (ZY (Y3 Qai Qap Qaq Z9 (qv 4) (Zj (Zi ZF (Zr G_law_two (hr.mono (by decide)) rfl T.d_law_two.m T.d_law_two.F.kp T.d_law_two.b .nil ZK (Zj (qv 5) (Zj (qv 6) (Zj (qv 7) Ze)))) (qv 3)) Ze)))) (Zf (ZY (Y3 Qai Qap Qaq Z9 (qv 4) (Zj (Zr G_law_two_hold (hr.mono (by decide)) rfl T.d_law_two_hold.m T.d_law_two_hold.F.kp T.d_law_two_hold.b .nil ZK (Zj (qv 5) (Zj (qv 6) (Zj (qv 7) (Zj (qv 1) Ze))))) Ze)))))))))))))))))))))
    (Zf (Zt (Zz Zv (qv 4) Zd (fun _ _=>rfl))))))),?_⟩
  clear hu hr
  try dsimp only [L2.cxK,L2.cxK2]
  refine L2.let4 ?_
  intro U3 U2 U1
  refine ⟨_,rfl,_,_,rfl,rfl,⟨Qbl _,by lia,by decide⟩,?_⟩
  try dsimp only
  rw [Qer,Qat]
  refine Zl ⟨by show 0<=sizeLine;decide,fun st hst0=>Zl ?_⟩
  have s1:=Zc (o:=.lst []) hst0
  have hp:=JQ W
  refine ⟨_,rfl,1,rfl,rfl,tw,_,rfl,SqT.of (s1 _ _ ht),fun tr htr=>⟨_,rfl,⟨_,SqT.of Za⟩,?_⟩⟩
  have s2:=s1.trans (Zc (o:=.tup ws.reverse) htr)
  have htr2:upd (upd H st (.lst [])) tr (.tup ws.reverse) tr=some (.tup ws.reverse):=Za
  have hst2:upd (upd H st (.lst [])) tr (.tup ws.reverse) st=some (.lst []):=Zc htr _ _ Za
  have hne:tr≠st:=fun z=>by rw [z,Za] at htr;cases htr
  generalize upd (upd H st (.lst [])) tr (.tup ws.reverse)=H0 at *
  refine zy (K:=K) (a:=tr) (xs:=ws.reverse) (fun i σ H2=>∃u5 u6 u7,σ=[some (.ref tw),some (.int (W:Int)),some (.ref dv),some (.int (2 ^ W)),some (.ref st),u5,u6,u7]/\i<=ws.length/\H2 st=some (.lst (JS (2 ^ W) ρ (ws.drop (ws.length - i)) []).reverse)/\H2 tr=some (.tup ws.reverse)/\ZG H H2) ⟨none,none,none,rfl,Qbg _,?_,htr2,s2⟩ (fun i σ H2 _ ⟨_,_,_,_,_,_,e,_⟩=>SqT.of e) ?_ ?_
  ·rw [Qd4,Qd7]
   exact hst2
  ·rintro i x σ H2 hx hz_
   refine Z5 fun Gz hGz=>?_
   obtain ⟨u5,u6,u7,rfl,hi0,h2s,h2t,s3⟩:=hz_
   refine hGz ?_
   clear hGz Gz
   obtain ⟨hi,hx⟩:=Zc1 hx
   have ed:ws.drop (ws.length - (i + 1))=x::ws.drop (ws.length - i):=by
    rw [show ws.length - (i + 1)=ws.length - 1 - i by lia,Qbu (by lia),show ws.length - 1 - i + 1=ws.length - i by lia]
    congr 1
    exact (Qah.mp hx).2
   obtain ⟨ks,hk⟩:=hty.drop (ws.length - (i + 1))
   rw [ed] at hk ⊢
   have hle:(ws.drop (ws.length - i)).length<=100:=by rw [Qbd];lia
   generalize ws.drop (ws.length - i)=r at *
   rw [JT]
   have hsk:(JS (2 ^ W) ρ r []).length<=100:=by
    rw [vL]
    exact Qba (yD r) hle
   have fin:∀(v:V) (Hx:Hp) (l:List V),l.length<=100->Hx st=some (.lst l.reverse)->Hx tr=some (.tup ws.reverse)->ZG H Hx->l.reverse.length < sizeLine/\upd Hx st (.lst (l.reverse++[v])) st=some (.lst (v::l).reverse)/\upd Hx st (.lst (l.reverse++[v])) tr=some (.tup ws.reverse)/\ZG H (upd Hx st (.lst (l.reverse++[v]))):=fun v Hx l hl' e1 e2 sx=>by
    refine ⟨?_,by rw [Za,Qce],by rw [Zo hne];exact e2,ZI sx hst0⟩
    rw [Qb2]
    exact Zp (by lia)
   have two:(∃(is:List Int) (l:List V),J5 ys 10 x/\JS (2 ^ W) ρ r []=is.map V.int++l/\is.length=npw x/\(∀z∈is,0<=z/\z < 2 ^ W)/\cvV (2 ^ W) ρ x ((JS (2 ^ W) ρ r []).take (npw x))::(JS (2 ^ W) ρ r []).drop (npw x)=.int (wwv ρ x is % 2 ^ W)::l)\/(∃(y:Str) (vs l:List V) (b:Bool),x=.str y/\y∈Z4/\y∉ys/\JS (2 ^ W) ρ r []=vs++l/\cvV (2 ^ W) ρ x ((JS (2 ^ W) ρ r []).take (npw x))::(JS (2 ^ W) ρ r []).drop (npw x)=.bl b::l/\Zfs W y vs b):=by
    rcases part_of hW1 hyk ρ hk with h | ⟨y,is,l,ex,hy,hn,hs,e1,e2,e3,e4⟩ | ⟨y,bs,l,ex,hy,hn,hs,e1,e2,e4⟩
    ·exact .inl h
    ·exact .inr ⟨y,_,l,_,ex,hy,hn,e1,e4,condS hy hs e2 e3⟩
    ·exact .inr ⟨y,_,l,_,ex,hy,hn,e1,e4,condB hy hs e2⟩
   rcases two with ⟨is,l,hw,e1,e2,e3,e4⟩ | ⟨y,vs,l,b',rfl,hy,hn,e1,e4,cond⟩
   ·rw [e4]
    rw [e1] at h2s hsk
    rcases hw with ⟨y,rfl,hy,hny,hnp⟩ | ⟨y,rfl,hy,hnr,hnp⟩ | ⟨z,rfl,z0,z1,hnp⟩
    ·have hyes:y ≠ "yes" := fun z=>JY y hy (by rw [z];decide +kernel)
     refine ⟨_,rfl,_,_,_,_,rfl,.str y,Xn,_,rfl,ZU ⟨_,rfl,_,rfl,dv,YW kvs (.inr y),rfl,.inl ⟨kvs,.inr y,.inl (s3 _ _ hd),rfl,rfl⟩,_,rfl,?_⟩⟩
     show if (YW kvs (.inr y)).isSome=true then _ else _
     rw [hc.2 y hny]
     refine ZU ⟨_,rfl,rfl,_,rfl,?_⟩
     rw [Qad fun z=>hyes (by injection z)]
     refine ZU ⟨_,rfl,by show 4<=sizeLine;decide,fun q hq=>⟨q,_,rfl,.inr (SqT.of Za),rfl,rfl,_,rfl,?_⟩⟩
     show if inV (.str y) ((["not","neg","twice","low"]:List Str).map V.str)=true then _ else _
     rw [Z2]
     have s4:=Zc (o:=.tup [.str "not",.str "neg",.str "twice",.str "low"]) hq
     have h3s:=s4 _ _ h2s
     have h3t:=s4 _ _ h2t
     have s5:=s3.trans s4
     generalize upd H2 q (.tup [.str "not",.str "neg",.str "twice",.str "low"])=H3 at *
     by_cases h1:y∈(["not","neg","twice","low"]:List Str)
     ·rw [Qae h1]
      have hp1:Yq y=1:=(by decide +kernel:∀y∈(["not","neg","twice","low"]:List Str),Yq y=1) y h1
      rw [hp1] at hnp
      rw [hnp] at e2
      match is,e2 with
      | [a],_ =>
       have hpop:=Zfr h3s
       refine YS ⟨_,rfl,.inl ⟨rfl,_,SqL.of h3s⟩,_,rfl,_,rfl,.inl ⟨rfl,_,SqL.of hpop⟩,st,_,_,rfl,rfl,hpop,Xz _ _,y,a,rfl,_,rfl,_,_,rfl,rfl,hp,?_⟩
       rw [Qb6]
       obtain ⟨f1,f2,f3,f4⟩:=fin (.int (Zg8 y a % 2 ^ W)) (upd H3 st (.lst l.reverse)) l (by simp only [Qa1,Qdq,Qcz,Qc6,Qaz] at hsk;lia) Za (by rw [Zo hne];exact h3t) (ZI s5 hst0)
       exact ⟨st,_,_,rfl,rfl,Za,f1,_,_,_,rfl,hi,f2,f3,f4⟩
     ·rw [Qad h1]
      refine ZU ⟨_,rfl,by show 3<=sizeLine;decide,fun q2 hq2=>⟨q2,_,rfl,.inr (SqT.of Za),rfl,rfl,_,rfl,?_⟩⟩
      show if inV (.str y) ((["sign","nought","never"]:List Str).map V.str)=true then _ else _
      rw [Z2,Qad ((by decide +kernel:∀y∈Gy,y∉(["sign","nought","never"]:List Str)) y hy)]
      have s4':=Zc (o:=.tup [.str "sign",.str "nought",.str "never"]) hq2
      have h3s:=s4' _ _ h3s
      have h3t:=s4' _ _ h3t
      have s5:=s5.trans s4'
      generalize upd H3 q2 (.tup [.str "sign",.str "nought",.str "never"])=H3 at *
      have h23:(Yq y=2/\y ≠ "pick" /\ y∈(["and","or","odd","add","sub"]:List Str))\/(y = "pick" /\ Yq y=3):=(by decide +kernel:∀y∈Gy,y∉(["not","neg","twice","low"]:List Str)->(Yq y=2/\y ≠ "pick" /\ y∈(["and","or","odd","add","sub"]:List Str))\/(y = "pick" /\ Yq y=3)) y hy h1
      obtain ⟨a,b,js,rfl⟩:∃a b js,is=a::b::js:=by
       have h2:2<=is.length:=by
        rcases h23 with h | h
        ·lia
        ·lia
       match is,h2 with
       | a::b::js,_=>exact ⟨a,b,js,rfl⟩
      have hpa:=Zfr h3s
      refine ZU ⟨_,rfl,.inl ⟨rfl,_,SqL.of hpa⟩,st,_,_,rfl,rfl,hpa,Xz _ _,Zl ?_⟩
      rw [Qb6]
      have s6:=ZI (o:=.lst ((V.int b::(js.map V.int++l)).reverse)) s5 hst0
      have h4s:upd H3 st (.lst ((V.int b::(js.map V.int++l)).reverse)) st=some (.lst ((V.int b::(js.map V.int++l)).reverse)):=Za
      have h4t:upd H3 st (.lst ((V.int b::(js.map V.int++l)).reverse)) tr=some (.tup ws.reverse):=by rw [Zo hne];exact h3t
      show YV _ _ _ _ (upd H3 st (.lst ((V.int b::(js.map V.int++l)).reverse)))
      generalize upd H3 st (.lst ((V.int b::(js.map V.int++l)).reverse))=H4 at *
      have hpb:=Zfr h4s
      refine ⟨_,rfl,.inl ⟨rfl,_,SqL.of hpb⟩,st,_,_,rfl,rfl,hpb,Xz _ _,Zl ?_⟩
      rw [Qb6]
      have s7:=ZI (o:=.lst (js.map V.int++l).reverse) s6 hst0
      have h5s:upd H4 st (.lst (js.map V.int++l).reverse) st=some (.lst (js.map V.int++l).reverse):=Za
      have h5t:upd H4 st (.lst (js.map V.int++l).reverse) tr=some (.tup ws.reverse):=by rw [Zo hne];exact h4t
      generalize upd H4 st (.lst (js.map V.int++l).reverse)=H5 at *
      have hll:l.length<=100:=by
       simp only [Qac,Qab,Qaz] at hsk
       lia
      refine ⟨_,rfl,rfl,_,rfl,?_⟩
      rcases h23 with ⟨h2,hpk,hin⟩ | ⟨hpk,h3⟩
      ·rw [Qad (fun z=>hpk (by injection z))]
       rw [h2] at hnp
       rw [hnp] at e2
       match js,e2 with
       | [],_ =>
        refine ZU ⟨_,rfl,by show 5<=sizeLine;decide,fun q3 hq3=>⟨q3,_,rfl,.inr (SqT.of Za),rfl,rfl,_,rfl,?_⟩⟩
        show if inV (.str y) ((["and","or","odd","add","sub"]:List Str).map V.str)=true then _ else _
        rw [Z2,Qae hin]
        have s8:=Zc (o:=.tup [.str "and",.str "or",.str "odd",.str "add",.str "sub"]) hq3
        obtain ⟨f1,f2,f3,f4⟩:=fin (.int (Zg9 y a b % 2 ^ W)) _ l hll (s8 _ _ h5s) (s8 _ _ h5t) (s7.trans s8)
        exact YS ⟨_,rfl,.inl ⟨rfl,_,SqL.of (s8 _ _ h5s)⟩,_,rfl,_,rfl,_,rfl,y,a,b,rfl,_,rfl,_,_,rfl,rfl,hp,st,_,_,rfl,rfl,s8 _ _ h5s,f1,_,_,_,rfl,hi,f2,f3,f4⟩
      ·rw [Qae (congrArg V.str hpk)]
       rw [h3] at hnp
       rw [hnp] at e2
       match js,e2 with
       | [c],_ =>
        have ha:=e3 a Qaf
        have hb:=e3 b (Qag _ Qaf)
        have hcc:=e3 c (Qag _ (Qag _ Qaf))
        have hpc:=Zfr h5s
        refine YS ⟨_,rfl,.inl ⟨rfl,_,SqL.of h5s⟩,_,rfl,_,rfl,_,_,rfl,rfl,_,rfl,_,_,rfl,rfl,_,rfl,_,_,rfl,rfl,_,rfl,.inl ⟨rfl,_,SqL.of hpc⟩,st,_,_,rfl,rfl,hpc,Xz _ _,_,_,rfl,rfl,_,_,rfl,rfl,?_⟩
        rw [Qb6]
        try dsimp only
        rw [Zbb ha.1 ha.2 hb.1 hb.2 hcc.1 hcc.2]
        obtain ⟨f1,f2,f3,f4⟩:=fin (.int (Builtin.bitOr (Builtin.bitAnd a b) (Builtin.bitAnd (Builtin.bitNot a) c) % 2 ^ W)) (upd H5 st (.lst l.reverse)) l hll Za (by rw [Zo hne];exact h5t) (ZI s7 hst0)
        exact ⟨st,_,_,rfl,rfl,Za,f1,_,_,_,rfl,hi,f2,f3,f4⟩
    ·refine ⟨_,rfl,_,_,_,_,rfl,.str y,Xn,_,rfl,ZU ⟨_,rfl,_,rfl,dv,YW kvs (.inr y),rfl,.inl ⟨kvs,.inr y,.inl (s3 _ _ hd),rfl,rfl⟩,_,rfl,?_⟩⟩
     show if (YW kvs (.inr y)).isSome=true then _ else _
     rw [hc.1 y hy]
     rw [hnp] at e2
     match is,e2 with
     | [],_ =>
      have ev:wwv ρ (.str y) [] % 2 ^ W=ρ y:=Qc5 (hρ y hy).1 (hρ y hy).2
      rw [ev]
      obtain ⟨f1,f2,f3,f4⟩:=fin (.int (ρ y)) H2 l hsk h2s h2t s3
      exact YS ⟨_,rfl,.inl ⟨rfl,_,SqL.of h2s⟩,_,rfl,_,rfl,dv,_,rfl,.inl ⟨kvs,.inr y,.inl (s3 _ _ hd),rfl,(hc.1 y hy).symm⟩,st,_,_,rfl,rfl,h2s,f1,_,_,_,rfl,hi,f2,f3,f4⟩
    ·rw [hnp] at e2
     match is,e2 with
     | [],_ =>
      obtain ⟨f1,f2,f3,f4⟩:=fin (.int (z % 2 ^ W)) H2 l hsk h2s h2t s3
      exact ⟨_,rfl,_,_,_,_,rfl,.int z,XH,_,rfl,YS ⟨_,rfl,.inl ⟨rfl,_,SqL.of h2s⟩,_,rfl,_,rfl,_,_,rfl,rfl,hp,st,_,_,rfl,rfl,h2s,f1,_,_,_,rfl,hi,f2,f3,f4⟩⟩
   ·rw [e4]
    rw [e1] at h2s hsk
    obtain ⟨c1,c2,c3⟩:=uS y hy
    refine ⟨_,rfl,_,_,_,_,rfl,.str y,Xn,_,rfl,ZU ⟨_,rfl,_,rfl,dv,YW kvs (.inr y),rfl,.inl ⟨kvs,.inr y,.inl (s3 _ _ hd),rfl,rfl⟩,_,rfl,?_⟩⟩
    show if (YW kvs (.inr y)).isSome=true then _ else _
    rw [hc.2 y hn]
    refine ZU ⟨_,rfl,rfl,_,rfl,?_⟩
    rcases cond with ⟨hyes,rfl,rfl⟩ | ⟨v,hsn,hyes,rfl,hcd⟩ | ⟨v,u,hsn,hyes,rfl,hcd⟩
    ·rw [Qae (congrArg V.str hyes)]
     obtain ⟨f1,f2,f3,f4⟩:=fin (.bl true) H2 l hsk h2s h2t s3
     exact YS ⟨_,rfl,.inl ⟨rfl,_,SqL.of h2s⟩,st,_,_,rfl,rfl,h2s,f1,_,_,_,rfl,hi,f2,f3,f4⟩
    ·rw [Qad fun z=>hyes (by injection z)]
     refine ZU ⟨_,rfl,by show 4<=sizeLine;decide,fun q hq=>⟨q,_,rfl,.inr (SqT.of Za),rfl,rfl,_,rfl,?_⟩⟩
     show if inV (.str y) ((["not","neg","twice","low"]:List Str).map V.str)=true then _ else _
     rw [Z2,Qad c1]
     have s4:=Zc (o:=.tup [.str "not",.str "neg",.str "twice",.str "low"]) hq
     have h3s:=s4 _ _ h2s
     have h3t:=s4 _ _ h2t
     have s5:=s3.trans s4
     generalize upd H2 q (.tup [.str "not",.str "neg",.str "twice",.str "low"])=H3 at *
     refine ZU ⟨_,rfl,by show 3<=sizeLine;decide,fun q2 hq2=>⟨q2,_,rfl,.inr (SqT.of Za),rfl,rfl,_,rfl,?_⟩⟩
     show if inV (.str y) ((["sign","nought","never"]:List Str).map V.str)=true then _ else _
     rw [Z2,Qae hsn]
     have s4':=Zc (o:=.tup [.str "sign",.str "nought",.str "never"]) hq2
     have h3s:=s4' _ _ h3s
     have h3t:=s4' _ _ h3t
     have s5:=s5.trans s4'
     generalize upd H3 q2 (.tup [.str "sign",.str "nought",.str "never"])=H3 at *
     have hpop:=Zfr h3s
     refine YS ⟨_,rfl,.inl ⟨rfl,_,SqL.of h3s⟩,_,rfl,_,rfl,.inl ⟨rfl,_,SqL.of hpop⟩,st,_,_,rfl,rfl,hpop,Xz _ _,_,rfl,y,W,v,b',rfl,hW1,hW,hcd,?_⟩
     rw [Qb6]
     obtain ⟨f1,f2,f3,f4⟩:=fin (.bl b') (upd H3 st (.lst l.reverse)) l (by simp only [Qcz,Qc6,Qaz] at hsk;lia) Za (by rw [Zo hne];exact h3t) (ZI s5 hst0)
     exact ⟨st,_,_,rfl,rfl,Za,f1,_,_,_,rfl,hi,f2,f3,f4⟩
    ·rw [Qad fun z=>hyes (by injection z)]
     refine ZU ⟨_,rfl,by show 4<=sizeLine;decide,fun q hq=>⟨q,_,rfl,.inr (SqT.of Za),rfl,rfl,_,rfl,?_⟩⟩
     show if inV (.str y) ((["not","neg","twice","low"]:List Str).map V.str)=true then _ else _
     rw [Z2,Qad c1]
     have s4:=Zc (o:=.tup [.str "not",.str "neg",.str "twice",.str "low"]) hq
     have h3s:=s4 _ _ h2s
     have h3t:=s4 _ _ h2t
     have s5:=s3.trans s4
     generalize upd H2 q (.tup [.str "not",.str "neg",.str "twice",.str "low"])=H3 at *
     refine ZU ⟨_,rfl,by show 3<=sizeLine;decide,fun q2 hq2=>⟨q2,_,rfl,.inr (SqT.of Za),rfl,rfl,_,rfl,?_⟩⟩
     show if inV (.str y) ((["sign","nought","never"]:List Str).map V.str)=true then _ else _
     rw [Z2,Qad hsn]
     have s4':=Zc (o:=.tup [.str "sign",.str "nought",.str "never"]) hq2
     have h3s:=s4' _ _ h3s
     have h3t:=s4' _ _ h3t
     have s5:=s5.trans s4'
     generalize upd H3 q2 (.tup [.str "sign",.str "nought",.str "never"])=H3 at *
     have hpa:=Zfr h3s
     refine ZU ⟨_,rfl,.inl ⟨rfl,_,SqL.of hpa⟩,st,_,_,rfl,rfl,hpa,Xz _ _,Zl ?_⟩
     rw [Qb6]
     have s6:=ZI (o:=.lst ((u::l).reverse)) s5 hst0
     have h4s:upd H3 st (.lst ((u::l).reverse)) st=some (.lst ((u::l).reverse)):=Za
     have h4t:upd H3 st (.lst ((u::l).reverse)) tr=some (.tup ws.reverse):=by rw [Zo hne];exact h3t
     show YV _ _ _ _ (upd H3 st (.lst ((u::l).reverse)))
     generalize upd H3 st (.lst ((u::l).reverse))=H4 at *
     have hpb:=Zfr h4s
     refine ⟨_,rfl,.inl ⟨rfl,_,SqL.of hpb⟩,st,_,_,rfl,rfl,hpb,Xz _ _,Zl ?_⟩
     rw [Qb6]
     have s7:=ZI (o:=.lst l.reverse) s6 hst0
     have h5s:upd H4 st (.lst l.reverse) st=some (.lst l.reverse):=Za
     have h5t:upd H4 st (.lst l.reverse) tr=some (.tup ws.reverse):=by rw [Zo hne];exact h4t
     generalize upd H4 st (.lst l.reverse)=H5 at *
     have hll:l.length<=100:=by
      simp only [Qcz,Qc6,Qaz] at hsk
      lia
     refine ⟨_,rfl,rfl,_,rfl,?_⟩
     rw [Qad (fun z=>c2 (by injection z))]
     refine ZU ⟨_,rfl,by show 5<=sizeLine;decide,fun q3 hq3=>⟨q3,_,rfl,.inr (SqT.of Za),rfl,rfl,_,rfl,?_⟩⟩
     show if inV (.str y) ((["and","or","odd","add","sub"]:List Str).map V.str)=true then _ else _
     rw [Z2,Qad c3]
     have s8:=Zc (o:=.tup [.str "and",.str "or",.str "odd",.str "add",.str "sub"]) hq3
     obtain ⟨f1,f2,f3,f4⟩:=fin (.bl b') _ l hll (s8 _ _ h5s) (s8 _ _ h5t) (s7.trans s8)
     exact ZU ⟨_,rfl,.inl ⟨rfl,_,SqL.of (s8 _ _ h5s)⟩,_,rfl,_,rfl,_,rfl,_,rfl,y,W,v,u,b',rfl,hW1,hW,hcd,st,_,_,rfl,rfl,s8 _ _ h5s,f1,_,_,_,rfl,hi,f2,f3,f4⟩
  ·rintro σ H2 hz_
   refine Z5 fun Gz hGz=>?_
   obtain ⟨u5,u6,u7,rfl,hi0,h2s,h2t,s3⟩:=hz_
   refine hGz ?_
   clear hGz Gz
   rw [Qb2,Qdr,Qcw,hrun] at h2s
   exact ⟨_,rfl,st,_,0,_,rfl,rfl,SqL.of h2s,rfl,k H2 s3⟩
inductive qb(vs:List V)(H:Hp)(Q:VK):Prop
 | mk (tw dv kt:Addr) (ys:List Str) (ws:List V) (kvs:List (Key × V)) (cols:Str->Int) (pl:Nat) (kp:List Int) (o:Int) (lt:List Int):(vs=[.ref tw,.ref dv,.int (pl:Int),.ref kt])->(H tw=some (.tup ws))->(ws.length<=100)->(H dv=some (.dK kvs))->(km kvs ys cols)->(H kt=some (.tup (kp.map V.int)))->((∀w∈ws,jG ys w))->(Xi ws)->(XU ys cols pl kp ws=([o],lt))->(lt.length<=kp.length)->(∀t l H',H t=none->H' t=some (.tup [.int o,.ref l])->H' l=some (.lst (lt.map V.int))->ZG H H'->Q (.ref t) H')->qb vs H Q
noncomputable def zv(K:PySem.W.Frag):Sp:=fun vs H Q _=>qb vs H Q
theorem kO (T:Txt K w mg t) (TB:Tbs mg base t):ZO P w K mg base CX0 4 t.a_stepped t.f_stepped ["words","columns","place","kept"] (zv K):=by
 have G_remembers:ZO P w K mg base CX0 1 t.a_remembers t.f_remembers ["word"] (WS K):=GQ T TB
 have G_out_by_kept:ZO P w K mg base CX0 2 t.a_out_by_kept t.f_out_by_kept ["word","parts","held","then"] (Ju K):=xQ T TB
 have G_kept_then:ZO P w K mg base CX0 2 t.a_kept_then t.f_kept_then ["word","parts","held"] (GX K):=jZ T TB
 have G_out_at_once:ZO P w K mg base CX0 1 t.a_out_at_once t.f_out_at_once ["word","parts"] (Jm K):=xN T TB
 have G_parts_taken:ZO P w K mg base CX0 3 t.a_parts_taken t.f_parts_taken ["stack","word"] (Jw K):=xR T TB
 refine T.d_stepped.F.ok XF (fun vs H Q E h=>?_) (fun cdv A outer s H vs Q E hr h=>?_)
 ·obtain ⟨tw,dv,kt,ys,ws,kvs,cols,pl,kp,o,lt,rfl,ht,hl,hd,hc,hk,hw,he,hst,hkl,k⟩:=h
  rfl
 ·obtain ⟨tw,dv,kt,ys,ws,kvs,cols,pl,kp,o,lt,rfl,ht,hl,hd,hc,hk,hw,he,hst,hkl,k⟩:=h
  have hu:=Yj hr
  refine ⟨_,@QSs.out _ _ _ (Zb (Zq (i:=4) XF.nd rfl (Or.inl rfl) (Ys Ze))
    (Zb (Zq (i:=5) XF.nd rfl (Or.inl rfl) (Ys Ze))
    (Zb (YN PassesOwn.never rfl (gc rfl T.z_reversed (qv 0)) (Yc (i:=6) XF.nd rfl (Or.inl rfl))
    (Zb (Zq (i:=7) XF.nd rfl (Or.inl rfl) (Zr G_parts_taken (hr.mono (by decide)) rfl T.d_parts_taken.m T.d_parts_taken.F.kp T.d_parts_taken.b .nil ZK (Zj (qv 4) (Zj (qv 6) Ze))))
    (Zf (Z8 (X2 (Zr G_remembers (hr.mono (by decide)) rfl T.d_remembers.m T.d_remembers.F.kp T.d_remembers.b .nil ZK (Zj (qv 6) Ze)))
    (Zb (Zq (i:=8) XF.nd rfl (Or.inl rfl) (Wd XS (Zz ZL (qv 3) (Zm Zk (by rfl) T.z_len ZE (Zj (qv 5) Ze)) (fun _ _=>rfl))))
    (Zb (ZY (Y3 Qai Qap Qaq Z9 (qv 5) (Zj (Zr G_kept_then (hr.mono (by decide)) rfl T.d_kept_then.m T.d_kept_then.F.kp T.d_kept_then.b .nil ZK (Zj (qv 6) (Zj (qv 7) (Zj (qv 8) Ze)))) Ze)))
    (Zf (ZY (Y3 Qai Qap Qaq Z9 (qv 4) (Zj (Zr G_out_by_kept (hr.mono (by decide)) rfl T.d_out_by_kept.m T.d_out_by_kept.F.kp T.d_out_by_kept.b .nil ZK (Zj (qv 6) (Zj (qv 7) (Zj (qv 8) (Zj (Zz Zv (qv 5) (Wd XS Zd) (fun _ _=>rfl)) Ze))))) Ze)))))) (Zf (Z8 (X2 (Zm Xy (by rfl) T.z_isinstance ZN (Zj (qv 6) (Zj (Wc (v:=.ty "int") (by rfl) T.z_int jo rfl) Ze))))
    (Zf (ZY (Y3 Qai Qap Qaq Z9 (qv 4) (Zj (Wd XS (Zi Xl (Zi GF (qv 6) (qv 2)) Zd)) Ze)))) (Zf (Z8 (Zn (xZ hu) (qv 6) (qv 1) (by with_unfolding_all rfl))
    (Zf (ZY (Y3 Qai Qap Qaq Z9 (qv 4) (Zj (zB hu (qv 1) (qv 6) (fun _ _=>rfl)) Ze)))) (Zf (ZY (Y3 Qai Qap Qaq Z9 (qv 4) (Zj (Zr G_out_at_once (hr.mono (by decide)) rfl T.d_out_at_once.m T.d_out_at_once.F.kp T.d_out_at_once.b .nil ZK (Zj (qv 6) (Zj (qv 7) Ze))) Ze))))))))))))
    (Zf (Zt (ZH (Zj (GI Qai Qcf Qcg qK (qv 4)) (Zj (qv 5) Ze)))))))),?_⟩
  clear hu hr
  try dsimp only [L2.cxK,L2.cxK2]
  refine L2.let4 ?_
  intro U3 U2 U1
  refine ⟨by show 0<=sizeLine;decide,fun st hst0=>Zl ⟨by show 0<=sizeLine;decide,fun la hla0=>Zl ?_⟩⟩
  have s1:=Zc (o:=.lst []) hst0
  have s2:=s1.trans (Zc (o:=.lst []) hla0)
  have hsl:st≠la:=Zs (Za (H:=H) (a:=st) (o:=.lst [])) hla0
  have hlaH:H la=none:=s1.free hla0
  refine ⟨_,rfl,tw,_,rfl,SqT.of (s2 _ _ ht),gg (K:=K) (a:=tw) (xs:=ws) (fun i σ H2=>∃u6 u7 u8,σ=[some (.ref tw),some (.ref dv),some (.int (pl:Int)),some (.ref kt),some (.ref st),some (.ref la),u6,u7,u8]/\i<=ws.length/\H2 st=some (.lst ((XU ys cols pl kp (ws.drop (ws.length - i))).1.map V.int).reverse)/\H2 la=some (.lst ((XU ys cols pl kp (ws.drop (ws.length - i))).2.map V.int))/\ZG H H2) ⟨none,none,none,rfl,Qbg _,?_,?_,s2⟩ (fun i σ H2 _ ⟨_,_,_,_,_,_,_,s⟩=>SqT.of (s _ _ ht)) ?_ ?_⟩
  ·rw [Qd4,Qd7,Zo hsl]
   exact Za
  ·rw [Qd4,Qd7]
   exact Za
  ·rintro i x σ H2 hx hz_
   refine Z5 fun Gz hGz=>?_
   obtain ⟨u6,u7,u8,rfl,hi0,h2s,h2l,s3⟩:=hz_
   refine hGz ?_
   clear hGz Gz
   obtain ⟨hi,hx⟩:=Zc1 hx
   have ed:ws.drop (ws.length - (i + 1))=x::ws.drop (ws.length - i):=by
    rw [show ws.length - (i + 1)=ws.length - 1 - i by lia,Qbu (by lia),show ws.length - 1 - i + 1=ws.length - i by lia]
    congr 1
    exact (Qah.mp hx).2
   have hwx:=hw x (Qam hx)
   have hen:=qZ ws (ws.length - (i + 1)) he
   have hmo:=jI ys cols pl kp ws (ws.length - (i + 1))
   rw [hst] at hmo
   rw [ed] at hen hmo ⊢
   have hln:=zJ (ys:=ys) (cols:=cols) (pl:=pl) (kp:=kp) (ws.drop (ws.length - i)) fun w h=>hw w (Qb5 h)
   have hle2:=yD (ws.drop (ws.length - i))
   rw [Qbd] at hle2
   have hmo2:=jH ys cols pl kp x (ws.drop (ws.length - i))
   have hlb:=v3 ys cols pl kp (ws.drop (ws.length - i))
   rw [Qbd] at hlb
   generalize ws.drop (ws.length - i)=r at *
   have hn:=hen.1
   have eC:∀z:V,XU ys cols pl kp (z::r)=match z with
    | .str y =>
     if y∈allR then (okI y ((XU ys cols pl kp r).1.take (npw z)) (-(kp.getD (XU ys cols pl kp r).2.length 0)) (ktI y ((XU ys cols pl kp r).1.take (npw z)) (-(kp.getD (XU ys cols pl kp r).2.length 0)))::(XU ys cols pl kp r).1.drop (npw z),(XU ys cols pl kp r).2++[ktI y ((XU ys cols pl kp r).1.take (npw z)) (-(kp.getD (XU ys cols pl kp r).2.length 0))])
     else if y∈ys then (cols y::(XU ys cols pl kp r).1.drop (npw z),(XU ys cols pl kp r).2)
     else (oaI y ((XU ys cols pl kp r).1.take (npw z))::(XU ys cols pl kp r).1.drop (npw z),(XU ys cols pl kp r).2)
    | .int z'=>(-(bt z' pl)::(XU ys cols pl kp r).1.drop (npw z),(XU ys cols pl kp r).2)
    | _=>XU ys cols pl kp r:=fun z=>by cases z <;> rfl
   have eX:=eC x
   clear eC
   generalize XU ys cols pl kp r=P at *
   obtain ⟨stk,l2⟩:=P
   try dsimp only at *
   have hkx:x=kV (keyOf x)/\Xc x=true:=by
    rcases hwx with ⟨y,rfl,_⟩ | ⟨y,rfl,_⟩ | ⟨y,rfl,_⟩ | ⟨z,rfl,_⟩ <;> exact ⟨rfl,rfl⟩
   refine ⟨_,rfl,_,rfl,st,stk.map V.int,x,rfl,h2s,hkx.1,by rw [Qab];lia,by rw [Qab];lia,fun pp H3 hpp0 hpp h3s o3=>Zl ?_⟩
   rw [<-Qdj] at hpp
   rw [<-Qc9] at h3s
   have h3l:=o3 _ _ h2l hsl.symm
   have s4:ZG H H3:=fun b o e=>o3 b o (s3 b o e) (Zs e hst0)
   have hln3:(stk.take (npw x)).length=npw x:=by rw [Qar];lia
   have hps:pp≠st:=fun z=>by rw [z,h2s] at hpp0;cases hpp0
   have hpl2:pp≠la:=fun z=>by rw [z,h2l] at hpp0;cases hpp0
   refine ⟨_,rfl,x,rfl,hkx.2,_,rfl,?_⟩
   have sml:((stk.drop (npw x)).map V.int).reverse.length < sizeLine:=by
    rw [Qb2,Qab,Qbd]
    exact Zp (by lia)
   have fin:∀(v:Int) (Hx:Hp),XU ys cols pl kp (x::r)=(v::stk.drop (npw x),l2)->ZG H3 Hx->upd Hx st (.lst (((stk.drop (npw x)).map V.int).reverse++[.int v])) st=some (.lst ((XU ys cols pl kp (x::r)).1.map V.int).reverse)/\upd Hx st (.lst (((stk.drop (npw x)).map V.int).reverse++[.int v])) la=some (.lst ((XU ys cols pl kp (x::r)).2.map V.int))/\ZG H (upd Hx st (.lst (((stk.drop (npw x)).map V.int).reverse++[.int v]))):=fun v Hx e sx=>by
    rw [e]
    refine ⟨by rw [Za,Qa1,Qce],by rw [Zo hsl.symm];exact sx _ _ h3l,ZI (s4.trans sx) hst0⟩
   rcases hwx with ⟨y,rfl,hy,hny,hn1,hn2⟩ | ⟨y,rfl,hy,hna,hny,hnp⟩ | ⟨y,rfl,hy,hna,hnp⟩ | ⟨z,rfl,hz,hnp⟩
   ·show if inV (.str y) (allR.map V.str)=true then _ else _
    rw [Z2,Qae hy]
    have eX:XU ys cols pl kp (.str y::r)=(okI y (stk.take (npw (.str y))) (-(kp.getD l2.length 0)) (ktI y (stk.take (npw (.str y))) (-(kp.getD l2.length 0)))::stk.drop (npw (.str y)),l2++[ktI y (stk.take (npw (.str y))) (-(kp.getD l2.length 0))]):=by
     rw [eX]
     exact Qau hy
    have hkk:l2.length < kp.length:=by
     rw [eX] at hmo
     simp only [Qac,Qaz,Qc3] at hmo
     lia
    refine YS ⟨_,rfl,_,rfl,la,_,rfl,.inl (SqL.of h3l),kt,_,_,.int (kp.getD l2.length 0),rfl,rfl,SqT.of (s4 _ _ hk),?_,_,rfl,?_⟩
    ·rw [Qab]
     exact Z3 _ rfl hkk
    try dsimp only
    generalize -(kp.getD l2.length 0)=hh at *
    refine Zl ?_
    refine ⟨_,rfl,.inl ⟨rfl,_,SqL.of h3l⟩,_,rfl,_,rfl,_,rfl,y,pp,stk.take (npw (.str y)),hh,rfl,hpp,by lia,hy,(fun h=>by have:=hn2 h;lia),fun H4 s5=>⟨la,_,_,rfl,rfl,s5 _ _ h3l,?_,?_⟩⟩
    ·rw [Qab]
     exact Zp (by lia)
    have h5s:upd H4 la (.lst (l2.map V.int++[.int (ktI y (stk.take (npw (.str y))) hh)])) st=some (.lst ((stk.drop (npw (.str y))).map V.int).reverse):=by rw [Zo hsl];exact s5 _ _ h3s
    have h5p:upd H4 la (.lst (l2.map V.int++[.int (ktI y (stk.take (npw (.str y))) hh)])) pp=some (.lst ((stk.take (npw (.str y))).map V.int)):=by rw [Zo hpl2];exact s5 _ _ hpp
    have h5l:upd H4 la (.lst (l2.map V.int++[.int (ktI y (stk.take (npw (.str y))) hh)])) la=some (.lst (l2.map V.int++[.int (ktI y (stk.take (npw (.str y))) hh)])):=Za
    have s6:ZG H (upd H4 la (.lst (l2.map V.int++[.int (ktI y (stk.take (npw (.str y))) hh)]))):=ZI (s4.trans s5) hlaH
    generalize upd H4 la (.lst (l2.map V.int++[.int (ktI y (stk.take (npw (.str y))) hh)]))=H5 at *
    refine ⟨_,rfl,.inl ⟨rfl,_,SqL.of h5s⟩,_,rfl,_,rfl,_,rfl,_,rfl,1,rfl,la,_,-1,.int (ktI y (stk.take (npw (.str y))) hh),rfl,rfl,SqL.of h5l,Zak _ _,y,pp,stk.take (npw (.str y)),hh,_,rfl,h5p,by lia,hy,(fun h=>by have:=hn2 h;lia),fun H6 s7=>⟨st,_,_,rfl,rfl,s7 _ _ h5s,sml,_,_,_,rfl,hi,?_,?_,ZI (s6.trans s7) hst0⟩⟩
    ·rw [Za,eX,Qa1,Qce]
    ·rw [Zo hsl.symm,eX,Qbh]
     exact s7 _ _ h5l
   ·show if inV (.str y) (allR.map V.str)=true then _ else _
    rw [Z2,Qad hna]
    have eX:XU ys cols pl kp (.str y::r)=(oaI y (stk.take (npw (.str y)))::stk.drop (npw (.str y)),l2):=by
     rw [eX]
     show (if y∈allR then _ else if y∈ys then _ else _)=_
     rw [Qan hna,Qan hny]
    refine ZU ⟨_,rfl,_,_,_,_,rfl,.str y,Xn,_,rfl,ZU ⟨_,rfl,_,rfl,dv,YW kvs (.inr y),rfl,.inl ⟨kvs,.inr y,.inl (s4 _ _ hd),rfl,rfl⟩,_,rfl,?_⟩⟩
    show if (YW kvs (.inr y)).isSome=true then _ else _
    rw [hc.2 y hny]
    refine ZU ⟨_,rfl,.inl ⟨rfl,_,SqL.of h3s⟩,_,rfl,_,rfl,y,pp,stk.take (npw (.str y)),rfl,hpp,hy,by rw [hln3,hnp],fun H4 s5=>?_⟩
    obtain ⟨f1,f2,f3⟩:=fin _ H4 eX s5
    exact ⟨st,_,_,rfl,rfl,s5 _ _ h3s,sml,_,_,_,rfl,hi,f1,f2,f3⟩
   ·show if inV (.str y) (allR.map V.str)=true then _ else _
    rw [Z2,Qad hna]
    have eX:XU ys cols pl kp (.str y::r)=(cols y::stk.drop (npw (.str y)),l2):=by
     rw [eX]
     show (if y∈allR then _ else if y∈ys then _ else _)=_
     rw [Qan hna,Qau hy]
    refine ZU ⟨_,rfl,_,_,_,_,rfl,.str y,Xn,_,rfl,ZU ⟨_,rfl,_,rfl,dv,YW kvs (.inr y),rfl,.inl ⟨kvs,.inr y,.inl (s4 _ _ hd),rfl,rfl⟩,_,rfl,?_⟩⟩
    show if (YW kvs (.inr y)).isSome=true then _ else _
    rw [hc.1 y hy]
    obtain ⟨f1,f2,f3⟩:=fin _ H3 eX (ZG.refl _)
    exact YS ⟨_,rfl,.inl ⟨rfl,_,SqL.of h3s⟩,_,rfl,_,rfl,dv,_,rfl,.inl ⟨kvs,.inr y,.inl (s4 _ _ hd),rfl,(hc.1 y hy).symm⟩,st,_,_,rfl,rfl,h3s,sml,_,_,_,rfl,hi,f1,f2,f3⟩
   ·show if inV (.int z) (allR.map V.str)=true then _ else _
    rw [G1]
    refine ZU ⟨_,rfl,_,_,_,_,rfl,.int z,XH,_,rfl,YS ⟨_,rfl,.inl ⟨rfl,_,SqL.of h3s⟩,_,rfl,_,rfl,_,_,rfl,rfl,Qbl pl,_,_,rfl,rfl,_,rfl,?_⟩⟩
    have ev:-(Builtin.bitAnd (z / 2 ^ (pl:Int).toNat) 1)=-(bt z pl):=by
     rw [and_1,Qat]
     rfl
    try dsimp only
    rw [ev]
    obtain ⟨f1,f2,f3⟩:=fin _ H3 eX (ZG.refl _)
    exact ⟨st,_,_,rfl,rfl,h3s,sml,_,_,_,rfl,hi,f1,f2,f3⟩
  ·rintro σ H2 hz_
   refine Z5 fun Gz hGz=>?_
   obtain ⟨u6,u7,u8,rfl,hi0,h2s,h2l,s3⟩:=hz_
   refine hGz ?_
   clear hGz Gz
   rw [Qdr,Qcw,hst] at h2s h2l
   refine ⟨_,rfl,.inl ⟨rfl,_,SqL.of h2s⟩,st,_,.int o,rfl,rfl,h2s,rfl,_,rfl,by show 2<=sizeLine;decide,fun tt htt=>?_⟩
   have hlt:upd H2 st (.lst []) la=some (.lst (lt.map V.int)):=by rw [Zo hsl.symm];exact h2l
   have s5:ZG H (upd H2 st (.lst [])):=ZI s3 hst0
   exact k tt la _ (s5.free htt) Za (Zc htt _ _ hlt) (s5.trans (Zc htt))
inductive Jz(vs:List V)(H:Hp)(Q:VK):Prop
 | mk (m tc tn tl:Addr) (nm:List Str) (ws:List V) (l:List (Int × List Int)) (ls:List Nat) (first:Int):(vs=[.ref m,.ref tc,.ref tn,.ref tl,.int first])->(G8 nm ws)->(kE nm ws l H m)->(H tc=some (.tup ws))->(H tn=some (.tup (nm.map V.str)))->(H tl=some (.lst (ls.map Wj)))->(ls.length<=60)->((∀x∈ls,x < 2 ^ nm.length))->(∀H',ZG H H'->Q (.bl true) H')->Jz vs H Q
noncomputable def qc(K:PySem.W.Frag):Sp:=fun vs H Q _=>Jz vs H Q
theorem yd (T:Txt K w mg t) (TB:Tbs mg base t):ZO P w K mg base CX0 4 t.a_law_tells t.f_law_tells ["machine","claim","names","letters","first"] (qc K):=by
 have G_law_holds:ZO P w K mg base CX0 3 t.a_law_holds t.f_law_holds ["claim","width","values"] (Ja K):=yc T TB
 have G_law_words:ZO P w K mg base CX0 1 t.a_law_words t.f_law_words ["names","letters"] (WV K):=jY T TB
 have G_law_run:ZO P w K mg base CX0 1 t.a_law_run t.f_law_run ["machine","letters"] (zq K):=kL T TB
 refine T.d_law_tells.F.ok WR (fun vs H Q E h=>?_) (fun cdv A outer s H vs Q E hr h=>?_)
 ·obtain ⟨m,tc,tn,tl,nm,ws,l,ls,first,rfl,S,M,ht,hn,hl,hl60,hlt,k⟩:=h
  rfl
 ·obtain ⟨m,tc,tn,tl,nm,ws,l,ls,first,rfl,S,M,ht,hn,hl,hl60,hlt,k⟩:=h
  have hu:=Yj hr
  refine ⟨_,@QSs.out _ _ _ (Zb (Zq (i:=5) WR.nd rfl (Or.inl rfl) (Zr G_law_run (hr.mono (by decide)) rfl T.d_law_run.m T.d_law_run.F.kp T.d_law_run.b .nil ZK (Zj (qv 0) (Zj (qv 3) Ze))))
    (Zb (YN PassesOwn.never rfl (kf rfl T.z_range (Zj Zd (Zj (Zi ZX (Zm Zk (by rfl) T.z_len ZE (Zj (qv 3) Ze)) Zd) Ze))) (Yc (i:=6) WR.nd rfl (Or.inl rfl))
    (Zf (Z8 (JE (Gn (Zax Zge Zge (qv 4) (qv 6) Zd) (JD (Zn Yb (qv 6) (Zm Zk (by rfl) T.z_len ZE (Zj (qv 3) Ze)) (Zx _)))))
    (Zf (Z8 (Zn Zdu (Zz Zv (qv 5) (Zi X1 (qv 6) Zd) (fun _ _=>rfl)) (Zr G_law_holds (hr.mono (by decide)) rfl T.d_law_holds.m T.d_law_holds.F.kp T.d_law_holds.b .nil ZK (Zj (qv 1) (Zj (qv 6) (Zj (Zr G_law_words (hr.mono (by decide)) rfl T.d_law_words.m T.d_law_words.F.kp T.d_law_words.b .nil ZK (Zj (qv 2) (Zj (Yf Xm (qv 3) YU (Yu (qv 6))) Ze))) Ze)))) (Zx _))
    (Zf (Zt WK)) Zu)) Zu)))
    (Zf (Zt WK)))),?_⟩
  clear hu hr
  try dsimp only [L2.cxK,L2.cxK2]
  refine L2.let3 ?_
  intro U2 U1
  refine ⟨_,rfl,_,rfl,m,tl,nm,_,_,ls,rfl,M.m,M.runs S,hl,by lia,hlt,fun p H2 hp0 hp s2=>Zl ?_⟩
  have eL:((ls.map Wj).length:Int)=(ls.length:Int):=by rw [Qab]
  refine ⟨_,rfl,tl,_,rfl,.inl (SqL.of (s2 _ _ hl)),_,_,rfl,rfl,1,_,rfl,⟨by decide,by decide,by rw [eL];lia,by rw [eL];lia⟩,zb (fun i σ H5=>∃u6,σ=[some (.ref m),some (.ref tc),some (.ref tn),some (.ref tl),some (.int first),some (.ref p),u6]/\H5 p=some (.lst (rnO (rnG (nxS nm ws) l) (l.map (otC nm ws)) 0 ls))/\ZG H H5) ⟨none,rfl,hp,s2⟩ ?_ ?_⟩
  ·rintro i σ H5 hi hz_ N bk r hN
   refine Z5 fun Gz hGz=>?_
   obtain ⟨u6,rfl,h5,s5⟩:=hz_
   refine hGz ?_
   clear hGz Gz
   rw [eL] at hi
   have hi:i < ls.length:=by lia
   have ew:(1:Int) + (i:Int)=((i + 1:Nat):Int):=by lia
   rw [ew]
   obtain ⟨b,eb,hk⟩:=uT S M (W:=i + 1) (by lia) (by lia) hlt
   have e1:(((i + 1:Nat):Int) - 1)=(i:Int):=by lia
   have at_:atI (rnO (rnG (nxS nm ws) l) (l.map (otC nm ws)) 0 ls) (((i + 1:Nat):Int) - 1)=some (.bl b):=by
    rw [e1]
    exact Yl hk
   have skip:N [some (.ref m),some (.ref tc),some (.ref tn),some (.ref tl),some (.int first),some (.ref p),some (.int ((i + 1:Nat):Int))] H5:=hN _ _ ⟨_,rfl,h5,s5⟩
   have chk:(Zf8
      (w5
       (tOp rNe (tOp (Zfy K) (jb 5) (tOp (rI0 fun i j=>V.int (i - j)) (jb 6) (tC (V.int 1))))
        (vT (Ja K) [] E0
         (qH (jb 1)
          (qH (jb 6)
           (qH
            (vT (WV K) [] E0
             (qH (jb 2) (qH (tSl (rSlL K) (jb 3) yk (Zd2 (jb 6))) Zfx)))
            Zfx))))))
      (tRet (tC (V.bl false))) Zdm) { nx:=N,rt:=r,bk:=bk,ct:=N } [some (.ref m),some (.ref tc),some (.ref tn),some (.ref tl),some (.int first),some (.ref p),some (.int ((i + 1:Nat):Int))] H5:=by
    refine ⟨_,rfl,_,rfl,_,_,rfl,rfl,p,_,_,_,rfl,rfl,SqL.of h5,at_,_,rfl,_,rfl,_,rfl,_,rfl,_,rfl,_,rfl,tl,_,rfl,SqL.of (s5 _ _ hl),fun l1 hl1=>?_⟩
    rw [X6,WO]
    have s6:=Zc (o:=.lst ((ls.take (i + 1)).map Wj)) hl1
    have lt:(ls.take (i + 1)).length=i + 1:=by rw [Qar];lia
    refine ⟨tn,l1,nm,_,rfl,(s5.trans s6) _ _ hn,S.nd,S.n3,Za,by lia,fun d kvs H7 hd0 hd hcol s7=>?_⟩
    have s67:=s6.trans s7
    refine ⟨tc,d,i + 1,nm,ws,kvs,_,b,rfl,by lia,by lia,(s5.trans s67) _ _ ht,S.ln,hd,hcol,fun y hy=>?_,S.kp,S.ty,eb,fun H8 s8=>⟨rfl,_,rfl,?_⟩⟩
    ·have:=Zff (ls.take (i + 1)) nm y
     rw [lt] at this
     exact this
    ·show if (!decide (V.bl b=V.bl b))=true then _ else _
     rw [Qae rfl]
     exact ZU (hN _ _ ⟨_,rfl,(s67.trans s8) _ _ h5,s5.trans (s67.trans s8)⟩)
   refine Zl ?_
   refine ⟨_,rfl,_,rfl,_,_,rfl,rfl,_,rfl,Gj (fun _=>⟨_,_,rfl,rfl,_,rfl,Gj (fun _=>YS chk) (fun _=>?_)⟩) (fun _=>⟨_,rfl,ZU ?_⟩)⟩
   ·exact ⟨_,rfl,_,rfl,tl,_,rfl,.inl (SqL.of (s5 _ _ hl)),rfl,_,rfl,Gj (fun _=>chk) (fun _=>skip)⟩
   ·exact ⟨_,rfl,_,rfl,tl,_,rfl,.inl (SqL.of (s5 _ _ hl)),rfl,_,rfl,Gj (fun _=>chk) (fun _=>skip)⟩
  ·rintro σ H5 hz_
   refine Z5 fun Gz hGz=>?_
   obtain ⟨u6,rfl,_,s5⟩:=hz_
   refine hGz ?_
   clear hGz Gz
   exact k H5 s5
inductive XZ(P:Program)(w:World)(K:PySem.W.Frag)(mg:Str->Option Value)(base:Heap)(vs:List V)(H:Hp)(Q:VK):Prop
 | mk (κ:Type) (dq:DecidableEq κ) (sk:SK κ) (pn f:Addr) (nm:List Str) (b:κ) (bv:V) (nx:κ->List κ) (ot:κ->List V) (U:List κ) (τ:Sp):(vs=[.ref pn,bv,.ref f])->(H pn=some (.tup (nm.map V.str)))->(sk.at_ H b bv)->(b∈U)->((∀s∈U,(nx s).length<=8/\(ot s).length<=8/\∀x∈nx s,x∈U))->(U.length<=1000000)->(nm.length<=3)->(XT P w K mg base 12 f H τ)->((∀(s:κ) (sv:V) (H1:Hp) (Q':VK),s∈U->sk.at_ H1 s sv->ZG H H1->(∀t r1 r2 ws H2,H2 t=some (.tup [.ref r1,.ref r2])->SqF H1 H2 r1 ws->StA sk H2 (nx s) ws->SqF H1 H2 r2 (ot s)->ZG H1 H2->Q' (.ref t) H2)->τ [sv] H1 Q' E0))->(∀p sts m (l:List κ) ws H',BfE nx b l->H' p=some (.tup [.ref sts,.ref m])->H sts=none->H' sts=some (.lst ws)->StA sk H' l ws->M4 H' m nm 0 (rnG nx l) (l.map ot)->ZG H H'->Q (.ref p) H')->XZ P w K mg base vs H Q
noncomputable def WH(P:Program)(w:World)(K:PySem.W.Frag)(mg:Str->Option Value)(base:Heap):Sp:=fun vs H Q _=>XZ P w K mg base vs H Q
theorem ql (T:Txt K w mg t) (TB:Tbs mg base t):ZO P w K mg base CX0 13 t.a_machine_found t.f_machine_found ["names","begin","step_of"] (WH P w K mg base):=by
 have G_state_number:ZO P w K mg base CX0 1 t.a_state_number t.f_state_number ["state","states","numbers"] (WT K):=xt T TB
 refine T.d_machine_found.F.ok Ye (fun vs H Q E h=>?_) (fun cdv A outer s H vs Q E hr h=>?_)
 ·obtain ⟨κ,_,sk,pn,f,nm,b,bv,nx,ot,U,τ,rfl,hpn,hbv,hb,hU,h2,hn3,hc,hτ,k⟩:=h
  rfl
 ·obtain ⟨κ,_,sk,pn,f,nm,b,bv,nx,ot,U,τ,rfl,hpn,hbv,hb,hU,h2,hn3,hc,hτ,k⟩:=h
  have hu:=Yj hr
  refine ⟨_,@QSs.out _ _ _ (Zb (Zq (i:=3) Ye.nd rfl (Or.inr rfl) (Ys (Zj (qv 1) Ze)))
    (Zb (Zq (i:=4) Ye.nd rfl (Or.inr rfl) (QE.or (gL (vj hr) (qv 1) Zd) (gC (ve (qv 1) Zd gB) rfl rfl (fun z=>nomatch z) (by decide))))
    (Zb (Zq (i:=5) Ye.nd rfl (Or.inl rfl) (Ys Ze))
    (Zb (Zq (i:=6) Ye.nd rfl (Or.inl rfl) (Ys Ze))
    (Zb (qr PassesOwn.never (Zn qF (Zm Zk (by rfl) T.z_len ZE (Zj (qv 5) Ze)) (Zm Zk (by rfl) T.z_len ZE (Zj (qv 3) Ze)) (Zx _))
    (Zb (Zq (i:=7) Ye.nd rfl (Or.inl rfl) (Zaw (k:=12) 2 (hr.mono (by decide)) (Zj (Zz Zv (qv 3) (Zm Zk (by rfl) T.z_len ZE (Zj (qv 5) Ze)) (fun _ _=>rfl)) Ze)))
    (Zb (ZY (Y3 Qai Qap Qaq Z9 (qv 5) (Zj (Yy ZM (by rfl) T.z_tuple YA (Zj (Wy (⟨by rfl,by decide +kernel,by decide +kernel,by rfl,by decide +kernel,by decide +kernel,by rfl,by decide +kernel⟩:YO (Zg ZZ) _ ["names","begin","step_of","states","numbers","steps","out","told"] "state" ["states","numbers"] [3,4]) (QI.or (We (Zz ZL (qv 7) Zd (fun _ _=>rfl))) (GH (Zz ZL (qv 7) Zd (fun _ _=>rfl)))) (fun _ _ _ _=>JH) (fun _ _ _ _=>(Zr G_state_number (hr.mono (by decide)) rfl T.d_state_number.m T.d_state_number.F.kp T.d_state_number.b .nil ZK (Zj (qv 0) (Zj (qv 1) (Zj (qv 2) Ze)))))) Ze)) Ze)))
    (Zf (ZY (Y3 Qai Qap Qaq Z9 (qv 6) (Zj (Yy ZM (by rfl) T.z_tuple YA (Zj (Zz ZL (qv 7) Zd (fun _ _=>rfl)) Ze)) Ze)))))))
    (Zf (Zt (ZH (Zj (qv 3) (Zj (ZH (Zj (Yy ZM (by rfl) T.z_tuple YA (Zj (qv 0) Ze)) (Zj Zd (Zj (Yy ZM (by rfl) T.z_tuple YA (Zj (qv 5) Ze)) (Zj (Yy ZM (by rfl) T.z_tuple YA (Zj (qv 6) Ze)) Ze))))) Ze)))))))))),?_⟩
  clear hu
  try dsimp only [L2.cxK,L2.cxK2]
  refine L2.let6 ?_
  intro U5 U4 U3 U2 U1
  have hr:∀s∈U,∀x∈nx s,x∈U:=fun s h=>(hU s h).2.2
  refine ⟨_,rfl,by show 1<=sizeLine;decide,fun st hst=>?_⟩
  have s1:=Zc (o:=.lst [bv]) hst
  refine Zl ?_
  have begun:∀(nd:Addr) (H3:Hp),H nd=none->H3 st=some (.lst [bv])->sk.dic H3 nd [b]->sk.at_ H3 b bv->ZG H H3->U2 { nx:=fun _ H'=>Q .non H',rt:=Q } [some (.ref pn),some bv,some (.ref f),some (.ref st),some (.ref nd),none,none,none] H3:=by
   intro nd H3 hndH hst3 hnd3 hbv3 s3
   obtain ⟨ond,hond,ndT,ndL⟩:=SK.ne hnd3
   refine ⟨by show 0<=sizeLine;decide,fun pp hpp=>Zl ⟨by show 0<=sizeLine;decide,fun po hpo=>Zl ?_⟩⟩
   have sp:=Zc (o:=.lst []) hpp
   have so:=sp.trans (Zc (o:=.lst []) hpo)
   have hppH:H pp=none:=s3.free hpp
   have hpoH:H po=none:=s3.free (sp.free hpo)
   have pst:pp≠st:=(Zs hst3 hpp).symm
   have pnd:pp≠nd:=(Zs hond hpp).symm
   have ppo:pp≠po:=Zs Za hpo
   have ost:po≠st:=(Zs (sp _ _ hst3) hpo).symm
   have oNd:po≠nd:=(Zs (sp _ _ hond) hpo).symm
   have rl:∀{H:Hp} {zs:List V} {i:Nat},Yr H zs (xD nx b i)->zs.length=i:=fun z=>by
    have:=z.1
    unfold xD at this
    rw [Qab,Qbp] at this
    exact this
   have ol:∀{H:Hp} {zs:List V} {i:Nat},Yr H zs (xE nx ot b i)->zs.length=i:=fun z=>by
    have:=z.1
    unfold xE at this
    rw [Qab,Qbp] at this
    exact this
   have tup0:∀{Ha Hb:Hp},ZG Ha Hb->∀b xs,Ha b=some (.tup xs)->Hb b=some (.tup xs):=fun s b xs e=>s _ _ e
   refine zG (fun σ H2=>∃(i:Nat) (u7:Option V) (zs os ws:List V),σ=[some (.ref pn),some bv,some (.ref f),some (.ref st),some (.ref nd),some (.ref pp),some (.ref po),u7]/\H2 st=some (.lst ws)/\StA sk H2 (bfN nx b i) ws/\sk.dic H2 nd (bfN nx b i)/\H2 pp=some (.lst zs)/\H2 po=some (.lst os)/\Yr H2 zs (xD nx b i)/\Yr H2 os (xE nx ot b i)/\(∀j,j < i->j < (bfN nx b j).length)/\i<=(bfN nx b i).length/\ZG H H2) (fun _ H2=>match H2 pp with | some (.lst zs)=>U.length - zs.length | _=>0) ⟨0,none,[],[],[bv],rfl,so _ _ hst3,StA.one (SK.keep hbv3 (tup0 so)),SK.stay hnd3 (fun o e=>so _ _ e) (tup0 so),Zc hpo _ _ Za,Za,Yr.nil,Yr.nil,(fun j hj=>absurd hj (Qeh _)),Qbg _,s3.trans so⟩ ?_
   rintro σ H4 hz_
   refine Z5 fun Gz hGz=>?_
   obtain ⟨i,u7,zs,os,ws,rfl,hst4,hA4,hnd4,hpp4,hpo4,Rz,Ro,hgo,hil,s4⟩:=hz_
   refine hGz ?_
   clear hGz Gz
   have hzl:=rl Rz
   have hol:=ol Ro
   have hlen:=ux hb hr i
   have hnod:=JW (nx:=nx) (b:=b) i
   have hinU:=uw hb hr i
   refine ⟨_,rfl,pp,_,rfl,.inl (SqL.of hpp4),_,rfl,st,_,rfl,.inl (SqL.of hst4),_,_,rfl,rfl,_,rfl,?_⟩
   rw [hzl,hA4.1]
   refine Gj (fun hlt=>?_) (fun hlt=>?_)
   ·have hlt':i < (bfN nx b i).length:=by
     have:=Qa9 hlt
     lia
    obtain ⟨si,hsi⟩:∃si,(bfN nx b i)[i]?=some si:=⟨_,Qaa hlt'⟩
    have hsU:si∈U:=hinU _ (Qam hsi)
    obtain ⟨r8,o8,rU⟩:=hU si hsU
    obtain ⟨sv,hsv,hat⟩:=hA4.2 i si hsi
    have eR:=kr (nx:=nx) (b:=b) hsi
    have eO:=ku (nx:=nx) (ot:=ot) (b:=b) hsi
    have eS:=zM (nx:=nx) (b:=b) hsi
    refine ⟨fun σ' H'=>∃(u7:Option V) (zs' os' ws':List V),σ'=[some (.ref pn),some bv,some (.ref f),some (.ref st),some (.ref nd),some (.ref pp),some (.ref po),u7]/\H' st=some (.lst ws')/\StA sk H' (bfN nx b (i + 1)) ws'/\sk.dic H' nd (bfN nx b (i + 1))/\H' pp=some (.lst zs')/\H' po=some (.lst os')/\Yr H' zs' (xD nx b (i + 1))/\Yr H' os' (xE nx ot b (i + 1))/\ZG H H',?_,?_⟩
    ·rintro σ' H' hz_
     refine Z5 fun Gz hGz=>?_
     obtain ⟨u8,zs',os',ws',rfl,g1,gA,g2,g3,g4,g5,g6,s5⟩:=hz_
     refine hGz ?_
     clear hGz Gz
     have hpre:(bfN nx b i).length<=(bfN nx b (i + 1)).length:=by
      obtain ⟨r,e⟩:=qz (nx si) (bfN nx b i)
      rw [eS,e,Qac]
      lia
     refine ⟨U.length - (i + 1),?_,?_,i + 1,u8,zs',os',ws',rfl,g1,gA,g2,g3,g4,g5,g6,fun j hj=>?_,by lia,s5⟩
     ·rw [hpp4]
      show U.length - (i + 1) < U.length - zs.length
      lia
     ·rw [g3]
      show _=U.length - zs'.length
      rw [rl g5]
     ·by_cases hji:j=i
      ·rw [hji]
       exact hlt'
      ·exact hgo j (by lia)
    ·refine ⟨f,τ,rfl,hc.frz s4.frz,_,rfl,_,rfl,pp,_,rfl,.inl (SqL.of hpp4),st,_,_,sv,rfl,rfl,SqL.of hst4,by rw [hzl];exact Yl hsv,Gq.refl _,hτ si sv H4 _ hsU hat s4 fun tt r1 r2 ws0 H5 htt hr1 hA5 hr2 s5=>?_⟩
     refine Zl ?_
     generalize hl0:bfN nx b i=l0 at *
     have hst5:=s5 _ _ hst4
     have hnd5:sk.dic H5 nd l0:=SK.stay hnd4 (fun o e=>s5 _ _ e) (tup0 s5)
     have hpp5:=s5 _ _ hpp4
     have hpo5:=s5 _ _ hpo4
     obtain ⟨ond4,hond4,nd4T,nd4L⟩:=SK.ne hnd4
     have ndn:∀{r:Addr} {ys:List V},SqF H4 H5 r ys->r≠st/\r≠nd/\r≠pp/\r≠po:=fun {r ys} z=>by
      have lst:∀{q:Addr} {o:HO},H4 q=some o->(∀xs,o≠.tup xs)->r≠q:=fun {q o} e ht e2=>by
       subst e2
       rcases z with z | ⟨_,z⟩
       ·rw [s5 _ _ e] at z
        exact ht ys (Option.some.inj z)
       ·rw [e] at z;cases z
      exact ⟨lst hst4 (fun _ z=>nomatch z),lst hond4 nd4T,lst hpp4 (fun _ z=>nomatch z),lst hpo4 fun _ z=>nomatch z⟩
     obtain ⟨rst,rnd,_,_⟩:=ndn hr1
     refine ⟨_,rfl,.inl ⟨rfl,_,SqL.of hpp5⟩,?_⟩
     have hr1':H5 r1=some (.tup ws0)\/H5 r1=some (.lst ws0):=hr1.imp id (fun z=>z.1)
     have w8:ws0.length<=8:=by rw [hA5.1];exact r8
     refine Zbh (a:=r1) (xs:=ws0) (fun R hR=>⟨_,rfl,tt,_,0,_,rfl,rfl,SqT.of htt,rfl,hR⟩) hr1' (fun j zs H'=>zs=((nx si).take j).map (fun x=>Wj ((bfN nx b (i + 1)).idxOf x))/\(∃ws',H' st=some (.lst ws')/\StA sk H' (((nx si).take j).foldl Xe l0) ws')/\sk.dic H' nd (((nx si).take j).foldl Xe l0)/\(∀b o,H5 b=some o->b≠st->b≠nd->H' b=some o)/\∀b,H5 b=none->H' b=none) ⟨rfl,⟨ws,hst5,hA4.keep (tup0 s5)⟩,hnd5,(fun _ _ e _ _=>e),fun _ e=>e⟩ ?_ ?_ ?_ ?_
     ·rintro j zs H6 hz_
      refine Z5 fun Gz hGz=>?_
      obtain ⟨rfl,_⟩:=hz_
      refine hGz ?_
      clear hGz Gz
      rw [Qab,Qar]
      exact Qaw (Zp (by lia))
     ·rintro j zs H6 ⟨_,_,_,g3,_⟩ o e
      exact g3 _ _ e rst rnd
     ·rintro j x zs H6 R hR hx hz_
      refine Z5 fun Gz hGz=>?_
      obtain ⟨rfl,⟨ws',g1,gA⟩,g2,g3,g4⟩:=hz_
      refine hGz ?_
      clear hGz Gz
      have hj:j < (nx si).length:=by rw [<-hA5.1];exact (Qah.mp hx).1
      obtain ⟨s',hs'⟩:∃s',(nx si)[j]?=some s':=⟨_,Qaa hj⟩
      have tp6:∀b xs,H5 b=some (.tup xs)->H6 b=some (.tup xs):=fun b xs e=>g3 _ _ e (XG e hst5 (fun z=>nomatch z)) (fun z=>by rw [z,s5 _ _ hond4] at e;exact nd4T xs (Option.some.inj e))
      obtain ⟨v',hv',hat'⟩:=hA5.2 j s' hs'
      rw [hx] at hv'
      cases hv'
      have hat6:=SK.keep hat' tp6
      have e1:((nx si).take (j + 1)).foldl Xe l0=Xe (((nx si).take j).foldl Xe l0) s':=by
       rw [take_snoc hs',Qdk]
       rfl
      have e2:(bfN nx b (i + 1)).idxOf s'=(Xe (((nx si).take j).foldl Xe l0) s').idxOf s':=by
       have e3:(nx si).foldl Xe l0=((nx si).drop (j + 1)).foldl Xe (((nx si).take (j + 1)).foldl Xe l0):=by rw [<-Qdk,Qbo]
       obtain ⟨r,e4⟩:=qz ((nx si).drop (j + 1)) (((nx si).take (j + 1)).foldl Xe l0)
       rw [eS,e3,e4,e1,gG (qy.mpr (.inr rfl))]
      have hnj:(((nx si).take j).foldl Xe l0).Nodup:=xc _ _ hnod
      have hlj:(((nx si).take j).foldl Xe l0).length < 10000000:=by
       have:=uv ((nx si).take j) l0
       rw [Qar] at this
       lia
      have ew:((nx si).take (j + 1)).map (fun x=>Wj ((bfN nx b (i + 1)).idxOf x))=((nx si).take j).map (fun x=>Wj ((bfN nx b (i + 1)).idxOf x))++[Wj ((bfN nx b (i + 1)).idxOf s')]:=by
       rw [take_snoc hs',Qbh]
       rfl
      rw [ew,e1] at hR
      rw [e2] at hR
      generalize ((nx si).take j).foldl Xe l0=l' at *
      refine yesT ⟨_,rfl,_,rfl,_,rfl,κ,_,sk,x,st,nd,s',l',ws',rfl,g1,gA.1,g2,hat6,hnj,hlj,fun H7 ws7 q1 q0 q2 q3 q4=>hR _ _ ⟨rfl,⟨ws7,q1,?_⟩,q2,(fun b o e h1 h2=>q3 _ _ (g3 b o e h1 h2) h1 h2),fun b e=>q4 _ (g4 b e)⟩⟩
      have tp7:∀b xs,H6 b=some (.tup xs)->H7 b=some (.tup xs):=fun b xs e=>q3 _ _ e (XG e g1 (fun z=>nomatch z)) fun z=>by
       obtain ⟨o,e7,h7,_⟩:=SK.ne g2
       rw [z,e7] at e
       exact h7 xs (Option.some.inj e)
      rcases q0 with ⟨hm,rfl⟩ | ⟨hm,rfl⟩
      ·rw [show Xe l' s'=l' from Qau hm]
       exact gA.keep tp7
      ·rw [show Xe l' s'=l'++[s'] from Qan hm]
       exact (gA.keep tp7).snoc (SK.keep hat6 tp7)
     ·rintro zs1 H6 hz_ l hl
      refine Z5 fun Gz hGz=>?_
      obtain ⟨rfl,⟨ws',g1,gA⟩,g2,g3,g4⟩:=hz_
      refine hGz ?_
      clear hGz Gz
      rw [hA5.1,Qbr] at g2 gA ⊢
      rw [<-eS] at g2 gA
      have tp6:∀{c:Addr} {ys:List V},H5 c=some (.tup ys)->H6 c=some (.tup ys):=fun {c ys} e=>g3 _ _ e (XG e hst5 (fun z=>nomatch z)) (fun z=>by rw [z,s5 _ _ hond4] at e;exact nd4T ys (Option.some.inj e))
      have hpp6:=g3 _ _ hpp5 pst pnd
      have hpo6:=g3 _ _ hpo5 ost oNd
      have htt6:=tp6 htt
      have hr26:H6 r2=some (.tup (ot si))\/H6 r2=some (.lst (ot si)):=by
       obtain ⟨z1,z2,_⟩:=ndn hr2
       rcases hr2 with z | ⟨z,_⟩
       ·exact .inl (g3 _ _ z z1 z2)
       ·exact .inr (g3 _ _ z z1 z2)
      have ndr2:=ndn hr2
      refine ⟨l,_,rfl,.inl ⟨SqL.of Za,fun q hq=>?_⟩⟩
      have sl:=Zc (o:=.lst ((nx si).map fun x=>Wj ((bfN nx b (i + 1)).idxOf x))) hl
      have sq:=sl.trans (Zc (o:=.tup ((nx si).map fun x=>Wj ((bfN nx b (i + 1)).idxOf x))) hq)
      have hqp:q≠pp:=(Zs (sl _ _ hpp6) hq).symm
      have hqo:q≠po:=(Zs (sl _ _ hpo6) hq).symm
      refine ⟨pp,_,_,rfl,rfl,sq _ _ hpp6,JV (by lia),?_⟩
      have k8:∀c o,H6 c=some o->c≠pp->upd (upd (upd H6 l (.lst ((nx si).map fun x=>Wj ((bfN nx b (i + 1)).idxOf x)))) q (.tup ((nx si).map fun x=>Wj ((bfN nx b (i + 1)).idxOf x)))) pp (.lst (zs++[.ref q])) c=some o:=fun c o e hc=>by
       rw [Zo hc]
       exact sq _ _ e
      have hq8:upd (upd (upd H6 l (.lst ((nx si).map fun x=>Wj ((bfN nx b (i + 1)).idxOf x)))) q (.tup ((nx si).map fun x=>Wj ((bfN nx b (i + 1)).idxOf x)))) pp (.lst (zs++[.ref q])) q=some (.tup ((nx si).map fun x=>Wj ((bfN nx b (i + 1)).idxOf x))):=by
       rw [Zo hqp]
       exact Za
      have hp8:=Za (H:=upd (upd H6 l (.lst ((nx si).map fun x=>Wj ((bfN nx b (i + 1)).idxOf x)))) q (.tup ((nx si).map fun x=>Wj ((bfN nx b (i + 1)).idxOf x)))) (a:=pp) (o:=.lst (zs++[.ref q]))
      have d8:sk.dic (upd (upd (upd H6 l (.lst ((nx si).map fun x=>Wj ((bfN nx b (i + 1)).idxOf x)))) q (.tup ((nx si).map fun x=>Wj ((bfN nx b (i + 1)).idxOf x)))) pp (.lst (zs++[.ref q]))) nd (bfN nx b (i + 1)):=SK.off (SK.stay g2 (fun o e=>sq _ _ e) (tup0 sq)) (sq _ _ hpp6)
      generalize upd (upd (upd H6 l (.lst ((nx si).map fun x=>Wj ((bfN nx b (i + 1)).idxOf x)))) q (.tup ((nx si).map fun x=>Wj ((bfN nx b (i + 1)).idxOf x)))) pp (.lst (zs++[.ref q]))=H8 at *
      have tp8:∀{c:Addr} {ys:List V},H6 c=some (.tup ys)->H8 c=some (.tup ys):=fun {c ys} e=>k8 _ _ e (XG e hpp6 (fun z=>nomatch z))
      have hpo8:=k8 _ _ hpo6 ppo.symm
      have last:∀(a9:Addr) (H9:Hp),H9 a9=some (.tup (ot si))->ZG H8 H9->H9 po=some (.lst os)/\(upd H9 po (.lst (os++[.ref a9])) st=some (.lst ws')/\StA sk (upd H9 po (.lst (os++[.ref a9]))) (bfN nx b (i + 1)) ws'/\sk.dic (upd H9 po (.lst (os++[.ref a9]))) nd (bfN nx b (i + 1))/\upd H9 po (.lst (os++[.ref a9])) pp=some (.lst (zs++[.ref q]))/\upd H9 po (.lst (os++[.ref a9])) po=some (.lst (os++[.ref a9]))/\Yr (upd H9 po (.lst (os++[.ref a9]))) (zs++[.ref q]) (xD nx b (i + 1))/\Yr (upd H9 po (.lst (os++[.ref a9]))) (os++[.ref a9]) (xE nx ot b (i + 1))/\ZG H (upd H9 po (.lst (os++[.ref a9])))):=by
       intro a9 H9 ha9 s9
       have hpo9:=s9 _ _ hpo8
       have tp9:∀{c:Addr} {ys:List V},H9 c=some (.tup ys)->upd H9 po (.lst (os++[.ref a9])) c=some (.tup ys):=fun {c ys} e=>by rw [Zo (XG e hpo9 (fun z=>nomatch z))];exact e
       have tp59:∀b xs,H5 b=some (.tup xs)->upd H9 po (.lst (os++[.ref a9])) b=some (.tup xs):=fun b xs e=>tp9 (s9 _ _ (tp8 (tp6 e)))
       refine ⟨hpo9,?_,gA.keep (fun b xs e=>tp9 (s9 _ _ (tp8 e))),SK.off (SK.stay d8 (fun o e=>s9 _ _ e) (tup0 s9)) hpo9,?_,Za,?_,?_,fun c o' e=>?_⟩
       ·rw [Zo ost.symm]
        exact s9 _ _ (k8 _ _ g1 pst.symm)
       ·rw [Zo ppo]
        exact s9 _ _ hp8
       ·rw [eR]
        exact (Jf (fun b xs e=>tp59 b xs (s5 _ _ e)) Rz).snoc (tp9 (s9 _ _ hq8))
       ·rw [eO]
        exact (Jf (fun b xs e=>tp59 b xs (s5 _ _ e)) Ro).snoc (tp9 ha9)
       ·have cp:c≠pp:=Zs e hppH
        have co:c≠po:=Zs e hpoH
        rw [Zo co]
        exact s9 _ _ (k8 _ _ (g3 _ _ (s5 _ _ (s4 _ _ e)) (Zs e hst) (Zs e hndH)) cp)
      refine ⟨_,rfl,.inl ⟨rfl,_,SqL.of hpo8⟩,_,rfl,tt,_,1,_,rfl,rfl,SqT.of (tp8 htt6),rfl,r2,ot si,rfl,?_⟩
      rcases hr26 with hr26 | hr26
      ·obtain ⟨l1,l2⟩:=last r2 H8 (tp8 hr26) (ZG.refl _)
       exact .inr ⟨SqT.of (tp8 hr26),po,_,_,rfl,rfl,l1,JV (by lia),_,zs++[.ref q],os++[.ref r2],ws',rfl,l2⟩
      ·refine .inl ⟨SqL.of (k8 _ _ hr26 ndr2.2.2.1),fun a9 ha9=>?_⟩
       obtain ⟨l1,l2⟩:=last a9 (upd H8 a9 (.tup (ot si))) Za (Zc ha9)
       exact ⟨po,_,_,rfl,rfl,l1,JV (by lia),_,zs++[.ref q],os++[.ref a9],ws',rfl,l2⟩
   ·have hle:(bfN nx b i).length=i:=by
     have:¬(i:Int) < ((bfN nx b i).length:Int):=fun z=>hlt (Qae z)
     lia
    refine ⟨_,rfl,_,rfl,pn,_,rfl,.inr ⟨SqT.of (s4 _ _ hpn),_,rfl,pp,_,rfl,.inl ⟨SqL.of hpp4,fun a1 ha1=>⟨_,rfl,po,_,rfl,.inl ⟨SqL.of (Zc ha1 _ _ hpo4),fun a2 ha2=>⟨by show 4<=sizeLine;decide,fun m hm=>⟨by show 2<=sizeLine;decide,fun p hp=>?_⟩⟩⟩⟩⟩⟩⟩
    have q1:=Zc (o:=.tup zs) ha1
    have q2:=Zc (o:=.tup os) ha2
    have q3:=Zc (o:=.tup [.ref pn,.int 0,.ref a1,.ref a2]) hm
    have q4:=Zc (o:=.tup [.ref st,.ref m]) hp
    have qq:=q1.trans (q2.trans (q3.trans q4))
    refine k p st m (bfN nx b i) ws _ ⟨by rw [hle],fun j hj=>hgo j (by lia)⟩ Za hst (qq _ _ hst4) (hA4.keep (tup0 qq)) ⟨⟨pn,a1,a2,q4 _ _ Za,qq _ _ (s4 _ _ hpn),⟨zs,(q2.trans (q3.trans q4)) _ _ Za,?_,fun j r hj=>?_⟩,⟨os,(q3.trans q4) _ _ Za,?_,fun j r hj=>?_⟩⟩⟩ (s4.trans qq)
    ·rw [hzl,Qab,G4,hle]
    ·rw [<-uy hle hgo] at hj
     obtain ⟨a,g1,g2⟩:=Rz.2 j r hj
     exact ⟨a,g1,qq _ _ g2⟩
    ·rw [hol,Qab,hle]
    ·rw [<-uz hle hgo] at hj
     obtain ⟨a,g1,g2⟩:=Ro.2 j r hj
     exact ⟨a,g1,qq _ _ g2⟩
  have fin:∀(nd:Addr) (H3:Hp),H nd=none->nd≠st->(∃o,H3=upd (upd H st (.lst [bv])) nd o)->sk.dic H3 nd [b]->U2 { nx:=fun _ H'=>Q .non H',rt:=Q } [some (.ref pn),some bv,some (.ref f),some (.ref st),some (.ref nd),none,none,none] H3:=by
   intro nd H3 hndH hne ho hd3
   obtain ⟨o,rfl⟩:=ho
   have hnd1:upd H st (.lst [bv]) nd=none:=by rw [Zo hne];exact hndH
   have s3:=s1.trans (Zc (o:=o) hnd1)
   exact begun nd _ hndH (by rw [Zo hne.symm];exact Za) hd3 (SK.keep hbv fun b xs e=>s3 _ _ e) s3
  cases sk with
  | int f9 inj =>
   have hbv:bv=.int (f9 b):=hbv
   subst hbv
   refine .inr fun nd hnd=>?_
   have snd:st≠nd:=Zs Za hnd
   refine ⟨_,rfl,Za,[(.inl (f9 b),.int 0)],rfl,by show 1<=15;decide,Zl ?_⟩
   have em:qO [] [((.inl (f9 b):Key),V.int 0)]=nk ([b].map f9):=rfl
   rw [em,yi]
   exact fin nd _ (s1.free hnd) snd.symm ⟨_,rfl⟩ Za
  | key kn =>
   obtain ⟨a,rfl,ha⟩:=id hbv
   refine .inl fun nd hnd=>?_
   have snd:st≠nd:=Zs Za hnd
   have sn2:=s1.trans (Zc (o:=.dK []) hnd)
   refine ⟨_,rfl,κ,_,kn,a,b,rfl,Za,kn.keep _ _ _ _ (fun b xs e=>sn2 _ _ e) ha,fun H' n' _ ho=>Zl ?_⟩
   obtain ⟨o,rfl⟩:=ho
   rw [yi] at n' ⊢
   exact fin nd _ (s1.free hnd) snd.symm ⟨_,rfl⟩ n'
inductive X5(w:World)(pw:Addr)(vs:List V)(H:Hp)(Q:VK):Prop
 | mk (tw tn tt:Addr) (ws:List V) (nm:List Str) (o0 o1:V) (B kc:Nat):(vs=[.ref tw,.ref tn,.ref tt])->(H tw=some (.tup ws))->(ws.length<=100)->(H tn=some (.tup (nm.map V.str)))->(nm.Nodup)->(nm.length<=3)->(H tt=some (.tup [o0,o1]))->((∀w∈ws,jG nm w))->(Xi ws)->(Gk ws=1)->((∀z:Int,V.int z∈ws->0<=z/\z < 2 ^ B))->(kc=Y8 ws)->((B + 1) * 2 ^ kc<=1000000)->(J3 H pw ZJ ZA)->(∀m (l:List (Int × List Int)) H',BfE (nxT nm (Xd (2 ^ nm.length) nm) ws (lgB ws)) (0,List.replicate kc 0) l->M4 H' m nm 0 (rnG (nxT nm (Xd (2 ^ nm.length) nm) ws (lgB ws)) l) (l.map (otT nm (Xd (2 ^ nm.length) nm) ws o0 o1))->J3 H' pw ZJ ZA->Zf5 pw H H'->Q (.ref m) H')->X5 w pw vs H Q
noncomputable def Wa(P:Program)(w:World)(K:PySem.W.Frag)(mg:Str->Option Value)(base:Heap)(pw:Addr):Sp:=fun vs H Q _=>X5 w pw vs H Q
theorem Gi (T:Txt K w mg t) (TB:Tbs mg base t):ZO P w K mg base CX0 14 t.a_machine_telling t.f_machine_telling ["words","names","told"] (Wa P w K mg base t.p_machine_telling):=by
 have G_machine_found:ZO P w K mg base CX0 13 t.a_machine_found t.f_machine_found ["names","begin","step_of"] (WH P w K mg base):=ql T TB
 have G_bits_at:ZO P w K mg base CX0 1 t.a_bits_at t.f_bits_at ["columns","letter"] (zm K):=kI T TB
 have G_stepped:ZO P w K mg base CX0 4 t.a_stepped t.f_stepped ["words","columns","place","kept"] (zv K):=kO T TB
 have G_remembers:ZO P w K mg base CX0 1 t.a_remembers t.f_remembers ["word"] (WS K):=GQ T TB
 have G_longest_number:ZO P w K mg base CX0 1 t.a_longest_number t.f_longest_number ["words"] (Wu K):=GA T TB
 have G_name_columns:ZO P w K mg base CX0 2 t.a_name_columns t.f_name_columns ["names","letters"] (WY K):=xx T TB
 have G_words_at:ZO P w K mg base CX0 1 t.a_words_at t.f_words_at ["width"] (xq K):=yO T TB
 refine T.d_machine_telling.F.okC ZQ (fun vs H Q E h=>?_) (fun A outer s H vs Q E hr h=>?_)
 ·obtain ⟨tw,tn,tt,ws,nm,o0,o1,B,kc,rfl,ht,hl,hn,hnd,hn3,hto,hw,he,hst,hB,hkc,hbig,hT,k⟩:=h
  rfl
 ·obtain ⟨tw,tn,tt,ws,nm,o0,o1,B,kc,rfl,ht,hl,hn,hnd,hn3,hto,hw,he,hst,hB,hkc,hbig,hT,k⟩:=h
  have hu:=Yj hr
  refine ⟨_,@QSs.out _ _ _ (Zb (Zq (i:=3) ZQ.nd rfl (Or.inr rfl) (Yy (y6 rfl) (by rfl) T.z_list Zd8 (Zj (Yy y0 (by rfl) T.z_range Zan (Zj (Zr G_words_at (hr.mono (by decide)) rfl T.d_words_at.m T.d_words_at.F.kp T.d_words_at.b .nil ZK (Zj (Zm Zk (by rfl) T.z_len ZE (Zj (qv 1) Ze)) Ze)) Ze)) Ze)))
    (Zb (Zq (i:=4) ZQ.nd rfl (Or.inr rfl) (Zr G_name_columns (hr.mono (by decide)) rfl T.d_name_columns.m T.d_name_columns.F.kp T.d_name_columns.b .nil ZK (Zj (qv 1) (Zj (qv 3) Ze))))
    (Zb (Zq (i:=5) ZQ.nd rfl (Or.inr rfl) (Zr G_longest_number (hr.mono (by decide)) rfl T.d_longest_number.m T.d_longest_number.F.kp T.d_longest_number.b .nil ZK (Zj (qv 0) Ze)))
    (Zb (qs_def (i:=6) (name := "step_of") (params:=Zy Xf) (body:=Zw Xf) (scope:=Zg Xf) (lpos:=ZJ) (qual:=ZA) ZQ.nd rfl (Or.inl rfl) T.k_machine_telling TB.c_machine_telling TB.B rfl rfl rfl rfl (S0:=Zg Z7) rfl (by decide +kernel))
    (Zb (Zq (i:=7) ZQ.nd rfl (Or.inl rfl) (ZH (Zj Zd (Zj (Yy ZM (by rfl) T.z_tuple YA (Zj (Wy (⟨by rfl,by decide +kernel,by decide +kernel,by rfl,by decide +kernel,by decide +kernel,by rfl,by decide +kernel⟩:YO (Zg Z7) _ ["words","names","told","letters","columns","last_place","step_of","begin"] "word" [] []) (GH (qv 0)) (fun _ _ _ _=>(wU (X2 (Zr G_remembers (hr.mono (by decide)) rfl T.d_remembers.m T.d_remembers.F.kp T.d_remembers.b .nil ZK (Zj (qv 0) Ze))))) (fun _ _ _ _=>Zd)) Ze)) Ze))))
    (Zf (Zt (Zz ZL (Za1 (kl:=11) (i:=6) (name := "step_of") (params:=Zy Xf) (body:=Zw Xf) (scope:=Zg Xf) (qual:=ZA) G_machine_found (hr.mono (by decide)) rfl T.d_machine_found.m T.d_machine_found.F.kp T.d_machine_found.b rfl (Zj (qv 1) (Zj (qv 7) (Zj (qv 6) Ze))) rfl rfl (⟨Jh,by decide +kernel,by decide +kernel,by rfl⟩:Zgq (Zg Z7) _ ["words","names","told","letters","columns","last_place","step_of","begin"] ["state"] ["step","place","reached"] ["words","columns","last_place","letters","told"] [0,4,5,3,2]) (fun _ _ _ _ _ us hl=>match us,hl with | [_],_=>rfl) (fun _ _ _ _ _ _ _ hrl=>(Zb (Zq (i:=1) Jh.nd rfl (Or.inr rfl) (Zr G_stepped (hrl.mono (by decide)) rfl T.d_stepped.m T.d_stepped.F.kp T.d_stepped.b .nil ZK (Zj (qv 4) (Zj (qv 5) (Zj (Zz (show IxR _ (Zd6 K) from ZL) (qv 0) Zd (fun _ _=>rfl)) (Zj (Zz (show IxR _ (Zd6 K) from ZL) (qv 0) Zd (fun _ _=>rfl)) Ze))))))
    (Zb (Zq (i:=2) Jh.nd rfl (Or.inr rfl) (Zm (w6 rfl) (by rfl) T.z_min bt_min (Zj (Zi ZX (Zz (show IxR _ (Zd6 K) from ZL) (qv 0) Zd (fun _ _=>rfl)) Zd) (Zj (qv 6) Ze))))
    (Zb (yo (i:=3) Jh.nd rfl rfl (⟨by rfl,by decide +kernel,by decide +kernel,by rfl,by decide +kernel,by decide +kernel,by rfl,by decide +kernel⟩:YO (Zg Xf) _ ["state","step","place","reached","words","columns","last_place","letters","told"] "letter" ["place","step"] [2,1]) (show QI _ _ _ (wk K (jb 7)) from We (qv 7)) (fun _ _ _ _=>JH) (fun _ _ _ _=>(ZH (Zj (qv 1) (Zj (Zr G_bits_at (hrl.mono (by decide)) rfl T.d_bits_at.m T.d_bits_at.F.kp T.d_bits_at.b .nil ZK (Zj (Zz (show IxR _ (Zd6 K) from ZL) (qv 2) Zd (fun _ _=>rfl)) (Zj (qv 0) Ze))) Ze)))))
    (Zf (Zt (ZH (Zj (qv 3) (Zj (Wy (⟨by rfl,by decide +kernel,by decide +kernel,by rfl,by decide +kernel,by decide +kernel,by rfl,by decide +kernel⟩:YO (Zg Xf) _ ["state","step","place","reached","words","columns","last_place","letters","told"] "letter" ["told","step"] [8,1]) (show QI _ _ _ (wk K (jb 7)) from We (qv 7)) (fun _ _ _ _=>JH) (fun _ _ _ _=>(Zz (show IxR _ (Zd6 K) from ZL) (qv 1) (Zi Xl (Zi GF (Zz (show IxR _ (Zd6 K) from ZL) (qv 2) Zd (fun _ _=>rfl)) (qv 0)) Zd) (fun _ _=>rfl)))) Ze)))))))))) Zd (fun _ _=>rfl))))))))),?_⟩
  clear hu hr
  try dsimp only [L2.cxK,L2.cxK2]
  refine L2.let6 ?_
  intro U5 U4 U3 U2 U1
  have h8:=p8 hn3
  have e2:((2:Int) ^ nm.length)=((2 ^ nm.length:Nat):Int):=by rw [Qdw];rfl
  have hflat:∀w∈ws,Xc w=true/\((∃y,w=.str y)\/∃z:Int,w=.int z):=fun w h=>by
   rcases hw w h with ⟨y,rfl,_⟩ | ⟨y,rfl,_⟩ | ⟨y,rfl,_⟩ | ⟨z,rfl,_⟩
   ·exact ⟨rfl,.inl ⟨y,rfl⟩⟩
   ·exact ⟨rfl,.inl ⟨y,rfl⟩⟩
   ·exact ⟨rfl,.inl ⟨y,rfl⟩⟩
   ·exact ⟨rfl,.inr ⟨z,rfl⟩⟩
  refine ⟨_,rfl,tn,_,rfl,.inr (SqT.of hn),nm.length,by rw [Qab];rfl,by lia,_,rfl,fun pr hpr=>⟨pr,2 ^ nm.length,rfl,by rw [Za,e2],by lia,fun tl htl=>Zl ?_⟩⟩
  have s1:=Zc (o:=.rng 0 ((2:Int) ^ nm.length)) hpr
  have s2:=s1.trans (Zc (o:=.lst ((List.range (2 ^ nm.length)).map fun i:Nat=>V.int (i:Int))) htl)
  have htl2:=Za (H:=upd H pr (.rng 0 ((2:Int) ^ nm.length))) (a:=tl) (o:=.lst ((List.range (2 ^ nm.length)).map fun i:Nat=>V.int (i:Int)))
  have htlH:H tl=none:=s1.free htl
  try dsimp only
  generalize upd (upd H pr (.rng 0 ((2:Int) ^ nm.length))) tl (.lst ((List.range (2 ^ nm.length)).map fun i:Nat=>V.int (i:Int)))=H2 at *
  refine ⟨_,rfl,_,rfl,tn,tl,nm,2 ^ nm.length,rfl,s2 _ _ hn,hnd,by lia,htl2,by lia,fun dv kvs H3 hdv0 hdv hcol s3=>Zl ?_⟩
  have s23:=s2.trans s3
  generalize Xd (2 ^ nm.length) nm=cols at *
  refine ⟨_,rfl,tw,ws,rfl,s23 _ _ ht,by lia,fun w h=>(hflat w h).2,fun L H4 hL1 hL2 s4=>Zl ?_⟩
  rw [<-Zda hL1 hL2] at k
  have s24:=s23.trans s4
  have hLB:L<=B:=by
   rw [Zda hL1 hL2]
   exact uC hB
  have hdv4:=s4 _ _ hdv
  have htl4:=(s3.trans s4) _ _ htl2
  refine ⟨hT.same s24,fun f c' oc ctv doc H5 hf0 hf hc' hoc hT5 o5=>?_⟩
  obtain ⟨pz,hpz⟩:=(hT.same s24).ex
  have o5':∀{b:Addr} {o:HO},H4 b=some o->(∀ps,o≠.tbl ps)->H5 b=some o:=fun {b o} e h=>o5 b o e fun z=>by
   rw [z,hpz] at e
   exact h _ (Option.some.inj e).symm
  have t5:∀{b:Addr} {xs:List V},H b=some (.tup xs)->H5 b=some (.tup xs):=fun e=>o5' (s24 _ _ e) (fun _ z=>nomatch z)
  have hdv5:=o5' hdv4 (fun _ z=>nomatch z)
  have htl5:=o5' htl4 (fun _ z=>nomatch z)
  refine ⟨_,rfl,tw,rfl,⟨_,SqT.of (t5 ht)⟩,qw (K:=K) (a:=tw) (xs:=ws) (fun i zs H'=>zs=List.replicate (Y8 (ws.take i)) (.int 0)/\H'=H5) ⟨rfl,rfl⟩ (fun i zs H' h=>?_) (fun i zs H' h=>by rw [h.2];exact SqT.of (t5 ht)) (fun i x zs H6 R hR hx h=>?_) (fun zs H6 h pl hpl=>?_)⟩
  ·rw [h.1,Qa8]
   have:Y8 (ws.take i)<=(ws.take i).length:=Qde _ _
   rw [Qar] at this
   exact Qaw (Zp (by lia))
  ·obtain ⟨rfl,rfl⟩:=h
   refine ⟨_,rfl,x,rfl,(hflat x (Qam hx)).1,_,rfl,?_⟩
   have er:Y8 (ws.take (i + 1))=Y8 (ws.take i) + if inV x (allR.map V.str)=true then 1 else 0:=by
    rw [take_snoc hx]
    unfold Y8
    rw [Qdb,Qac,Qcl]
    split <;> rfl
   rw [er] at hR
   refine Gj (fun hb=>?_) (fun hb=>?_)
   ·rw [Qau hb,List.replicate_succ'] at hR
    exact hR _ _ ⟨rfl,rfl⟩
   ·rw [Qan hb] at hR
    exact hR _ _ ⟨rfl,rfl⟩
  obtain ⟨rfl,rfl⟩:=h
  rw [Qbr,<-hkc]
  refine ⟨pl,_,rfl,.inl ⟨SqL.of Za,fun tb htb=>⟨by show 2<=sizeLine;decide,fun tg htg=>Zl ?_⟩⟩⟩
  have q1:=Zc (o:=.lst (List.replicate kc (.int 0))) hpl
  have q2:=Zc (o:=.tup (List.replicate kc (.int 0))) htb
  have q3:=Zc (o:=.tup [.int 0,.ref tb]) htg
  have s6:=q1.trans (q2.trans q3)
  have htb6:=q3 _ _ (Za (H:=upd H6 pl (.lst (List.replicate kc (.int 0)))) (a:=tb) (o:=.tup (List.replicate kc (.int 0))))
  have htg6:=Za (H:=upd (upd H6 pl (.lst (List.replicate kc (.int 0)))) tb (.tup (List.replicate kc (.int 0)))) (a:=tg) (o:=.tup [.int 0,.ref tb])
  try dsimp only
  generalize upd (upd (upd H6 pl (.lst (List.replicate kc (.int 0)))) tb (.tup (List.replicate kc (.int 0)))) tg (.tup [.int 0,.ref tb])=H7 at *
  refine ⟨_,rfl,_,rfl,_,rfl,f,c',oc,ctv,doc,rfl,s6 _ _ hf,s6 _ _ hc',hoc,fun cs H8 hcs0 hcsF o8 hcall=>?_⟩
  have hU:∀s∈uni kc (L + 1),(nxT nm cols ws L s).length<=8/\(otT nm cols ws o0 o1 s).length<=8/\∀x∈nxT nm cols ws L s,x∈uni kc (L + 1):=fun s hs=>⟨by unfold nxT;rw [Qab,Qbp];exact h8,by unfold otT;rw [Qab,Qbp];exact h8,zQ hw hkc hs⟩
  have t8:∀{b:Addr} {xs:List V},H b=some (.tup xs)->H8 b=some (.tup xs):=fun e=>o8 _ _ (s6 _ _ (t5 e))
  have hUl:(uni kc (L + 1)).length<=1000000:=by
   rw [zN]
   exact Qba (Qd9 _ (by lia)) hbig
  refine ⟨Int × List Int,_,.key knQ,tn,f,nm,(0,List.replicate kc 0),.ref tg,nxT nm cols ws L,otT nm cols ws o0 o1,uni kc (L + 1),_,rfl,t8 hn,⟨tg,rfl,tb,o8 _ _ htg6,by rw [o8 _ _ htb6,List.map_replicate]⟩,J7.mpr ⟨0,by lia,rfl,X0.mpr ⟨Qa8,fun x hx=>.inl (Qds hx)⟩⟩,hU,hUl,hn3,hcall,fun s sv H9 Q' hs hat s9 hQ=>⟨rfl,?_⟩,fun p sts m l wsl H9 B9 hp hsts0 hsts hA M9 s9=>?_⟩
  ·obtain ⟨a,rfl,tk,ha,htk⟩:=hat
   have hk9:∀{b:Addr} {u:HO},H9 b=some u->(∀o,u≠JA o)->hide cs H9 b=some u:=fun e h=>j5 hcsF s9 e h
   have t9:∀{b:Addr} {xs:List V},H9 b=some (.tup xs)->hide cs H9 b=some (.tup xs):=fun e=>hk9 e (fun _ z=>nomatch z)
   obtain ⟨pn,hp1,hp2,hp3⟩:=J7.mp hs
   obtain ⟨sp,ks⟩:=s
   have hp2:sp=(pn:Int):=hp2
   subst hp2
   obtain ⟨hkl,hkb⟩:=X0.mp hp3
   have hkl:ks.length=kc:=hkl
   have ha':=t9 ha
   have htk':=t9 htk
   have hln:(XU nm cols pn ks ws).1.length=1:=by rw [zJ ws hw,hst]
   have hrm:(XU nm cols pn ks ws).2.length=kc:=by rw [zP ws hw,hkc]
   obtain ⟨o,lt,hstp⟩:∃o lt,XU nm cols pn ks ws=([o],lt):=by
    generalize XU nm cols pn ks ws=q at hln
    obtain ⟨q1,q2⟩:=q
    match q1,hln with
    | [o],_=>exact ⟨o,q2,rfl⟩
   have hltl:lt.length=kc:=by rw [hstp] at hrm;exact hrm
   have hsS:Zf4 nm cols ws ((pn:Int),ks)=([o],lt):=hstp
   refine ⟨_,rfl,_,rfl,_,rfl,a,_,0,_,rfl,rfl,SqT.of ha',rfl,_,rfl,a,_,1,_,rfl,rfl,SqT.of ha',rfl,tw,dv,tk,nm,ws,kvs,cols,pn,ks,o,lt,rfl,t9 (s9 _ _ (t8 ht)),hl,hk9 (s9 _ _ (o8 _ _ (s6 _ _ hdv5))) (fun _ z=>nomatch z),hcol,htk',hw,he,hstp,by rw [hltl];show kc<=ks.length;lia,fun ta la H10 hta0 hta hla s10=>Zl ?_⟩
   refine ⟨_,rfl,a,_,0,_,rfl,rfl,SqT.of (s10 _ _ ha'),rfl,_,_,rfl,rfl,_,rfl,_,_,rfl,Zl ?_⟩
   have em:(if (L:Int) < (pn:Int) + 1 then (L:Int) else (pn:Int) + 1)=min ((pn:Int) + 1) (L:Int):=by split <;> lia
   try dsimp only
   rw [em]
   have htl10:H10 tl=some (.lst ((List.range (2 ^ nm.length)).map fun i:Nat=>V.int (i:Int))):=s10 _ _ (hk9 (s9 _ _ (o8 _ _ (s6 _ _ htl5))) (fun _ z=>nomatch z))
   have hxs:((List.range (2 ^ nm.length)).map fun i:Nat=>V.int (i:Int)).length=2 ^ nm.length:=by rw [Qab,Qbp]
   have hnx:nxT nm cols ws L ((pn:Int),ks)=(List.range (2 ^ nm.length)).map fun l=>(min ((pn:Int) + 1) (L:Int),lt.map fun c=>bt c l):=by
    unfold nxT
    rw [hsS]
   have hot:otT nm cols ws o0 o1 ((pn:Int),ks)=(List.range (2 ^ nm.length)).map fun l=>if bt o l=1 then o1 else o0:=by
    unfold otT
    rw [hsS]
    rfl
   refine ⟨_,rfl,tl,rfl,⟨_,SqL.of htl10⟩,JI (K:=K) (a:=tl) (xs:=(List.range (2 ^ nm.length)).map fun i:Nat=>V.int (i:Int)) (fun i zs H'=>StA (.key knQ) H' ((nxT nm cols ws L ((pn:Int),ks)).take i) zs/\i<=2 ^ nm.length/\ZG H10 H') ⟨⟨rfl,fun i k hk=>by cases hk⟩,Qbg _,ZG.refl _⟩ (fun i zs H' h=>?_) (fun i zs H' h=>SqL.of (h.2.2 _ _ htl10)) (fun i x zs H11 R hR hx h=>?_) (fun zs H11 h rl hrl=>Zl ?_)⟩
   ·rw [h.1.1,Qar]
    exact Qaw (Zp (by lia))
   ·obtain ⟨hA,hi,s11⟩:=h
    have hil:i < 2 ^ nm.length:=by rw [<-hxs];exact (Qah.mp hx).1
    rw [qA hil] at hx
    cases hx
    refine yesT ⟨_,rfl,_,rfl,ta,_,1,_,rfl,rfl,SqT.of (s11 _ _ hta),rfl,_,rfl,la,lt,i,rfl,s11 _ _ hla,?_,by lia,fun t5 H12 ht50 ht5 s12=>⟨by show 2<=sizeLine;decide,fun q hq=>hR _ _ ⟨?_,hil,s11.trans (s12.trans (Zc hq))⟩⟩⟩
    ·have:Y8 ws<=ws.length:=Qde _ _
     lia
    ·have en:(nxT nm cols ws L ((pn:Int),ks))[i]?=some (min ((pn:Int) + 1) (L:Int),lt.map fun c=>bt c i):=by rw [hnx,qA hil]
     rw [take_snoc en]
     refine (hA.keep (H':=upd H12 q (.tup [.int (min ((pn:Int) + 1) (L:Int)),.ref t5])) fun b xs e=>Zc hq _ _ (s12 _ _ e)).snoc ⟨q,rfl,t5,Za,Zc hq _ _ ht5⟩
   obtain ⟨hA,_,s11⟩:=h
   rw [hxs,Qb9 (by rw [hnx,Qab,Qbp];exact Qaj _)] at hA
   have s12:=Zc (o:=.lst zs) hrl
   have hrl12:=Za (H:=H11) (a:=rl) (o:=.lst zs)
   try dsimp only
   generalize upd H11 rl (.lst zs)=H12 at *
   have s1012:=s11.trans s12
   have htt12:H12 tt=some (.tup [o0,o1]):=s1012 _ _ (s10 _ _ (t9 (s9 _ _ (t8 hto))))
   refine ⟨_,rfl,_,rfl,tl,rfl,⟨_,SqL.of (s1012 _ _ htl10)⟩,comp_map (xs:=(List.range (2 ^ nm.length)).map fun i:Nat=>V.int (i:Int)) (fI fun c=>if bt o c.toNat=1 then o1 else o0) (SqL.of (s1012 _ _ htl10)) (by rw [hxs];exact Qaw (Zp (by lia))) (fun v hv R hR=>?_) (fun q hq=>?_)⟩
   ·obtain ⟨l,_,rfl⟩:=Qa5.mp hv
    refine ⟨_,rfl,_,rfl,ta,_,0,_,rfl,rfl,SqT.of (s1012 _ _ hta),rfl,_,rfl,_,_,rfl,rfl,Qbl l,_,_,rfl,rfl,tt,_,_,fI (fun c=>if bt o c.toNat=1 then o1 else o0) (V.int (l:Int)),rfl,rfl,SqT.of htt12,?_,hR⟩
    rw [and_1,Qat]
    show atI [o0,o1] (bt o l)=some (if bt o (l:Int).toNat=1 then o1 else o0)
    rw [Qat]
    rcases YQ o l with e | e <;> rw [e] <;> rfl
   ·refine ⟨by show 2<=sizeLine;decide,fun t0 ht0 hcn=>?_⟩
    have ef:((List.range (2 ^ nm.length)).map fun i:Nat=>V.int (i:Int)).map (fI fun c=>if bt o c.toNat=1 then o1 else o0)=otT nm cols ws o0 o1 ((pn:Int),ks):=by
     rw [hot,Qbn]
     refine Qcd fun l _=>?_
     show (if bt o (l:Int).toNat=1 then o1 else o0)=_
     rw [Qat]
    rw [ef] at ht0 hcn ⊢
    have s13:=Zc (o:=.lst (otT nm cols ws o0 o1 ((pn:Int),ks))) hq
    have s14:=s13.trans (Zc (o:=.tup [.ref rl,.ref q]) ht0)
    have hsame:=s10.trans (s1012.trans s14)
    obtain ⟨u1,u2,u3⟩:=kx hsame hcn
    have hrl14:=s14 _ _ hrl12
    have hq14:=Zc (o:=.tup [.ref rl,.ref q]) ht0 _ _ (Za (H:=H12) (a:=q) (o:=.lst (otT nm cols ws o0 o1 ((pn:Int),ks))))
    exact hQ t0 rl q zs _ (u2 _ _ Za) (.inr ⟨u2 _ _ hrl14,u3 _ _ hrl14 (s10.free (s11.free hrl))⟩) (hA.keep fun b xs e=>u2 _ _ ((s12.trans s14) _ _ e)) (.inr ⟨u2 _ _ hq14,u3 _ _ hq14 (s10.free (s1012.free hq))⟩) u1
  ·have keep9:ZG H7 (hide cs H9):=fun b o e=>by
    rw [ZV fun m=>by rw [hcs0 b m] at e;cases e]
    exact s9 _ _ (o8 _ _ e)
   have tk9:∀(b:Addr) (xs:List V),H9 b=some (.tup xs)->hide cs H9 b=some (.tup xs):=fun b xs e=>j5 hcsF s9 e (fun _ z=>nomatch z)
   refine ⟨p,_,1,_,rfl,rfl,SqT.of (tk9 _ _ hp),rfl,k m l (hide cs H9) B9 ?_ ((hT5.same s6).same keep9) fun b o e hb=>keep9 _ _ (s6 _ _ (o5 _ _ (s24 _ _ e) hb))⟩
   refine Z5 fun Gz hGz=>?_
   obtain ⟨pn,ps,po,h1,h2,h3,h4⟩:=M9.ex
   refine hGz ?_
   clear hGz Gz
   exact ⟨⟨pn,ps,po,tk9 _ _ h1,tk9 _ _ h2,Jg h3 tk9,Jg h4 tk9⟩⟩
inductive Wb(w:World)(pw:Addr)(vs:List V)(H:Hp)(Q:VK):Prop
 | mk (tw tn:Addr) (ws:List V) (nm:List Str) (B kc:Nat):(vs=[.ref tw,.ref tn])->(H tw=some (.tup ws))->(ws.length<=100)->(H tn=some (.tup (nm.map V.str)))->(nm.Nodup)->(nm.length<=3)->((∀w∈ws,jG nm w))->(Xi ws)->(Gk ws=1)->((∀z:Int,V.int z∈ws->0<=z/\z < 2 ^ B))->(kc=Y8 ws)->((B + 1) * 2 ^ kc<=1000000)->(J3 H pw ZJ ZA)->(∀m (l:List (Int × List Int)) H',BfE (nxT nm (Xd (2 ^ nm.length) nm) ws (lgB ws)) (0,List.replicate kc 0) l->M4 H' m nm 0 (rnG (nxT nm (Xd (2 ^ nm.length) nm) ws (lgB ws)) l) (l.map (otT nm (Xd (2 ^ nm.length) nm) ws (.bl false) (.bl true)))->J3 H' pw ZJ ZA->Zf5 pw H H'->Q (.ref m) H')->Wb w pw vs H Q
noncomputable def WI(P:Program)(w:World)(K:PySem.W.Frag)(mg:Str->Option Value)(base:Heap)(pw:Addr):Sp:=fun vs H Q _=>Wb w pw vs H Q
theorem qm (T:Txt K w mg t) (TB:Tbs mg base t):ZO P w K mg base CX0 15 t.a_claim_machine t.f_claim_machine ["claim","names"] (WI P w K mg base t.p_machine_telling):=by
 have G_machine_telling:ZO P w K mg base CX0 14 t.a_machine_telling t.f_machine_telling ["words","names","told"] (Wa P w K mg base t.p_machine_telling):=Gi T TB
 refine T.d_claim_machine.F.ok qi (fun vs H Q E h=>?_) (fun cdv A outer s H vs Q E hr h=>?_)
 ·obtain ⟨tw,tn,ws,nm,B,kc,rfl,ht,hl,hn,hnd,hn3,hw,he,hst,hB,hkc,hbig,hT,k⟩:=h
  rfl
 ·obtain ⟨tw,tn,ws,nm,B,kc,rfl,ht,hl,hn,hnd,hn3,hw,he,hst,hB,hkc,hbig,hT,k⟩:=h
  have hu:=Yj hr
  refine ⟨_,@QSs.out _ _ _ (Zf (Zt (Zr G_machine_telling (hr.mono (by decide)) rfl T.d_machine_telling.m T.d_machine_telling.F.kp T.d_machine_telling.b .nil ZK (Zj (qv 0) (Zj (qv 1) (Zj (ZH (Zj WK (Zj WK Ze))) Ze)))))),?_⟩
  clear hu hr
  try dsimp only [L2.cxK,L2.cxK2]
  refine ⟨_,rfl,_,rfl,by show 2<=sizeLine;decide,fun tt htt=>?_⟩
  have s1:=Zc (o:=.tup [.bl false,.bl true]) htt
  exact ⟨tw,tn,tt,ws,nm,(.bl false),(.bl true),B,kc,rfl,s1 _ _ ht,hl,s1 _ _ hn,hnd,hn3,Za,hw,he,hst,hB,hkc,hbig,hT.same s1,fun m l H' h1 h2 h3 h4=>k m l H' h1 h2 h3 fun b o e hb=>h4 _ _ (s1 _ _ e) hb⟩
inductive vM(K:PySem.W.Frag)(pw:Addr)(vs:List V)(H:Hp)(Q:VK):Prop
 | mk (a:Addr) (ns:List Int):(vs=[.ref a])->(SqL K H a (ns.map V.int))->(ns.length<=63)->(J3 H pw ZJ ZA)->(∀H',Q (.bl true) H')->vM K pw vs H Q
noncomputable def yf(K:PySem.W.Frag)(pw:Addr):Sp:=fun vs H Q _=>vM K pw vs H Q
theorem ok_law (T:Txt K w mg t) (TB:Tbs mg base t):ZO P w K mg base CX0 16 t.a_law t.f_law ["script"] (yf K t.p_machine_telling):=by
 have G_claim_machine:ZO P w K mg base CX0 15 t.a_claim_machine t.f_claim_machine ["claim","names"] (WI P w K mg base t.p_machine_telling):=qm T TB
 have G_law_tells:ZO P w K mg base CX0 4 t.a_law_tells t.f_law_tells ["machine","claim","names","letters","first"] (qc K):=yd T TB
 have G_law_letters:ZO P w K mg base CX0 1 t.a_law_letters t.f_law_letters ["names","width","values"] (Jr K):=xP T TB
 have G_law_cell_at:ZO P w K mg base CX0 1 t.a_law_cell_at t.f_law_cell_at ["script","k"] (Jo K):=xO T TB
 have G_law_led_to:ZO P w K mg base CX0 1 t.a_law_led_to t.f_law_led_to ["begin","nexts"] (Gf K):=zY T TB
 have G_law_is_machine:ZO P w K mg base CX0 2 t.a_law_is_machine t.f_law_is_machine ["found","names","truths"] (Wx K):=GB T TB
 have G_law_claim:ZO P w K mg base CX0 3 t.a_law_claim t.f_law_claim ["numbers","names","long","most"] (qa K):=yb T TB
 have G_law_numbers:ZO P w K mg base CX0 1 t.a_law_numbers t.f_law_numbers ["cell","many","most"] (Wh K):=Jp T TB
 have G_law_names:ZO P w K mg base CX0 2 t.a_law_names t.f_law_names ["cell","many"] (GY K):=ya T TB
 refine T.d_law.F.ok YR (fun vs H Q E h=>?_) (fun cdv A outer s H vs Q E hr h=>?_)
 ·obtain ⟨a,ns,rfl,hS,h63,hT,k⟩:=h
  rfl
 ·obtain ⟨a,ns,rfl,hS,h63,hT,k⟩:=h
  have hu:=Yj hr
  refine ⟨_,@QSs.out _ _ _ (Zb (Zq (i:=1) YR.nd rfl (Or.inl rfl) (Zr G_law_cell_at (hr.mono (by decide)) rfl T.d_law_cell_at.m T.d_law_cell_at.F.kp T.d_law_cell_at.b .nil ZK (Zj (qv 0) (Zj Zd Ze))))
    (Zb (Zq (i:=2) YR.nd rfl (Or.inr rfl) (Zr G_law_names (hr.mono (by decide)) rfl T.d_law_names.m T.d_law_names.F.kp T.d_law_names.b .nil ZK (Zj (Zr G_law_cell_at (hr.mono (by decide)) rfl T.d_law_cell_at.m T.d_law_cell_at.F.kp T.d_law_cell_at.b .nil ZK (Zj (qv 0) (Zj Zd Ze))) (Zj (Zi ZF (qv 1) Zd) Ze))))
    (Zb (Zq (i:=3) YR.nd rfl (Or.inl rfl) Zd)
    (Zb (Zq (i:=4) YR.nd rfl (Or.inl rfl) (Zi ZX Zd (Zi ZF (Zi Ya (qv 1) Zd) (Zi X1 Zd (Zi Ya (Zm Zk (by rfl) T.z_len ZE (Zj (qv 2) Ze)) Zd)))))
    (Zb (Zq (i:=5) YR.nd rfl (Or.inl rfl) (Zi X1 Zd (Zi Ya (Zm Zk (by rfl) T.z_len ZE (Zj (qv 2) Ze)) Zd)))
    (Zb (Z8 (Zn Yb (Zi ZF (Zi Ya (qv 1) Zd) Zd) Zd (Zx _))
    (Zb (Zq (i:=2) YR.nd rfl (Or.inr rfl) (Yf (SlR.or Zca gh) (qv 2) YU (Yu Zd)))
    (Zb (Zq (i:=3) YR.nd rfl (Or.inl rfl) Zd)
    (Zb (Zq (i:=4) YR.nd rfl (Or.inl rfl) Zd)
    (Zf (Zq (i:=5) YR.nd rfl (Or.inl rfl) Zd))))) Zu)
    (Zb (Zq (i:=6) YR.nd rfl (Or.inl rfl) (Zr G_law_numbers (hr.mono (by decide)) rfl T.d_law_numbers.m T.d_law_numbers.F.kp T.d_law_numbers.b .nil ZK (Zj (Zr G_law_cell_at (hr.mono (by decide)) rfl T.d_law_cell_at.m T.d_law_cell_at.F.kp T.d_law_cell_at.b .nil ZK (Zj (qv 0) (Zj Zd Ze))) (Zj (Zi YT (qv 4) (Zi ZX (Zi YT Zd (qv 3)) Zd)) (Zj Zd Ze)))))
    (Zb (Zq (i:=7) YR.nd rfl (Or.inl rfl) (Zr G_law_claim (hr.mono (by decide)) rfl T.d_law_claim.m T.d_law_claim.F.kp T.d_law_claim.b .nil ZK (Zj (qv 6) (Zj (qv 2) (Zj (qv 3) (Zj (qv 5) Ze))))))
    (Zb (Z8 (Zn Yb (Zi ZF (Zi Ya (qv 1) Zd) Zd) Zd (Zx _))
    (Zf (Zq (i:=7) YR.nd rfl (Or.inl rfl) (Zi YJ (ZH (Zj Zh Ze)) (qv 7)))) Zu)
    (Zb (Z8 (JE (jq (Zn Yb (Zi ZF (Zi Ya (qv 1) Zd) Zd) Zd (Zx _)) (qN (Zn qF (Zm Zk (by rfl) T.z_len ZE (Zj (qv 7) Ze)) Zd (Zx _)))))
    (Zf (Zq (i:=7) YR.nd rfl (Or.inl rfl) (Zi YJ (Zi YJ (ZH (Zj Zh Ze)) (qv 7)) (ZH (Zj Zh Ze))))) Zu)
    (Zb (Z8 (JE (jq (Zn Yb (Zi ZF (Zi Ya (qv 1) Zd) Zd) Zd (Zx _)) (qN (Zn qF (Zm Zk (by rfl) T.z_len ZE (Zj (qv 7) Ze)) Zd (Zx _)))))
    (Zf (Zq (i:=7) YR.nd rfl (Or.inl rfl) (Zi YJ (Zi YJ (ZH (Zj Zh Ze)) (qv 7)) (ZH (Zj Zh (Zj Zh Ze)))))) Zu)
    (Zb (Zq (i:=8) YR.nd rfl (Or.inl rfl) (Yf (SlR.or Zca gh) (qv 7) YU YU))
    (Zb (Zq (i:=9) YR.nd rfl (Or.inl rfl) (Zr G_claim_machine (hr.mono (by decide)) rfl T.d_claim_machine.m T.d_claim_machine.F.kp T.d_claim_machine.b .nil ZK (Zj (qv 7) (Zj (qv 2) Ze))))
    (Zb (Z8 (JE (Gn (WN (X2 (Zr G_law_is_machine (hr.mono (by decide)) rfl T.d_law_is_machine.m T.d_law_is_machine.F.kp T.d_law_is_machine.b .nil ZK (Zj (qv 9) (Zj (qv 2) (Zj WK Ze)))))) (JD (Zn (op_neT (yZ hr)) (qv 7) (qv 8) (Zx _)))))
    (Zf (Zt WK)) Zu)
    (Zb (Z8 (Zn Zdu (Zm Zk (by rfl) T.z_len ZE (Zj (Zr G_law_led_to (hr.mono (by decide)) rfl T.d_law_led_to.m T.d_law_led_to.F.kp T.d_law_led_to.b .nil ZK (Zj (Zz ZL (qv 9) Zd (fun _ _=>rfl)) (Zj (Zz ZL (qv 9) Zd (fun _ _=>rfl)) Ze))) Ze)) (Zm Zk (by rfl) T.z_len ZE (Zj (Zz ZL (qv 9) Zd (fun _ _=>rfl)) Ze)) (Zx _))
    (Zf (Zt WK)) Zu)
    (Zb (Zq (i:=10) YR.nd rfl (Or.inl rfl) (Zi ZX Zd (Zi ZF (Zr G_law_cell_at (hr.mono (by decide)) rfl T.d_law_cell_at.m T.d_law_cell_at.F.kp T.d_law_cell_at.b .nil ZK (Zj (qv 0) (Zj Zd Ze))) Zd)))
    (Zb (Zq (i:=11) YR.nd rfl (Or.inl rfl) yw)
    (Zb (YN PassesOwn.never rfl (Ym rfl T.z_range (Zj (Zm Zk (by rfl) T.z_len ZE (Zj (qv 2) Ze)) Ze)) (Yc (i:=12) YR.nd rfl (Or.inl rfl))
    (Zf (qP hu (qv 11) (Zz ZL (qv 2) (qv 12) (fun _ _=>rfl)) (Zi ZF (Zr G_law_cell_at (hr.mono (by decide)) rfl T.d_law_cell_at.m T.d_law_cell_at.F.kp T.d_law_cell_at.b .nil ZK (Zj (qv 0) (Zj (Zi ZX Zd (qv 12)) Ze))) (Zi GD Zd (qv 10))) rfl)))
    (Zb (Z8 (WN (X2 (Zr G_law_tells (hr.mono (by decide)) rfl T.d_law_tells.m T.d_law_tells.F.kp T.d_law_tells.b .nil ZK (Zj (qv 9) (Zj (qv 7) (Zj (qv 2) (Zj (Zr G_law_letters (hr.mono (by decide)) rfl T.d_law_letters.m T.d_law_letters.F.kp T.d_law_letters.b .nil ZK (Zj (qv 2) (Zj (qv 10) (Zj (qv 11) Ze)))) (Zj Zd Ze))))))))
    (Zf (Zt WK)) Zu)
    (Zb (yo (i:=13) YR.nd rfl rfl (⟨by rfl,by decide +kernel,by decide +kernel,by rfl,by decide +kernel,by decide +kernel,by rfl,by decide +kernel⟩:YO (Zg xA) _ ["script","shape","names","long","many","most","numbers","claim","kept","found","width","values","k","letters"] "cell" ["names"] [2]) (We (Yf Xm (qv 0) (Yu Zd) (Yu Zd))) (fun _ _ _ _=>JH) (fun _ _ _ _=>(Zi ZF (qv 0) (Zi GD Zd (Zm (show WJ _ (.builtin "len") (Zgk K) from gi) (by rfl) T.z_len ZE (Zj (qv 1) Ze))))))
    (Zf (Zt (yW (Zr G_law_tells (hr.mono (by decide)) rfl T.d_law_tells.m T.d_law_tells.F.kp T.d_law_tells.b .nil ZK (Zj (qv 9) (Zj (qv 7) (Zj (qv 2) (Zj (qv 13) (Zj Zd Ze)))))) (xT (WM (op_eqD (gH hr)) (Zr G_claim_machine (hr.mono (by decide)) rfl T.d_claim_machine.m T.d_claim_machine.F.kp T.d_claim_machine.b .nil ZK (Zj (qv 7) (Zj (qv 2) Ze))) (qv 9) (Zx _)))))))))))))))))))))))))),?_⟩
  clear hu
  try dsimp only [L2.cxK,L2.cxK2]
  refine ⟨_,rfl,a,ns,0,rfl,hS,fun shape=>Zl ?_⟩
  refine ⟨_,rfl,a,ns,1,rfl,hS,fun c1=>?_⟩
  have m4:0<=shape % 4/\shape % 4 < 4:=⟨Qa4 _ (by decide),Qay _ (by decide)⟩
  refine ⟨_,rfl,_,_,rfl,rfl,(by show (0:Int) < 4;decide),c1,(shape % 4).toNat,by rw [Qcp m4.1];rfl,by lia,fun tn ys H1 htn0 htn hy3 hynd hyk s1=>Zl ?_⟩
  have d3:(0:Int)<=((ys.map V.str).length:Int) / 3/\((ys.map V.str).length:Int) / 3<=1:=by
   rw [Qab]
   lia
  have d2:(0:Int)<=((ys.map V.str).length:Int) / 2/\((ys.map V.str).length:Int) / 2<=1:=by
   rw [Qab]
   lia
  refine ⟨_,rfl,_,_,rfl,rfl,.of (by decide) (by decide),_,rfl,tn,_,rfl,.inr (SqT.of htn),_,_,rfl,rfl,.of (by decide) (by decide),_,_,rfl,rfl,_,_,rfl,rfl,(by show (0:Int) < 3 - ((ys.map V.str).length:Int) / 3;lia),_,_,rfl,rfl,Zl ?_⟩
  refine ⟨_,rfl,tn,_,rfl,.inr (SqT.of htn),_,_,rfl,rfl,.of (by decide) (by decide),_,_,rfl,rfl,Zl ?_⟩
  have dm:0<=shape / 4 % (3 - ((ys.map V.str).length:Int) / 3)/\shape / 4 % (3 - ((ys.map V.str).length:Int) / 3) < 3:=⟨Qa4 _ (by lia),Int.lt_of_lt_of_le (Qay _ (by lia)) (by lia)⟩
  refine Gx (fun σ H'=>∃(tn:Addr) (nm:List Str) (long many most:Nat),σ=[some (.ref a),some (.int shape),some (.ref tn),some (.int (long:Int)),some (.int (many:Int)),some (.int (most:Int)),none,none,none,none,none,none,none,none]/\H' tn=some (.tup (nm.map V.str))/\nm.length<=3/\nm.Nodup/\(∀y∈nm,y∉YL)/\1<=long/\long<=6/\1<=many/\many<=3/\most<=5/\ZG H H') (fun N hN=>?_) ?_
  ·refine ⟨_,rfl,_,_,rfl,rfl,.of (by decide) (by decide),_,_,rfl,rfl,(by show (0:Int) < 16;decide),rfl,_,rfl,Gj (fun _=>?_) (fun _=>?_)⟩
   ·refine ⟨_,rfl,1,rfl,j9 htn fun q H2 h2 s2=>Zl ?_⟩
    rw [X6,show (1:Int)=((1:Nat):Int) from rfl,WO] at h2
    have ly:(ys.take 1).length<=1:=by rw [Qar];lia
    have hsub:(ys.take 1).Sublist ys:=Qem 1 ys
    exact hN _ _ ⟨q,ys.take 1,6,1,5,rfl,h2,by lia,hynd.sublist hsub,fun y hy=>hyk y (hsub.subset hy),by decide,by decide,by decide,by decide,by decide,s1.trans s2⟩
   ·refine hN _ _ ⟨tn,ys,3,(1 + shape / 4 % (3 - ((ys.map V.str).length:Int) / 3)).toNat,(2 - ((ys.map V.str).length:Int) / 2).toNat,?_,htn,hy3,hynd,hyk,by decide,by decide,by lia,by lia,by lia,s1⟩
    rw [Qcp (by lia),Qcp (by lia)]
    rfl
  clear d3 d2 dm htn htn0 hy3 hynd hyk s1 tn ys H1
  rintro σ H1 hz_
  refine Z5 fun Gz hGz=>?_
  obtain ⟨tn,nm,long,many,most,rfl,htn,hn3,hnd,hnk,hg1,hg6,hm1,hm3,hmo,s1⟩:=hz_
  refine hGz ?_
  clear hGz Gz
  have hS1:=JX hS s1
  have hM:(many:Int) * (2 * (long:Int) + 1)=((many * (2 * long + 1):Nat):Int):=by
   rw [Qdx]
   rfl
  have hM39:many * (2 * long + 1)<=39:=Qba (Qel hm3 (show 2 * long + 1<=13 by lia)) (by decide)
  refine ⟨_,rfl,a,ns,2,rfl,hS1,fun c2=>⟨_,rfl,_,rfl,_,_,rfl,rfl,.inl ⟨by decide,by lia⟩,_,_,rfl,rfl,_,_,rfl,rfl,.inl ⟨by lia,by lia⟩,?_⟩⟩
  try dsimp only
  rw [hM]
  refine ⟨c2,many * (2 * long + 1),20000,rfl,by lia,by decide,by decide,fun pl ks H2 hpl0 hpl hkl hkb s2=>Zl ?_⟩
  refine ⟨_,rfl,_,rfl,_,rfl,_,rfl,pl,tn,ks,nm,many,long,most,rfl,hpl,hkl,hm1,hm3,hg1,hg6,fun x hx=>(hkb x hx).1,s2 _ _ htn,hn3,hnk,fun tc cw H3 htc hseg hcl hcr s3=>Zl ?_⟩
  have cC:(4 * long + 1) * many<=75:=Qba (Qel (show 4 * long + 1<=25 by lia) hm3) (by decide)
  have s03:=s2.trans s3
  have kn:∀y,y∈Z4->y∉nm:=fun y hy z=>hnk y z (Xx y hy)
  obtain ⟨nv1,nv2,nv3,nv4⟩:=XE
  have ye:("yes" : Str)∈Z4/\("yes" : Str)∉allR/\W0 (.str "yes")=0/\q8 (.str "yes")=0:=by decide +kernel
  obtain ⟨ye1,ye2,ye3,ye4⟩:=ye
  obtain ⟨bo1,bo2,bo3,bo4⟩:=xn "both" (by decide +kernel)
  obtain ⟨ei1,ei2,ei3,ei4⟩:=xn "either" (by decide +kernel)
  have segY:Seg nm true [.str "yes"]:=Seg.clm0 ye1 (kn _ ye1) ye3 ye4
  refine Gx (fun σ H'=>∃(tc:Addr) (cw:List V),σ=[some (.ref a),some (.int shape),some (.ref tn),some (.int (long:Int)),some (.int (many:Int)),some (.int (most:Int)),some (.ref pl),some (.ref tc),none,none,none,none,none,none]/\H' tc=some (.tup cw)/\Seg nm true cw/\cw.length<=75/\Y8 cw<=8/\ZG H1 H') (fun N hN=>?_) ?_
  ·refine ⟨_,rfl,_,_,rfl,rfl,.of (by decide) (by decide),_,_,rfl,rfl,(by show (0:Int) < 3;decide),rfl,_,rfl,Gj (fun _=>?_) (fun _=>?_)⟩
   ·exact ⟨by show 1<=sizeLine;decide,fun q1 hq1=>⟨_,rfl,q1,tc,_,_,rfl,rfl,Za,Zc hq1 _ _ htc,Qaw (Zp (by show 1 + cw.length<=1000;lia)),fun q2 H' hq2 s'=>Zl (hN _ _ ⟨q2,_,rfl,hq2,Seg.clm1 nv1 (kn _ nv1) nv3 nv4 hseg,by show cw.length + 1<=_;lia,by show Y8 (.str "never" :: cw)<=_;rw [WQ nv2];lia,s03.trans ((Zc hq1).trans s')⟩)⟩⟩
   ·exact hN _ _ ⟨tc,cw,rfl,htc,hseg,by lia,by lia,s03⟩
  clear htc hseg hcl hcr s3 s03 tc cw H3
  rintro σ H3 hz_
  refine Z5 fun Gz hGz=>?_
  obtain ⟨tc,cw,rfl,htc,hseg,hcl,hcr,s03⟩:=hz_
  refine hGz ?_
  clear hGz Gz
  refine Jc (t:=Zf8 _ _ _) (fun σ H'=>∃(tc:Addr) (cw:List V),σ=[some (.ref a),some (.int shape),some (.ref tn),some (.int (long:Int)),some (.int (many:Int)),some (.int (most:Int)),some (.ref pl),some (.ref tc),none,none,none,none,none,none]/\H' tc=some (.tup cw)/\Seg nm true cw/\cw.length<=77/\Y8 cw<=8/\ZG H1 H') (fun N hN=>?_) ?_
  ·have no:N [some (.ref a),some (.int shape),some (.ref tn),some (.int (long:Int)),some (.int (many:Int)),some (.int (most:Int)),some (.ref pl),some (.ref tc),none,none,none,none,none,none] H3:=hN _ _ ⟨tc,cw,rfl,htc,hseg,by lia,hcr,s03⟩
   refine ⟨_,rfl,_,_,rfl,rfl,.of (by decide) (by decide),_,_,rfl,rfl,(by show (0:Int) < 3;decide),rfl,_,rfl,Gj (fun _=>?_) (fun _=>ZU no)⟩
   refine ⟨_,rfl,tc,_,rfl,.inr (SqT.of htc),_,_,rfl,rfl,_,rfl,Gj (fun _=>?_) (fun _=>no)⟩
   refine ⟨by show 1<=sizeLine;decide,fun q1 hq1=>⟨_,rfl,q1,tc,_,_,rfl,rfl,Za,Zc hq1 _ _ htc,Qaw (Zp (by show 1 + cw.length<=1000;lia)),fun q2 H' hq2 s'=>⟨by show 1<=sizeLine;decide,fun q3 hq3=>⟨q2,q3,_,_,rfl,rfl,Zc hq3 _ _ hq2,Za,Qaw (Zp (by rw [Qac];show 1 + cw.length + 1<=1000;lia)),fun q4 H'' hq4 s''=>Zl (hN _ _ ⟨q4,_,rfl,hq4,Seg.clm2 bo1 (kn _ bo1) bo3 bo4 hseg segY,?_,?_,s03.trans ((Zc hq1).trans (s'.trans ((Zc hq3).trans s'')))⟩)⟩⟩⟩⟩
   ·show (cw++[V.str "yes"]).length + 1<=_
    rw [Qac]
    show cw.length + 1 + 1<=_
    lia
   ·show Y8 (.str "both" :: (cw++[V.str "yes"]))<=_
    rw [WQ bo2,Xj,WQ ye2]
    exact hcr
  clear htc hseg hcl hcr s03 tc cw H3
  rintro σ H3 hz_
  refine Z5 fun Gz hGz=>?_
  obtain ⟨tc,cw,rfl,htc,hseg,hcl,hcr,s03⟩:=hz_
  refine hGz ?_
  clear hGz Gz
  refine Jc (t:=Zf8 _ _ _) (fun σ H'=>∃(tc:Addr) (cw:List V),σ=[some (.ref a),some (.int shape),some (.ref tn),some (.int (long:Int)),some (.int (many:Int)),some (.int (most:Int)),some (.ref pl),some (.ref tc),none,none,none,none,none,none]/\H' tc=some (.tup cw)/\Seg nm true cw/\cw.length<=80/\Y8 cw<=8/\ZG H1 H') (fun N hN=>?_) ?_
  ·have no:N [some (.ref a),some (.int shape),some (.ref tn),some (.int (long:Int)),some (.int (many:Int)),some (.int (most:Int)),some (.ref pl),some (.ref tc),none,none,none,none,none,none] H3:=hN _ _ ⟨tc,cw,rfl,htc,hseg,by lia,hcr,s03⟩
   refine ⟨_,rfl,_,_,rfl,rfl,.of (by decide) (by decide),_,_,rfl,rfl,(by show (0:Int) < 3;decide),rfl,_,rfl,Gj (fun _=>?_) (fun _=>ZU no)⟩
   refine ⟨_,rfl,tc,_,rfl,.inr (SqT.of htc),_,_,rfl,rfl,_,rfl,Gj (fun _=>?_) (fun _=>no)⟩
   refine ⟨by show 1<=sizeLine;decide,fun q1 hq1=>⟨_,rfl,q1,tc,_,_,rfl,rfl,Za,Zc hq1 _ _ htc,Qaw (Zp (by show 1 + cw.length<=1000;lia)),fun q2 H' hq2 s'=>⟨by show 2<=sizeLine;decide,fun q3 hq3=>⟨q2,q3,_,_,rfl,rfl,Zc hq3 _ _ hq2,Za,Qaw (Zp (by rw [Qac];show 1 + cw.length + 2<=1000;lia)),fun q4 H'' hq4 s''=>Zl (hN _ _ ⟨q4,_,rfl,hq4,Seg.clm2 ei1 (kn _ ei1) ei3 ei4 hseg (Seg.clm1 nv1 (kn _ nv1) nv3 nv4 segY),?_,?_,s03.trans ((Zc hq1).trans (s'.trans ((Zc hq3).trans s'')))⟩)⟩⟩⟩⟩
   ·show (cw++[V.str "never",V.str "yes"]).length + 1<=_
    rw [Qac]
    show cw.length + 2 + 1<=_
    lia
   ·show Y8 (.str "either" :: (cw++[V.str "never",V.str "yes"]))<=_
    rw [WQ ei2,Xj,WQ nv2,WQ ye2]
    exact hcr
  clear htc hseg hcl hcr s03 tc cw H3
  rintro σ H3 hz_
  refine Z5 fun Gz hGz=>?_
  obtain ⟨tw,ws,rfl,htw,hseg,hwl,hwr,s13⟩:=hz_
  refine hGz ?_
  clear hGz Gz
  have S:G8 nm ws:=⟨hn3,hnd,hnk,by lia,hseg.ty,by lia⟩
  have htn3:=s13 _ _ htn
  have hflat:ws.all Xc=true:=by
   rw [Qck]
   intro v hv
   rcases S.ty.facts.1 v hv with (⟨y,rfl,_⟩ | ⟨y,rfl,_⟩ | ⟨z,rfl,_⟩) | ⟨y,rfl,_⟩ <;> rfl
  have T3:=hT.same (s1.trans s13)
  refine ⟨_,rfl,j9 htw fun kp H4 h4 s4=>Zl ?_⟩
  have eK:J1 ws none none=ws:=by
   unfold J1
   show (ws.drop 0).take (ws.length - 0)=ws
   rw [Qcw,Qd4,Qbr]
  rw [eK] at h4
  have hw4:=s4 _ _ htw
  have hn4:=s4 _ _ htn3
  have T4:=T3.same s4
  have hS4:=JX hS1 (s13.trans s4)
  obtain ⟨pz4,hz4⟩:=T4.ex
  refine ⟨_,rfl,_,rfl,tw,tn,ws,nm,10,_,rfl,hw4,S.ln,hn4,hnd,hn3,S.wc,S.ty.facts.2.1,S.ty.facts.2.2,S.iz,rfl,S.big,T4,fun m l H5 B M T5 o5=>Zl ?_⟩
  have M5:kE nm ws l H5 m:=⟨B,M⟩
  have W:=M5.wf S
  have hw5:=o5.tup hz4 hw4
  have hk5:=o5.tup hz4 h4
  have hn5:=o5.tup hz4 hn4
  have hS5:=Zfm hS4 hz4 o5
  refine ⟨_,rfl,_,rfl,m,tn,nm,_,_,true,rfl,M,hn5,W,fun H6 s6=>?_⟩
  refine ⟨_,rfl,ZU ?_⟩
  refine ⟨_,rfl,_,rfl,tw,kp,ws,rfl,rfl,SqT.of (s6 _ _ hw5),SqT.of (s6 _ _ hk5),hflat,_,rfl,ZU ?_⟩
  have M6:=M5.same s6
  refine Z5 fun Gz hGz=>?_
  obtain ⟨pn,ps,po,hm6,hpn6,R6,O6⟩:=M6.m.ex
  refine hGz ?_
  clear hGz Gz
  have p8:2 ^ nm.length<=2 ^ 3:=Qdl (by decide) hn3
  refine ⟨_,rfl,m,_,1,_,rfl,rfl,SqT.of hm6,rfl,_,rfl,m,_,2,_,rfl,rfl,SqT.of hm6,rfl,0,ps,_,rfl,R6,W.b,fun row hr=>⟨by rw [W.nr row hr];exact p8,W.nl row hr⟩,W.le,fun pl2 ll H7 hpl7 h7 B7 s7=>?_⟩
  have R7:=R6.same s7
  obtain ⟨as7,hps7,las7,_⟩:=R7
  have hlen:ll.length=as7.length:=by
   rw [las7,Qab,G4]
   exact Zfl B B7
  refine ⟨pl2,_,rfl,.inl (SqL.of h7),_,rfl,m,_,2,_,rfl,rfl,SqT.of (s7 _ _ hm6),rfl,ps,_,rfl,.inr (SqT.of hps7),rfl,_,rfl,?_⟩
  rw [Qae (by rw [Qab,hlen]:V.int ((ll.map Wj).length:Int)=V.int (as7.length:Int))]
  refine ZU ?_
  have s67:=s6.trans s7
  have hS7:=JX hS5 s67
  refine ⟨_,rfl,a,ns,3,rfl,hS7,fun c3=>⟨_,_,rfl,rfl,(by show (0:Int) < 60;decide),_,_,rfl,rfl,Zl ?_⟩⟩
  obtain ⟨wd,hwd3⟩:∃j:Nat,1 + c3 % 60=(j:Int):=⟨(1 + c3 % 60).toNat,by lia⟩
  have w60:wd<=60:=by lia
  have eN:((nm.map V.str).length:Int).toNat=nm.length:=by rw [Qat,Qab]
  have hn7:=s67 _ _ hn5
  have hw7:=s67 _ _ hw5
  have M7:=M6.same s7
  have T7:=T5.same s67
  refine Gx (fun σ H'=>∃d,σ=[some (.ref a),some (.int shape),some (.ref tn),some (.int (long:Int)),some (.int (many:Int)),some (.int (most:Int)),some (.ref pl),some (.ref tw),some (.ref kp),some (.ref m),some (.int (wd:Int)),some (.ref d),none,none]/\H7 d=none/\H'=upd H7 d (.dK [])) (fun N hN=>fun d hd=>hN _ _ ⟨d,by rw [<-hwd3];rfl,hd,rfl⟩) ?_
  rintro σ _ hz_
  refine Z5 fun Gz hGz=>?_
  obtain ⟨d,rfl,hd,rfl⟩:=hz_
  refine hGz ?_
  clear hGz Gz
  have u1:=Zc (o:=.dK []) hd
  have pp:=JQ wd
  refine ⟨_,rfl,tn,_,rfl,.inr (SqT.of (u1 _ _ hn7)),_,rfl,by rw [Qab];lia,by rw [Qab];lia,YM (fun i σ H2=>∃u4 kvs f,σ=[some (.ref a),some (.int shape),some (.ref tn),some (.int (long:Int)),some (.int (many:Int)),some (.int (most:Int)),some (.ref pl),some (.ref tw),some (.ref kp),some (.ref m),some (.int (wd:Int)),some (.ref d),u4,none]/\H2 d=some (.dK kvs)/\Tab kvs (nm.take i) f/\(∀y,0<=f y/\f y < 2 ^ wd)/\ZG H7 H2) ⟨none,[],fun _=>0,rfl,Za,.nil,fun _=>⟨Qe1 _,pp⟩,u1⟩ ?_ ?_⟩
  ·rintro i σ H2 hi hz_
   refine Z5 fun Gz hGz=>?_
   obtain ⟨u4,kvs,f,rfl,h2,T,hb,s2⟩:=hz_
   refine hGz ?_
   clear hGz Gz
   rw [eN] at hi
   have hy:nm[i]?=some nm[i]:=Qaa hi
   have hat:atI (nm.map V.str) (0 + (i:Int))=some (.str nm[i]):=by
    rw [Qcm]
    exact Yl (by rw [Qao,hy];rfl)
   have few:=T.few
   rw [Qar] at few
   refine ⟨_,rfl,_,rfl,_,_,rfl,rfl,a,ns,4 + i,?_,JX hS7 s2,fun c=>?_⟩
   ·show [V.ref a,V.int (4 + (0 + (i:Int)))]=[V.ref a,V.int ((4 + i:Nat):Int)]
    congr 2
    congr 1
    lia
   have ew:(1:Int) * 2 ^ ((wd:Nat):Int).toNat=2 ^ wd:=by rw [Qer,Qat]
   refine ⟨_,rfl,_,_,rfl,rfl,⟨by lia,by lia,by decide⟩,_,_,rfl,rfl,(by show (0:Int) < 1 * 2 ^ ((wd:Nat):Int).toNat;rw [ew];exact pp),_,rfl,_,rfl,_,rfl,tn,_,_,_,rfl,rfl,SqT.of (s2 _ _ hn7),hat,d,_,rfl,Zaq.k (k:=.inr nm[i]) h2 (Zp (by lia)),_,_,fun x=>if x=nm[i] then c % 2 ^ wd else f x,rfl,Za,?_,?_,ZI s2 hd⟩
   ·rw [take_snoc hy]
    try dsimp only
    rw [ew]
    exact T.put nm[i] _
   ·intro y
    try dsimp only
    split
    ·exact ⟨Qa4 _ (by lia),Qay _ pp⟩
    ·exact hb y
  rintro σ H8 hz_
  refine Z5 fun Gz hGz=>?_
  obtain ⟨u4,kvs,f,rfl,h8,T,hb,s8'⟩:=hz_
  refine hGz ?_
  clear hGz Gz
  rw [eN,Qbr] at T
  have hn8:=s8' _ _ hn7
  obtain ⟨la,ela,hla,lla⟩:=Zbm nm f wd
  refine ⟨_,rfl,_,rfl,_,rfl,_,rfl,_,rfl,_,rfl,tn,d,wd,nm,kvs,f,rfl,hn8,.inl h8,fun y hy=>⟨T.val y hy,(hb y).1⟩,hn3,w60,fun tl H9 htl9 h9 s9=>?_⟩
  rw [ela] at h9
  have s79:=s8'.trans s9
  have M9:=M7.same s79
  refine ⟨m,tw,tn,tl,nm,ws,l,la,13,rfl,S,M9,s79 _ _ hw7,s79 _ _ hn7,h9,by lia,hla,fun H10 s10=>⟨_,rfl,ZU ?_⟩⟩
  have s710:=s79.trans s10
  have hS10:=JX hS7 s710
  have M10:=M7.same s710
  have hn10:=s710 _ _ hn7
  have hw10:=s710 _ _ hw7
  have T10:=T7.same s710
  refine ⟨_,rfl,7,rfl,64,rfl,a,_,rfl,hS10,fun l1 hl1=>?_⟩
  rw [X6]
  have lc:(kQ ns (some 7) (some 64)).length<=57:=by
   unfold kQ
   rw [Qar]
   have h1:HT.sIx ns.length 0 (some 7)=min 7 ns.length:=by
    simp only [HT.sIx,show ¬((7:Int) < 0) by decide,Qc8]
    lia
   have h2:HT.sIx ns.length ns.length (some 64)=min 64 ns.length:=by
    simp only [HT.sIx,show ¬((64:Int) < 0) by decide,Qc8]
    lia
   rw [h1,h2]
   lia
  generalize kQ ns (some 7) (some 64)=cs at *
  have w1:=Zc (o:=.lst (cs.map V.int)) hl1
  have eL:(1:Int) * 2 ^ ((nm.map V.str).length:Int).toNat=((2 ^ nm.length:Nat):Int):=by
   rw [Qer,Qat,Qab,Qdw]
   rfl
  have hLp:0 < 2 ^ nm.length:=Nat.two_pow_pos _
  refine ⟨l1,rfl,⟨_,SqL.of Za⟩,comp_map (fI fun x=>V.int (x % ((2 ^ nm.length:Nat):Int))) (SqL.of Za) (by rw [Qab];exact Qaw (Zp (by lia))) (fun v hv R hR=>?_) (fun l2 hl2=>?_)⟩
  ·obtain ⟨x,_,rfl⟩:=Qa5.mp hv
   refine ⟨_,rfl,_,rfl,tn,_,rfl,.inr (SqT.of (w1 _ _ hn10)),_,_,rfl,rfl,⟨Qbl _,by rw [Qab];lia,by decide⟩,_,_,rfl,rfl,?_,?_⟩
   ·try dsimp only
    rw [eL]
    lia
   ·try dsimp only
    rw [eL]
    exact hR
  rw [map_fI]
  obtain ⟨ls,els,hls,lls⟩:=Zfn (cs:=cs) hLp
  rw [els]
  have w2:=w1.trans (Zc (o:=.lst (ls.map Wj)) hl2)
  have h11:(upd (upd H10 l1 (.lst (cs.map V.int))) l2 (.lst (ls.map Wj))) l2=some (.lst (ls.map Wj)):=Za
  generalize upd (upd H10 l1 (.lst (cs.map V.int))) l2 (.lst (ls.map Wj))=H11 at *
  refine Zl ?_
  have M11:=M10.same w2
  have hw11:=w2 _ _ hw10
  have hn11:=w2 _ _ hn10
  refine ⟨_,rfl,_,rfl,_,rfl,_,rfl,m,tw,tn,l2,nm,ws,l,ls,1,rfl,S,M11,hw11,hn11,h11,by lia,hls,fun H12 s12=>⟨_,rfl,YS ?_⟩⟩
  have T12:=(T10.same w2).same s12
  obtain ⟨pz12,hz12⟩:=T12.ex
  refine ⟨_,rfl,_,rfl,tw,tn,ws,nm,10,_,rfl,s12 _ _ hw11,S.ln,s12 _ _ hn11,hnd,hn3,S.wc,S.ty.facts.2.1,S.ty.facts.2.2,S.iz,rfl,S.big,T12,fun m2 l2' H13 B' M' T13 o13=>?_⟩
  cases B.uniq B'
  have M13:=(M11.same s12).off o13 hz12
  refine Z5 fun Gz hGz=>?_
  obtain ⟨xs,ys,e1,e2,e3,e4⟩:=m4_eqD M' M13.m fun r hr v hv=>uG (W.ok r hr v hv)
  refine hGz ?_
  clear hGz Gz
  exact ⟨_,rfl,m2,m,xs,ys,rfl,rfl,e1,e2,e3,e4,k H13⟩
end
theorem all_mk {l:W.OpenLaw} {w:World} {K:W.Frag} {h:Heap} {mg:Str->Option Value} {fa:Addr} {f0 f1 f2 f3 f4 f5 f6 f7 f8 f9 f10 f11 f12 f13 f14 f15 f16 f17 f18 f19 f20 f21 f22 f23 f24 f25 f26 f27 f28 f29 f30 f31 f32 f33 f34 f35 f36 f37 f38 f39 f40 f41:Addr} (X:K.In h) (G:h.Ns mainGlobals mg) (hfa:mg "law" = some (.ref fa))
  {od0 an0 od1 an1 od2 an2 od3 an3 od4 an4 od5 an5 od6 an6 od7 an7 od8 an8 od9 an9 od10 an10 od11 an11 od12 an12 od13 an13 od14 an14 od15 an15 od16 an16 od17 an17 od18 an18 od19 an19 od20 an20 od21 an21 od22 an22 od23 an23 od24 an24 od25 an25 od26 an26 od27 an27 od28 an28 od29 an29 od30 an30 od31 an31 od32 an32 od33 an33 od34 an34 od35 an35 od36 an36 od37 an37 od38 an38 od39 an39 od40 an40 od41 an41:Option Addr} {sl0 sl1 sl2 sl3 sl4 sl5 sl6 sl7 sl8 sl9 sl10 sl11 sl12 sl13 sl14 sl15 sl16 sl17 sl18 sl19 sl20 sl21 sl22 sl23 sl24 sl25 sl26 sl27 sl28 sl29 sl30 sl31 sl32 sl33 sl34 sl35 sl36 sl37 sl38 sl39 sl40 sl41:Array (Option Value)} {oc0 kV0 dc0 pm0 cd0 ct0 oc1 kV1 dc1 pm1 cd1 ct1 oc2 kV2 dc2 pm2 cd2 ct2 oc3 kV3 dc3 pm3 cd3 ct3 oc4 kV4 dc4 pm4 cd4 ct4 oc5 kV5 dc5 pm5 cd5 ct5 oc6 kV6 dc6 pm6 cd6 ct6 oc7 kV7 dc7 pm7 cd7 ct7 oc8 kV8 dc8 pm8 cd8 ct8 oc9 kV9 dc9 pm9 cd9 ct9 oc10 kV10 dc10 pm10 cd10 ct10 oc11 kV11 dc11 pm11 cd11 ct11 oc12 kV12 dc12 pm12 cd12 ct12 oc13 kV13 dc13 pm13 cd13 ct13 oc14 kV14 dc14 pm14 cd14 ct14 oc15 kV15 dc15 pm15 cd15 ct15 oc16 kV16 dc16 pm16 cd16 ct16 oc17 kV17 dc17 pm17 cd17 ct17 oc18 kV18 dc18 pm18 cd18 ct18 oc19 kV19 dc19 pm19 cd19 ct19 oc20 kV20 dc20 pm20 cd20 ct20 oc21 kV21 dc21 pm21 cd21 ct21 oc22 kV22 dc22 pm22 cd22 ct22 oc23 kV23 dc23 pm23 cd23 ct23 oc24 kV24 dc24 pm24 cd24 ct24 oc25 kV25 dc25 pm25 cd25 ct25 oc26 kV26 dc26 pm26 cd26 ct26 oc27 kV27 dc27 pm27 cd27 ct27 oc28 kV28 dc28 pm28 cd28 ct28 oc29 kV29 dc29 pm29 cd29 ct29 oc30 kV30 dc30 pm30 cd30 ct30 oc31 kV31 dc31 pm31 cd31 ct31 oc32 kV32 dc32 pm32 cd32 ct32 oc33 kV33 dc33 pm33 cd33 ct33 oc34 kV34 dc34 pm34 cd34 ct34 oc35 kV35 dc35 pm35 cd35 ct35 oc36 kV36 dc36 pm36 cd36 ct36 oc37 kV37 dc37 pm37 cd37 ct37 oc38 kV38 dc38 pm38 cd38 ct38 oc39 kV39 dc39 pm39 cd39 ct39 oc40 kV40 dc40 pm40 cd40 ct40 oc41 kV41 dc41 pm41 cd41 ct41:Value}
  (a0:W.nsIn K mainGlobals "words_at" = some (some (.ref f0))) (l0:K.lookup f0=some ⟨oc0,od0,.func (W.fnOf "words_at" "words_at" (Zy X8) (Zw X8) (Zg X8) .none kV0 dc0 pm0 an0 cd0 ct0),sl0⟩) (c0:W.codeIn K cd0 "words_at" = true) (k0:W.keepIn K (.ref f0)=true)
  (a1:W.nsIn K mainGlobals "number_of" = some (some (.ref f1))) (l1:K.lookup f1=some ⟨oc1,od1,.func (W.fnOf "number_of" "number_of" (Zy Xp) (Zw Xp) (Zg Xp) .none kV1 dc1 pm1 an1 cd1 ct1),sl1⟩) (c1:W.codeIn K cd1 "number_of" = true) (k1:W.keepIn K (.ref f1)=true)
  (a2:W.nsIn K mainGlobals "sums_behind" = some (some (.ref f2))) (l2:K.lookup f2=some ⟨oc2,od2,.func (W.fnOf "sums_behind" "sums_behind" (Zy YC) (Zw YC) (Zg YC) .none kV2 dc2 pm2 an2 cd2 ct2),sl2⟩) (c2:W.codeIn K cd2 "sums_behind" = true) (k2:W.keepIn K (.ref f2)=true)
  (a3:W.nsIn K mainGlobals "claims_behind" = some (some (.ref f3))) (l3:K.lookup f3=some ⟨oc3,od3,.func (W.fnOf "claims_behind" "claims_behind" (Zy Yn) (Zw Yn) (Zg Yn) .none kV3 dc3 pm3 an3 cd3 ct3),sl3⟩) (c3:W.codeIn K cd3 "claims_behind" = true) (k3:W.keepIn K (.ref f3)=true)
  (a4:W.nsIn K mainGlobals "remembers" = some (some (.ref f4))) (l4:K.lookup f4=some ⟨oc4,od4,.func (W.fnOf "remembers" "remembers" (Zy Xq) (Zw Xq) (Zg Xq) .none kV4 dc4 pm4 an4 cd4 ct4),sl4⟩) (c4:W.codeIn K cd4 "remembers" = true) (k4:W.keepIn K (.ref f4)=true)
  (a5:W.nsIn K mainGlobals "borrowed" = some (some (.ref f5))) (l5:K.lookup f5=some ⟨oc5,od5,.func (W.fnOf "borrowed" "borrowed" (Zy X9) (Zw X9) (Zg X9) .none kV5 dc5 pm5 an5 cd5 ct5),sl5⟩) (c5:W.codeIn K cd5 "borrowed" = true) (k5:W.keepIn K (.ref f5)=true)
  (a6:W.nsIn K mainGlobals "out_at_once" = some (some (.ref f6))) (l6:K.lookup f6=some ⟨oc6,od6,.func (W.fnOf "out_at_once" "out_at_once" (Zy YD) (Zw YD) (Zg YD) .none kV6 dc6 pm6 an6 cd6 ct6),sl6⟩) (c6:W.codeIn K cd6 "out_at_once" = true) (k6:W.keepIn K (.ref f6)=true)
  (a7:W.nsIn K mainGlobals "state_number" = some (some (.ref f7))) (l7:K.lookup f7=some ⟨oc7,od7,.func (W.fnOf "state_number" "state_number" (Zy Yz) (Zw Yz) (Zg Yz) .none kV7 dc7 pm7 an7 cd7 ct7),sl7⟩) (c7:W.codeIn K cd7 "state_number" = true) (k7:W.keepIn K (.ref f7)=true)
  (a8:W.nsIn K mainGlobals "longest_number" = some (some (.ref f8))) (l8:K.lookup f8=some ⟨oc8,od8,.func (W.fnOf "longest_number" "longest_number" (Zy ZR) (Zw ZR) (Zg ZR) .none kV8 dc8 pm8 an8 cd8 ct8),sl8⟩) (c8:W.codeIn K cd8 "longest_number" = true) (k8:W.keepIn K (.ref f8)=true)
  (a9:W.nsIn K mainGlobals "bits_at" = some (some (.ref f9))) (l9:K.lookup f9=some ⟨oc9,od9,.func (W.fnOf "bits_at" "bits_at" (Zy XN) (Zw XN) (Zg XN) .none kV9 dc9 pm9 an9 cd9 ct9),sl9⟩) (c9:W.codeIn K cd9 "bits_at" = true) (k9:W.keepIn K (.ref f9)=true)
  (a10:W.nsIn K mainGlobals "_law_whole" = some (some (.ref f10))) (l10:K.lookup f10=some ⟨oc10,od10,.func (W.fnOf "_law_whole" "_law_whole" (Zy Xr) (Zw Xr) (Zg Xr) .none kV10 dc10 pm10 an10 cd10 ct10),sl10⟩) (c10:W.codeIn K cd10 "_law_whole" = true) (k10:W.keepIn K (.ref f10)=true)
  (a11:W.nsIn K mainGlobals "_law_cell_at" = some (some (.ref f11))) (l11:K.lookup f11=some ⟨oc11,od11,.func (W.fnOf "_law_cell_at" "_law_cell_at" (Zy YE) (Zw YE) (Zg YE) .none kV11 dc11 pm11 an11 cd11 ct11),sl11⟩) (c11:W.codeIn K cd11 "_law_cell_at" = true) (k11:W.keepIn K (.ref f11)=true)
  (a12:W.nsIn K mainGlobals "_law_numbers" = some (some (.ref f12))) (l12:K.lookup f12=some ⟨oc12,od12,.func (W.fnOf "_law_numbers" "_law_numbers" (Zy YF) (Zw YF) (Zg YF) .none kV12 dc12 pm12 an12 cd12 ct12),sl12⟩) (c12:W.codeIn K cd12 "_law_numbers" = true) (k12:W.keepIn K (.ref f12)=true)
  (a13:W.nsIn K mainGlobals "_law_atom" = some (some (.ref f13))) (l13:K.lookup f13=some ⟨oc13,od13,.func (W.fnOf "_law_atom" "_law_atom" (Zy XA) (Zw XA) (Zg XA) .none kV13 dc13 pm13 an13 cd13 ct13),sl13⟩) (c13:W.codeIn K cd13 "_law_atom" = true) (k13:W.keepIn K (.ref f13)=true)
  (a14:W.nsIn K mainGlobals "_law_word" = some (some (.ref f14))) (l14:K.lookup f14=some ⟨oc14,od14,.func (W.fnOf "_law_word" "_law_word" (Zy XB) (Zw XB) (Zg XB) .none kV14 dc14 pm14 an14 cd14 ct14),sl14⟩) (c14:W.codeIn K cd14 "_law_word" = true) (k14:W.keepIn K (.ref f14)=true)
  (a15:W.nsIn K mainGlobals "_law_carries" = some (some (.ref f15))) (l15:K.lookup f15=some ⟨oc15,od15,.func (W.fnOf "_law_carries" "_law_carries" (Zy Yv) (Zw Yv) (Zg Yv) .none kV15 dc15 pm15 an15 cd15 ct15),sl15⟩) (c15:W.codeIn K cd15 "_law_carries" = true) (k15:W.keepIn K (.ref f15)=true)
  (a16:W.nsIn K mainGlobals "_law_one" = some (some (.ref f16))) (l16:K.lookup f16=some ⟨oc16,od16,.func (W.fnOf "_law_one" "_law_one" (Zy Wm) (Zw Wm) (Zg Wm) .none kV16 dc16 pm16 an16 cd16 ct16),sl16⟩) (c16:W.codeIn K cd16 "_law_one" = true) (k16:W.keepIn K (.ref f16)=true)
  (a17:W.nsIn K mainGlobals "_law_two" = some (some (.ref f17))) (l17:K.lookup f17=some ⟨oc17,od17,.func (W.fnOf "_law_two" "_law_two" (Zy Wn) (Zw Wn) (Zg Wn) .none kV17 dc17 pm17 an17 cd17 ct17),sl17⟩) (c17:W.codeIn K cd17 "_law_two" = true) (k17:W.keepIn K (.ref f17)=true)
  (a18:W.nsIn K mainGlobals "_law_signed" = some (some (.ref f18))) (l18:K.lookup f18=some ⟨oc18,od18,.func (W.fnOf "_law_signed" "_law_signed" (Zy YX) (Zw YX) (Zg YX) .none kV18 dc18 pm18 an18 cd18 ct18),sl18⟩) (c18:W.codeIn K cd18 "_law_signed" = true) (k18:W.keepIn K (.ref f18)=true)
  (a19:W.nsIn K mainGlobals "_law_one_holds" = some (some (.ref f19))) (l19:K.lookup f19=some ⟨oc19,od19,.func (W.fnOf "_law_one_holds" "_law_one_holds" (Zy Yo) (Zw Yo) (Zg Yo) .none kV19 dc19 pm19 an19 cd19 ct19),sl19⟩) (c19:W.codeIn K cd19 "_law_one_holds" = true) (k19:W.keepIn K (.ref f19)=true)
  (a20:W.nsIn K mainGlobals "_law_letters" = some (some (.ref f20))) (l20:K.lookup f20=some ⟨oc20,od20,.func (W.fnOf "_law_letters" "_law_letters" (Zy YG) (Zw YG) (Zg YG) .none kV20 dc20 pm20 an20 cd20 ct20),sl20⟩) (c20:W.codeIn K cd20 "_law_letters" = true) (k20:W.keepIn K (.ref f20)=true)
  (a21:W.nsIn K mainGlobals "_law_words" = some (some (.ref f21))) (l21:K.lookup f21=some ⟨oc21,od21,.func (W.fnOf "_law_words" "_law_words" (Zy Xs) (Zw Xs) (Zg Xs) .none kV21 dc21 pm21 an21 cd21 ct21),sl21⟩) (c21:W.codeIn K cd21 "_law_words" = true) (k21:W.keepIn K (.ref f21)=true)
  (a22:W.nsIn K mainGlobals "_law_led_to" = some (some (.ref f22))) (l22:K.lookup f22=some ⟨oc22,od22,.func (W.fnOf "_law_led_to" "_law_led_to" (Zy YY) (Zw YY) (Zg YY) .none kV22 dc22 pm22 an22 cd22 ct22),sl22⟩) (c22:W.codeIn K cd22 "_law_led_to" = true) (k22:W.keepIn K (.ref f22)=true)
  (a23:W.nsIn K mainGlobals "_law_row_of" = some (some (.ref f23))) (l23:K.lookup f23=some ⟨oc23,od23,.func (W.fnOf "_law_row_of" "_law_row_of" (Zy YZ) (Zw YZ) (Zg YZ) .none kV23 dc23 pm23 an23 cd23 ct23),sl23⟩) (c23:W.codeIn K cd23 "_law_row_of" = true) (k23:W.keepIn K (.ref f23)=true)
  (a24:W.nsIn K mainGlobals "_law_run" = some (some (.ref f24))) (l24:K.lookup f24=some ⟨oc24,od24,.func (W.fnOf "_law_run" "_law_run" (Zy Wo) (Zw Wo) (Zg Wo) .none kV24 dc24 pm24 an24 cd24 ct24),sl24⟩) (c24:W.codeIn K cd24 "_law_run" = true) (k24:W.keepIn K (.ref f24)=true)
  (a25:W.nsIn K mainGlobals "parts_of" = some (some (.ref f25))) (l25:K.lookup f25=some ⟨oc25,od25,.func (W.fnOf "parts_of" "parts_of" (Zy XC) (Zw XC) (Zg XC) .none kV25 dc25 pm25 an25 cd25 ct25),sl25⟩) (c25:W.codeIn K cd25 "parts_of" = true) (k25:W.keepIn K (.ref f25)=true)
  (a26:W.nsIn K mainGlobals "name_columns" = some (some (.ref f26))) (l26:K.lookup f26=some ⟨oc26,od26,.func (W.fnOf "name_columns" "name_columns" (Zy Yi) (Zw Yi) (Zg Yi) .none kV26 dc26 pm26 an26 cd26 ct26),sl26⟩) (c26:W.codeIn K cd26 "name_columns" = true) (k26:W.keepIn K (.ref f26)=true)
  (a27:W.nsIn K mainGlobals "kept_then" = some (some (.ref f27))) (l27:K.lookup f27=some ⟨oc27,od27,.func (W.fnOf "kept_then" "kept_then" (Zy Xt) (Zw Xt) (Zg Xt) .none kV27 dc27 pm27 an27 cd27 ct27),sl27⟩) (c27:W.codeIn K cd27 "kept_then" = true) (k27:W.keepIn K (.ref f27)=true)
  (a28:W.nsIn K mainGlobals "out_by_kept" = some (some (.ref f28))) (l28:K.lookup f28=some ⟨oc28,od28,.func (W.fnOf "out_by_kept" "out_by_kept" (Zy YH) (Zw YH) (Zg YH) .none kV28 dc28 pm28 an28 cd28 ct28),sl28⟩) (c28:W.codeIn K cd28 "out_by_kept" = true) (k28:W.keepIn K (.ref f28)=true)
  (a29:W.nsIn K mainGlobals "_law_names" = some (some (.ref f29))) (l29:K.lookup f29=some ⟨oc29,od29,.func (W.fnOf "_law_names" "_law_names" (Zy Y7) (Zw Y7) (Zg Y7) .none kV29 dc29 pm29 an29 cd29 ct29),sl29⟩) (c29:W.codeIn K cd29 "_law_names" = true) (k29:W.keepIn K (.ref f29)=true)
  (a30:W.nsIn K mainGlobals "_law_sum" = some (some (.ref f30))) (l30:K.lookup f30=some ⟨oc30,od30,.func (W.fnOf "_law_sum" "_law_sum" (Zy Wq) (Zw Wq) (Zg Wq) .none kV30 dc30 pm30 an30 cd30 ct30),sl30⟩) (c30:W.codeIn K cd30 "_law_sum" = true) (k30:W.keepIn K (.ref f30)=true)
  (a31:W.nsIn K mainGlobals "_law_two_hold" = some (some (.ref f31))) (l31:K.lookup f31=some ⟨oc31,od31,.func (W.fnOf "_law_two_hold" "_law_two_hold" (Zy Y0) (Zw Y0) (Zg Y0) .none kV31 dc31 pm31 an31 cd31 ct31),sl31⟩) (c31:W.codeIn K cd31 "_law_two_hold" = true) (k31:W.keepIn K (.ref f31)=true)
  (a32:W.nsIn K mainGlobals "_law_is_machine" = some (some (.ref f32))) (l32:K.lookup f32=some ⟨oc32,od32,.func (W.fnOf "_law_is_machine" "_law_is_machine" (Zy Yd) (Zw Yd) (Zg Yd) .none kV32 dc32 pm32 an32 cd32 ct32),sl32⟩) (c32:W.codeIn K cd32 "_law_is_machine" = true) (k32:W.keepIn K (.ref f32)=true)
  (a33:W.nsIn K mainGlobals "parts_taken" = some (some (.ref f33))) (l33:K.lookup f33=some ⟨oc33,od33,.func (W.fnOf "parts_taken" "parts_taken" (Zy Yw) (Zw Yw) (Zg Yw) .none kV33 dc33 pm33 an33 cd33 ct33),sl33⟩) (c33:W.codeIn K cd33 "parts_taken" = true) (k33:W.keepIn K (.ref f33)=true)
  (a34:W.nsIn K mainGlobals "_law_claim" = some (some (.ref f34))) (l34:K.lookup f34=some ⟨oc34,od34,.func (W.fnOf "_law_claim" "_law_claim" (Zy Xu) (Zw Xu) (Zg Xu) .none kV34 dc34 pm34 an34 cd34 ct34),sl34⟩) (c34:W.codeIn K cd34 "_law_claim" = true) (k34:W.keepIn K (.ref f34)=true)
  (a35:W.nsIn K mainGlobals "_law_holds" = some (some (.ref f35))) (l35:K.lookup f35=some ⟨oc35,od35,.func (W.fnOf "_law_holds" "_law_holds" (Zy Xv) (Zw Xv) (Zg Xv) .none kV35 dc35 pm35 an35 cd35 ct35),sl35⟩) (c35:W.codeIn K cd35 "_law_holds" = true) (k35:W.keepIn K (.ref f35)=true)
  (a36:W.nsIn K mainGlobals "stepped" = some (some (.ref f36))) (l36:K.lookup f36=some ⟨oc36,od36,.func (W.fnOf "stepped" "stepped" (Zy Wr) (Zw Wr) (Zg Wr) .none kV36 dc36 pm36 an36 cd36 ct36),sl36⟩) (c36:W.codeIn K cd36 "stepped" = true) (k36:W.keepIn K (.ref f36)=true)
  (a37:W.nsIn K mainGlobals "_law_tells" = some (some (.ref f37))) (l37:K.lookup f37=some ⟨oc37,od37,.func (W.fnOf "_law_tells" "_law_tells" (Zy Xw) (Zw Xw) (Zg Xw) .none kV37 dc37 pm37 an37 cd37 ct37),sl37⟩) (c37:W.codeIn K cd37 "_law_tells" = true) (k37:W.keepIn K (.ref f37)=true)
  (a38:W.nsIn K mainGlobals "machine_found" = some (some (.ref f38))) (l38:K.lookup f38=some ⟨oc38,od38,.func (W.fnOf "machine_found" "machine_found" (Zy ZZ) (Zw ZZ) (Zg ZZ) .none kV38 dc38 pm38 an38 cd38 ct38),sl38⟩) (c38:W.codeIn K cd38 "machine_found" = true) (k38:W.keepIn K (.ref f38)=true)
  (a39:W.nsIn K mainGlobals "machine_telling" = some (some (.ref f39))) (l39:K.lookup f39=some ⟨oc39,od39,.func (W.fnOf "machine_telling" "machine_telling" (Zy Z7) (Zw Z7) (Zg Z7) .none kV39 dc39 pm39 an39 cd39 ct39),sl39⟩) (c39:W.codeIn K cd39 "machine_telling" = true) (k39:W.keepIn K (.ref f39)=true)
  (a40:W.nsIn K mainGlobals "claim_machine" = some (some (.ref f40))) (l40:K.lookup f40=some ⟨oc40,od40,.func (W.fnOf "claim_machine" "claim_machine" (Zy Yp) (Zw Yp) (Zg Yp) .none kV40 dc40 pm40 an40 cd40 ct40),sl40⟩) (c40:W.codeIn K cd40 "claim_machine" = true) (k40:W.keepIn K (.ref f40)=true)
  (a41:W.nsIn K mainGlobals "law" = some (some (.ref f41))) (l41:K.lookup f41=some ⟨oc41,od41,.func (W.fnOf "law" "law" (Zy xA) (Zw xA) (Zg xA) .none kV41 dc41 pm41 an41 cd41 ct41),sl41⟩) (c41:W.codeIn K cd41 "law" = true) (k41:W.keepIn K (.ref f41)=true)
  {GSUM_PARTS:Addr} {ESUM_PARTS:Array DictEntry} {PSUM_PARTS:Nat} (ga_SUM_PARTS:W.nsIn K mainGlobals "SUM_PARTS" = some (some (.ref GSUM_PARTS))) (gl_SUM_PARTS:K.lookup GSUM_PARTS=some { cls:=.type "dict",dict:=none,data:=.dict ESUM_PARTS PSUM_PARTS,slots:=#[] }) (ge_SUM_PARTS:KTab w.params ESUM_PARTS.toList [("not",1),("neg",1),("twice",1),("low",1),("and",2),("or",2),("odd",2),("add",2),("sub",2),("pick",3)]) (gn_SUM_PARTS:(GSUM_PARTS == sysModules)=false)
  {GSUMS_IN_CLAIM:Addr} {ESUMS_IN_CLAIM:Array DictEntry} {PSUMS_IN_CLAIM:Nat} (ga_SUMS_IN_CLAIM:W.nsIn K mainGlobals "SUMS_IN_CLAIM" = some (some (.ref GSUMS_IN_CLAIM))) (gl_SUMS_IN_CLAIM:K.lookup GSUMS_IN_CLAIM=some { cls:=.type "dict",dict:=none,data:=.dict ESUMS_IN_CLAIM PSUMS_IN_CLAIM,slots:=#[] }) (ge_SUMS_IN_CLAIM:KTab w.params ESUMS_IN_CLAIM.toList [("same",2),("under",2),("beneath",2),("sign",1),("nought",1)]) (gn_SUMS_IN_CLAIM:(GSUMS_IN_CLAIM == sysModules)=false)
  {GCLAIMS_IN_CLAIM:Addr} {ECLAIMS_IN_CLAIM:Array DictEntry} {PCLAIMS_IN_CLAIM:Nat} (ga_CLAIMS_IN_CLAIM:W.nsIn K mainGlobals "CLAIMS_IN_CLAIM" = some (some (.ref GCLAIMS_IN_CLAIM))) (gl_CLAIMS_IN_CLAIM:K.lookup GCLAIMS_IN_CLAIM=some { cls:=.type "dict",dict:=none,data:=.dict ECLAIMS_IN_CLAIM PCLAIMS_IN_CLAIM,slots:=#[] }) (ge_CLAIMS_IN_CLAIM:KTab w.params ECLAIMS_IN_CLAIM.toList [("both",2),("either",2),("so",2),("never",1),("yes",0)]) (gn_CLAIMS_IN_CLAIM:(GCLAIMS_IN_CLAIM == sysModules)=false)
  {GREMEMBERING:Addr} {IREMEMBERING:Array Value} {PREMEMBERING:Nat} (ga_REMEMBERING:W.nsIn K mainGlobals "REMEMBERING" = some (some (.ref GREMEMBERING))) (gl_REMEMBERING:K.lookup GREMEMBERING=some { cls:=.type "tuple",dict:=none,data:=.seq IREMEMBERING PREMEMBERING,slots:=#[] }) (gv_REMEMBERING:Vals ((["neg","twice","low","add","sub","same","under","beneath","nought"]:List Str).map V.str) IREMEMBERING.toList) (gs_REMEMBERING:IREMEMBERING.size<=sizeLine)
  (z_abs:W.nsIn K mainGlobals "abs" = some none)
  (z_bool:W.nsIn K mainGlobals "bool" = some none)
  (z_enumerate:W.nsIn K mainGlobals "enumerate" = some none)
  (z_int:W.nsIn K mainGlobals "int" = some none)
  (z_isinstance:W.nsIn K mainGlobals "isinstance" = some none)
  (z_len:W.nsIn K mainGlobals "len" = some none)
  (z_list:W.nsIn K mainGlobals "list" = some none)
  (z_max:W.nsIn K mainGlobals "max" = some none)
  (z_min:W.nsIn K mainGlobals "min" = some none)
  (z_range:W.nsIn K mainGlobals "range" = some none)
  (z_reversed:W.nsIn K mainGlobals "reversed" = some none)
  (z_sorted:W.nsIn K mainGlobals "sorted" = some none)
  (z_tuple:W.nsIn K mainGlobals "tuple" = some none)
  (kc_machine_telling:cd39=.ref 128)
  : ∃fd:FuncData,(∀(s:Shared) (v:Value),BindsTo s fd ⟨[v],[]⟩ [("script",v)])/\∀base:Heap,K.In base->base.Ns mainGlobals mg->(∀q∈([(128,126)]:List (Addr × Addr)),W.CodeHd base q.1 q.2)->zD mg base->ZO l.prog w K mg base CX0 16 fa fd ["script"] (yf K 126):=by
 have e:=hfa.symm.trans (W.mg_of X G a41)
 cases e
 have F0:=ZD (st:=X8) l0 c0 k0
 have b0:=F0.binds (ps:=["width"]) fun _ _ _ _ _ _=>uW fun _=>rfl
 have F1:=ZD (st:=Xp) l1 c1 k1
 have b1:=F1.binds (ps:=["bits"]) fun _ _ _ _ _ _=>uW fun _=>rfl
 have F2:=ZD (st:=YC) l2 c2 k2
 have b2:=F2.binds (ps:=["word"]) fun _ _ _ _ _ _=>uW fun _=>rfl
 have F3:=ZD (st:=Yn) l3 c3 k3
 have b3:=F3.binds (ps:=["word"]) fun _ _ _ _ _ _=>uW fun _=>rfl
 have F4:=ZD (st:=Xq) l4 c4 k4
 have b4:=F4.binds (ps:=["word"]) fun _ _ _ _ _ _=>uW fun _=>rfl
 have F5:=ZD (st:=X9) l5 c5 k5
 have b5:=F5.binds (ps:=["one","other","held"]) fun _ _ _ _ _ _=>kP fun _ _ _=>rfl
 have F6:=ZD (st:=YD) l6 c6 k6
 have b6:=F6.binds (ps:=["word","parts"]) fun _ _ _ _ _ _=>yy fun _ _=>rfl
 have F7:=ZD (st:=Yz) l7 c7 k7
 have b7:=F7.binds (ps:=["state","states","numbers"]) fun _ _ _ _ _ _=>kP fun _ _ _=>rfl
 have F8:=ZD (st:=ZR) l8 c8 k8
 have b8:=F8.binds (ps:=["words"]) fun _ _ _ _ _ _=>uW fun _=>rfl
 have F9:=ZD (st:=XN) l9 c9 k9
 have b9:=F9.binds (ps:=["columns","letter"]) fun _ _ _ _ _ _=>yy fun _ _=>rfl
 have F10:=ZD (st:=Xr) l10 c10 k10
 have b10:=F10.binds (ps:=["found"]) fun _ _ _ _ _ _=>uW fun _=>rfl
 have F11:=ZD (st:=YE) l11 c11 k11
 have b11:=F11.binds (ps:=["script","k"]) fun _ _ _ _ _ _=>yy fun _ _=>rfl
 have F12:=ZD (st:=YF) l12 c12 k12
 have b12:=F12.binds (ps:=["cell","many","most"]) fun _ _ _ _ _ _=>kP fun _ _ _=>rfl
 have F13:=ZD (st:=XA) l13 c13 k13
 have b13:=F13.binds (ps:=["number","names"]) fun _ _ _ _ _ _=>yy fun _ _=>rfl
 have F14:=ZD (st:=XB) l14 c14 k14
 have b14:=F14.binds (ps:=["number","left"]) fun _ _ _ _ _ _=>yy fun _ _=>rfl
 have F15:=ZD (st:=Yv) l15 c15 k15
 have b15:=F15.binds (ps:=["words"]) fun _ _ _ _ _ _=>uW fun _=>rfl
 have F16:=ZD (st:=Wm) l16 c16 k16
 have b16:=F16.binds (ps:=["word","one"]) fun _ _ _ _ _ _=>yy fun _ _=>rfl
 have F17:=ZD (st:=Wn) l17 c17 k17
 have b17:=F17.binds (ps:=["word","one","other"]) fun _ _ _ _ _ _=>kP fun _ _ _=>rfl
 have F18:=ZD (st:=YX) l18 c18 k18
 have b18:=F18.binds (ps:=["one","width"]) fun _ _ _ _ _ _=>yy fun _ _=>rfl
 have F19:=ZD (st:=Yo) l19 c19 k19
 have b19:=F19.binds (ps:=["word","one","width"]) fun _ _ _ _ _ _=>kP fun _ _ _=>rfl
 have F20:=ZD (st:=YG) l20 c20 k20
 have b20:=F20.binds (ps:=["names","width","values"]) fun _ _ _ _ _ _=>kP fun _ _ _=>rfl
 have F21:=ZD (st:=Xs) l21 c21 k21
 have b21:=F21.binds (ps:=["names","letters"]) fun _ _ _ _ _ _=>yy fun _ _=>rfl
 have F22:=ZD (st:=YY) l22 c22 k22
 have b22:=F22.binds (ps:=["begin","nexts"]) fun _ _ _ _ _ _=>yy fun _ _=>rfl
 have F23:=ZD (st:=YZ) l23 c23 k23
 have b23:=F23.binds (ps:=["row","many"]) fun _ _ _ _ _ _=>yy fun _ _=>rfl
 have F24:=ZD (st:=Wo) l24 c24 k24
 have b24:=F24.binds (ps:=["machine","letters"]) fun _ _ _ _ _ _=>yy fun _ _=>rfl
 have F25:=ZD (st:=XC) l25 c25 k25
 have b25:=F25.binds (ps:=["word"]) fun _ _ _ _ _ _=>uW fun _=>rfl
 have F26:=ZD (st:=Yi) l26 c26 k26
 have b26:=F26.binds (ps:=["names","letters"]) fun _ _ _ _ _ _=>yy fun _ _=>rfl
 have F27:=ZD (st:=Xt) l27 c27 k27
 have b27:=F27.binds (ps:=["word","parts","held"]) fun _ _ _ _ _ _=>kP fun _ _ _=>rfl
 have F28:=ZD (st:=YH) l28 c28 k28
 have b28:=F28.binds (ps:=["word","parts","held","then"]) fun _ _ _ _ _ _=>Zg7 fun _ _ _ _=>rfl
 have F29:=ZD (st:=Y7) l29 c29 k29
 have b29:=F29.binds (ps:=["cell","many"]) fun _ _ _ _ _ _=>yy fun _ _=>rfl
 have F30:=ZD (st:=Wq) l30 c30 k30
 have b30:=F30.binds (ps:=["numbers","names","most"]) fun _ _ _ _ _ _=>kP fun _ _ _=>rfl
 have F31:=ZD (st:=Y0) l31 c31 k31
 have b31:=F31.binds (ps:=["word","one","other","width"]) fun _ _ _ _ _ _=>Zg7 fun _ _ _ _=>rfl
 have F32:=ZD (st:=Yd) l32 c32 k32
 have b32:=F32.binds (ps:=["found","names","truths"]) fun _ _ _ _ _ _=>kP fun _ _ _=>rfl
 have F33:=ZD (st:=Yw) l33 c33 k33
 have b33:=F33.binds (ps:=["stack","word"]) fun _ _ _ _ _ _=>yy fun _ _=>rfl
 have F34:=ZD (st:=Xu) l34 c34 k34
 have b34:=F34.binds (ps:=["numbers","names","long","most"]) fun _ _ _ _ _ _=>Zg7 fun _ _ _ _=>rfl
 have F35:=ZD (st:=Xv) l35 c35 k35
 have b35:=F35.binds (ps:=["claim","width","values"]) fun _ _ _ _ _ _=>kP fun _ _ _=>rfl
 have F36:=ZD (st:=Wr) l36 c36 k36
 have b36:=F36.binds (ps:=["words","columns","place","kept"]) fun _ _ _ _ _ _=>Zg7 fun _ _ _ _=>rfl
 have F37:=ZD (st:=Xw) l37 c37 k37
 have b37:=F37.binds (ps:=["machine","claim","names","letters","first"]) fun _ _ _ _ _ _=>len5 fun _ _ _ _ _=>rfl
 have F38:=ZD (st:=ZZ) l38 c38 k38
 have b38:=F38.binds (ps:=["names","begin","step_of"]) fun _ _ _ _ _ _=>kP fun _ _ _=>rfl
 have F39:=ZD (st:=Z7) l39 c39 k39
 have b39:=F39.binds (ps:=["words","names","told"]) fun _ _ _ _ _ _=>kP fun _ _ _=>rfl
 have F40:=ZD (st:=Yp) l40 c40 k40
 have b40:=F40.binds (ps:=["claim","names"]) fun _ _ _ _ _ _=>yy fun _ _=>rfl
 have F41:=ZD (st:=xA) l41 c41 k41
 have b41:=F41.binds (ps:=["script"]) fun _ _ _ _ _ _=>uW fun _=>rfl
 have T:Txt K w mg ⟨f0,_,f1,_,f2,_,f3,_,f4,_,f5,_,f6,_,f7,_,f8,_,f9,_,f10,_,f11,_,f12,_,f13,_,f14,_,f15,_,f16,_,f17,_,f18,_,f19,_,f20,_,f21,_,f22,_,f23,_,f24,_,f25,_,f26,_,f27,_,f28,_,f29,_,f30,_,f31,_,f32,_,f33,_,f34,_,f35,_,f36,_,f37,_,f38,_,f39,_,f40,_,fa,_,128,126,GSUM_PARTS,GSUMS_IN_CLAIM,GCLAIMS_IN_CLAIM,GREMEMBERING⟩:=⟨⟨W.mg_of X G ga_SUM_PARTS,⟨⟨_,_,gl_SUM_PARTS,ge_SUM_PARTS⟩,by decide +kernel,gn_SUM_PARTS⟩⟩,⟨W.mg_of X G ga_SUMS_IN_CLAIM,⟨⟨_,_,gl_SUMS_IN_CLAIM,ge_SUMS_IN_CLAIM⟩,by decide +kernel,gn_SUMS_IN_CLAIM⟩⟩,⟨W.mg_of X G ga_CLAIMS_IN_CLAIM,⟨⟨_,_,gl_CLAIMS_IN_CLAIM,ge_CLAIMS_IN_CLAIM⟩,by decide +kernel,gn_CLAIMS_IN_CLAIM⟩⟩,⟨W.mg_of X G ga_REMEMBERING,fun _=>.inr ⟨_,_,_,gl_REMEMBERING,rfl,rfl,gs_REMEMBERING,gv_REMEMBERING⟩⟩,⟨F0,W.mg_of X G a0,b0⟩,⟨F1,W.mg_of X G a1,b1⟩,⟨F2,W.mg_of X G a2,b2⟩,⟨F3,W.mg_of X G a3,b3⟩,⟨F4,W.mg_of X G a4,b4⟩,⟨F5,W.mg_of X G a5,b5⟩,⟨F6,W.mg_of X G a6,b6⟩,⟨F7,W.mg_of X G a7,b7⟩,⟨F8,W.mg_of X G a8,b8⟩,⟨F9,W.mg_of X G a9,b9⟩,⟨F10,W.mg_of X G a10,b10⟩,⟨F11,W.mg_of X G a11,b11⟩,⟨F12,W.mg_of X G a12,b12⟩,⟨F13,W.mg_of X G a13,b13⟩,⟨F14,W.mg_of X G a14,b14⟩,⟨F15,W.mg_of X G a15,b15⟩,⟨F16,W.mg_of X G a16,b16⟩,⟨F17,W.mg_of X G a17,b17⟩,⟨F18,W.mg_of X G a18,b18⟩,⟨F19,W.mg_of X G a19,b19⟩,⟨F20,W.mg_of X G a20,b20⟩,⟨F21,W.mg_of X G a21,b21⟩,⟨F22,W.mg_of X G a22,b22⟩,⟨F23,W.mg_of X G a23,b23⟩,⟨F24,W.mg_of X G a24,b24⟩,⟨F25,W.mg_of X G a25,b25⟩,⟨F26,W.mg_of X G a26,b26⟩,⟨F27,W.mg_of X G a27,b27⟩,⟨F28,W.mg_of X G a28,b28⟩,⟨F29,W.mg_of X G a29,b29⟩,⟨F30,W.mg_of X G a30,b30⟩,⟨F31,W.mg_of X G a31,b31⟩,⟨F32,W.mg_of X G a32,b32⟩,⟨F33,W.mg_of X G a33,b33⟩,⟨F34,W.mg_of X G a34,b34⟩,⟨F35,W.mg_of X G a35,b35⟩,⟨F36,W.mg_of X G a36,b36⟩,⟨F37,W.mg_of X G a37,b37⟩,⟨F38,W.mg_of X G a38,b38⟩,⟨F39,W.mg_of X G a39,b39⟩,⟨F40,W.mg_of X G a40,b40⟩,⟨F41,W.mg_of X G a41,b41⟩,kc_machine_telling,W.mg_none_of X G z_abs,W.mg_none_of X G z_bool,W.mg_none_of X G z_enumerate,W.mg_none_of X G z_int,W.mg_none_of X G z_isinstance,W.mg_none_of X G z_len,W.mg_none_of X G z_list,W.mg_none_of X G z_max,W.mg_none_of X G z_min,W.mg_none_of X G z_range,W.mg_none_of X G z_reversed,W.mg_none_of X G z_sorted,W.mg_none_of X G z_tuple⟩
 exact ⟨_,fun s v=>(show BindsTo s (W.fnOf "law" "law" (Zy xA) (Zw xA) (Zg xA) .none kV41 dc41 pm41 an41 cd41 ct41) ⟨[v],[]⟩ [("script",v)] from .of_eq rfl),fun base hKb _ hC hB=>ok_law T ⟨hC (128,126) (by simp),hB⟩⟩
theorem walk{l:W.OpenLaw}{q:Program}{loose:List Str}{XP:(Str->Option Value)->Heap->Prop}{YP:World->Heap->Prop}{d:DefRec}{K:Params->W.Frag}(hn:l.most=some 63)(hdf:d.params.defaults=[])
  (hY:∀(w:World) (h:Heap),YP w h->(K w.params).In h)
  (hTab:∀(w:World) (mean:ExcName->Option Value) (mg mb:Str->Option Value) (h:Heap),PyProof.Rows.Top q (W.looseW q loose) mean mg mb h->(K w.params).In h->W.TabsAt [(128,126)] h) (hKt:∀w:World,W.noTabs (K w.params)=true)
  (F:∀(w:World) (mg:Str->Option Value) (fa:Addr) (h:Heap),(K w.params).In h->h.Ns mainGlobals mg->mg d.name=some (.ref fa) ->
   ∃fd:FuncData,(∀(s:Shared) (u:Value),BindsTo s fd ⟨[u],[]⟩ [("script",u)])/\∀base:Heap,(K w.params).In base->base.Ns mainGlobals mg->(∀q∈([(128,126)]:List (Addr × Addr)),W.CodeHd base q.1 q.2)->zD mg base->ZO l.prog w (K w.params) mg base CX0 16 fa fd ["script"] (yf (K w.params) 126)) :
  W.WalkO q loose XP YP l.row.toRowW d [] (fun f vs=>PySem.call f vs) :=
 L2.walk_ofT (n:=63) (k:=16) (x := "script") (CX:=fun _=>CX0) (sp:=fun w=>yf (K w.params) 126) hn (by decide) hdf ⟨rfl,by decide,by decide⟩ hY hTab hKt F (fun _ _ a ns hl hT hS=>⟨a,ns,rfl,hS,hl,.inl (hT (128,126) (by simp)),fun _=>rfl⟩) fun _ _ _ _ _ z=>z
theorem walkZ{l:W.OpenLaw}{q:Program}{loose:List Str}{XP:(Str->Option Value)->Heap->Prop}{d:DefRec}{K0:Params->W.Frag}(hn:l.most=some 63)(hdf:d.params.defaults=[])
  (hs:∀P,L2.nodB ((K0 P).map (·.1))=true)
  (hTab:∀(w:World) (mean:ExcName->Option Value) (mg mb:Str->Option Value) (h:Heap),PyProof.Rows.Top q (W.looseW q loose) mean mg mb h->(L2.noT (K0 w.params)).In h->W.TabsAt [(128,126)] h)
  (F:∀(w:World) (mg:Str->Option Value) (fa:Addr) (h:Heap),(L2.noT (K0 w.params)).In h->h.Ns mainGlobals mg->mg d.name=some (.ref fa) ->
   ∃fd:FuncData,(∀(s:Shared) (u:Value),BindsTo s fd ⟨[u],[]⟩ [("script",u)])/\∀base:Heap,(L2.noT (K0 w.params)).In base->base.Ns mainGlobals mg->(∀q∈([(128,126)]:List (Addr × Addr)),W.CodeHd base q.1 q.2)->zD mg base->ZO l.prog w (L2.noT (K0 w.params)) mg base CX0 16 fa fd ["script"] (yf (L2.noT (K0 w.params)) 126)) :
  W.WalkO q loose XP (W.InK K0) l.row.toRowW d [] (fun f vs=>PySem.call f vs) :=
 walk (K:=fun P=>L2.noT (K0 P)) hn hdf (fun w h Y=>L2.in_noT (hs _) Y) hTab (fun w=>L2.noT_ok _) F
end Lw
open PySem PySem.W PyProof.Rows
set_option maxRecDepth 100000 in
set_option maxHeartbeats 0 in
theorem PySem.Challenge.cw_everywidth_k16_claim_machine_holds : PySem.Challenge.rw_everywidth_k16_claim_machine.Holds := by
 w_on; refine holds_law Hw.ws fun said => ?_
 refine holds_openX Hw.left (fun s e => xl_of s (Bool.and_eq_true_iff.mp e).1) XL.keeps
   (by rfl) (by rfl) (by rfl)
   (fun s e => recFacts_of (Bool.and_eq_true_iff.mp e).2) (by rfl)
   (by first | assumption | decide +kernel) (by decide +kernel) ⟨rfl, rfl, rfl, rfl, rfl, by decide +kernel⟩ ?hw ?_
 (case hw => w_witness2)
 refine L2.walk_X (fun _=>by kernel_rfl) ?_
 k_fill
 refine Lw.walkZ (l:=PySem.Challenge.rw_everywidth_k16_claim_machine) rfl rfl (fun _=>by kernel_rfl) (fun w mean mg mb h T X=>List.forall_mem_cons.mpr ⟨PySem.W.tab_of (x:=PySem.Str.ofString "machine_telling") (c:=128) (P:=126) T X rfl (by kernel_rfl),List.forall_mem_nil _⟩) ?F
 case F =>
  intro w mg fa h KX G hmg
  refine' Lw.all_mk KX G hmg ?a0 ?l0 ?c0 ?k0 ?a1 ?l1 ?c1 ?k1 ?a2 ?l2 ?c2 ?k2 ?a3 ?l3 ?c3 ?k3 ?a4 ?l4 ?c4 ?k4 ?a5 ?l5 ?c5 ?k5 ?a6 ?l6 ?c6 ?k6 ?a7 ?l7 ?c7 ?k7 ?a8 ?l8 ?c8 ?k8 ?a9 ?l9 ?c9 ?k9 ?a10 ?l10 ?c10 ?k10 ?a11 ?l11 ?c11 ?k11 ?a12 ?l12 ?c12 ?k12 ?a13 ?l13 ?c13 ?k13 ?a14 ?l14 ?c14 ?k14 ?a15 ?l15 ?c15 ?k15 ?a16 ?l16 ?c16 ?k16 ?a17 ?l17 ?c17 ?k17 ?a18 ?l18 ?c18 ?k18 ?a19 ?l19 ?c19 ?k19 ?a20 ?l20 ?c20 ?k20 ?a21 ?l21 ?c21 ?k21 ?a22 ?l22 ?c22 ?k22 ?a23 ?l23 ?c23 ?k23 ?a24 ?l24 ?c24 ?k24 ?a25 ?l25 ?c25 ?k25 ?a26 ?l26 ?c26 ?k26 ?a27 ?l27 ?c27 ?k27 ?a28 ?l28 ?c28 ?k28 ?a29 ?l29 ?c29 ?k29 ?a30 ?l30 ?c30 ?k30 ?a31 ?l31 ?c31 ?k31 ?a32 ?l32 ?c32 ?k32 ?a33 ?l33 ?c33 ?k33 ?a34 ?l34 ?c34 ?k34 ?a35 ?l35 ?c35 ?k35 ?a36 ?l36 ?c36 ?k36 ?a37 ?l37 ?c37 ?k37 ?a38 ?l38 ?c38 ?k38 ?a39 ?l39 ?c39 ?k39 ?a40 ?l40 ?c40 ?k40 ?a41 ?l41 ?c41 ?k41 ?ga_SUM_PARTS ?gl_SUM_PARTS ?ge_SUM_PARTS ?gn_SUM_PARTS ?ga_SUMS_IN_CLAIM ?gl_SUMS_IN_CLAIM ?ge_SUMS_IN_CLAIM ?gn_SUMS_IN_CLAIM ?ga_CLAIMS_IN_CLAIM ?gl_CLAIMS_IN_CLAIM ?ge_CLAIMS_IN_CLAIM ?gn_CLAIMS_IN_CLAIM ?ga_REMEMBERING ?gl_REMEMBERING ?gv_REMEMBERING ?gs_REMEMBERING ?z_abs ?z_bool ?z_enumerate ?z_int ?z_isinstance ?z_len ?z_list ?z_max ?z_min ?z_range ?z_reversed ?z_sorted ?z_tuple ?kc_machine_telling
  (case a0 | a1 | a2 | a3 | a4 | a5 | a6 | a7 | a8 | a9 | a10 | a11 | a12 | a13 | a14 | a15 | a16 | a17 | a18 | a19 | a20 | a21 | a22 | a23 | a24 | a25 | a26 | a27 | a28 | a29 | a30 | a31 | a32 | a33 | a34 | a35 | a36 | a37 | a38 | a39 | a40 | a41 | ga_SUM_PARTS | ga_SUMS_IN_CLAIM | ga_CLAIMS_IN_CLAIM | ga_REMEMBERING | z_abs | z_bool | z_enumerate | z_int | z_isinstance | z_len | z_list | z_max | z_min | z_range | z_reversed | z_sorted | z_tuple=>first | (refine L2.ns_tr (by kernel_rfl) ?_;k_is) | (refine L2.fi_tr (by kernel_rfl) ?_;k_is))
  (case l0 | l1 | l2 | l3 | l4 | l5 | l6 | l7 | l8 | l9 | l10 | l11 | l12 | l13 | l14 | l15 | l16 | l17 | l18 | l19 | l20 | l21 | l22 | l23 | l24 | l25 | l26 | l27 | l28 | l29 | l30 | l31 | l32 | l33 | l34 | l35 | l36 | l37 | l38 | l39 | l40 | l41 | gl_SUM_PARTS | gl_SUMS_IN_CLAIM | gl_CLAIMS_IN_CLAIM | gl_REMEMBERING=>refine L2.lk_tr (by kernel_rfl) ?_;k_is)
  (case c0 | c1 | c2 | c3 | c4 | c5 | c6 | c7 | c8 | c9 | c10 | c11 | c12 | c13 | c14 | c15 | c16 | c17 | c18 | c19 | c20 | c21 | c22 | c23 | c24 | c25 | c26 | c27 | c28 | c29 | c30 | c31 | c32 | c33 | c34 | c35 | c36 | c37 | c38 | c39 | c40 | c41=>refine L2.cd_tr (by kernel_rfl) ?_;k_is)
  (case k0 | k1 | k2 | k3 | k4 | k5 | k6 | k7 | k8 | k9 | k10 | k11 | k12 | k13 | k14 | k15 | k16 | k17 | k18 | k19 | k20 | k21 | k22 | k23 | k24 | k25 | k26 | k27 | k28 | k29 | k30 | k31 | k32 | k33 | k34 | k35 | k36 | k37 | k38 | k39 | k40 | k41=>refine L2.kp_tr (by kernel_rfl) ?_;k_is)
  (case ge_SUM_PARTS | ge_SUMS_IN_CLAIM | ge_CLAIMS_IN_CLAIM=>repeat (first | exact L2.KTab.nil | refine L2.KTab.cons ?_))
  (case gn_SUM_PARTS | gn_SUMS_IN_CLAIM | gn_CLAIMS_IN_CLAIM=>first | rfl | decide +kernel)
  (case gv_REMEMBERING=>repeat (first | exact .nil | refine .cons ⟨_,rfl⟩ ?_))
  (case gs_REMEMBERING=>show _<=_;decide)
  (case kc_machine_telling=>exact rfl)
#print axioms PySem.Challenge.cw_everywidth_k16_claim_machine_holds
