import PyProof.Rows.All
import Wide.All
import OpenK.AllK
import Wide.FinOn
import Lean
import PyProof.EqAt
import PyProof.EqKinds
import PyProof.TupleCall
import PyProof.NeKinds
import KE.KRevSl
import KE.KRevIter
import PyProof.FactsAll.tuple
import PyProof.Rows.SortWalk
import PyProof.Rows.StrJoin2
import PyProof.StrBlockH
import PyProof.StrWalks
import PyProof.StrCalls2
import PyProof.ConsumeWalk
import KE.KIntText
import PyProof.Rows.SortStr
import PyProof.EnumStmt
import PyProof.WalksMore
import KE.KEqDict
import PyProof.DictWalks
import KE.KLam
import PyProof.Rows.SortShellK
import PyProof.AttrMissHeap
import KE.KDictOf
import PyProof.ZipIter
import PyProof.CollectWalk
import PyProof.ListNew
import KE.KSortTup
import PyProof.Rows.TupDisplay
import OpenK.KOwn
import PyProof.Rows.TopTwo
import PyProof.Rows.CatchOwn
import PyProof.RulesDel
import PyProof.RulesAs
import KE.KIsNot
import PyProof.ExcAttrAll.ValueError
import KE.KIsAll
import PyProof.StrReplace2
import PyProof.ReprStr
import PyProof.FString
import PyProof.StrLawsChain
import PyProof.SetRoads
import PyProof.StrLawsRepr
import PyProof.ReprHeads
import PyProof.ReprLen
import PyProof.FactsAll.bool
import KE.KNest
import PyProof.Rows.RuleM_int
import PyProof.Rows.CallKwBuiltin
import KE.KMinKey
import PyProof.ListRange
import PyProof.TupleOfSeq
import PyProof.TupleOfStr
import KE.KDictLaws
import KE.KPairComp
import KE.KDictSum
import PyProof.StrBlock2
import PyProof.Rows.StrJoinRep
import KE.KUnpack
import PySem.Challenge.RW_everywidth_k36_steps_told
-- CHANGE: your row's module here, as the last of these rows
set_option Elab.async false
set_option linter.all false
set_option maxRecDepth 100000
namespace L2
open PySem PySem.Spec PyProof.Rows
/-- a key: an int or a str -/
abbrev Key := Sum Int Str
def keyIs : Key → Value → Bool
  | .inl k, v => Value.isInt k v
  | .inr x, v => Value.isStrOf x v
def keyH (w : World) : Key → Int
  | .inl k => hashInt k
  | .inr x => hashStr w x
theorem keyIs_shape : ∀ {k : Key} {v : Value}, keyIs k v = true → (∃ i t, k = Sum.inl i ∧ v = Value.int i t) ∨ (∃ x t, k = Sum.inr x ∧ v = Value.str x t)
  | .inl i, v, h => by
    obtain ⟨t, e⟩ := Value.isInt_shape (k := i) (v := v) h
    exact .inl ⟨i, t, rfl, e⟩
  | .inr x, v, h => by
    obtain ⟨t, e⟩ := Value.isStrOf_shape (x := x) (v := v) h
    exact .inr ⟨x, t, rfl, e⟩
theorem keyIs_int (i : Int) (t : Tok) : keyIs (.inl i) (.int i t) = true := by simp [keyIs, Value.isInt]
theorem keyIs_str (x : Str) (t : Tok) : keyIs (.inr x) (.str x t) = true := by simp [keyIs, Value.isStrOf]
theorem key_ll (a b : Int) : decide ((Sum.inl a : Key) = Sum.inl b) = (a == b) := by
  by_cases e : a = b
  · subst e; simp
  · have h : ¬ (Sum.inl a : Key) = Sum.inl b := fun q => e (Sum.inl.inj q)
    rw [decide_eq_false h]
    exact (beq_eq_false_iff_ne.mpr e).symm
theorem key_rr (a b : Str) : decide ((Sum.inr a : Key) = Sum.inr b) = decide (a = b) := by
  by_cases e : a = b
  · subst e; simp
  · have h : ¬ (Sum.inr a : Key) = Sum.inr b := fun q => e (Sum.inr.inj q)
    rw [decide_eq_false h, decide_eq_false e]
theorem key_lr (a : Int) (b : Str) : decide ((Sum.inl a : Key) = Sum.inr b) = false := decide_eq_false (fun q => nomatch q)
theorem key_rl (a : Str) (b : Int) : decide ((Sum.inr a : Key) = Sum.inl b) = false := decide_eq_false (fun q => nomatch q)
def mixKind (prog : Program) (w : World) : PySem.KeyKind prog w Key where
  is := keyIs
  hash := keyH w
  inj := fun v a b ha hb => by
    rcases keyIs_shape ha with ⟨i, t, rfl, rfl⟩ | ⟨x, t, rfl, rfl⟩
    · rcases keyIs_shape hb with ⟨j, u, rfl, e⟩ | ⟨y, u, rfl, e⟩
      · injection e with e1 _; rw [e1]
      · exact nomatch e
    · rcases keyIs_shape hb with ⟨j, u, rfl, e⟩ | ⟨y, u, rfl, e⟩
      · exact nomatch e
      · injection e with e1 _; rw [e1]
  byValue := fun k v h => by
    rcases keyIs_shape h with ⟨i, t, rfl, rfl⟩ | ⟨x, t, rfl, rfl⟩ <;> rfl
  pyHash := fun hv h => by
    rcases keyIs_shape hv with ⟨i, t, rfl, rfl⟩ | ⟨x, t, rfl, rfl⟩
    · exact wpAny_pyHash_int h
    · exact wpAny_pyHash_str h
  eqBool := fun hu hv h => by
    rcases keyIs_shape hu with ⟨i, t, rfl, rfl⟩ | ⟨x, t, rfl, rfl⟩
    · rcases keyIs_shape hv with ⟨j, u, rfl, rfl⟩ | ⟨y, u, rfl, rfl⟩
      · rw [key_ll] at h; exact wpAny_eqBool_int h
      · rw [key_lr] at h; exact SeqAt.EqAt.int_str i t y u _ _ _ _ h
    · rcases keyIs_shape hv with ⟨j, u, rfl, rfl⟩ | ⟨y, u, rfl, rfl⟩
      · rw [key_rl] at h; exact SeqAt.EqAt.str_int x t j u _ _ _ _ h
      · rw [key_rr] at h; exact wpAny_eqBool_str h
  «strs» := fun k x t v h => by
    rcases keyIs_shape h with ⟨i, u, rfl, e⟩ | ⟨y, u, rfl, e⟩
    · exact nomatch e
    · injection e with e1 _
      subst e1
      cases v <;> rfl
theorem mixKind_int (prog : Program) (w : World) (i : Int) (t : Tok) : (mixKind prog w).is (.inl i) (.int i t) = true := keyIs_int i t
theorem mixKind_str (prog : Program) (w : World) (x : Str) (t : Tok) : (mixKind prog w).is (.inr x) (.str x t) = true := keyIs_str x t
end L2
namespace L2
open PySem PySem.Spec PyProof.Rows
/-- a value, without the heap -/
inductive V where
  | non | bl (b : Bool) | int (i : Int) | str (x : Str) | byt (b : Array UInt8) | flt (b : UInt64) | ref (a : Addr) | ty (n : String)
  deriving DecidableEq
def RelV : V → Value → Prop
  | .non, u => u = Value.none
  | .bl b, u => u = Value.bool b
  | .int i, u => ∃ t, u = Value.int i t
  | .str x, u => ∃ t, u = Value.str x t
  | .byt b, u => ∃ t, u = Value.bytes b t
  | .flt b, u => ∃ t, u = Value.float b t
  | .ref a, u => u = Value.ref a
  | .ty n, u => u = Value.type n
abbrev Vals : List V → List Value → Prop := Paired RelV
theorem Vals.length {xs : List V} {us : List Value} (r : Vals xs us) : xs.length = us.length := Paired.length r
theorem Vals.get : ∀ {xs : List V} {us : List Value} {i : Nat} {x : V}, Vals xs us → xs[i]? = some x → ∃ u, us[i]? = some u ∧ RelV x u
  | _, _, _, _, .nil, e => by simp at e
  | _, _, 0, _, .cons r _, e => by simp at e; subst e; exact ⟨_, rfl, r⟩
  | _, _, i + 1, x, .cons _ t, e => by
    obtain ⟨u, h1, h2⟩ := Vals.get (i := i) (x := x) t (by simpa using e)
    exact ⟨u, by simpa using h1, h2⟩
theorem Vals.set {x : V} {u : Value} (r : RelV x u) : ∀ {xs : List V} {us : List Value} (i : Nat), Vals xs us → Vals (xs.set i x) (us.set i u)
  | _, _, _, .nil => .nil
  | _, _, 0, .cons _ t => .cons r t
  | _, _, i + 1, .cons q t => .cons q (Vals.set r i t)
theorem Vals.append : ∀ {xs ys : List V} {us ws : List Value}, Vals xs us → Vals ys ws → Vals (xs ++ ys) (us ++ ws)
  | _, _, _, _, .nil, s => s
  | _, _, _, _, .cons r t, s => .cons r (Vals.append t s)
theorem Vals.take : ∀ {xs : List V} {us : List Value} (n : Nat), Vals xs us → Vals (xs.take n) (us.take n)
  | _, _, 0, _ => .nil
  | _, _, _ + 1, .nil => .nil
  | _, _, n + 1, .cons r t => .cons r (Vals.take n t)
theorem Vals.drop : ∀ {xs : List V} {us : List Value} (n : Nat), Vals xs us → Vals (xs.drop n) (us.drop n)
  | _, _, 0, r => r
  | _, _, _ + 1, .nil => .nil
  | _, _, n + 1, .cons _ t => Vals.drop n t
def RelO : Option V → Option Value → Prop
  | some v, some u => RelV v u
  | none, none => True
  | _, _ => False
def KV {κ : Type} : List (κ × V) → List (κ × Value) → Prop := Paired fun (p : κ × V) (q : κ × Value) => p.1 = q.1 ∧ RelV p.2 q.2
/-- a key of a dict (00_mix): an int or a text -/
def kV : Key → V
  | .inl i => .int i
  | .inr x => .str x
/-- what stands at a tracked address -/
inductive HO where
  /-- a list -/
  | lst (xs : List V)
  /-- a tuple (never changes) -/
  | tup (xs : List V)
  /-- a dict whose keys are ints and texts; one whose keys are tuples of ints and texts (the empty one is both) -/
  | dK (kvs : List (Key × V)) | dT (kvs : List (List Key × V))
  /-- a set of ints: its members, its size -/
  | set (S : Int → Bool) (n : Nat)
  /-- an instance of the class at C, its dict at dx, its attributes -/
  | ins (C dx : Addr) (fs : List (Str × V))
  /-- the dict of the instance at x -/
  | own (x : Addr)
  /-- the dict of an exception -/
  | xd (fs : List (Str × V))
  /-- a bound method, f of x -/
  | met (f x : Addr)
  /-- a range object lo, lo + 1, .. below hi -/
  | rng (lo hi : Int)
  /-- a thing that is known to the object (the script; a dict while a loop walks it): read, never written while it is so -/
  | frz (o : Obj) (u : HO)
  /-- a code object's table -/
  | tbl (ps : Array Value)
  /-- any other thing, by what is true of its one object (a def of one's own: SetO a S n := HO.ext fun h => ..) -/
  | ext (φ : Heap → Prop)
abbrev Hp := Addr → Option HO
def upd (H : Hp) (a : Addr) (o : HO) : Hp := fun b => if b = a then some o else H b
theorem upd_same {H : Hp} {a : Addr} {o : HO} : upd H a o a = some o := by unfold upd; rw [if_pos rfl]
theorem upd_ne {H : Hp} {a b : Addr} {o : HO} (h : b ≠ a) : upd H a o b = H b := by unfold upd; rw [if_neg h]
/-- two objects of different content stand apart -/
theorem ne_of {H : Hp} {a b : Addr} {o u : HO} (h : H a = some o) (h' : H b = some u) (d : o ≠ u) : a ≠ b := by
  intro e; subst e; rw [h] at h'; exact d (Option.some.inj h')
theorem ne_of_none {H : Hp} {a b : Addr} {o : HO} (h : H a = some o) (h' : H b = none) : a ≠ b := by
  intro e; subst e; rw [h] at h'; cases h'
def TupN (h : Heap) (a : Addr) (xs : Array Value) : Prop := ∃ o, h.get? a = some o ∧ o.cls = .type "tuple" ∧ (∃ n, o.data = .seq xs n) ∧ o.dict = none
theorem TupN.tup {h : Heap} {a : Addr} {xs : Array Value} (p : TupN h a xs) : IsTup h a xs := let ⟨o, e, c, d, _⟩ := p; ⟨o, e, c, d⟩
theorem TupN.new (h : Heap) (xs : Array Value) : TupN (h.push { cls := .type "tuple", data := .seq xs }) h.objs.size xs := ⟨_, Heap.get?_push_size _ rfl, rfl, ⟨_, rfl⟩, rfl⟩
theorem TupN.lt {h : Heap} {a : Addr} {xs : Array Value} (p : TupN h a xs) : a < h.objs.size := p.tup.lt
section
variable (P : Program) (w : World)
def ObjOk (H : Hp) (h : Heap) (a : Addr) : HO → Prop
  | .lst xs => xs.length ≤ sizeLine ∧ ∃ (its : List Value) (n : Nat), Vals xs its ∧ h.get? a = some { cls := .type "list", data := .seq its.toArray n }
  | .tup xs => xs.length ≤ sizeLine ∧ ∃ its : List Value, Vals xs its ∧ TupN h a its.toArray
  | .dK kvs => kvs.length ≤ sizeLine ∧ (a == sysModules) = false ∧ ∃ vs, KV kvs vs ∧ h.DictOf (mixKind P w) a vs
  | .dT kvs => kvs.length ≤ sizeLine ∧ (a == sysModules) = false ∧ ∃ xs : List (List Key × Addr × Value),
      Paired (fun (p : List Key × V) (q : List Key × Addr × Value) => p.1 = q.1 ∧ H q.2.1 = some (.tup (p.1.map kV)) ∧ RelV p.2 q.2.2) kvs xs ∧
      ∃ o es ep, h.get? a = some o ∧ o.ExactDict ∧ o.data = .dict es ep ∧ es.toList = xs.map (entryOfKey (tupleKind (mixKind P w))) ∧ (xs.map (·.1)).Nodup
  | .set S n => h.SetOf (intKind P w) a S n
  | .ins C dx fs => H dx = some (.own a) ∧ fs.length ≤ 1000 ∧ dx ≠ a ∧ h.get? a = some (PySem.W.instObj C dx) ∧
      ∃ mA, h.Ns1 dx mA ∧ (∀ f, RelO (fs.lookup f) (mA f)) ∧ PySem.Within mA (fs.map (·.1))
  | .own _ => ∃ o, h.get? a = some o
  | .xd fs => ∃ mA, h.Ns1 a mA ∧ ∀ f, RelO (fs.lookup f) (mA f)
  | .rng lo hi => ∃ t u v, h.get? a = some { cls := .type "range", data := .fields #[.int lo t, .int hi u, .int 1 v] }
  | .frz o u => h.get? a = some o ∧ ObjOk H h a u
  | .tbl ps => h.get? a = some { cls := .none, data := .fields ps }
  | .met f x => h.get? a = some (PySem.W.methodObj (.ref f) (.ref x))
  | .ext φ => φ h ∧ (∃ o, h.get? a = some o) ∧ ∀ h1 h2 : Heap, φ h1 → (∀ o, h1.get? a = some o → h2.get? a = some o) → φ h2
/-- the abstract heap is held -/
def HOk (H : Hp) (h : Heap) : Prop := ∀ a o, H a = some o → ObjOk P w H h a o
end
section
variable {P : Program} {w : World} {H H' : Hp} {h h' : Heap} {a : Addr} {o : HO}
theorem ObjOk.lt (x : ObjOk P w H h a o) : a < h.objs.size := by
  cases o with
  | lst xs => obtain ⟨_, _, _, _, e⟩ := x; exact Heap.lt_size e
  | tup xs => obtain ⟨_, _, _, p⟩ := x; exact p.lt
  | dK kvs => obtain ⟨_, _, _, _, o, _, _, e, _⟩ := x; exact Heap.lt_size e
  | dT kvs => obtain ⟨_, _, _, _, o, _, _, e, _⟩ := x; exact Heap.lt_size e
  | set S n => obtain ⟨o, _, _, _, e, _⟩ := x; exact Heap.lt_size e
  | ins C dx fs => obtain ⟨_, _, _, e, _⟩ := x; exact Heap.lt_size e
  | own y => obtain ⟨_, e⟩ := x; exact Heap.lt_size e
  | xd fs => obtain ⟨_, ⟨_, _, _, e, _⟩, _⟩ := x; exact Heap.lt_size e
  | rng lo hi => obtain ⟨_, _, _, e⟩ := x; exact Heap.lt_size e
  | frz ob u => obtain ⟨e, _⟩ := x; exact Heap.lt_size e
  | tbl ps => exact Heap.lt_size (show h.get? a = some _ from x)
  | met f y => exact Heap.lt_size (show h.get? a = some _ from x)
  | ext φ => obtain ⟨_, ⟨_, e⟩, _⟩ := x; exact Heap.lt_size e
theorem Paired.mapP {α β : Type} {F G : α → β → Prop} : ∀ {l₁ : List α} {l₂ : List β}, Paired F l₁ l₂ → (∀ a b, F a b → G a b) → Paired G l₁ l₂
  | _, _, .nil, _ => .nil
  | _, _, .cons r t, f => .cons (f _ _ r) (Paired.mapP t f)
/-- what an object's description leans on: its own object, its own dict, the tuples -/
theorem ObjOk.stay (x : ObjOk P w H h a o) (k : ∀ b u, (b = a ∨ H b = some (.own a)) → h.get? b = some u → h'.get? b = some u)
    (ho : ∀ b, H b = some (.own a) → H' b = some (.own a)) (ht : ∀ b xs, H b = some (.tup xs) → H' b = some (.tup xs)) : ObjOk P w H' h' a o := by
  induction o with
  | lst xs => obtain ⟨z, its, n, r, e⟩ := x; exact ⟨z, its, n, r, k _ _ (.inl rfl) e⟩
  | tup xs => obtain ⟨z, its, r, ob, e, c⟩ := x; exact ⟨z, its, r, ob, k _ _ (.inl rfl) e, c⟩
  | dK kvs => obtain ⟨z, y, vs, r, ob, es, ep, e, c⟩ := x; exact ⟨z, y, vs, r, ob, es, ep, k _ _ (.inl rfl) e, c⟩
  | dT kvs =>
    obtain ⟨z, y, xs, r, ob, es, ep, e, c⟩ := x
    exact ⟨z, y, xs, Paired.mapP r fun p q z => ⟨z.1, ht _ _ z.2.1, z.2.2⟩, ob, es, ep, k _ _ (.inl rfl) e, c⟩
  | set S n => obtain ⟨ob, es, ep, t, e, c⟩ := x; exact ⟨ob, es, ep, t, k _ _ (.inl rfl) e, c⟩
  | ins C dx fs =>
    obtain ⟨d, z, ne, e, mA, ⟨od, es, ep, e2, c⟩, r⟩ := x
    exact ⟨ho _ d, z, ne, k _ _ (.inl rfl) e, mA, ⟨od, es, ep, k _ _ (.inr d) e2, c⟩, r⟩
  | own y => obtain ⟨ob, e⟩ := x; exact ⟨ob, k _ _ (.inl rfl) e⟩
  | xd fs => obtain ⟨mA, ⟨od, es, ep, e, c⟩, r⟩ := x; exact ⟨mA, ⟨od, es, ep, k _ _ (.inl rfl) e, c⟩, r⟩
  | rng lo hi => obtain ⟨t, u, v, e⟩ := x; exact ⟨t, u, v, k _ _ (.inl rfl) e⟩
  | frz ob u ih => obtain ⟨e, q⟩ := x; exact ⟨k _ _ (.inl rfl) e, ih q⟩
  | tbl ps =>
    have e : h.get? a = some { cls := .none, data := .fields ps } := x
    show h'.get? a = some { cls := .none, data := .fields ps }
    exact k a _ (.inl rfl) e
  | met f y =>
    have e : h.get? a = some (PySem.W.methodObj (.ref f) (.ref y)) := x
    show h'.get? a = some (PySem.W.methodObj (.ref f) (.ref y))
    exact k a _ (.inl rfl) e
  | ext φ => obtain ⟨p, ⟨o, e⟩, st⟩ := x; exact ⟨st _ _ p fun o q => k _ _ (.inl rfl) q, ⟨o, k _ _ (.inl rfl) e⟩, st⟩
theorem HOk.lt (x : HOk P w H h) (e : H a = some o) : a < h.objs.size := (x a o e).lt
theorem HOk.fresh (x : HOk P w H h) (e : h.objs.size ≤ a) : H a = none := by
  cases q : H a with
  | none => rfl
  | some u => exact absurd (Nat.lt_of_lt_of_le (x.lt q) e) (Nat.lt_irrefl _)
/-- every object of the heap is kept -/
theorem HOk.kept (x : HOk P w H h) (k : ∀ b u, h.get? b = some u → h'.get? b = some u) : HOk P w H h' := fun a o e =>
  (x a o e).stay (fun b u _ q => k b u q) (fun _ q => q) fun _ _ q => q
/-- a new object is laid and tracked -/
theorem HOk.laid (x : HOk P w H h) (k : ∀ b u, h.get? b = some u → h'.get? b = some u) (hp : h.objs.size ≤ a) (new : ObjOk P w (upd H a o) h' a o) : HOk P w (upd H a o) h' := fun b u e => by
  have hn := x.fresh hp
  by_cases hb : b = a
  · subst hb; rw [upd_same] at e; cases e; exact new
  · rw [upd_ne hb] at e
    exact (x b u e).stay (fun c v _ q => k c v q) (fun c q => by rw [upd_ne (ne_of_none q hn)]; exact q) fun c xs q => by rw [upd_ne (ne_of_none q hn)]; exact q
end
/-- what may be read as u: it is u, or a known u -/
def Rd (H : Hp) (a : Addr) (u : HO) : Prop := H a = some u ∨ ∃ o, H a = some (.frz o u)
theorem Rd.ok {P : Program} {w : World} {H : Hp} {h : Heap} {a : Addr} {u : HO} (r : Rd H a u) (x : HOk P w H h) : ObjOk P w H h a u := by
  rcases r with r | ⟨o, r⟩
  · exact x a u r
  · obtain ⟨_, q⟩ := x a _ r
    exact q
/-- what may be written -/
def Mut : Option HO → Prop
  | some (.lst _) => True
  | some (.dK _) => True
  | some (.dT _) => True
  | some (.set _ _) => True
  | some (.ins _ _ _) => True
  | some (.ext _) => True
  | _ => False
section
variable {P : Program} {w : World} {H : Hp} {h h' : Heap} {x e : Addr} {o' : HO}
/-- the object at e is changed: x itself, or the dict of the instance x -/
theorem HOk.write (ok : HOk P w H h) (mu : Mut (H x)) (he : e = x ∨ H e = some (.own x)) (k : ∀ b u, b ≠ e → h.get? b = some u → h'.get? b = some u) (heo : ∃ u, h'.get? e = some u)
    (new : ObjOk P w (upd H x o') h' x o') : HOk P w (upd H x o') h' := fun b u q => by
  have nown : ∀ c y, H c = some (.own y) → c ≠ x := fun c y r z => by subst z; rw [r] at mu; exact mu
  have ntup : ∀ c xs, H c = some (.tup xs) → c ≠ x := fun c xs r z => by subst z; rw [r] at mu; exact mu
  by_cases hb : b = x
  · subst hb; rw [upd_same] at q; cases q; exact new
  · rw [upd_ne hb] at q
    by_cases hbe : b = e
    · have q' : H b = some (.own x) := by
        rcases he with z | z
        · exact absurd (hbe.trans z) hb
        · rw [hbe]; exact z
      rw [q] at q'; cases q'
      obtain ⟨v, hv⟩ := heo
      exact ⟨v, by rw [hbe]; exact hv⟩
    · refine (ok b u q).stay (fun c v hc r => k c v ?_ r) (fun c r => by rw [upd_ne (nown c b r)]; exact r) fun c xs r => by rw [upd_ne (ntup c xs r)]; exact r
      rcases hc with rfl | hc
      · exact hbe
      · rintro rfl
        rcases he with z | z
        · exact nown c b hc z
        · rw [hc] at z; cases z; exact hb rfl
end
structure Un (fs ex : List Addr) (H H' : Hp) (h h' : Heap) : Prop where
  keep : ∀ b o, h.get? b = some o → H b = none → b ∉ fs → b ∉ ex → h'.get? b = some o
  slot : ∀ b o, h.get? b = some o → H b = none → b ∈ fs → b ∉ ex → ∃ sl, h'.get? b = some { o with slots := sl }
  free : ∀ b o, h.get? b = some o → H b = none → b ∉ ex → H' b = none
  there : ∀ b o, h.get? b = some o → b ∉ ex → ∃ o', h'.get? b = some o'
  tups : ∀ b xs, H b = some (.tup xs) → H' b = some (.tup xs)
  frzs : ∀ b o u, H b = some (.frz o u) → H' b = some (.frz o u)
  tbls : ∀ b ps, H b = some (.tbl ps) → ∃ more, H' b = some (.tbl (ps ++ more))
section
variable {fs fs' ex ex' : List Addr} {H H1 H2 : Hp} {h h1 h2 h' : Heap} {a x e : Addr} {o : HO}
theorem Un.any (u : Un fs ex H H1 h h1) {b : Addr} {ob : Obj} (q : h.get? b = some ob) (n : H b = none) (hx : b ∉ ex) : ∃ sl, h1.get? b = some { ob with slots := sl } := by
  by_cases hb : b ∈ fs
  · exact u.slot b ob q n hb hx
  · exact ⟨ob.slots, u.keep b ob q n hb hx⟩
theorem Un.kept (k : ∀ b u, h.get? b = some u → h'.get? b = some u) : Un fs ex H H h h' :=
  ⟨fun b ob q _ _ _ => k b ob q, fun b ob q _ _ _ => ⟨ob.slots, k b ob q⟩, fun _ _ _ n _ => n, fun b ob q _ => ⟨ob, k b ob q⟩, fun _ _ q => q, fun _ _ _ q => q, fun _ ps q => ⟨#[], by rw [q]; simp⟩⟩
theorem Un.refl : Un fs ex H H h h := Un.kept fun _ _ q => q
theorem Un.laid (k : ∀ b u, h.get? b = some u → h'.get? b = some u) (hp : h.objs.size ≤ a) (hn : H a = none) : Un fs ex H (upd H a o) h h' where
  keep := fun b u q _ _ _ => k b u q
  slot := fun b u q _ _ _ => ⟨u.slots, k b u q⟩
  free := fun b u q n _ => by rw [upd_ne (Nat.ne_of_lt (Nat.lt_of_lt_of_le (Heap.lt_size q) hp))]; exact n
  there := fun b u q _ => ⟨u, k b u q⟩
  tups := fun b xs q => by rw [upd_ne (ne_of_none q hn)]; exact q
  frzs := fun b u xs q => by rw [upd_ne (ne_of_none q hn)]; exact q
  tbls := fun b ps q => ⟨#[], by rw [upd_ne (ne_of_none q hn), q]; simp⟩
theorem Un.write (mu : Mut (H x)) (he : e = x ∨ H e = some (.own x)) (k : ∀ b u, b ≠ e → h.get? b = some u → h'.get? b = some u) (heo : ∃ u, h'.get? e = some u) : Un fs ex H (upd H x o) h h' := by
  have hx : ∀ b, H b = none → b ≠ x := fun b n z => by subst z; rw [n] at mu; exact mu
  have hb : ∀ b, H b = none → b ≠ e := fun b n z => by
    subst z
    rcases he with r | r
    · exact hx b n r
    · rw [n] at r; cases r
  have hm : ∀ b u, H b = some u → ¬ Mut (some u) → b ≠ x := fun b u q nm z => by subst z; rw [q] at mu; exact nm mu
  refine ⟨fun b u q n _ _ => k b u (hb b n) q, fun b u q n _ _ => ⟨u.slots, k b u (hb b n) q⟩, fun b u q n _ => by rw [upd_ne (hx b n)]; exact n, fun b u q _ => ?_,
    fun b xs q => by rw [upd_ne (hm b _ q fun z => z)]; exact q, fun b u xs q => by rw [upd_ne (hm b _ q fun z => z)]; exact q, fun b ps q => ⟨#[], by rw [upd_ne (hm b _ q fun z => z), q]; simp⟩⟩
  by_cases hbe : b = e
  · subst hbe; exact heo
  · exact ⟨u, k b u hbe q⟩
end
def trk (h : Heap) (H : Hp) : List Addr := (List.range h.objs.size).filter fun a => (H a).isSome
def hidT (h : Heap) (H : Hp) : Heap := PySem.W.hideAll h (trk h H)
theorem hidT_size (h : Heap) (H : Hp) : (hidT h H).objs.size = h.objs.size := PySem.W.hideAll_size _ _
theorem hidT_get {h : Heap} {H : Hp} {b : Addr} {o : Obj} (e : h.get? b = some o) (n : H b = none) : (hidT h H).get? b = some o :=
  PySem.W.hideAll_get _ e fun hm => by
    have q : (H b).isSome = true := (List.mem_filter.mp hm).2
    rw [n] at q; simp at q
theorem of_hidT {h : Heap} {H : Hp} {b : Addr} {o : Obj} (e : (hidT h H).get? b = some o) : h.get? b = some o ∧ H b = none := by
  have e' : h.get? b = some o := PySem.W.of_hideAll (trk h H) e
  refine ⟨e', ?_⟩
  cases q : H b with
  | none => rfl
  | some x =>
    have hm : b ∈ trk h H := List.mem_filter.mpr ⟨List.mem_range.mpr (Heap.lt_size e'), by simp [q]⟩
    have z : (hidT h H).get? b = none := PySem.W.hideAll_none (trk h H) hm
    rw [z] at e; cases e
end L2
namespace L2
open PySem PySem.Spec PyProof.Rows
/-- the module's facts, over the base: the heap at the law's entry without what is tracked there -/
structure Mod (K : PySem.W.Frag) (mg : Str → Option Value) (base : Heap) : Prop where
  kin : K.In base
  glob : base.Ns mainGlobals mg
  blt : ∃ mb, base.Ns builtinsNs mb ∧ ∀ x : Str, x ≠ "__name__" → mb x = bootBuiltins x
  nolimit : base.NoLimit
set_option genInjectivity false in
set_option genSizeOfSpec false in
structure Cx where
  prog : Program
  w : World
  K : PySem.W.Frag
  mg : Str → Option Value
  base : Heap
  A : Around
  N : List Str
  s₀ : Shared
  H₀ : Hp
  env : Env
  outer : List Env
  stack : List Env
  ex : List Addr
  fn : Str → Bool
  calm : Bool
  pn : List (Addr × Obj)
  xe : Value → Shared → Prop
/-- the callers' frames -/
def frs (l : List Env) : List Addr := l.filterMap (·.frame)
abbrev Cx.fs (X : Cx) : List Addr := frs X.outer
def Vis (sc : Scope) (x : Str) : Prop := sc.names.lookup x = some .local ∨ sc.names.lookup x = some .cell ∨ sc.names.lookup x = some .free
def Loc (sc : Scope) (x : Str) : Prop := sc.names.lookup x = some .local ∨ sc.names.lookup x = some .cell
def Look (env : Env) (h : Heap) (m : Str → Option Value) (x : Str) (u : Value) : Prop :=
  (env.kindOf x = some .local ∧ m x = some u) ∨ ((env.kindOf x = some .cell ∨ env.kindOf x = some .free) ∧ ∃ c, env.cells.lookup x = some c ∧ h.IsCell c (some u))
set_option genInjectivity false in
set_option genSizeOfSpec false in
structure Cx.Ok (X : Cx) : Prop where
  mod : Mod X.K X.mg X.base
  kind : X.env.scope.kind = .function
  glob : X.env.globals = mainGlobals
  blt : X.env.builtins = builtinsNs
  above : X.s₀.heap.objs.size ≤ X.env.locals
  inj : ∀ x y c, X.env.cells.lookup x = some c → X.env.cells.lookup y = some c → x = y
  has : ∀ x, (X.env.kindOf x = some .cell ∨ X.env.kindOf x = some .free) → ∃ c, X.env.cells.lookup x = some c
  cab : ∀ x c, X.fn x = true → X.env.cells.lookup x = some c → X.s₀.heap.objs.size ≤ c
  hd : X.calm = true → X.A.handled = none
  frames : X.A.frames = some X.stack
  stk : X.stack = X.outer ∨ (X.stack = X.env :: X.outer ∧ X.env.frame = some X.env.locals)
  exf : ∀ b ∈ X.ex, b ≠ X.env.locals ∧ ∀ x c, X.env.cells.lookup x = some c → c ≠ b
  bs : ∀ b o, X.base.get? b = some o → X.s₀.heap.get? b = some o ∧ X.H₀ b = none
  bsz : X.base.objs.size ≤ X.s₀.heap.objs.size
  noex : ∀ b o, X.base.get? b = some o → b ∉ X.ex
  exfs : ∀ b ∈ X.ex, b ∉ X.fs
  funs : X.s₀.heap.FunFrames X.base X.outer
  frf : ∀ b ∈ X.fs, X.H₀ b = none
structure Inv (X : Cx) (pins : List (Addr × Obj)) (σ : List (Option V)) (H : Hp) (s : Shared) : Prop where
  ok : X.Ok
  os : s.os = X.s₀.os
  bare : AllBare s.gens
  base : Un X.fs X.ex X.H₀ H X.s₀.heap s.heap
  loc : ∃ m, s.heap.Ns X.env.locals m ∧ ∀ (i : Nat) (x : Str) (v : V), X.N[i]? = some x → σ[i]? = some (some v) → Vis X.env.scope x → ∃ u, RelV v u ∧ Look X.env s.heap m x u
  cell : ∀ x c, X.env.cells.lookup x = some c → ∃ v, s.heap.IsCell c v
  free : H X.env.locals = none
  freeC : ∀ x c, X.env.cells.lookup x = some c → H c = none
  pin : ∀ p ∈ X.pn ++ pins, s.heap.get? p.1 = some p.2 ∧ H p.1 = none ∧ p.1 ≠ X.env.locals ∧ p.1 ∉ X.fs ∧ ∀ v, p.2.data ≠ .cell v
  hok : HOk X.prog X.w H s.heap
  len : σ.length = X.N.length
section
variable {X : Cx} {pins : List (Addr × Obj)} {σ : List (Option V)} {H H' : Hp} {s : Shared} {h' : Heap}
theorem Cx.Ok.nofr (ok : X.Ok) {b : Addr} {o : Obj} (e : X.base.get? b = some o) : b ∉ X.fs := fun hb => by
  have := (ok.funs.mem hb).1
  rw [e] at this; cases this
theorem Inv.bs (I : Inv X pins σ H s) : ∀ b o, X.base.get? b = some o → s.heap.get? b = some o ∧ H b = none := fun b o e =>
  ⟨I.base.keep b o (I.ok.bs b o e).1 (I.ok.bs b o e).2 (I.ok.nofr e) (I.ok.noex b o e), I.base.free b o (I.ok.bs b o e).1 (I.ok.bs b o e).2 (I.ok.noex b o e)⟩
theorem Inv.bk (I : Inv X pins σ H s) : ∀ b o, X.base.get? b = some o → s.heap.get? b = some o := fun b o e => (I.bs b o e).1
theorem Inv.mod (I : Inv X pins σ H s) : Mod X.K X.mg X.base := I.ok.mod
theorem Inv.kIn (I : Inv X pins σ H s) : X.K.In s.heap := I.ok.mod.kin.keeps I.bk
theorem Inv.lt (I : Inv X pins σ H s) : X.env.locals < s.heap.objs.size := let ⟨_, hn, _⟩ := I.loc; hn.lt
theorem Inv.sz (I : Inv X pins σ H s) : X.s₀.heap.objs.size ≤ s.heap.objs.size := Nat.le_trans I.ok.above (Nat.le_of_lt I.lt)
theorem Inv.nofs (I : Inv X pins σ H s) {a : Addr} (h : s.heap.objs.size ≤ a) : a ∉ X.fs := fun hb => by
  obtain ⟨_, o, ho, _⟩ := I.ok.funs.mem hb
  exact absurd (Nat.lt_of_lt_of_le (Heap.lt_size ho) (Nat.le_trans I.sz h)) (Nat.lt_irrefl _)
theorem Inv.cne (I : Inv X pins σ H s) : ∀ x c, X.env.cells.lookup x = some c → c ≠ X.env.locals := fun x c e z => by
  obtain ⟨v, o, ho, hd⟩ := I.cell x c e
  obtain ⟨m, ⟨o', es, ep, ho', hd', _⟩, _⟩ := I.loc
  rw [z, ho'] at ho; cases ho; rw [hd'] at hd; cases hd
theorem Inv.funs (I : Inv X pins σ H s) : s.heap.FunFrames X.base X.outer := by
  have all : ∀ (l : List Env), (∀ b ∈ frs l, b ∈ X.fs) → X.s₀.heap.FunFrames X.base l → s.heap.FunFrames X.base l := by
    intro l
    induction l with
    | nil => intro _ _; trivial
    | cons env r ih =>
      intro hs hl
      obtain ⟨hk, ⟨L, o, hf, hn, ho, hd⟩, hr⟩ := hl
      have hL : L ∈ X.fs := hs L (by unfold frs; rw [List.filterMap_cons, hf]; exact List.mem_cons_self)
      obtain ⟨sl, e⟩ := I.base.slot L o ho (I.ok.frf L hL) hL fun z => I.ok.exfs L z hL
      exact ⟨hk, ⟨L, _, hf, hn, e, hd⟩, ih (fun b hb => hs b (by unfold frs; rw [List.filterMap_cons, hf]; exact List.mem_cons_of_mem _ hb)) hr⟩
  exact all X.outer (fun _ hb => hb) I.ok.funs
/-- the frames that run, for a call -/
theorem Inv.stack (I : Inv X pins σ H s) : s.heap.FunFrames X.base X.stack := by
  rcases I.ok.stk with e | ⟨e, hf⟩
  · rw [e]; exact I.funs
  · rw [e]
    obtain ⟨m, hn, _⟩ := I.loc
    refine .cons (by rw [I.ok.kind]; decide) hf hn ?_ I.funs
    exact Heap.get?_none_of_le (Nat.le_trans I.ok.bsz I.ok.above)
theorem Inv.stkSub (I : Inv X pins σ H s) : ∀ b ∈ frs X.stack, b ∈ X.env.locals :: X.fs := fun b hb => by
  rcases I.ok.stk with e | ⟨e, hf⟩
  · rw [e] at hb; exact List.mem_cons_of_mem _ hb
  · rw [e] at hb
    unfold frs at hb
    rw [List.filterMap_cons, hf] at hb
    exact hb
theorem Inv.stkFree (I : Inv X pins σ H s) : ∀ b ∈ frs X.stack, H b = none := fun b hb => by
  rcases List.mem_cons.mp (I.stkSub b hb) with e | hb
  · rw [e]; exact I.free
  · obtain ⟨_, o, ho, _⟩ := I.ok.funs.mem hb
    exact I.base.free b o ho (I.ok.frf b hb) fun z => I.ok.exfs b z hb
/-- THE STEP: the untracked objects but the frame and the records at ch are kept (the callers' frames up to slots), the frame's map is kept, the new abstract heap is held -/
theorem Inv.step {g' : Array GenState} {t' : Nat} {d' : Drawn} {ch : List Addr} (I : Inv X pins σ H s)
    (hch : ∀ b ∈ ch, (b ∈ X.ex ∨ X.s₀.heap.objs.size ≤ b) ∧ b ≠ X.env.locals ∧ (∀ x c, X.env.cells.lookup x = some c → c ≠ b) ∧ ∀ p ∈ X.pn ++ pins, p.1 ≠ b)
    (keep : ∀ b o, b ≠ X.env.locals → b ∉ X.fs → b ∉ ch → s.heap.get? b = some o → H b = none → h'.get? b = some o)
    (slot : ∀ b o, b ≠ X.env.locals → b ∈ X.fs → b ∉ ch → s.heap.get? b = some o → H b = none → ∃ sl, h'.get? b = some { o with slots := sl }) (free : ∀ b o, b ∉ ch → s.heap.get? b = some o → H b = none → H' b = none)
    (there : ∀ b o, b ∉ ch → s.heap.get? b = some o → ∃ o', h'.get? b = some o')
    (tups : ∀ b xs, H b = some (.tup xs) → H' b = some (.tup xs)) (frzs : ∀ b o u, H b = some (.frz o u) → H' b = some (.frz o u)) (tbls : ∀ b ps, H b = some (.tbl ps) → ∃ more, H' b = some (.tbl (ps ++ more)))
    (ns : ∀ m, s.heap.Ns X.env.locals m → h'.Ns X.env.locals m) (hok : HOk X.prog X.w H' h') (hg : AllBare g') :
    Inv X pins σ H' { s with heap := h', gens := g', drawn := d', toks := t' } := by
  have neL : ∀ b o, X.s₀.heap.get? b = some o → b ≠ X.env.locals := fun b o e => Nat.ne_of_lt (Nat.lt_of_lt_of_le (Heap.lt_size e) I.ok.above)
  have neC : ∀ b o, X.s₀.heap.get? b = some o → b ∉ X.ex → b ∉ ch := fun b o e hx hb => by
    rcases (hch b hb).1 with z | z
    · exact hx z
    · exact absurd (Nat.lt_of_lt_of_le (Heap.lt_size e) z) (Nat.lt_irrefl _)
  have cellK : ∀ x c, X.env.cells.lookup x = some c → ∀ v, s.heap.IsCell c v → h'.IsCell c v := fun x c e v ⟨o, ho, hd⟩ => by
    have nch : c ∉ ch := fun z => (hch c z).2.2.1 x c e rfl
    by_cases hc : c ∈ X.fs
    · obtain ⟨sl, q⟩ := slot c o (I.cne x c e) hc nch ho (I.freeC x c e)
      exact ⟨_, q, hd⟩
    · exact ⟨o, keep c o (I.cne x c e) hc nch ho (I.freeC x c e), hd⟩
  refine ⟨I.ok, I.os, hg, ⟨fun b o e n hb hx => ?_, fun b o e n hb hx => ?_, fun b o e n hx => ?_, fun b o e hx => ?_, fun b xs e => tups b xs (I.base.tups b xs e), fun b o xs e => frzs b o xs (I.base.frzs b o xs e), fun b ps e => ?_⟩, ?_, fun x c e => ?_, ?_, fun x c e => ?_, fun p hp => ?_, hok, I.len⟩
  · exact keep b o (neL b o e) hb (neC b o e hx) (I.base.keep b o e n hb hx) (I.base.free b o e n hx)
  · obtain ⟨sl, e1⟩ := I.base.slot b o e n hb hx
    obtain ⟨sl', e2⟩ := slot b _ (neL b o e) hb (neC b o e hx) e1 (I.base.free b o e n hx)
    exact ⟨sl', e2⟩
  · obtain ⟨o', e1⟩ := I.base.there b o e hx
    exact free b o' (neC b o e hx) e1 (I.base.free b o e n hx)
  · obtain ⟨o', e1⟩ := I.base.there b o e hx
    exact there b o' (neC b o e hx) e1
  · obtain ⟨m1, e1⟩ := I.base.tbls b ps e
    obtain ⟨m2, e2⟩ := tbls b _ e1
    exact ⟨m1 ++ m2, by rw [e2, Array.append_assoc]⟩
  · obtain ⟨m, hn, hl⟩ := I.loc
    refine ⟨m, ns m hn, fun i x v e1 e2 e3 => ?_⟩
    obtain ⟨u, r, l⟩ := hl i x v e1 e2 e3
    refine ⟨u, r, ?_⟩
    rcases l with l | ⟨k, c, e, z⟩
    · exact .inl l
    · exact .inr ⟨k, c, e, cellK x c e _ z⟩
  · obtain ⟨v, z⟩ := I.cell x c e
    exact ⟨v, cellK x c e v z⟩
  · obtain ⟨m, ⟨o, _, _, ho, _⟩, _⟩ := I.loc
    exact free _ o (fun z => (hch _ z).2.1 rfl) ho I.free
  · obtain ⟨v, o, ho, hd⟩ := I.cell x c e
    exact free c o (fun z => (hch c z).2.2.1 x c e rfl) ho (I.freeC x c e)
  · obtain ⟨e, n, ne, nf, d⟩ := I.pin p hp
    have nch : p.1 ∉ ch := fun z => (hch p.1 z).2.2.2 p hp rfl
    exact ⟨keep p.1 p.2 ne nf nch e n, free p.1 p.2 nch e n, ne, nf, d⟩
/-- .. where the frame's own object is kept too -/
theorem Inv.un {t' : Nat} (I : Inv X pins σ H s) (u : Un X.fs [] H H' s.heap h') (hok : HOk X.prog X.w H' h') : Inv X pins σ H' { s with heap := h', toks := t' } := by
  obtain ⟨m, ⟨o, es, ep, ho, r⟩, _⟩ := id I.loc
  obtain ⟨sl, hL⟩ := u.any ho I.free (by simp)
  exact I.step (g' := s.gens) (d' := s.drawn) (ch := []) (fun _ z => nomatch z) (fun b o _ hb _ e n => u.keep b o e n hb (by simp)) (fun b o _ hb _ e n => u.slot b o e n hb (by simp)) (fun b o _ e n => u.free b o e n (by simp)) (fun b o _ e => u.there b o e (by simp)) u.tups u.frzs u.tbls (fun m' hm => by
    obtain ⟨o', es', ep', ho', r'⟩ := hm
    rw [ho] at ho'; cases ho'
    exact ⟨_, es', ep', hL, r'⟩) hok I.bare
/-- behind a call (or a comprehension's block): the slots of this frame may have changed too, the records at ch may have turned -/
theorem Inv.call {g' : Array GenState} {t' : Nat} {d' : Drawn} {ch : List Addr} (I : Inv X pins σ H s) (u : Un (frs X.stack) ch H H' s.heap h') (hok : HOk X.prog X.w H' h') (hg : AllBare g')
    (hch : ∀ b ∈ ch, (b ∈ X.ex ∨ X.s₀.heap.objs.size ≤ b) ∧ b ≠ X.env.locals ∧ (∀ x c, X.env.cells.lookup x = some c → c ≠ b) ∧ ∀ p ∈ X.pn ++ pins, p.1 ≠ b) :
    Inv X pins σ H' { s with heap := h', gens := g', drawn := d', toks := t' } := by
  obtain ⟨m, ⟨o, es, ep, ho, r⟩, _⟩ := id I.loc
  obtain ⟨sl, hL⟩ := u.any ho I.free fun z => (hch _ z).2.1 rfl
  exact I.step (ch := ch) hch (fun b o hL hb hc e n => u.keep b o e n (fun z => (List.mem_cons.mp (I.stkSub b z)).elim hL hb) hc) (fun b o _ _ hc e n => u.any e n hc) (fun b o hc e n => u.free b o e n hc) (fun b o hc e => u.there b o e hc) u.tups u.frzs u.tbls (fun m' hm => by
    obtain ⟨o', es', ep', ho', r'⟩ := hm
    rw [ho] at ho'; cases ho'
    exact ⟨_, es', ep', hL, r'⟩) hok hg
/-- an untracked record of ours (an iterator) has turned -/
theorem Inv.turned {t' : Nat} {it : Addr} (I : Inv X pins σ H s) (k : ∀ b o, b ≠ it → s.heap.get? b = some o → h'.get? b = some o) (hn : H it = none) (hL : it ≠ X.env.locals)
    (h1 : it ∈ X.ex ∨ X.s₀.heap.objs.size ≤ it) (h2 : ∀ x c, X.env.cells.lookup x = some c → c ≠ it) (h3 : ∀ p ∈ X.pn ++ pins, p.1 ≠ it) : Inv X pins σ H { s with heap := h', toks := t' } := by
  have nit : ∀ b u, H b = some u → b ≠ it := fun b u e z => by rw [z, hn] at e; cases e
  refine I.step (g' := s.gens) (d' := s.drawn) (ch := [it]) (fun b hb => ?_) (fun b o _ _ hc e _ => k b o (fun z => hc (by simp [z])) e) (fun b o _ _ hc e _ => ⟨o.slots, k b o (fun z => hc (by simp [z])) e⟩) (fun _ _ _ _ n => n)
    (fun b o hc e => ⟨o, k b o (fun z => hc (by simp [z])) e⟩) (fun _ _ e => e) (fun _ _ _ e => e) (fun b ps e => ⟨#[], by rw [e]; simp⟩) (fun m hm => ?_) (fun b u e => ?_) I.bare
  · have e : b = it := by simpa using hb
    subst e
    exact ⟨h1, hL, h2, h3⟩
  · obtain ⟨o, es, ep, ho, r⟩ := hm
    exact ⟨o, es, ep, k _ o (Ne.symm hL) ho, r⟩
  · refine (I.hok b u e).stay (fun c v hc q => k c v ?_ q) (fun _ q => q) fun _ _ q => q
    rcases hc with z | z
    · rw [z]; exact nit b u e
    · exact nit c _ z
theorem Inv.tok (I : Inv X pins σ H s) (t : Nat) : Inv X pins σ H { s with toks := t } := I.un (h' := s.heap) (t' := t) Un.refl I.hok
/-- all objects kept -/
theorem Inv.kept {t' : Nat} (I : Inv X pins σ H s) (k : ∀ b u, s.heap.get? b = some u → h'.get? b = some u) : Inv X pins σ H { s with heap := h', toks := t' } := I.un (Un.kept k) (I.hok.kept k)
/-- a new object laid and tracked -/
theorem Inv.laid {a : Addr} {o : HO} {t' : Nat} (I : Inv X pins σ H s) (k : ∀ b u, s.heap.get? b = some u → h'.get? b = some u) (hp : s.heap.objs.size ≤ a) (new : ObjOk X.prog X.w (upd H a o) h' a o) :
    Inv X pins σ (upd H a o) { s with heap := h', toks := t' } := I.un (Un.laid k hp (I.hok.fresh hp)) (I.hok.laid k hp new)
/-- an object written -/
theorem Inv.write {x e : Addr} {o : HO} {t' : Nat} (I : Inv X pins σ H s) (mu : Mut (H x)) (he : e = x ∨ H e = some (.own x)) (k : ∀ b u, b ≠ e → s.heap.get? b = some u → h'.get? b = some u) (heo : ∃ u, h'.get? e = some u)
    (new : ObjOk X.prog X.w (upd H x o) h' x o) : Inv X pins σ (upd H x o) { s with heap := h', toks := t' } := I.un (Un.write mu he k heo) (I.hok.write mu he k heo new)
theorem Inv.pins_of {pins' : List (Addr × Obj)} (I : Inv X pins σ H s) (h : ∀ p ∈ pins', s.heap.get? p.1 = some p.2 ∧ H p.1 = none ∧ p.1 ≠ X.env.locals ∧ p.1 ∉ X.fs ∧ ∀ v, p.2.data ≠ .cell v) : Inv X pins' σ H s :=
  ⟨I.ok, I.os, I.bare, I.base, I.loc, I.cell, I.free, I.freeC, fun p hp => (List.mem_append.mp hp).elim (fun z => I.pin p (List.mem_append_left _ z)) (h p), I.hok, I.len⟩
theorem nodup_ix {N : List Str} (hN : N.Nodup) {i j : Nat} {x : Str} (a : N[i]? = some x) (b : N[j]? = some x) : i = j := by
  obtain ⟨h1, e1⟩ := List.getElem?_eq_some_iff.mp a
  obtain ⟨h2, e2⟩ := List.getElem?_eq_some_iff.mp b
  exact (List.getElem_inj hN).mp (e1.trans e2.symm)
/-- a name is stored; what changed -/
theorem store_ok2 {M : Model} {A : Around} {E : Value → Shared → Prop} {i : Nat} {x : Str} {v : V} {u : Value} {Q : Unit → Shared → Prop} (I : Inv X pins σ H s) (hN : X.N.Nodup) (hi : X.N[i]? = some x) (hx : Loc X.env.scope x) (r : RelV v u)
    (h : ∀ s', Inv X pins (σ.set i (some v)) H s' → (∃ a, Heap.SameBut a s.heap s'.heap ∧ (a = X.env.locals ∨ X.env.cells.lookup x = some a)) → Q () s') (hf : X.fn x = true ∨ X.env.scope.names.lookup x = some .local := by first | exact .inl rfl | exact .inr rfl | assumption) : wpAny M A (storeName X.env x u) Q E s := by
  obtain ⟨m, hn, hl⟩ := id I.loc
  have hcls : (X.env.scope.kind == .class || (X.env.scope.kind == .module && X.env.locals != X.env.globals)) = false := by rw [I.ok.kind]; rfl
  have hiσ : i < σ.length := by rw [I.len]; exact (List.getElem?_eq_some_iff.mp hi).1
  have cne := I.cne
  have tracked : ∀ {a : Addr} {h' : Heap}, (∃ o, s.heap.get? a = some o ∧ H a = none) → Heap.SameBut a s.heap h' → HOk X.prog X.w H h' := fun {a h'} ha hs b ob e => by
    obtain ⟨_, _, hfree⟩ := ha
    refine (I.hok b ob e).stay (fun c w' hc q => (hs.2 c ?_).trans q) (fun _ q => q) fun _ _ q => q
    rintro rfl
    rcases hc with rfl | hc
    · rw [hfree] at e; cases e
    · rw [hfree] at hc; cases hc
  rcases hx with hk | hk
  · refine wpAny_storeName_local hk hn (fun h' hn' hs => ?_) hcls
    obtain ⟨oL, _, _, hoL, _⟩ := id hn
    refine h _ ⟨I.ok, I.os, I.bare, ⟨fun b o e n hb hx => ?_, fun b o e n hb hx => ?_, I.base.free, fun b o e hx => ?_, I.base.tups, I.base.frzs, I.base.tbls⟩, ⟨_, hn', fun j y v' e1 e2 e3 => ?_⟩, fun y c e => ?_, I.free, I.freeC, fun p hp => ?_, tracked ⟨oL, hoL, I.free⟩ hs, by simpa using I.len⟩ ⟨_, hs, .inl rfl⟩
    · exact (hs.2 b (Nat.ne_of_lt (Nat.lt_of_lt_of_le (Heap.lt_size e) I.ok.above))).trans (I.base.keep b o e n hb hx)
    · obtain ⟨sl, e1⟩ := I.base.slot b o e n hb hx
      exact ⟨sl, (hs.2 b (Nat.ne_of_lt (Nat.lt_of_lt_of_le (Heap.lt_size e) I.ok.above))).trans e1⟩
    · obtain ⟨o', e1⟩ := I.base.there b o e hx
      exact ⟨o', (hs.2 b (Nat.ne_of_lt (Nat.lt_of_lt_of_le (Heap.lt_size e) I.ok.above))).trans e1⟩
    · by_cases hj : j = i
      · subst hj
        rw [hi] at e1; cases e1
        rw [List.getElem?_set_self hiσ] at e2
        cases e2
        exact ⟨u, r, .inl ⟨hk, by simp⟩⟩
      · rw [List.getElem?_set_ne (Ne.symm hj)] at e2
        obtain ⟨u', r', q⟩ := hl j y v' e1 e2 e3
        refine ⟨u', r', ?_⟩
        rcases q with ⟨k, e⟩ | ⟨k, c, e, z⟩
        · refine .inl ⟨k, ?_⟩
          have : y ≠ x := fun e => hj (nodup_ix hN e1 (e ▸ hi))
          simp [this, e]
        · exact .inr ⟨k, c, e, z.sameBut hs (cne y c e)⟩
    · obtain ⟨w', z⟩ := I.cell y c e
      exact ⟨w', z.sameBut hs (cne y c e)⟩
    · obtain ⟨e, n, ne, nf, d⟩ := I.pin p hp
      exact ⟨(hs.2 p.1 ne).trans e, n, ne, nf, d⟩
  · have hfn : X.fn x = true := by
      rcases hf with z | z
      · exact z
      · rw [z] at hk; cases hk
    obtain ⟨c, hc⟩ := I.ok.has x (.inl hk)
    obtain ⟨w', z⟩ := I.cell x c hc
    refine wpAny_storeName_cell I.ok.kind hk hc z (fun h' hc' hs => ?_)
    obtain ⟨oc, hoc, hocd⟩ := id z
    refine h { s with heap := h' } ⟨I.ok, I.os, I.bare, ⟨fun b o e n hb hx => ?_, fun b o e n hb hx => ?_, I.base.free, fun b o e hx => ?_, I.base.tups, I.base.frzs, I.base.tbls⟩, ⟨m, hn.sameBut hs (Ne.symm (cne x c hc)), fun j y v' e1 e2 e3 => ?_⟩, fun y c' e => ?_, I.free, I.freeC, fun p hp => ?_, tracked ⟨oc, hoc, I.freeC x c hc⟩ hs, by simpa using I.len⟩ ⟨c, hs, .inr hc⟩
    · exact (hs.2 b (Nat.ne_of_lt (Nat.lt_of_lt_of_le (Heap.lt_size e) (I.ok.cab x c hfn hc)))).trans (I.base.keep b o e n hb hx)
    · obtain ⟨sl, e1⟩ := I.base.slot b o e n hb hx
      exact ⟨sl, (hs.2 b (Nat.ne_of_lt (Nat.lt_of_lt_of_le (Heap.lt_size e) (I.ok.cab x c hfn hc)))).trans e1⟩
    · obtain ⟨o', e1⟩ := I.base.there b o e hx
      exact ⟨o', (hs.2 b (Nat.ne_of_lt (Nat.lt_of_lt_of_le (Heap.lt_size e) (I.ok.cab x c hfn hc)))).trans e1⟩
    · by_cases hj : j = i
      · subst hj
        rw [hi] at e1; cases e1
        rw [List.getElem?_set_self hiσ] at e2
        cases e2
        exact ⟨u, r, .inr ⟨.inl hk, c, hc, hc'⟩⟩
      · rw [List.getElem?_set_ne (Ne.symm hj)] at e2
        obtain ⟨u', r', q⟩ := hl j y v' e1 e2 e3
        refine ⟨u', r', ?_⟩
        rcases q with q | ⟨k, c', e, z'⟩
        · exact .inl q
        · refine .inr ⟨k, c', e, z'.sameBut hs ?_⟩
          rintro rfl
          exact hj (nodup_ix hN e1 (I.ok.inj _ _ _ e hc ▸ hi))
    · by_cases hcc : c' = c
      · subst hcc; exact ⟨_, hc'⟩
      · obtain ⟨w2, z2⟩ := I.cell y c' e
        exact ⟨w2, z2.sameBut hs hcc⟩
    · obtain ⟨e, n, ne, nf, d⟩ := I.pin p hp
      refine ⟨(hs.2 p.1 ?_).trans e, n, ne, nf, d⟩
      intro q
      rw [q, hoc] at e
      have q' : oc = p.2 := Option.some.inj e
      exact d w' (by rw [← q']; exact hocd)
theorem store_ok {M : Model} {A : Around} {E : Value → Shared → Prop} {i : Nat} {x : Str} {v : V} {u : Value} {Q : Unit → Shared → Prop} (I : Inv X pins σ H s) (hN : X.N.Nodup) (hi : X.N[i]? = some x) (hx : Loc X.env.scope x) (r : RelV v u)
    (h : ∀ s', Inv X pins (σ.set i (some v)) H s' → Q () s') (hf : X.fn x = true ∨ X.env.scope.names.lookup x = some .local := by first | exact .inl rfl | exact .inr rfl | assumption) : wpAny M A (storeName X.env x u) Q E s :=
  store_ok2 I hN hi hx r (fun s' I' _ => h s' I') hf
/-- behind a call or a block, the state as it is -/
theorem Inv.call' {s' : Shared} {ch : List Addr} (I : Inv X pins σ H s) (ho : s'.os = s.os) (u : Un (frs X.stack) ch H H' s.heap s'.heap) (hok : HOk X.prog X.w H' s'.heap) (hg : AllBare s'.gens)
    (hch : ∀ b ∈ ch, (b ∈ X.ex ∨ X.s₀.heap.objs.size ≤ b) ∧ b ≠ X.env.locals ∧ (∀ x c, X.env.cells.lookup x = some c → c ≠ b) ∧ ∀ p ∈ X.pn ++ pins, p.1 ≠ b) : Inv X pins σ H' s' := by
  obtain ⟨h', g', d', t', o'⟩ := s'
  have e : o' = s.os := ho
  subst e
  exact I.call (g' := g') (t' := t') (d' := d') u hok hg hch
end
/-- an exception: its class, its own dict's address (where it has one), the abstract heap behind it -/
abbrev XK := Value → Option Addr → Hp → Prop
abbrev St := List (Option V)
abbrev VK := V → Hp → Prop
/-- an expression's reading; a test's; an argument list's -/
abbrev TE := St → Hp → VK → Prop
abbrev TT := St → Hp → (Bool → Hp → Prop) → Prop
abbrev TA := St → Hp → (List V → Hp → Prop) → Prop
/-- what is wanted behind a statement -/
structure Ends where
  nx : St → Hp → Prop
  rt : VK
  bk : St → Hp → Prop := fun _ _ => False
  ct : St → Hp → Prop := fun _ _ => False
abbrev TS := Ends → St → Hp → Prop
inductive EP_i (X : Cx) (pins : List (Addr × Obj)) (σ : St) (Q : VK) (u : Value) (s' : Shared) : Prop
  | mk (v H') : (Inv X pins σ H' s') → (RelV v u) → (Q v H') → EP_i X pins σ Q u s'
def EP (X : Cx) (pins : List (Addr × Obj)) (σ : St) (Q : VK) (u : Value) (s' : Shared) : Prop := EP_i X pins σ Q u s'
inductive TP_i (X : Cx) (pins : List (Addr × Obj)) (σ : St) (Q : Bool → Hp → Prop) (b : Bool) (s' : Shared) : Prop
  | mk (H') : (Inv X pins σ H' s') → (Q b H') → TP_i X pins σ Q b s'
def TP (X : Cx) (pins : List (Addr × Obj)) (σ : St) (Q : Bool → Hp → Prop) (b : Bool) (s' : Shared) : Prop := TP_i X pins σ Q b s'
inductive AP_i (X : Cx) (pins : List (Addr × Obj)) (σ : St) (Q : List V → Hp → Prop) (us : List Value) (s' : Shared) : Prop
  | mk (vs H') : (Inv X pins σ H' s') → (Vals vs us) → (Q vs H') → AP_i X pins σ Q us s'
def AP (X : Cx) (pins : List (Addr × Obj)) (σ : St) (Q : List V → Hp → Prop) (us : List Value) (s' : Shared) : Prop := AP_i X pins σ Q us s'
def SP (X : Cx) (pins : List (Addr × Obj)) (D : Ends) (f : Flow) (s' : Shared) : Prop :=
  match f with
  | .next => ∃ σ' H', Inv X pins σ' H' s' ∧ D.nx σ' H'
  | .brk => ∃ σ' H', Inv X pins σ' H' s' ∧ D.bk σ' H'
  | .cont => ∃ σ' H', Inv X pins σ' H' s' ∧ D.ct σ' H'
  | .ret u => ∃ v σ' H', Inv X pins σ' H' s' ∧ RelV v u ∧ D.rt v H'
def PE (X : Cx) (e : Expr) (t : TE) : Prop :=
  ∀ (pins : List (Addr × Obj)) (s : Shared) (σ : St) (H : Hp) (Q : VK), Inv X pins σ H s → t σ H Q → wpAny (model X.prog X.w) X.A (eval e X.env) (EP X pins σ Q) X.xe s
def PT (X : Cx) (e : Expr) (t : TT) : Prop :=
  ∀ (pins : List (Addr × Obj)) (s : Shared) (σ : St) (H : Hp) (Q : Bool → Hp → Prop), Inv X pins σ H s → t σ H Q → wpAny (model X.prog X.w) X.A (isTrue e X.env (eval e X.env)) (TP X pins σ Q) X.xe s
/-- a test whatever its 'whole' is (and, or) -/
def PW (X : Cx) (e : Expr) (t : TT) : Prop :=
  ∀ (whole : Sem Value) (pins : List (Addr × Obj)) (s : Shared) (σ : St) (H : Hp) (Q : Bool → Hp → Prop), Inv X pins σ H s → t σ H Q → wpAny (model X.prog X.w) X.A (isTrue e X.env whole) (TP X pins σ Q) X.xe s
theorem PW.pt {X : Cx} {e : Expr} {t : TT} (h : PW X e t) : PT X e t := h _
/-- an argument list (no star), from the left -/
def PA (X : Cx) (es : List Expr) (t : TA) : Prop :=
  ∀ (pos : Pos) (pins : List (Addr × Obj)) (s : Shared) (σ : St) (H : Hp) (Q : List V → Hp → Prop), Inv X pins σ H s → t σ H Q → wpAny (model X.prog X.w) X.A (spliced (backTo pos (starEach es X.env))) (AP X pins σ Q) X.xe s
def PS (X : Cx) (st : Stmt) (t : TS) : Prop :=
  ∀ (pins : List (Addr × Obj)) (s : Shared) (σ : St) (H : Hp) (D : Ends), Inv X pins σ H s → t D σ H → wpAny (model X.prog X.w) X.A (exec st X.env) (SP X pins D) X.xe s
def PSs (X : Cx) (st : List Stmt) (t : TS) : Prop :=
  ∀ (pins : List (Addr × Obj)) (s : Shared) (σ : St) (H : Hp) (D : Ends), Inv X pins σ H s → t D σ H → wpAny (model X.prog X.w) X.A (execs st X.env) (SP X pins D) X.xe s
/-- weaken the end -/
theorem thn {α : Type} {t : Sem α} {Q Q' : α → Shared → Prop} {M : Model} {A : Around} {E : Value → Shared → Prop} {s : Shared} (h : wpAny M A t Q E s) (hQ : ∀ a s, Q a s → Q' a s) : wpAny M A t Q' E s := wpAny_mono h hQ fun _ _ x => x
end L2
namespace L2
open PySem PySem.Spec PyProof.Rows
section
variable {X : Cx}
inductive tVar_i (i : Nat) (σ : St) (H : Hp) (Q : VK) : Prop
  | mk (v) : (σ[i]? = some (some v)) → (Q v H) → tVar_i i σ H Q
def tVar (i : Nat) : TE := fun σ H Q => tVar_i i σ H Q
def tC (v : V) : TE := fun _ H Q => Q v H
theorem pe_var {i : Nat} {x : Str} {pos : Pos} (hN : X.N[i]? = some x) (hv : Vis X.env.scope x) (hd : (x == ("__debug__" : Str)) = false := by decide) (hcd : (x == ("__classdict__" : Str)) = false := by decide) : PE X (.Name x pos) (tVar i) := by
  intro pins s σ H Q I h
  obtain ⟨v, e, h⟩ := h
  obtain ⟨m, hn, hl⟩ := I.loc
  obtain ⟨u, r, l⟩ := hl i x v hN e hv
  have fin : EP X pins σ Q u s := ⟨v, H, I, r, h⟩
  rcases l with ⟨hk, hm⟩ | ⟨hk, c, hc, hcell⟩
  · exact wpAny_Name (wpAny_loadName_local I.ok.kind hk hn hm fin) hd
  · rcases hk with hk | hk
    · exact wpAny_Name (wpAny_loadName_cell I.ok.kind hk hc hcell fin) hd
    · exact wpAny_Name (wpAny_loadName_free I.ok.kind hk hc hcell fin hcd) hd
theorem pe_int {i j pos} : PE X (.Constant (.int i) j pos) (tC (.int i)) := fun _ _ _ H _ I h => wpAny_Constant_int ⟨.int i, H, I.tok _, ⟨_, rfl⟩, h⟩
theorem pe_bl {b j pos} : PE X (.Constant (.bool b) j pos) (tC (.bl b)) := fun _ _ _ H _ I h => Constant_bool ⟨.bl b, H, I, rfl, h⟩
theorem pe_non {j pos} : PE X (.Constant .none j pos) (tC .non) := fun _ _ _ H _ I h => Constant_none ⟨.non, H, I, rfl, h⟩
theorem pe_str {x j pos} : PE X (.Constant (.str x) j pos) (tC (.str x)) := fun _ _ _ H _ I h => Calls.Constant_str ⟨.str x, H, I.tok _, ⟨_, rfl⟩, h⟩
/-- a global name of the def -/
def Gl (X : Cx) (x : Str) : Prop := X.env.kindOf x = some .globalImplicit
theorem ld_glob {E : Value → Shared → Prop} {pins : List (Addr × Obj)} {s : Shared} {σ : St} {H : Hp} {x : Str} {u : Value} {pos : Pos} {Q : Value → Shared → Prop} (I : Inv X pins σ H s) (hg : Gl X x) (hm : X.mg x = some u) (h : Q u s)
    (hd : (x == ("__debug__" : Str)) = false := by decide) : wpAny (model X.prog X.w) X.A (eval (.Name x pos) X.env) Q E s :=
  Calls.Name_function_global I.ok.kind hg (Calls.loadGlobal_global (by rw [I.ok.glob]; exact I.mod.glob.keeps I.bk) hm h) hd
theorem ld_blt {E : Value → Shared → Prop} {pins : List (Addr × Obj)} {s : Shared} {σ : St} {H : Hp} {x : Str} {u : Value} {pos : Pos} {Q : Value → Shared → Prop} (I : Inv X pins σ H s) (hg : Gl X x) (hm : X.mg x = none) (hv : bootBuiltins x = some u) (h : Q u s)
    (hn : x ≠ "__name__" := by decide) (hd : (x == ("__debug__" : Str)) = false := by decide) : wpAny (model X.prog X.w) X.A (eval (.Name x pos) X.env) Q E s := by
  obtain ⟨mb, h1, h2⟩ := I.mod.blt
  exact Calls.Name_function_global I.ok.kind hg (Calls.loadGlobal_builtin (by rw [I.ok.glob]; exact I.mod.glob.keeps I.bk) hm (by rw [I.ok.blt]; exact h1.keeps I.bk) ((h2 x hn).trans hv) h) hd
/-- a module's constant, a class, a function, as a value -/
theorem pe_glob {x : Str} {v : V} {u : Value} {pos : Pos} (hg : Gl X x) (hm : X.mg x = some u) (r : RelV v u) (hd : (x == ("__debug__" : Str)) = false := by decide) : PE X (.Name x pos) (tC v) :=
  fun _ _ _ H _ I h => ld_glob I hg hm ⟨v, H, I, r, h⟩ hd
theorem pe_bltn {x : Str} {v : V} {u : Value} {pos : Pos} (hg : Gl X x) (hm : X.mg x = none) (hv : bootBuiltins x = some u) (r : RelV v u) (hn : x ≠ "__name__" := by decide) (hd : (x == ("__debug__" : Str)) = false := by decide) : PE X (.Name x pos) (tC v) :=
  fun _ _ _ H _ I h => ld_blt I hg hm hv ⟨v, H, I, r, h⟩ hn hd
variable {a b : Expr} {ta tb : TE} {pos : Pos}
/-- a comparison as a value, as a test -/
inductive tB_i (Q : Bool → Hp → Prop) (x : V) (H1 : Hp) : Prop
  | mk (c) : (x = .bl c) → (Q c H1) → tB_i Q x H1
def tB (t : TE) : TT := fun σ H Q => t σ H fun x H1 => tB_i Q x H1
/-- an expression whose value is a bool, as a test -/
theorem pt_val {e : Expr} {t : TE} (h : PE X e t) (he : ∀ whole, isTrue e X.env whole = (do let v ← whole; standAt e.pos; holding [v] (truthy v)) := by intro _; rfl) : PT X e (tB t) := by
  intro pins s σ H Q I hw
  refine isTrue_plain (thn (h pins s σ H _ I hw) fun v s1 ⟨x, H1, I1, r1, q1⟩ => ?_) (he _)
  obtain ⟨d, rfl, q⟩ := q1
  cases r1
  exact wpAny_truthy_bool ⟨H1, I1, q⟩
variable {tA tB' : TT} {rest : List Expr}
def tAnd (t u : TT) : TT := fun σ H Q => t σ H fun c H1 => if c = true then u σ H1 Q else Q false H1
def tOr (t u : TT) : TT := fun σ H Q => t σ H fun c H1 => if c = true then Q true H1 else u σ H1 Q
def tNot (t : TT) : TT := fun σ H Q => t σ H fun c H1 => Q (!c) H1
theorem pw_and1 (ha : PT X a tA) : PW X (.BoolOp .And [a] pos) tA := by
  intro wh pins s σ H Q I h
  refine isTrue_and (thn (ha pins s σ H Q I h) fun c s1 e => ?_)
  cases c with
  | true => exact isTrue_and_nil e
  | false => exact e
theorem pw_or1 (ha : PT X a tA) : PW X (.BoolOp .Or [a] pos) tA := by
  intro wh pins s σ H Q I h
  refine isTrue_or (thn (ha pins s σ H Q I h) fun c s1 e => ?_)
  cases c with
  | false => exact isTrue_or_nil e
  | true => exact e
theorem pw_and (ha : PT X a tA) (hb : PW X (.BoolOp .And (b :: rest) pos) tB') : PW X (.BoolOp .And (a :: b :: rest) pos) (tAnd tA tB') := by
  intro wh pins s σ H Q I h
  refine isTrue_and (thn (ha pins s σ H _ I h) fun c s1 ⟨H1, I1, q1⟩ => ?_)
  cases c with
  | true => exact hb wh pins s1 σ H1 Q I1 q1
  | false => exact ⟨H1, I1, q1⟩
theorem pw_or (ha : PT X a tA) (hb : PW X (.BoolOp .Or (b :: rest) pos) tB') : PW X (.BoolOp .Or (a :: b :: rest) pos) (tOr tA tB') := by
  intro wh pins s σ H Q I h
  refine isTrue_or (thn (ha pins s σ H _ I h) fun c s1 ⟨H1, I1, q1⟩ => ?_)
  cases c with
  | true => exact ⟨H1, I1, q1⟩
  | false => exact hb wh pins s1 σ H1 Q I1 q1
theorem pt_not (ha : PT X a tA) : PT X (.UnaryOp .Not a pos) (tNot tA) := by
  intro pins s σ H Q I h
  exact isTrue_not (thn (ha pins s σ H (fun c H1 => Q (!c) H1) I h) fun c s1 ⟨H1, I1, q⟩ => ⟨H1, I1, q⟩)
/-- .. as values (bools) -/
inductive tAndV_i (tb : TE) (σ : St) (Q : VK) (x : V) (H1 : Hp) : Prop
  | mk (c) : (x = .bl c) → (if c = true then tb σ H1 Q else Q (.bl false) H1) → tAndV_i tb σ Q x H1
def tAndV (ta tb : TE) : TE := fun σ H Q => ta σ H fun x H1 => tAndV_i tb σ Q x H1
inductive tOrV_i (tb : TE) (σ : St) (Q : VK) (x : V) (H1 : Hp) : Prop
  | mk (c) : (x = .bl c) → (if c = true then Q (.bl true) H1 else tb σ H1 Q) → tOrV_i tb σ Q x H1
def tOrV (ta tb : TE) : TE := fun σ H Q => ta σ H fun x H1 => tOrV_i tb σ Q x H1
theorem pe_one {op} {t : TE} (h : PE X a t) : PE X (.BoolOp op [a] pos) t := fun pins s σ H Q I hw => BoolOp_one (h pins s σ H Q I hw)
theorem pe_and (ha : PE X a ta) (hb : PE X (.BoolOp .And (b :: rest) pos) tb) : PE X (.BoolOp .And (a :: b :: rest) pos) (tAndV ta tb) := by
  intro pins s σ H Q I h
  refine BoolOp_and (thn (ha pins s σ H _ I h) fun v s1 ⟨x, H1, I1, r1, q1⟩ => ?_)
  obtain ⟨c, rfl, q1⟩ := q1
  cases r1
  refine wpAny_truthy_bool ?_
  cases c with
  | true => exact hb pins s1 σ H1 Q I1 q1
  | false => exact ⟨.bl false, H1, I1, rfl, q1⟩
theorem pe_or (ha : PE X a ta) (hb : PE X (.BoolOp .Or (b :: rest) pos) tb) : PE X (.BoolOp .Or (a :: b :: rest) pos) (tOrV ta tb) := by
  intro pins s σ H Q I h
  refine BoolOp_or (thn (ha pins s σ H _ I h) fun v s1 ⟨x, H1, I1, r1, q1⟩ => ?_)
  obtain ⟨c, rfl, q1⟩ := q1
  cases r1
  refine wpAny_truthy_bool ?_
  cases c with
  | false => exact hb pins s1 σ H1 Q I1 q1
  | true => exact ⟨.bl true, H1, I1, rfl, q1⟩
/-- a if t else b -/
def tIf (t : TT) (ta tb : TE) : TE := fun σ H Q => t σ H fun c H1 => if c = true then ta σ H1 Q else tb σ H1 Q
theorem pe_ifExp {c : Expr} (hc : PT X c tA) (ha : PE X a ta) (hb : PE X b tb) : PE X (.IfExp c a b pos) (tIf tA ta tb) := by
  intro pins s σ H Q I h
  refine wpAny_IfExp (thn (hc pins s σ H _ I h) fun d s1 ⟨H1, I1, q1⟩ => ?_)
  cases d with
  | true => exact ha pins s1 σ H1 Q I1 q1
  | false => exact hb pins s1 σ H1 Q I1 q1
end
end L2
namespace L2
open PySem PySem.Spec PyProof.Rows
def SqL (K : PySem.W.Frag) (H : Hp) (a : Addr) (xs : List V) : Prop :=
  Rd H a (.lst xs) ∨
    ∃ (o : Obj) (its : Array Value) (n : Nat), K.lookup a = some o ∧ o.cls = .type "list" ∧ o.dict = none ∧ o.data = .seq its n ∧ its.size ≤ sizeLine ∧ Vals xs its.toList
def SqT (K : PySem.W.Frag) (H : Hp) (a : Addr) (xs : List V) : Prop :=
  Rd H a (.tup xs) ∨
    ∃ (o : Obj) (its : Array Value) (n : Nat), K.lookup a = some o ∧ o.cls = .type "tuple" ∧ o.data = .seq its n ∧ its.size ≤ sizeLine ∧ Vals xs its.toList
def absV : Value → Option V
  | .none => some .non
  | .bool b => some (.bl b)
  | .int i _ => some (.int i)
  | .str x _ => some (.str x)
  | .bytes b _ => some (.byt b)
  | .float b _ => some (.flt b)
  | .ref a => some (.ref a)
  | .type n => some (.ty n)
  | _ => none
theorem RelV.abs {x : V} {u : Value} (r : RelV x u) : absV u = some x := by
  cases x with
  | non => cases r; rfl
  | bl _ => cases r; rfl
  | int _ => obtain ⟨t, rfl⟩ := r; rfl
  | str _ => obtain ⟨t, rfl⟩ := r; rfl
  | byt _ => obtain ⟨t, rfl⟩ := r; rfl
  | flt _ => obtain ⟨t, rfl⟩ := r; rfl
  | ref _ => cases r; rfl
  | ty _ => cases r; rfl
theorem RelV.inj {x y : V} {u : Value} (r : RelV x u) (q : RelV y u) : x = y := Option.some.inj (r.abs.symm.trans q.abs)
theorem Vals.inj : ∀ {xs ys : List V} {us : List Value}, Vals xs us → Vals ys us → xs = ys
  | _, _, _, .nil, .nil => rfl
  | _, _, _, .cons r t, .cons r' t' => by rw [r.inj r', Vals.inj t t']
section
variable {X : Cx} {pins : List (Addr × Obj)} {σ : St} {H : Hp} {s : Shared} {a : Addr} {xs ys : List V}
theorem SqL.of {K : PySem.W.Frag} (h : H a = some (.lst xs)) : SqL K H a xs := .inl (.inl h)
theorem SqT.of {K : PySem.W.Frag} (h : H a = some (.tup xs)) : SqT K H a xs := .inl (.inl h)
theorem Inv.list (I : Inv X pins σ H s) (h : SqL X.K H a xs) : ∃ its : List Value, Vals xs its ∧ PlainL s.heap a its.toArray ∧ xs.length ≤ sizeLine := by
  rcases h with h | ⟨o, its, n, hk, hc, hd, hs, hz, r⟩
  · obtain ⟨z, its, n, r, e⟩ := h.ok I.hok
    exact ⟨its, r, ⟨_, n, e, rfl, rfl, rfl⟩, z⟩
  · refine ⟨its.toList, r, ⟨o, n, I.kIn a o hk, hc, hd, by simpa using hs⟩, ?_⟩
    have e := r.length
    simp only [Array.length_toList] at e
    lia
theorem Inv.tuple (I : Inv X pins σ H s) (h : SqT X.K H a xs) : ∃ its : List Value, Vals xs its ∧ IsTup s.heap a its.toArray ∧ xs.length ≤ sizeLine := by
  rcases h with h | ⟨o, its, n, hk, hc, hs, hz, r⟩
  · obtain ⟨z, its, r, p⟩ := h.ok I.hok
    exact ⟨its, r, p.tup, z⟩
  · refine ⟨its.toList, r, ⟨o, I.kIn a o hk, hc, n, by simpa using hs⟩, ?_⟩
    have e := r.length
    simp only [Array.length_toList] at e
    lia
theorem Inv.list_inj (I : Inv X pins σ H s) (h : SqL X.K H a xs) (h' : SqL X.K H a ys) : xs = ys := by
  obtain ⟨its, r, ⟨o, n, e, _, _, d⟩, _⟩ := I.list h
  obtain ⟨its', r', ⟨o', n', e', _, _, d'⟩, _⟩ := I.list h'
  rw [e] at e'; cases e'
  rw [d] at d'
  injection d' with d1 _
  have : its = its' := by simpa using congrArg Array.toList d1
  subst this
  exact r.inj r'
theorem Inv.tuple_inj (I : Inv X pins σ H s) (h : SqT X.K H a xs) (h' : SqT X.K H a ys) : xs = ys := by
  obtain ⟨its, r, ⟨o, e, _, n, d⟩, _⟩ := I.tuple h
  obtain ⟨its', r', ⟨o', e', _, n', d'⟩, _⟩ := I.tuple h'
  rw [e] at e'; cases e'
  rw [d] at d'
  injection d' with d1 _
  have : its = its' := by simpa using congrArg Array.toList d1
  subst this
  exact r.inj r'
end
abbrev Cx.wish (X : Cx) (E : Value → Shared → Prop) : Cx := { X with xe := E }
/-- no exception leaves -/
abbrev Cx.nox (X : Cx) : Cx := X.wish fun _ _ => False
theorem Cx.Ok.wish {X : Cx} (ok : X.Ok) (E : Value → Shared → Prop) : (X.wish E).Ok :=
  ⟨ok.mod, ok.kind, ok.glob, ok.blt, ok.above, ok.inj, ok.has, ok.cab, ok.hd, ok.frames, ok.stk, ok.exf, ok.bs, ok.bsz, ok.noex, ok.exfs, ok.funs, ok.frf⟩
theorem Cx.Ok.unwish {X : Cx} {E : Value → Shared → Prop} (ok : (X.wish E).Ok) : X.Ok :=
  ⟨ok.mod, ok.kind, ok.glob, ok.blt, ok.above, ok.inj, ok.has, ok.cab, ok.hd, ok.frames, ok.stk, ok.exf, ok.bs, ok.bsz, ok.noex, ok.exfs, ok.funs, ok.frf⟩
section
variable {X : Cx} {pins : List (Addr × Obj)} {σ : St} {H : Hp} {s : Shared} {E : Value → Shared → Prop}
theorem Inv.wish (I : Inv X pins σ H s) (E : Value → Shared → Prop) : Inv (X.wish E) pins σ H s := ⟨I.ok.wish E, I.os, I.bare, I.base, I.loc, I.cell, I.free, I.freeC, I.pin, I.hok, I.len⟩
theorem Inv.unwish (I : Inv (X.wish E) pins σ H s) : Inv X pins σ H s := ⟨I.ok.unwish, I.os, I.bare, I.base, I.loc, I.cell, I.free, I.freeC, I.pin, I.hok, I.len⟩
theorem SP.unwish {D : Ends} {f : Flow} {s' : Shared} (h : SP (X.wish E) pins D f s') : SP X pins D f s' := by
  cases f with
  | next => obtain ⟨σ', H', I, q⟩ := h; exact ⟨σ', H', I.unwish, q⟩
  | brk => obtain ⟨σ', H', I, q⟩ := h; exact ⟨σ', H', I.unwish, q⟩
  | cont => obtain ⟨σ', H', I, q⟩ := h; exact ⟨σ', H', I.unwish, q⟩
  | ret u => obtain ⟨v, σ', H', I, r, q⟩ := h; exact ⟨v, σ', H', I.unwish, r, q⟩
theorem PSs.nox {st : List Stmt} {t : TS} (h : PSs X.nox st t) : PSs X st t := fun pins s σ H D I hw =>
  wpAny_mono (h pins s σ H D (I.wish _) hw) (fun _ _ q => q.unwish) fun _ _ z => False.elim z
end
section
variable {X : Cx} {st : Stmt} {rest : List Stmt} {t u : TS} {e : Expr} {te : TE} {pos : Pos}
def tNext : TS := fun D σ H => D.nx σ H
def tSeq (t u : TS) : TS := fun D σ H => t { D with nx := u D } σ H
theorem pss_nil : PSs X [] tNext := fun _ _ σ H _ I h => wpAny_execs_nil ⟨σ, H, I, h⟩
theorem pss_cons (h1 : PS X st t) (h2 : PSs X rest u) : PSs X (st :: rest) (tSeq t u) := by
  intro pins s σ H D I h
  refine wpAny_execs_cons (thn (h1 pins s σ H { D with nx := u D } I h) fun f s1 q => ?_)
  cases f with
  | next =>
    obtain ⟨σ', H', I', q⟩ := q
    exact h2 pins s1 σ' H' D I' q
  | ret v => exact q
  | brk => exact q
  | cont => exact q
theorem pss_one (h1 : PS X st t) : PSs X [st] t := by
  intro pins s σ H D I h
  refine wpAny_execs_cons (thn (h1 pins s σ H D I h) fun f s1 q => ?_)
  cases f with
  | next => exact wpAny_execs_nil q
  | ret v => exact q
  | brk => exact q
  | cont => exact q
/-- in a def's body nothing is shown -/
theorem Inv.quiet {pins : List (Addr × Obj)} {σ : St} {H : Hp} {s : Shared} (I : Inv X pins σ H s) : interactive X.env = false := by simp [interactive, I.ok.kind]
/-- an expression whose value is dropped -/
def tDrop (te : TE) : TS := fun D σ H => te σ H fun _ H1 => D.nx σ H1
theorem ps_expr (he : PE X e te) (hs : swapsWith e none pos.line X.env = pure false := by rfl) : PS X (.Expr e pos) (tDrop te) := by
  intro pins s σ H D I h
  exact wpAny_Expr_any (thn (he pins s σ H _ I h) fun v s1 ⟨x, H1, I1, r1, q1⟩ => ⟨σ, H1, I1, q1⟩) I.quiet hs
def tRet (te : TE) : TS := fun D σ H => te σ H D.rt
theorem ps_ret (he : PE X e te) : PS X (.Return (some e) pos) (tRet te) := by
  intro pins s σ H D I h
  exact wpAny_Return_some (thn (he pins s σ H _ I h) fun v s1 ⟨x, H1, I1, r1, q1⟩ => ⟨x, σ, H1, I1, r1, q1⟩)
def tIfS (c : TT) (t u : TS) : TS := fun D σ H => c σ H fun b H1 => if b = true then t D σ H1 else u D σ H1
theorem ps_if {c : Expr} {a b : List Stmt} {tc : TT} (hc : PT X c tc) (ha : PSs X a t) (hb : PSs X b u) : PS X (.If c a b pos) (tIfS tc t u) := by
  intro pins s σ H D I h
  refine wpAny_If (thn (hc pins s σ H _ I h) fun d s1 ⟨H1, I1, q1⟩ => ?_)
  cases d with
  | true => exact ha pins s1 σ H1 D I1 q1
  | false => exact hb pins s1 σ H1 D I1 q1
/-- code that the proof never comes to -/
def tNever : TS := fun _ _ _ => False
theorem ps_never : PS X st tNever := fun _ _ _ _ _ _ h => h.elim
end
abbrev TG := V → St → Hp → (St → Hp → Prop) → Prop
abbrev TGs := List V → St → Hp → (St → Hp → Prop) → Prop
def PG (X : Cx) (target : Expr) (t : TG) : Prop :=
  ∀ (pins : List (Addr × Obj)) (s : Shared) (σ : St) (H : Hp) (v : V) (u : Value) (Q : St → Hp → Prop), Inv X pins σ H s → RelV v u → t v σ H Q →
    wpAny (model X.prog X.w) X.A (assign target X.env u) (fun _ s' => ∃ σ' H', Inv X pins σ' H' s' ∧ Q σ' H') X.xe s
/-- several targets, one after another -/
def PGs (X : Cx) (ts : List Expr) (t : TGs) : Prop :=
  ∀ (pins : List (Addr × Obj)) (s : Shared) (σ : St) (H : Hp) (vs : List V) (us : List Value) (Q : St → Hp → Prop), Inv X pins σ H s → Vals vs us → t vs σ H Q →
    wpAny (model X.prog X.w) X.A (assignInOrder ((assignEach ts X.env).map (·.2)) us) (fun _ s' => ∃ σ' H', Inv X pins σ' H' s' ∧ Q σ' H') X.xe s
/-- o[i] = v, by values -/
abbrev TSet := V → V → V → Hp → (Hp → Prop) → Prop
def PSet (X : Cx) (t : TSet) : Prop :=
  ∀ (pins : List (Addr × Obj)) (s : Shared) (σ : St) (H : Hp) (o i v : V) (ov iv u : Value) (Q : Hp → Prop), Inv X pins σ H s → RelV o ov → RelV i iv → RelV v u → t o i v H Q →
    wpAny (model X.prog X.w) X.A (setItem ov iv u) (fun _ s' => ∃ H', Inv X pins σ H' s' ∧ Q H') X.xe s
/-- a op= b, by values -/
abbrev TIp := V → V → Hp → VK → Prop
def PIp (X : Cx) (op : Operator) (t : TIp) : Prop :=
  ∀ (pins : List (Addr × Obj)) (s : Shared) (σ : St) (H : Hp) (x y : V) (v u : Value) (Q : VK), Inv X pins σ H s → RelV x v → RelV y u → t x y H Q →
    wpAny (model X.prog X.w) X.A (inplaceOp op v u) (EP X pins σ Q) X.xe s
section
variable {X : Cx} {pos : Pos}
def gName (i : Nat) : TG := fun v σ H Q => Q (σ.set i (some v)) H
theorem pg_name {i : Nat} {x : Str} (hN : X.N.Nodup) (hi : X.N[i]? = some x) (hx : Loc X.env.scope x) (hf : X.fn x = true ∨ X.env.scope.names.lookup x = some .local := by first | exact .inl rfl | exact .inr rfl | assumption) : PG X (.Name x pos) (gName i) := by
  intro pins s σ H v u Q I r h
  exact wpAny_assign_Name (store_ok I hN hi hx r (fun s' I' => ⟨_, H, I', h⟩) hf)
inductive gNil_i (vs : List V) (σ : St) (H : Hp) (Q : St → Hp → Prop) : Prop
  | mk  : (vs = []) → (Q σ H) → gNil_i vs σ H Q
def gNil  : TGs := fun vs σ H Q => gNil_i vs σ H Q
inductive gCons_i (t : TG) (u : TGs) (vs : List V) (σ : St) (H : Hp) (Q : St → Hp → Prop) : Prop
  | mk (v r) : (vs = v :: r) → (t v σ H fun σ' H' => u r σ' H' Q) → gCons_i t u vs σ H Q
def gCons (t : TG) (u : TGs) : TGs := fun vs σ H Q => gCons_i t u vs σ H Q
theorem pgs_nil : PGs X [] gNil := by
  intro pins s σ H vs us Q I r h
  obtain ⟨e, h⟩ := h
  subst e
  cases r
  exact assignInOrder_nil ⟨σ, H, I, h⟩
theorem pgs_cons {e : Expr} {es : List Expr} {t : TG} {u : TGs} (h1 : PG X e t) (h2 : PGs X es u)
    (hs : (assignEach (e :: es) X.env).map (·.2) = assign e X.env :: (assignEach es X.env).map (·.2) := by rfl) : PGs X (e :: es) (gCons t u) := by
  intro pins s σ H vs us Q I r h
  obtain ⟨v, vr, e1, h⟩ := h
  subst e1
  cases r with
  | cons r rr =>
    rw [hs]
    refine assignInOrder_cons (thn (h1 pins s σ H _ _ _ I r h) fun _ s1 ⟨σ1, H1, I1, q1⟩ => ?_)
    exact h2 pins s1 σ1 H1 _ _ Q I1 rr q1
/-- (a, b, ..) = a tuple of that length -/
inductive gTup_i (K : PySem.W.Frag) (n : Nat) (t : TGs) (v : V) (σ : St) (H : Hp) (Q : St → Hp → Prop) : Prop
  | mk (a xs) : (v = .ref a) → (SqT K H a xs) → (xs.length = n) → (t xs σ H Q) → gTup_i K n t v σ H Q
def gTup (K : PySem.W.Frag) (n : Nat) (t : TGs) : TG := fun v σ H Q => gTup_i K n t v σ H Q
theorem pg_tup {es : List Expr} {k : Nat} {t : TGs} {n : Nat} (hc : X.calm = true) (h : PGs X es t)
    (hn : (assignEach es X.env).length = n := by rfl) (hst : (assignEach es X.env).findIdx? (·.1) = none := by rfl) : PG X (.Tuple es k pos) (gTup X.K n t) := by
  intro pins s σ H v u Q I r hw
  obtain ⟨a, xs, e1, hq, hl, hw⟩ := hw
  subst e1
  cases r
  obtain ⟨its, rv, ht, hz⟩ := I.tuple hq
  refine assign_Tuple_tuple (I.ok.hd hc) ht (by simp [hn, ← hl, rv.length]) hst fun h' hx => ?_
  have I1 : Inv X pins σ H { s with heap := h' } := I.kept (t' := s.toks) fun b o e => hx b o (Nat.ne_of_lt (Heap.lt_size e)) e
  exact h pins _ σ H xs _ Q I1 (by simpa using rv) hw
/-- o[i] = .. -/
def gSub (to ti : TE) (t : TSet) : TG := fun v σ H Q => to σ H fun o H1 => ti σ H1 fun i H2 => t o i v H2 fun H3 => Q σ H3
theorem pg_sub {o i : Expr} {to ti : TE} {t : TSet} (ho : PE X o to) (hi : PE X i ti) (hs : PSet X t)
    (ha : ∀ v, assign (.Subscript o i pos) X.env v = (do
      let ov ← holding [v] (eval o X.env)
      let iv ← holding [v, ov] (eval i X.env)
      standAt pos
      holding [v, ov, iv] (setItem ov iv v)
      release [v, ov, iv] []) := by intro _; rfl) : PG X (.Subscript o i pos) (gSub to ti t) := by
  intro pins s σ H v u Q I r h
  rw [ha]
  refine wpAny_bind (wpAny_holding (thn (ho pins s σ H _ I h) fun ov s1 ⟨x, H1, I1, r1, q1⟩ => ?_))
  refine wpAny_bind (wpAny_holding (thn (hi pins s1 σ H1 _ I1 q1) fun iv s2 ⟨y, H2, I2, r2, q2⟩ => ?_))
  refine wpAny_bind (wpAny_standAt (wpAny_bind (wpAny_holding (thn (hs pins s2 σ H2 x y v ov iv u _ I2 r1 r2 r q2) fun _ s3 ⟨H3, I3, q3⟩ => ?_))))
  exact wpAny_release ⟨σ, H3, I3, q3⟩
/-- target = value -/
def tAsg (te : TE) (g : TG) : TS := fun D σ H => te σ H fun x H1 => g x σ H1 D.nx
theorem ps_asg {tg e : Expr} {te : TE} {g : TG} (he : PE X e te) (hg : PG X tg g) (hs : swapsWithSole [tg] e pos.line X.env = pure false := by rfl) (hw : swappedStores [tg] e X.env = pure none := by rfl)
    (h1 : (assignEach [tg] X.env).map (·.2) = [assign tg X.env] := by rfl) : PS X (.Assign [tg] e pos) (tAsg te g) := by
  intro pins s σ H D I h
  refine wpAny_Assign_stores (thn (he pins s σ H _ I h) fun v s1 ⟨x, H1, I1, r1, q1⟩ => ?_) hs hw
  rw [h1]
  exact thn (hg pins s1 σ H1 x v _ I1 r1 q1) fun _ s2 q => q
/-- name = value -/
theorem ps_set {i : Nat} {x : Str} {e : Expr} {te : TE} {pos' : Pos} (hN : X.N.Nodup) (hi : X.N[i]? = some x) (hx : Loc X.env.scope x) (he : PE X e te) (hs : swapsWith e (some (.Name x pos')) pos.line X.env = pure false := by rfl) (hf : X.fn x = true ∨ X.env.scope.names.lookup x = some .local := by first | exact .inl rfl | exact .inr rfl | assumption) :
    PS X (.Assign [.Name x pos'] e pos) (tAsg te (gName i)) := by
  intro pins s σ H D I h
  refine wpAny_Assign_Name (thn (he pins s σ H _ I h) fun v s1 ⟨y, H1, I1, r1, q1⟩ => ?_) hs
  exact store_ok I1 hN hi hx r1 (fun s2 I2 => ⟨_, H1, I2, q1⟩) hf
/-- name op= e -/
inductive tAug_i (i : Nat) (te : TE) (ti : TIp) (D : Ends) (σ : St) (H : Hp) : Prop
  | mk (x) : (σ[i]? = some (some x)) → (te σ H fun y H1 => ti x y H1 fun z H2 => D.nx (σ.set i (some z)) H2) → tAug_i i te ti D σ H
def tAug (i : Nat) (te : TE) (ti : TIp) : TS := fun D σ H => tAug_i i te ti D σ H
theorem ps_aug {i : Nat} {x : Str} {e : Expr} {te : TE} {op : Operator} {ti : TIp} {pos' : Pos} (hN : X.N.Nodup) (hi : X.N[i]? = some x) (hx : Loc X.env.scope x) (he : PE X e te) (ho : PIp X op ti) (hf : X.fn x = true ∨ X.env.scope.names.lookup x = some .local := by first | exact .inl rfl | exact .inr rfl | assumption) :
    PS X (.AugAssign (.Name x pos') op e pos) (tAug i te ti) := by
  intro pins s σ H D I h
  obtain ⟨v, e1, h⟩ := h
  obtain ⟨m, hn, hl⟩ := I.loc
  have vis : Vis X.env.scope x := by rcases hx with k | k; exact .inl k; exact .inr (.inl k)
  obtain ⟨u, r, l⟩ := hl i x v hi e1 vis
  refine wpAny_AugAssign_Name ?_
  have go : wpAny (model X.prog X.w) X.A (eval e X.env) (fun w s₂ => wpAny (model X.prog X.w) X.A (inplaceOp op u w) (fun r s₃ => wpAny (model X.prog X.w) X.A (storeName X.env x r) (fun _ => SP X pins D .next) X.xe s₃) X.xe s₂) X.xe s := by
    refine thn (he pins s σ H _ I h) fun w s1 ⟨y, H1, I1, r1, q1⟩ => ?_
    refine thn (ho pins s1 σ H1 v y u w _ I1 r r1 q1) fun z s2 ⟨zv, H2, I2, r2, q2⟩ => ?_
    exact store_ok I2 hN hi hx r2 (fun s3 I3 => ⟨_, H2, I3, q2⟩) hf
  rcases l with ⟨hk, hm⟩ | ⟨hk, c, hc, hcell⟩
  · exact wpAny_loadName_local I.ok.kind hk hn hm go
  · rcases hk with hk | hk
    · exact wpAny_loadName_cell I.ok.kind hk hc hcell go
    · rcases hx with k | k
      · have : X.env.scope.names.lookup x = some .free := hk
        rw [k] at this; cases this
      · have : X.env.scope.names.lookup x = some .free := hk
        rw [k] at this; cases this
/-- ints -/
inductive ipI_i (f : Int → Int → Int) (x : V) (y : V) (H : Hp) (Q : VK) : Prop
  | mk (i j) : (x = .int i) → (y = .int j) → (Q (.int (f i j)) H) → ipI_i f x y H Q
def ipI (f : Int → Int → Int) : TIp := fun x y H Q => ipI_i f x y H Q
theorem ip_add : PIp X .Add (ipI fun i j => i + j) := by
  intro pins s σ H x y v u Q I r1 r2 h
  obtain ⟨i, j, e1, e2, q⟩ := h
  subst e1; subst e2
  obtain ⟨t, rfl⟩ := r1
  obtain ⟨t', rfl⟩ := r2
  exact iadd_int ⟨.int _, H, I.tok _, ⟨_, rfl⟩, q⟩
end
section
variable {X : Cx} {pos : Pos}
/-- the invariant W with its measure -/
def tWhile (c : TT) (tb : TS) : TS := fun D σ H => ∃ W : Nat → St → Hp → Prop, (∃ m, W m σ H) ∧ ∀ m σ H, W m σ H →
  c σ H fun b H1 => if b = true then ∃ N : St → Hp → Prop, (∀ σ' H', N σ' H' → ∃ m', m' < m ∧ W m' σ' H') ∧ tb { D with nx := N, ct := N, bk := D.nx } σ H1 else D.nx σ H1
theorem ps_while {c : Expr} {body : List Stmt} {tc : TT} {tb : TS} (hp : PassesOwn (model X.prog X.w) X.A X.env X.xe) (hc : PT X c tc) (hb : PSs X body tb) : PS X (.While c body [] pos) (tWhile tc tb) := by
  intro pins s σ H D I h
  obtain ⟨W, ⟨m0, w0⟩, turn⟩ := h
  refine wpAny_While (codeAny_whileLoop (fun n s' => ∃ σ' H', Inv X pins σ' H' s' ∧ W n σ' H') ?_ m0 ⟨σ, H, I, w0⟩)
  rintro n s1 ⟨σ1, H1, I1, w1⟩
  refine wpAny_passesOwn hp (thn (hc pins s1 σ1 H1 _ I1 (turn n σ1 H1 w1)) fun b s2 ⟨H2, I2, q2⟩ => ?_)
  cases b with
  | true =>
    obtain ⟨N, hN, q2⟩ := q2
    rw [if_pos rfl]
    refine wpAny_passesOwn hp (thn (hb pins s2 σ1 H2 _ I2 q2) fun f s3 q3 => ?_)
    cases f with
    | next =>
      obtain ⟨σ3, H3, I3, n3⟩ := q3
      obtain ⟨m', hm, w3⟩ := hN σ3 H3 n3
      exact ⟨m', hm, σ3, H3, I3, w3⟩
    | cont =>
      obtain ⟨σ3, H3, I3, n3⟩ := q3
      obtain ⟨m', hm, w3⟩ := hN σ3 H3 n3
      exact ⟨m', hm, σ3, H3, I3, w3⟩
    | brk => exact q3
    | ret v => exact q3
  | false =>
    rw [if_neg Bool.false_ne_true]
    exact wpAny_execs_nil ⟨σ1, H2, I2, q2⟩
end
/-- at turn i: it yields x (the heap may grow), or it stops -/
structure It where
  go : Nat → Hp → Prop
  yld : Nat → Hp → V → Hp → Prop
  stop : Nat → Hp → Prop
/-- the iterator's own objects may turn: they are not the frame's, not pinned, younger than the entry (or a comprehension's own) -/
def FpOk (X : Cx) (pins : List (Addr × Obj)) (H : Hp) (b : Addr) : Prop :=
  H b = none ∧ b ≠ X.env.locals ∧ b ∉ X.fs ∧ (b ∈ X.ex ∨ X.s₀.heap.objs.size ≤ b) ∧ (∀ x c, X.env.cells.lookup x = some c → c ≠ b) ∧ ∀ p ∈ X.pn ++ pins, p.1 ≠ b
theorem Inv.fpOk {X : Cx} {pins : List (Addr × Obj)} {σ : St} {H H' : Hp} {s : Shared} {b : Addr} (I : Inv X pins σ H s) (hb : s.heap.objs.size ≤ b) (hn : H' b = none) : FpOk X pins H' b := by
  refine ⟨hn, Nat.ne_of_gt (Nat.lt_of_lt_of_le I.lt hb), I.nofs hb, .inr (Nat.le_trans I.sz hb), fun x c e z => ?_, fun p hp z => ?_⟩
  · obtain ⟨v, q⟩ := I.cell x c e
    exact absurd (Nat.lt_of_lt_of_le q.lt (by rw [z]; exact hb)) (Nat.lt_irrefl _)
  · exact absurd (Nat.lt_of_lt_of_le (Heap.lt_size (I.pin p hp).1) (by rw [z]; exact hb)) (Nat.lt_irrefl _)
structure Turn (P : Program) (w : World) (K : PySem.W.Frag) (tg : Expr) (J : It) (fp : List Addr) (it : Addr) (tn : Nat → Heap → Prop) : Prop where
  mem : it ∈ fp
  obj : ∀ i h, tn i h → ∀ b ∈ fp, ∃ o, h.get? b = some o ∧ ∀ v, o.data ≠ .cell v
  keep : ∀ i h h', tn i h → (∀ b ∈ fp, ∀ o, h.get? b = some o → h'.get? b = some o) → tn i h'
  item : ∀ (X : Cx), X.prog = P → X.w = w → X.K = K → X.calm = true → ∀ (i : Nat) (pins : List (Addr × Obj)) (s : Shared) (σ : St) (H : Hp) (E : Value → Shared → Prop), Inv X pins σ H s → (∀ b ∈ fp, FpOk X pins H b) → tn i s.heap → J.go i H →
    wpAny (model P w) X.A (pyNext (.ref it)) (fun r s1 => ∃ u, r = some u ∧
      wpAny (model P w) X.A (letOwnedTupleGo tg (.ref it) u) (fun _ s2 => ∃ x H', Inv X pins σ H' s2 ∧ RelV x u ∧ J.yld i H x H' ∧ tn (i + 1) s2.heap ∧ ∀ b ∈ fp, H' b = none) E s1) E s
  done : ∀ (X : Cx), X.prog = P → X.w = w → X.K = K → X.calm = true → ∀ (i : Nat) (pins : List (Addr × Obj)) (s : Shared) (σ : St) (H : Hp) (E : Value → Shared → Prop), Inv X pins σ H s → (∀ b ∈ fp, FpOk X pins H b) → tn i s.heap → J.stop i H →
    wpAny (model P w) X.A (pyNext (.ref it)) (fun r s1 => r = none ∧ Inv X pins σ H s1) E s
  self : ∀ (A : Around) (i : Nat) (s : Shared) (Q : Value → Shared → Prop) (E : Value → Shared → Prop), tn i s.heap → Q (.ref it) s → wpAny (model P w) A (pyIter (.ref it)) Q E s
abbrev TI := St → Hp → (It → Hp → Prop) → Prop
/-- an iterator has come -/
def PIE (X : Cx) (pins : List (Addr × Obj)) (σ : St) (tg : Expr) (R : It → Hp → Prop) (itv : Value) (s2 : Shared) : Prop :=
  ∃ (it : Addr) (fp : List Addr) (tn : Nat → Heap → Prop) (J : It) (H' : Hp), itv = .ref it ∧ Inv X pins σ H' s2 ∧ Turn X.prog X.w X.K tg J fp it tn ∧ tn 0 s2.heap ∧ (∀ b ∈ fp, FpOk X pins H' b) ∧ R J H'
def PI (X : Cx) (tg iter : Expr) (wi : TI) : Prop :=
  ∀ (pins : List (Addr × Obj)) (s : Shared) (σ : St) (H : Hp) (R : It → Hp → Prop), Inv X pins σ H s → wi σ H R →
    wpAny (model X.prog X.w) X.A (eval iter X.env) (fun v s1 => wpAny (model X.prog X.w) X.A (pyIter v) (PIE X pins σ tg R) X.xe s1) X.xe s
/-- the step ahead of the store is nothing for an iterator that keeps no tuple -/
theorem go_of {M : Model} {A : Around} {E : Value → Shared → Prop} {s : Shared} {tg : Expr} {it : Addr} {u : Value} {o : Obj} {n : String} {vs : Array Value} {Q : Unit → Shared → Prop} (ho : s.heap.get? it = some o) (hc : o.cls = .type n) (hd : o.data = .fields vs)
    (hn : ["enumerate", "zip", "dict_itemiterator", "dict_reverseitemiterator", "odict_iterator", "itertools.zip_longest", "itertools.pairwise"].contains n = false) (hQ : Q () s) : wpAny M A (letOwnedTupleGo tg (.ref it) u) Q E s := by
  unfold letOwnedTupleGo
  cases tg <;> first
    | exact wpAny_pure hQ
    | (cases u <;> first
        | exact wpAny_pure hQ
        | (refine wpAny_bind (wpAny_load ho ?_)
           rw [hc, hd]
           show wpAny M A (if (["enumerate", "zip", "dict_itemiterator", "dict_reverseitemiterator", "odict_iterator", "itertools.zip_longest", "itertools.pairwise"].contains n && vs[0]? == some (rawInt _)) = true then _ else _) Q E s
           rw [if_neg (by intro h; rw [hn, Bool.false_and] at h; cases h)]
           exact wpAny_pure hQ))
/-- the list at a, as it stands at each turn (a loop may append to it) -/
def Itl (K : PySem.W.Frag) (a : Addr) : It :=
  ⟨fun i H => ∃ xs x, SqL K H a xs ∧ xs[i]? = some x, fun i H x H' => H' = H ∧ ∀ xs, SqL K H a xs → xs[i]? = some x, fun i H => ∃ xs, SqL K H a xs ∧ xs.length ≤ i⟩
def Itt (K : PySem.W.Frag) (a : Addr) : It :=
  ⟨fun i H => ∃ xs x, SqT K H a xs ∧ xs[i]? = some x, fun i H x H' => H' = H ∧ ∀ xs, SqT K H a xs → xs[i]? = some x, fun i H => ∃ xs, SqT K H a xs ∧ xs.length ≤ i⟩
/-- lo, lo + 1, .. (n of them) -/
def Itr (lo : Int) (n : Nat) : It := ⟨fun i _ => i < n, fun i H x H' => H' = H ∧ x = .int (lo + i), fun i _ => n ≤ i⟩
theorem turn_list {P : Program} {w : World} {K : PySem.W.Frag} {tg : Expr} (a it : Addr) : Turn P w K tg (Itl K a) [it] it (fun i h => h.IsListIter it a i) where
  mem := by simp
  obj := fun i h st b hb => by
    have e : b = it := by simpa using hb
    subst e
    obtain ⟨o, e, c, d⟩ := st
    exact ⟨o, e, fun v z => by rw [d] at z; cases z⟩
  keep := fun i h h' st k => st.at fun o e => k it (by simp) o e
  item := by
    intro X hP hw hK hc i pins s σ H E I hf st hg
    subst hP hw hK
    obtain ⟨xs, x, hq, hx⟩ := hg
    obtain ⟨its, rv, p, hz⟩ := I.list hq
    obtain ⟨u, hu, ru⟩ := rv.get hx
    obtain ⟨f0, f1, f2, f3, f4, f5⟩ := hf it (by simp)
    refine wpAny_pyNext_list_item st p.isList (x := u) (by simpa using hu) fun h' st' sb => ?_
    have I1 : Inv X pins σ H { s with heap := h' } := I.turned (t' := s.toks) (fun b o hb e => (sb.2 b hb).trans e) f0 f1 f3 f4 f5
    obtain ⟨o, e, c, d⟩ := id st'
    exact ⟨u, rfl, go_of (s := { s with heap := h' }) e c d (by decide) ⟨x, H, I1, ru, ⟨rfl, fun ys hy => by rw [I.list_inj hy hq]; exact hx⟩, st', fun b hb => (hf b hb).1⟩⟩
  done := by
    intro X hP hw hK hc i pins s σ H E I hf st hg
    subst hP hw hK
    obtain ⟨xs, hq, hx⟩ := hg
    obtain ⟨its, rv, p, hz⟩ := I.list hq
    obtain ⟨f0, f1, f2, f3, f4, f5⟩ := hf it (by simp)
    have hl := rv.length
    exact wpAny_pyNext_list_end (I.ok.hd hc) st p.isList (by simp; lia) fun h' eb => ⟨rfl, I.turned (t' := s.toks) (fun b o hb e => eb b o hb e) f0 f1 f3 f4 f5⟩
  self := fun _ _ _ _ _ st h => wpAny_pyIter_listiter st h
theorem turn_tuple {P : Program} {w : World} {K : PySem.W.Frag} {tg : Expr} (a it : Addr) : Turn P w K tg (Itt K a) [it] it (fun i h => h.IsTupleIter it a i) where
  mem := by simp
  obj := fun i h st b hb => by
    have e : b = it := by simpa using hb
    subst e
    obtain ⟨o, e, c, d⟩ := st
    exact ⟨o, e, fun v z => by rw [d] at z; cases z⟩
  keep := fun i h h' st k => st.at fun o e => k it (by simp) o e
  item := by
    intro X hP hw hK hc i pins s σ H E I hf st hg
    subst hP hw hK
    obtain ⟨xs, x, hq, hx⟩ := hg
    obtain ⟨its, rv, p, hz⟩ := I.tuple hq
    obtain ⟨u, hu, ru⟩ := rv.get hx
    obtain ⟨f0, f1, f2, f3, f4, f5⟩ := hf it (by simp)
    refine wpAny_pyNext_tuple_item st (show s.heap.IsTuple a its.toArray from p) (x := u) (by simpa using hu) fun h' st' sb => ?_
    have I1 : Inv X pins σ H { s with heap := h' } := I.turned (t' := s.toks) (fun b o hb e => (sb.2 b hb).trans e) f0 f1 f3 f4 f5
    obtain ⟨o, e, c, d⟩ := id st'
    exact ⟨u, rfl, go_of (s := { s with heap := h' }) e c d (by decide) ⟨x, H, I1, ru, ⟨rfl, fun ys hy => by rw [I.tuple_inj hy hq]; exact hx⟩, st', fun b hb => (hf b hb).1⟩⟩
  done := by
    intro X hP hw hK hc i pins s σ H E I hf st hg
    subst hP hw hK
    obtain ⟨xs, hq, hx⟩ := hg
    obtain ⟨its, rv, p, hz⟩ := I.tuple hq
    obtain ⟨f0, f1, f2, f3, f4, f5⟩ := hf it (by simp)
    have hl := rv.length
    exact wpAny_pyNext_tuple_end (I.ok.hd hc) st (show s.heap.IsTuple a its.toArray from p) (by simp; lia) fun h' eb => ⟨rfl, I.turned (t' := s.toks) (fun b o hb e => eb b o hb e) f0 f1 f3 f4 f5⟩
  self := fun _ _ _ _ _ st h => wpAny_pyIter_tupleiter st h
theorem turn_range {P : Program} {w : World} {K : PySem.W.Frag} {tg : Expr} (it : Addr) (lo : Int) (n : Nat) : Turn P w K tg (Itr lo n) [it] it (fun i h => IsRangeIter h it (lo + (i : Nat) * 1) ((n : Int) - (i : Nat)) 1) where
  mem := by simp
  obj := fun i h st b hb => by
    have e : b = it := by simpa using hb
    subst e
    exact ⟨_, st, fun v z => by
      have z' : Data.fields _ = Data.cell v := z
      cases z'⟩
  keep := fun i h h' st k => k it (by simp) _ st
  item := by
    intro X hP hw hK hc i pins s σ H E I hf st hg
    subst hP hw hK
    obtain ⟨f0, f1, f2, f3, f4, f5⟩ := hf it (by simp)
    have W := Walks.range (prog := X.prog) (w := X.w) (I.ok.hd hc) it lo 1 n
    refine W.item i s _ _ hg st fun v h' tk hv st' kk => ?_
    obtain ⟨t, rfl⟩ := hv
    have I1 : Inv X pins σ H { s with heap := h', toks := tk } := I.turned (fun b o hb e => kk b o (by simpa using hb) e) f0 f1 f3 f4 f5
    refine ⟨_, rfl, go_of (s := { s with heap := h', toks := tk }) (n := "range_iterator") st' rfl rfl (by decide) ⟨.int (lo + i), H, I1, ⟨t, ?_⟩, ⟨rfl, rfl⟩, st', fun b hb => (hf b hb).1⟩⟩
    rw [Int.mul_one]
  done := by
    intro X hP hw hK hc i pins s σ H E I hf st hg
    subst hP hw hK
    obtain ⟨f0, f1, f2, f3, f4, f5⟩ := hf it (by simp)
    exact wpAny_pyNext_range_end (I.ok.hd hc) st (by have : n ≤ i := hg; lia) fun h' eb => ⟨rfl, I.turned (t' := s.toks) (fun b o hb e => eb b o hb e) f0 f1 f3 f4 f5⟩
  self := fun _ _ _ _ _ st h => wpAny_pyIter_rangeiter st h
end L2
namespace L2
open PySem PySem.Spec PyProof.Rows
section
variable {X : Cx} {tg : Expr}
inductive iList_i (K : PySem.W.Frag) (R : It → Hp → Prop) (x : V) (H1 : Hp) : Prop
  | mk (a) : (x = .ref a) → ((∃ xs, SqL K H1 a xs)) → (R (Itl K a) H1) → iList_i K R x H1
def iList (K : PySem.W.Frag) (tl : TE) : TI := fun σ H R => tl σ H fun x H1 => iList_i K R x H1
inductive iTup_i (K : PySem.W.Frag) (R : It → Hp → Prop) (x : V) (H1 : Hp) : Prop
  | mk (a) : (x = .ref a) → ((∃ xs, SqT K H1 a xs)) → (R (Itt K a) H1) → iTup_i K R x H1
def iTup (K : PySem.W.Frag) (tl : TE) : TI := fun σ H R => tl σ H fun x H1 => iTup_i K R x H1
theorem pi_list {l : Expr} {tl : TE} (hl : PE X l tl) : PI X tg l (iList X.K tl) := by
  intro pins s σ H R I h
  refine thn (hl pins s σ H _ I h) fun v s1 ⟨x, H1, I1, r1, q1⟩ => ?_
  obtain ⟨a, e, ⟨xs, hq⟩, q⟩ := q1
  subst e
  cases r1
  obtain ⟨its, rv, p, hz⟩ := I1.list hq
  refine wpAny_pyIter_list p.isList ?_
  refine ⟨s1.heap.objs.size, [s1.heap.objs.size], _, _, H1, rfl, I1.kept (t' := s1.toks) fun b o e => Heap.get?_push_of_some _ e, turn_list a _, ⟨_, Heap.get?_push_size _ rfl, rfl, rfl⟩, fun b hb => ?_, q⟩
  have e : b = s1.heap.objs.size := by simpa using hb
  subst e
  exact I1.fpOk (Nat.le_refl _) (I1.hok.fresh (Nat.le_refl _))
theorem pi_tup {l : Expr} {tl : TE} (hl : PE X l tl) : PI X tg l (iTup X.K tl) := by
  intro pins s σ H R I h
  refine thn (hl pins s σ H _ I h) fun v s1 ⟨x, H1, I1, r1, q1⟩ => ?_
  obtain ⟨a, e, ⟨xs, hq⟩, q⟩ := q1
  subst e
  cases r1
  obtain ⟨its, rv, p, hz⟩ := I1.tuple hq
  refine wpAny_pyIter_tuple (show s1.heap.IsTuple a its.toArray from p) ?_
  refine ⟨s1.heap.objs.size, [s1.heap.objs.size], _, _, H1, rfl, I1.kept (t' := s1.toks) fun b o e => Heap.get?_push_of_some _ e, turn_tuple a _, ⟨_, Heap.get?_push_size _ rfl, rfl, rfl⟩, fun b hb => ?_, q⟩
  have e : b = s1.heap.objs.size := by simpa using hb
  subst e
  exact I1.fpOk (Nat.le_refl _) (I1.hok.fresh (Nat.le_refl _))
/-- a range object just made, walked -/
theorem range_it {pins : List (Addr × Obj)} {σ : St} {H : Hp} {s : Shared} {R : It → Hp → Prop} {E : Value → Shared → Prop} {lo hi : Int} {t u v : Tok} {tk : Nat} (I : Inv X pins σ H s) (h1 : -(2 ^ 62) ≤ lo) (h2 : lo < 2 ^ 62) (h3 : -(2 ^ 62) ≤ hi) (h4 : hi < 2 ^ 62)
    (q : R (Itr lo (hi - lo).toNat) H) : wpAny (model X.prog X.w) X.A (pyIter (.ref s.heap.objs.size)) (PIE X pins σ tg R) E { s with heap := s.heap.push { cls := .type "range", data := .fields #[.int lo t, .int hi u, .int 1 v] }, toks := tk } := by
  refine wpAny_pyIter_range (IsRange.new ..) (small_one h1 h2 h3 h4) ?_
  have I1 : Inv X pins σ H { s with heap := s.heap.push { cls := .type "range", data := .fields #[.int lo t, .int hi u, .int 1 v] }, toks := tk } := I.kept fun b o e => Heap.get?_push_of_some _ e
  refine ⟨(s.heap.push { cls := .type "range", data := .fields #[.int lo t, .int hi u, .int 1 v] }).objs.size, [(s.heap.push { cls := .type "range", data := .fields #[.int lo t, .int hi u, .int 1 v] }).objs.size], _, _, H, rfl,
    I1.kept (t' := tk) fun b o e => Heap.get?_push_of_some _ e, turn_range _ lo (hi - lo).toNat, ?_, fun b hb => ?_, q⟩
  · have e1 : lo + ((0 : Nat) : Int) * 1 = lo := by simp
    have e2 : (((hi - lo).toNat : Nat) : Int) - ((0 : Nat) : Int) = Builtin.Range.rangeSize lo hi 1 := by rw [rangeSize_one]; split <;> lia
    show IsRangeIter _ _ (lo + ((0 : Nat) : Int) * 1) ((((hi - lo).toNat : Nat) : Int) - ((0 : Nat) : Int)) 1
    rw [e1, e2]
    exact Heap.get?_push_size _ rfl
  · have e : b = (s.heap.push { cls := .type "range", data := .fields #[.int lo t, .int hi u, .int 1 v] }).objs.size := by simpa using hb
    subst e
    exact I1.fpOk (Nat.le_refl _) (I1.hok.fresh (Nat.le_refl _))
inductive iRng1_i (R : It → Hp → Prop) (vs : List V) (H1 : Hp) : Prop
  | mk (j : Int) : (vs = [.int j]) → (-(2 ^ 62) ≤ j) → (j < 2 ^ 62) → (R (Itr 0 j.toNat) H1) → iRng1_i R vs H1
def iRng1 (ta : TA) : TI := fun σ H R => ta σ H fun vs H1 => iRng1_i R vs H1
theorem pi_range1 {a : Expr} {ta : TA} {p pos : Pos} (hg : Gl X "range") (hm : X.mg "range" = none) (ha : PA X [a] ta) (hs : starEach [a] X.env = [(false, eval a X.env)] := by rfl) : PI X tg (.Call (.Name "range" p) [a] [] pos) (iRng1 ta) := by
  intro pins s σ H R I h
  refine Call_ (ld_blt I hg hm boot_range (PyProof.Rows.callWith_type1 (thn (ha pos pins s σ H _ I h) fun us s1 ⟨vs, H1, I1, r1, q1⟩ => ?_) hs rfl))
  obtain ⟨j, e, q1, q2, q⟩ := q1
  subst e
  cases r1 with
  | cons r rr =>
    cases rr
    obtain ⟨t, rfl⟩ := r
    exact call_range_1 (range_it I1 (by lia) (by lia) q1 q2 (by simpa using q))
/-- W: the invariant by the turn and a measure; N: what the body is to reach -/
def tFor (wi : TI) (g : TG) (tb : TS) : TS := fun D σ H => wi σ H fun J H1 => ∃ W : Nat → Nat → St → Hp → Prop, (∃ m, W 0 m σ H1) ∧ ∀ i m σ H, W i m σ H →
  (J.stop i H ∧ D.nx σ H) ∨ (J.go i H ∧ ∃ N : St → Hp → Prop, (∀ σ' H', N σ' H' → ∃ m', m' < m ∧ W (i + 1) m' σ' H') ∧ ∀ x H', J.yld i H x H' → g x σ H' fun σ2 H2 => tb { D with nx := N, ct := N, bk := D.nx } σ2 H2)
/-- the records at fp as they stand -/
def pinsAt (fp : List Addr) (h : Heap) : List (Addr × Obj) := fp.filterMap fun b => (h.get? b).map fun o => (b, o)
theorem mem_pinsAt {fp : List Addr} {h : Heap} {b : Addr} {o : Obj} (hb : b ∈ fp) (e : h.get? b = some o) : (b, o) ∈ pinsAt fp h := List.mem_filterMap.mpr ⟨b, hb, by rw [e]; rfl⟩
theorem of_pinsAt {fp : List Addr} {h : Heap} {p : Addr × Obj} (hp : p ∈ pinsAt fp h) : p.1 ∈ fp ∧ h.get? p.1 = some p.2 := by
  obtain ⟨b, hb, e⟩ := List.mem_filterMap.mp hp
  cases q : h.get? b with
  | none => rw [q] at e; cases e
  | some o =>
    rw [q] at e
    have e' : (b, o) = p := Option.some.inj e
    subst e'
    exact ⟨hb, q⟩
theorem Inv.pinned {pins : List (Addr × Obj)} {σ : St} {H : Hp} {s : Shared} {fp : List Addr} (I : Inv X pins σ H s) (hf : ∀ b ∈ fp, FpOk X pins H b) (ho : ∀ b ∈ fp, ∃ o, s.heap.get? b = some o ∧ ∀ v, o.data ≠ .cell v) : Inv X (pins ++ pinsAt fp s.heap) σ H s :=
  I.pins_of fun p hp => (List.mem_append.mp hp).elim (fun z => I.pin p (List.mem_append_right _ z)) fun z => by
    obtain ⟨hb, e⟩ := of_pinsAt z
    obtain ⟨f0, f1, f2, _⟩ := hf p.1 hb
    obtain ⟨o, e', d⟩ := ho p.1 hb
    rw [e] at e'; cases e'
    exact ⟨e, f0, f1, f2, d⟩
theorem Inv.unpinned {pins pl : List (Addr × Obj)} {σ : St} {H : Hp} {s : Shared} (I : Inv X (pins ++ pl) σ H s) : Inv X pins σ H s := I.pins_of fun p hp => I.pin p (List.mem_append_right _ (List.mem_append_left _ hp))
theorem ps_for {iter : Expr} {body : List Stmt} {wi : TI} {g : TG} {tb : TS} {pos : Pos} (hp : PassesOwn (model X.prog X.w) X.A X.env X.xe) (hc : X.calm = true) (hi : PI X tg iter wi) (hg : PG X tg g) (hb : PSs X body tb)
    (hs : ∀ x, foldedSetIterable iter X.env x = pure x := by intro _; rfl) : PS X (.For tg iter body [] pos) (tFor wi g tb) := by
  intro pins s σ H D I h
  refine wpAny_For (thn (hi pins s σ H _ I h) fun v s1 h1 => thn h1 fun itv s2 h2 => ?_) hs
  obtain ⟨it, fp, tn, J, H2, e, I2, T, st2, f2, W, ⟨m0, w0⟩, turn⟩ := h2
  subst e
  -- what stays true of the iterator's objects through the loop
  have stat : ∀ {H' : Hp}, (∀ b ∈ fp, H' b = none) → ∀ b ∈ fp, FpOk X pins H' b := fun hn b hb => ⟨hn b hb, (f2 b hb).2⟩
  refine codeAny_forLoop_any (fun n s' => ∃ i σ' H', Inv X pins σ' H' s' ∧ tn i s'.heap ∧ (∀ b ∈ fp, H' b = none) ∧ W i n σ' H') ?_ m0 ⟨0, σ, H2, I2, st2, fun b hb => (f2 b hb).1, w0⟩
  rintro n s3 ⟨i, σ3, H3, I3, st3, fr3, w3⟩
  rcases turn i n σ3 H3 w3 with ⟨stop, qn⟩ | ⟨go, N, hN, step⟩
  · refine wpAny_passesOwn hp (thn (T.done X rfl rfl rfl hc i pins s3 σ3 H3 X.xe I3 (stat fr3) st3 stop) fun r s4 ⟨hr, I4⟩ => ?_)
    subst hr
    exact wpAny_execs_nil ⟨σ3, H3, I4, qn⟩
  · refine wpAny_passesOwn hp (thn (T.item X rfl rfl rfl hc i pins s3 σ3 H3 X.xe I3 (stat fr3) st3 go) fun r s4 ⟨u, hr, h4⟩ => ?_)
    subst hr
    refine wpAny_passesOwn hp (thn h4 fun _ s5 ⟨x, H5, I5, r5, y5, st5, fr5⟩ => ?_)
    have I5' := I5.pinned (stat fr5) (T.obj _ _ st5)
    refine wpAny_passesOwn hp (thn (hg _ s5 σ3 H5 x u _ I5' r5 (step x H5 y5)) fun _ s6 ⟨σ6, H6, I6, q6⟩ => ?_)
    refine wpAny_passesOwn hp (thn (hb _ s6 σ6 H6 _ I6 q6) fun f s7 q7 => ?_)
    have again : ∀ {σ7 : St} {H7 : Hp}, Inv X (pins ++ pinsAt fp s5.heap) σ7 H7 s7 → N σ7 H7 → ∃ m, m < n ∧ ∃ i σ' H', Inv X pins σ' H' s7 ∧ tn i s7.heap ∧ (∀ b ∈ fp, H' b = none) ∧ W i m σ' H' := fun {σ7 H7} I7 n7 => by
      obtain ⟨m', hm, w7⟩ := hN σ7 H7 n7
      refine ⟨m', hm, i + 1, σ7, H7, I7.unpinned, T.keep _ _ _ st5 fun b hb o e => (I7.pin (b, o) (List.mem_append_right _ (List.mem_append_right _ (mem_pinsAt hb e)))).1, fun b hb => ?_, w7⟩
      obtain ⟨o, e, d⟩ := T.obj _ _ st5 b hb
      exact (I7.pin (b, o) (List.mem_append_right _ (List.mem_append_right _ (mem_pinsAt hb e)))).2.1
    cases f with
    | next => obtain ⟨σ7, H7, I7, n7⟩ := q7; exact again I7 n7
    | cont => obtain ⟨σ7, H7, I7, n7⟩ := q7; exact again I7 n7
    | brk => obtain ⟨σ7, H7, I7, q7⟩ := q7; exact ⟨σ7, H7, I7.unpinned, q7⟩
    | ret v => obtain ⟨x7, σ7, H7, I7, r7, q7⟩ := q7; exact ⟨x7, σ7, H7, I7.unpinned, r7, q7⟩
end
/-- over a list that the body leaves as it is -/
theorem for_list {K : PySem.W.Frag} {a : Addr} {xs : List V} {g : TG} {tb : TS} {D : Ends} {σ : St} {H : Hp} (Pv : Nat → St → Hp → Prop) (h0 : Pv 0 σ H) (hl : ∀ i σ H, i ≤ xs.length → Pv i σ H → SqL K H a xs)
    (hs : ∀ i x σ H, xs[i]? = some x → Pv i σ H → g x σ H fun σ2 H2 => tb { D with nx := Pv (i + 1), ct := Pv (i + 1), bk := D.nx } σ2 H2) (hd : ∀ σ H, Pv xs.length σ H → D.nx σ H) :
    ∃ W : Nat → Nat → St → Hp → Prop, (∃ m, W 0 m σ H) ∧ ∀ i m σ H, W i m σ H →
      ((Itl K a).stop i H ∧ D.nx σ H) ∨ ((Itl K a).go i H ∧ ∃ N : St → Hp → Prop, (∀ σ' H', N σ' H' → ∃ m', m' < m ∧ W (i + 1) m' σ' H') ∧ ∀ x H', (Itl K a).yld i H x H' → g x σ H' fun σ2 H2 => tb { D with nx := N, ct := N, bk := D.nx } σ2 H2) := by
  refine ⟨fun i m σ H => m = xs.length - i ∧ i ≤ xs.length ∧ Pv i σ H, ⟨xs.length, by simp, Nat.zero_le _, h0⟩, ?_⟩
  rintro i m σ H ⟨rfl, hi, p⟩
  have q := hl i σ H hi p
  by_cases hlt : i < xs.length
  · refine .inr ⟨⟨xs, xs[i], q, by simp [hlt]⟩, Pv (i + 1), fun σ' H' p' => ⟨xs.length - (i + 1), by lia, rfl, hlt, p'⟩, fun x H' y => ?_⟩
    obtain ⟨e, y⟩ := y
    subst e
    exact hs i x σ _ (y xs q) p
  · have e : i = xs.length := by lia
    subst e
    exact .inl ⟨⟨xs, q, Nat.le_refl _⟩, hd σ H p⟩
theorem for_tup {K : PySem.W.Frag} {a : Addr} {xs : List V} {g : TG} {tb : TS} {D : Ends} {σ : St} {H : Hp} (Pv : Nat → St → Hp → Prop) (h0 : Pv 0 σ H) (hl : ∀ i σ H, i ≤ xs.length → Pv i σ H → SqT K H a xs)
    (hs : ∀ i x σ H, xs[i]? = some x → Pv i σ H → g x σ H fun σ2 H2 => tb { D with nx := Pv (i + 1), ct := Pv (i + 1), bk := D.nx } σ2 H2) (hd : ∀ σ H, Pv xs.length σ H → D.nx σ H) :
    ∃ W : Nat → Nat → St → Hp → Prop, (∃ m, W 0 m σ H) ∧ ∀ i m σ H, W i m σ H →
      ((Itt K a).stop i H ∧ D.nx σ H) ∨ ((Itt K a).go i H ∧ ∃ N : St → Hp → Prop, (∀ σ' H', N σ' H' → ∃ m', m' < m ∧ W (i + 1) m' σ' H') ∧ ∀ x H', (Itt K a).yld i H x H' → g x σ H' fun σ2 H2 => tb { D with nx := N, ct := N, bk := D.nx } σ2 H2) := by
  refine ⟨fun i m σ H => m = xs.length - i ∧ i ≤ xs.length ∧ Pv i σ H, ⟨xs.length, by simp, Nat.zero_le _, h0⟩, ?_⟩
  rintro i m σ H ⟨rfl, hi, p⟩
  have q := hl i σ H hi p
  by_cases hlt : i < xs.length
  · refine .inr ⟨⟨xs, xs[i], q, by simp [hlt]⟩, Pv (i + 1), fun σ' H' p' => ⟨xs.length - (i + 1), by lia, rfl, hlt, p'⟩, fun x H' y => ?_⟩
    obtain ⟨e, y⟩ := y
    subst e
    exact hs i x σ _ (y xs q) p
  · have e : i = xs.length := by lia
    subst e
    exact .inl ⟨⟨xs, q, Nat.le_refl _⟩, hd σ H p⟩
theorem for_range {lo : Int} {n : Nat} {g : TG} {tb : TS} {D : Ends} {σ : St} {H : Hp} (Pv : Nat → St → Hp → Prop) (h0 : Pv 0 σ H)
    (hs : ∀ i σ H, i < n → Pv i σ H → g (.int (lo + i)) σ H fun σ2 H2 => tb { D with nx := Pv (i + 1), ct := Pv (i + 1), bk := D.nx } σ2 H2) (hd : ∀ σ H, Pv n σ H → D.nx σ H) :
    ∃ W : Nat → Nat → St → Hp → Prop, (∃ m, W 0 m σ H) ∧ ∀ i m σ H, W i m σ H →
      ((Itr lo n).stop i H ∧ D.nx σ H) ∨ ((Itr lo n).go i H ∧ ∃ N : St → Hp → Prop, (∀ σ' H', N σ' H' → ∃ m', m' < m ∧ W (i + 1) m' σ' H') ∧ ∀ x H', (Itr lo n).yld i H x H' → g x σ H' fun σ2 H2 => tb { D with nx := N, ct := N, bk := D.nx } σ2 H2) := by
  refine ⟨fun i m σ H => m = n - i ∧ i ≤ n ∧ Pv i σ H, ⟨n, by simp, Nat.zero_le _, h0⟩, ?_⟩
  rintro i m σ H ⟨rfl, hi, p⟩
  by_cases hlt : i < n
  · refine .inr ⟨hlt, Pv (i + 1), fun σ' H' p' => ⟨n - (i + 1), by lia, rfl, hlt, p'⟩, fun x H' y => ?_⟩
    obtain ⟨e, y⟩ := y
    subst e y
    exact hs i σ _ hlt p
  · have e : i = n := by lia
    subst e
    exact .inl ⟨Nat.le_refl _, hd σ H p⟩
end L2
namespace L2
open PySem PySem.Spec PyProof.Rows
abbrev R2 := V → V → Hp → VK → Prop
/-- a two-place operation on values: f is binaryOp op, inplaceOp op or compareOp op -/
def OpR (X : Cx) (f : Value → Value → Sem Value) (r : R2) : Prop :=
  ∀ (pins : List (Addr × Obj)) (s : Shared) (σ : St) (H : Hp) (x y : V) (v u : Value) (Q : VK), Inv X pins σ H s → RelV x v → RelV y u → r x y H Q →
    wpAny (model X.prog X.w) X.A (f v u) (EP X pins σ Q) X.xe s
/-- a one-place operation -/
def UnR (X : Cx) (f : Value → Sem Value) (r : V → Hp → VK → Prop) : Prop :=
  ∀ (pins : List (Addr × Obj)) (s : Shared) (σ : St) (H : Hp) (x : V) (v : Value) (Q : VK), Inv X pins σ H s → RelV x v → r x H Q →
    wpAny (model X.prog X.w) X.A (f v) (EP X pins σ Q) X.xe s
/-- a call of a value that is known (a builtin, a type) with values -/
def CallR (X : Cx) (f : Value) (r : List V → Hp → VK → Prop) : Prop :=
  ∀ (pins : List (Addr × Obj)) (s : Shared) (σ : St) (H : Hp) (xs : List V) (us : List Value) (Q : VK), Inv X pins σ H s → Vals xs us → r xs H Q →
    wpAny (model X.prog X.w) X.A (call f us) (EP X pins σ Q) X.xe s
def tOp (r : R2) (ta tb : TE) : TE := fun σ H Q => ta σ H fun x H1 => tb σ H1 fun y H2 => r x y H2 Q
def tUn (r : V → Hp → VK → Prop) (ta : TE) : TE := fun σ H Q => ta σ H fun x H1 => r x H1 Q
/-- ints in, under C, and a value out -/
inductive rI_i (C : Int → Int → Prop) (g : Int → Int → V) (x : V) (y : V) (H : Hp) (Q : VK) : Prop
  | mk (i j) : (x = .int i) → (y = .int j) → (C i j) → (Q (g i j) H) → rI_i C g x y H Q
def rI (C : Int → Int → Prop) (g : Int → Int → V) : R2 := fun x y H Q => rI_i C g x y H Q
inductive rI0_i (g : Int → Int → V) (x : V) (y : V) (H : Hp) (Q : VK) : Prop
  | mk (i j) : (x = .int i) → (y = .int j) → (Q (g i j) H) → rI0_i g x y H Q
def rI0 (g : Int → Int → V) : R2 := fun x y H Q => rI0_i g x y H Q
inductive rU_i (g : Int → V) (x : V) (H : Hp) (Q : VK) : Prop
  | mk (i) : (x = .int i) → (Q (g i) H) → rU_i g x H Q
def rU (g : Int → V) : V → Hp → VK → Prop := fun x H Q => rU_i g x H Q
section
variable {X : Cx} {a b c : Expr} {ta tb tc : TE} {pos : Pos}
theorem binT (ha : PE X a ta) (hb : PE X b tb) {pins : List (Addr × Obj)} {s : Shared} {σ : St} {H : Hp} {R : V → V → Hp → Prop} (I : Inv X pins σ H s)
    (h : ta σ H fun x H1 => tb σ H1 fun y H2 => R x y H2) {Q : Value → Shared → Prop} {f : Value → Value → Sem Value}
    (hf : ∀ v u s2 x y H2, Inv X pins σ H2 s2 → RelV x v → RelV y u → R x y H2 → wpAny (model X.prog X.w) X.A (f v u) Q X.xe s2) :
    wpAny (model X.prog X.w) X.A (eval a X.env) (fun v s₁ => wpAny (model X.prog X.w) X.A (eval b X.env) (fun u s₂ => wpAny (model X.prog X.w) X.A (f v u) Q X.xe s₂) X.xe s₁) X.xe s := by
  refine thn (ha pins s σ H _ I h) fun v s1 ⟨x, H1, I1, r1, q1⟩ => ?_
  refine thn (hb pins s1 σ H1 _ I1 q1) fun u s2 ⟨y, H2, I2, r2, q2⟩ => ?_
  exact hf v u s2 x y H2 I2 r1 r2 q2
theorem pe_op {op : Operator} {r : R2} (ho : OpR X (binaryOp op) r) (ha : PE X a ta) (hb : PE X b tb) : PE X (.BinOp a op b pos) (tOp r ta tb) := by
  intro pins s σ H Q I h
  exact wpAny_BinOp (binT ha hb I h fun v u s2 x y H2 I2 rx ry q => ho pins s2 σ H2 x y v u Q I2 rx ry q)
theorem pe_un {op : UnaryOp} {r : V → Hp → VK → Prop} (ho : UnR X (unaryOp op) r) (ha : PE X a ta) : PE X (.UnaryOp op a pos) (tUn r ta) := by
  intro pins s σ H Q I h
  exact UnaryOp_ (thn (ha pins s σ H _ I h) fun v s1 ⟨x, H1, I1, r1, q1⟩ => ho pins s1 σ H1 x v Q I1 r1 q1)
theorem opI {f : Value → Value → Sem Value} {C : Int → Int → Prop} {g : Int → Int → Int}
    (rule : ∀ (i j : Int) (t u : Tok) (s : Shared) (Q : Value → Shared → Prop) (E : Value → Shared → Prop), C i j → Q (.int (g i j) s.toks) { s with toks := s.toks + 1 } → wpAny (model X.prog X.w) X.A (f (.int i t) (.int j u)) Q E s) :
    OpR X f (rI C fun i j => .int (g i j)) := by
  intro pins s σ H x y v u Q I rx ry h
  obtain ⟨i, j, rfl, rfl, hc, q⟩ := h
  obtain ⟨t, rfl⟩ := rx
  obtain ⟨t', rfl⟩ := ry
  exact rule i j t t' s _ _ hc ⟨.int (g i j), H, I.tok _, ⟨_, rfl⟩, q⟩
theorem opI0 {f : Value → Value → Sem Value} {g : Int → Int → Int}
    (rule : ∀ (i j : Int) (t u : Tok) (s : Shared) (Q : Value → Shared → Prop) (E : Value → Shared → Prop), Q (.int (g i j) s.toks) { s with toks := s.toks + 1 } → wpAny (model X.prog X.w) X.A (f (.int i t) (.int j u)) Q E s) :
    OpR X f (rI0 fun i j => .int (g i j)) := by
  intro pins s σ H x y v u Q I rx ry h
  obtain ⟨i, j, rfl, rfl, q⟩ := h
  obtain ⟨t, rfl⟩ := rx
  obtain ⟨t', rfl⟩ := ry
  exact rule i j t t' s _ _ ⟨.int (g i j), H, I.tok _, ⟨_, rfl⟩, q⟩
theorem opB0 {f : Value → Value → Sem Value} {g : Int → Int → Bool}
    (rule : ∀ (i j : Int) (t u : Tok) (s : Shared) (Q : Value → Shared → Prop) (E : Value → Shared → Prop), Q (.bool (g i j)) s → wpAny (model X.prog X.w) X.A (f (.int i t) (.int j u)) Q E s) :
    OpR X f (rI0 fun i j => .bl (g i j)) := by
  intro pins s σ H x y v u Q I rx ry h
  obtain ⟨i, j, rfl, rfl, q⟩ := h
  obtain ⟨t, rfl⟩ := rx
  obtain ⟨t', rfl⟩ := ry
  exact rule i j t t' s _ _ ⟨.bl (g i j), H, I, rfl, q⟩
def CPow (i j : Int) : Prop := 0 ≤ j ∧ j ≤ 1000000 ∧ i.natAbs < 2 ^ 64
def CMul (i j : Int) : Prop := (-(2 ^ 64) < i ∧ i < 2 ^ 64) ∨ (-(2 ^ 64) < j ∧ j < 2 ^ 64)
theorem CMul.ok {i j : Int} (h : CMul i j) : IntMulOk i j := by
  rcases h with ⟨h1, h2⟩ | ⟨h1, h2⟩
  · exact .of_left (intBits_le_64 h1 h2)
  · exact .of_right (intBits_le_64 h1 h2)
theorem op_add : OpR X (binaryOp .Add) (rI0 fun i j => .int (i + j)) := opI0 fun _ _ _ _ _ _ _ q => add_int q
theorem op_sub : OpR X (binaryOp .Sub) (rI0 fun i j => .int (i - j)) := opI0 fun _ _ _ _ _ _ _ q => sub_int q
/-- % by a positive divisor of any size -/
theorem op_mod : OpR X (binaryOp .Mod) (rI (fun _ j => 0 < j) fun i j => .int (i % j)) := opI fun i j _ _ _ _ _ hc q => by
  have h1 : (0 : Int) < j := hc
  exact mod_int' (by lia) (by rw [Int.fmod_eq_emod_of_nonneg i (by lia)]; exact q)
theorem op_pow : OpR X (binaryOp .Pow) (rI CPow fun i j => .int (i ^ j.toNat)) := opI fun _ _ _ _ _ _ _ hc q => pow_int_small hc.1 hc.2.1 hc.2.2 q
theorem unI {f : Value → Sem Value} {g : Int → Int}
    (rule : ∀ (i : Int) (t : Tok) (s : Shared) (Q : Value → Shared → Prop) (E : Value → Shared → Prop), Q (.int (g i) s.toks) { s with toks := s.toks + 1 } → wpAny (model X.prog X.w) X.A (f (.int i t)) Q E s) :
    UnR X f (rU fun i => .int (g i)) := by
  intro pins s σ H x v Q I rx h
  obtain ⟨i, rfl, q⟩ := h
  obtain ⟨t, rfl⟩ := rx
  exact rule i t s _ _ ⟨.int (g i), H, I.tok _, ⟨_, rfl⟩, q⟩
theorem un_neg : UnR X (unaryOp .USub) (rU fun i => .int (-i)) := unI fun _ _ _ _ _ q => neg_int q
end
/-- the scalars that == tells apart as data does -/
def scal : V → V → Bool
  | .non, .non => true | .non, .int _ => true | .int _, .non => true | .non, .bl _ => true | .bl _, .non => true | .non, .str _ => true | .str _, .non => true
  | .int _, .int _ => true | .bl _, .bl _ => true | .str _, .str _ => true | .byt _, .byt _ => true
  | .int _, .str _ => true | .str _, .int _ => true | .bl _, .str _ => true | .str _, .bl _ => true
  | _, _ => false
inductive rEq_i (x : V) (y : V) (H : Hp) (Q : VK) : Prop
  | mk  : (scal x y = true) → (Q (.bl (decide (x = y))) H) → rEq_i x y H Q
def rEq  : R2 := fun x y H Q => rEq_i x y H Q
inductive rNe_i (x : V) (y : V) (H : Hp) (Q : VK) : Prop
  | mk  : (scal x y = true) → (Q (.bl (!decide (x = y))) H) → rNe_i x y H Q
def rNe  : R2 := fun x y H Q => rNe_i x y H Q
theorem dec_int {i j : Int} : decide (V.int i = V.int j) = (i == j) := by
  rw [Bool.eq_iff_iff]
  simp
theorem dec_bl {i j : Bool} : decide (V.bl i = V.bl j) = (i == j) := by
  rw [Bool.eq_iff_iff]
  simp
theorem dec_str {i j : Str} : decide (V.str i = V.str j) = (i == j) := by
  rw [Bool.eq_iff_iff]
  simp
theorem dec_byt {i j : Array UInt8} : decide (V.byt i = V.byt j) = (i.toList == j.toList) := by
  rw [Bool.eq_iff_iff]
  cases i
  cases j
  simp
section
variable {X : Cx} {a b c : Expr} {ta tb tc : TE} {pos : Pos}
theorem fin_bl {pins : List (Addr × Obj)} {σ : St} {H : Hp} {s : Shared} {Q : VK} {k k' : Bool} (I : Inv X pins σ H s) (q : Q (.bl k) H) (e : k = k') : EP X pins σ Q (.bool k') s := by
  subst e
  exact ⟨.bl k, H, I, rfl, q⟩
theorem op_eq : OpR X (compareOp .Eq) rEq := by
  intro pins s σ H x y v u Q I rx ry h
  obtain ⟨hs, q⟩ := h
  cases x with
  | non =>
    cases rx
    cases y with
    | non => cases ry; exact PySem.EqNone.eq_none_none (fin_bl I q (by simp))
    | bl j => cases ry; exact PySem.EqNone.eq_none_bool (fin_bl I q (by simp))
    | int j => obtain ⟨t', rfl⟩ := ry; exact PySem.EqNone.eq_none_int (fin_bl I q (by simp))
    | str j => obtain ⟨t', rfl⟩ := ry; exact PySem.EqNone.eq_none_str (fin_bl I q (by simp))
    | _ => exact absurd (show false = true from hs) Bool.false_ne_true
  | bl i =>
    cases rx
    cases y with
    | non => cases ry; exact PySem.EqNone.eq_bool_none (fin_bl I q (by simp))
    | bl j => cases ry; exact eq_bool (fin_bl I q dec_bl)
    | str j => obtain ⟨t', rfl⟩ := ry; exact PySem.EqMixed.eq_bool_str (fin_bl I q (by simp))
    | _ => exact absurd (show false = true from hs) Bool.false_ne_true
  | int i =>
    obtain ⟨t, rfl⟩ := rx
    cases y with
    | non => cases ry; exact PySem.EqNone.eq_int_none (fin_bl I q (by simp))
    | int j => obtain ⟨t', rfl⟩ := ry; exact eq_int (fin_bl I q dec_int)
    | str j => obtain ⟨t', rfl⟩ := ry; exact PySem.EqMixed.eq_int_str (fin_bl I q (by simp))
    | _ => exact absurd (show false = true from hs) Bool.false_ne_true
  | str i =>
    obtain ⟨t, rfl⟩ := rx
    cases y with
    | non => cases ry; exact PySem.EqNone.eq_str_none (fin_bl I q (by simp))
    | bl j => cases ry; exact PySem.EqMixed.eq_str_bool (fin_bl I q (by simp))
    | int j => obtain ⟨t', rfl⟩ := ry; exact PySem.EqMixed.eq_str_int (fin_bl I q (by simp))
    | str j => obtain ⟨t', rfl⟩ := ry; exact eq_str (fin_bl I q dec_str)
    | _ => exact absurd (show false = true from hs) Bool.false_ne_true
  | byt i =>
    obtain ⟨t, rfl⟩ := rx
    cases y with
    | byt j => obtain ⟨t', rfl⟩ := ry; exact PySem.W.eq_bytes (fin_bl I q dec_byt)
    | _ => exact absurd (show false = true from hs) Bool.false_ne_true
  | _ => cases y <;> exact absurd (show false = true from hs) Bool.false_ne_true
theorem op_ne : OpR X (compareOp .NotEq) rNe := by
  intro pins s σ H x y v u Q I rx ry h
  obtain ⟨hs, q⟩ := h
  cases x with
  | non =>
    cases rx
    cases y with
    | non => cases ry; exact PySem.EqNone.ne_none_none (fin_bl I q (by simp))
    | bl j => cases ry; exact PySem.EqNone.ne_none_bool (fin_bl I q (by simp))
    | int j => obtain ⟨t', rfl⟩ := ry; exact PySem.EqNone.ne_none_int (fin_bl I q (by simp))
    | str j => obtain ⟨t', rfl⟩ := ry; exact PySem.EqNone.ne_none_str (fin_bl I q (by simp))
    | _ => exact absurd (show false = true from hs) Bool.false_ne_true
  | bl i =>
    cases rx
    cases y with
    | non => cases ry; exact PySem.EqNone.ne_bool_none (fin_bl I q (by simp))
    | bl j => cases ry; exact ne_bool (fin_bl I q (congrArg not dec_bl))
    | str j => obtain ⟨t', rfl⟩ := ry; exact PySem.EqMixed.ne_bool_str (fin_bl I q (by simp))
    | _ => exact absurd (show false = true from hs) Bool.false_ne_true
  | int i =>
    obtain ⟨t, rfl⟩ := rx
    cases y with
    | non => cases ry; exact PySem.EqNone.ne_int_none (fin_bl I q (by simp))
    | int j => obtain ⟨t', rfl⟩ := ry; exact ne_int (fin_bl I q (congrArg not dec_int))
    | str j => obtain ⟨t', rfl⟩ := ry; exact PySem.EqMixed.ne_int_str (fin_bl I q (by simp))
    | _ => exact absurd (show false = true from hs) Bool.false_ne_true
  | str i =>
    obtain ⟨t, rfl⟩ := rx
    cases y with
    | non => cases ry; exact PySem.EqNone.ne_str_none (fin_bl I q (by simp))
    | bl j => cases ry; exact PySem.EqMixed.ne_str_bool (fin_bl I q (by simp))
    | int j => obtain ⟨t', rfl⟩ := ry; exact PySem.EqMixed.ne_str_int (fin_bl I q (by simp))
    | str j => obtain ⟨t', rfl⟩ := ry; exact ne_str (fin_bl I q (congrArg not dec_str))
    | _ => exact absurd (show false = true from hs) Bool.false_ne_true
  | byt i =>
    obtain ⟨t, rfl⟩ := rx
    cases y with
    | byt j => obtain ⟨t', rfl⟩ := ry; exact PySem.W.ne_bytes (fin_bl I q (congrArg not dec_byt))
    | _ => exact absurd (show false = true from hs) Bool.false_ne_true
  | _ => cases y <;> exact absurd (show false = true from hs) Bool.false_ne_true
theorem op_lt : OpR X (compareOp .Lt) (rI0 fun i j => .bl (decide (i < j))) := opB0 fun _ _ _ _ _ _ _ q => lt_int q
theorem op_le : OpR X (compareOp .LtE) (rI0 fun i j => .bl (decide (i ≤ j))) := opB0 fun _ _ _ _ _ _ _ q => le_int q
theorem op_gt : OpR X (compareOp .Gt) (rI0 fun i j => .bl (decide (j < i))) := opB0 fun _ _ _ _ _ _ _ q => gt_int q
theorem op_ge : OpR X (compareOp .GtE) (rI0 fun i j => .bl (decide (j ≤ i))) := opB0 fun _ _ _ _ _ _ _ q => ge_int q
/-- the one string within the other -/
theorem op_in_str : OpR X (compareOp .In) (fun x y H Q => ∃ i j, x = .str i ∧ y = .str j ∧ Q (.bl (!(Builtin.Str.occurrences j i 0 j.length 1).isEmpty)) H) := by
  intro pins s σ H x y v u Q I rx ry h
  obtain ⟨i, j, rfl, rfl, q⟩ := h
  obtain ⟨t, rfl⟩ := rx
  obtain ⟨t', rfl⟩ := ry
  exact in_str (fin_bl I q rfl)
theorem op_notN : OpR X (compareOp .IsNot) (fun x y H Q => y = .non ∧ Q (.bl (!decide (x = .non))) H) := by
  intro pins s σ H x y v u Q I rx ry h
  obtain ⟨rfl, q⟩ := h
  cases ry
  refine isnot_none_gen (fin_bl I q ?_)
  cases x <;> first
    | (cases rx; rfl)
    | (obtain ⟨t, rfl⟩ := rx; rfl)
theorem nomark (b : Expr) {op : CmpOp} (h : op ≠ .In := by decide) (h2 : op ≠ .NotIn := by decide) : behindInMarks op b = false := by
  have e1 : (op == CmpOp.In) = false := by cases op <;> first | rfl | exact absurd rfl h
  have e2 : (op == CmpOp.NotIn) = false := by cases op <;> first | rfl | exact absurd rfl h2
  cases b <;> simp [behindInMarks, e1, e2]
/-- a comparison as a value; hm: nomark b, or (for in, not in) by with_unfolding_all rfl -/
theorem pe_cmpR {op : CmpOp} {r : R2} (ho : OpR X (compareOp op) r) (ha : PE X a ta) (hb : PE X b tb) (hm : behindInMarks op b = false) : PE X (.Compare a [op] [b] pos) (tOp r ta tb) := by
  intro pins s σ H Q I h
  exact wpAny_Compare1 (binT ha hb I h fun v u s2 x y H2 I2 rx ry q => ho pins s2 σ H2 x y v u Q I2 rx ry q) hm
/-- a reading of a value as a test -/
inductive tTest_i (Q : Bool → Hp → Prop) (x : V) (H' : Hp) : Prop
  | mk (k) : (x = .bl k) → (Q k H') → tTest_i Q x H'
def tTest (t : TE) : TT := fun σ H Q => t σ H fun x H' => tTest_i Q x H'
theorem pt_cmpR {op : CmpOp} {r : R2} (ho : OpR X (compareOp op) r) (ha : PE X a ta) (hb : PE X b tb) (hm : behindInMarks op b = false) : PT X (.Compare a [op] [b] pos) (tTest (tOp r ta tb)) := by
  intro pins s σ H Q I h
  refine wpAny_isTrue_Compare1 (thn (ha pins s σ H _ I h) fun v s1 ⟨x, H1, I1, r1, q1⟩ => thn (hb pins s1 σ H1 _ I1 q1) fun u s2 ⟨y, H2, I2, r2, q2⟩ =>
    thn (ho pins s2 σ H2 x y v u _ I2 r1 r2 q2) fun c s3 ⟨z, H3, I3, r3, k, e, q3⟩ => ?_) hm
  subst e
  cases r3
  exact wpAny_truthy_bool ⟨H3, I3, q3⟩
theorem line63 : (sizeLine : Nat) < 2 ^ 63 := by rw [sizeLine_eq]; decide
theorem op_add_str : OpR X (binaryOp .Add) (fun x y H Q => ∃ i j, x = .str i ∧ y = .str j ∧ i.length + j.length ≤ sizeLine ∧ Q (.str (i ++ j)) H) := by
  intro pins s σ H x y v u Q I rx ry h
  obtain ⟨i, j, rfl, rfl, hz, q⟩ := h
  obtain ⟨t, rfl⟩ := rx
  obtain ⟨t', rfl⟩ := ry
  exact add_str (fun t' tk => ⟨.str (i ++ j), H, I.tok _, ⟨_, rfl⟩, q⟩) hz
theorem vals1 {x : V} {us : List Value} (r : Vals [x] us) : ∃ u, us = [u] ∧ RelV x u := by
  cases r with
  | cons r1 r2 => cases r2; exact ⟨_, rfl, r1⟩
theorem vals2 {x y : V} {us : List Value} (r : Vals [x, y] us) : ∃ u w', us = [u, w'] ∧ RelV x u ∧ RelV y w' := by
  cases r with
  | cons r1 r2 =>
    cases r2 with
    | cons r3 r4 => cases r4; exact ⟨_, _, rfl, r1, r3⟩
theorem call_max2 (hc : X.calm = true) : CallR X (.builtin "max") (fun xs H Q => ∃ i j, xs = [.int i, .int j] ∧ Q (.int (if j > i then j else i)) H) := by
  intro pins s σ H xs us Q I r h
  obtain ⟨i, j, rfl, q⟩ := h
  obtain ⟨u, w', rfl, ⟨t, rfl⟩, ⟨t', rfl⟩⟩ := vals2 r
  refine max_two_ints (I.ok.hd hc) fun h' tk k => ⟨_, H, I.kept k, ?_, q⟩
  by_cases hj : j > i
  · rw [if_pos hj, if_pos hj]; exact ⟨_, rfl⟩
  · rw [if_neg hj, if_neg hj]; exact ⟨_, rfl⟩
theorem call_min2 (hc : X.calm = true) : CallR X (.builtin "min") (fun xs H Q => ∃ i j, xs = [.int i, .int j] ∧ Q (.int (if j < i then j else i)) H) := by
  intro pins s σ H xs us Q I r h
  obtain ⟨i, j, rfl, q⟩ := h
  obtain ⟨u, w', rfl, ⟨t, rfl⟩, ⟨t', rfl⟩⟩ := vals2 r
  refine min_two_ints (I.ok.hd hc) fun h' tk k => ⟨_, H, I.kept k, ?_, q⟩
  by_cases hj : j < i
  · rw [if_pos hj, if_pos hj]; exact ⟨_, rfl⟩
  · rw [if_neg hj, if_neg hj]; exact ⟨_, rfl⟩
theorem call_int1 : CallR X (.type "int") (fun xs H Q => (∃ i, xs = [.int i] ∧ Q (.int i) H) ∨ ∃ k, xs = [.bl k] ∧ Q (.int (if k then 1 else 0)) H) := by
  intro pins s σ H xs us Q I r h
  rcases h with ⟨i, rfl, q⟩ | ⟨k, rfl, q⟩
  · obtain ⟨u, rfl, t, rfl⟩ := vals1 r
    exact call_int_int ⟨.int i, H, I, ⟨_, rfl⟩, q⟩
  · obtain ⟨u, rfl, r1⟩ := vals1 r
    cases r1
    exact call_int_bool ⟨.int (if k then 1 else 0), H, I.tok _, ⟨_, rfl⟩, q⟩
end
end L2
namespace L2
open PySem PySem.Spec PyProof.Rows
structure ObjM (h : Heap) (x dx C : Addr) (mA : Str → Option Value) : Prop where
  obj : h.get? x = some (PySem.W.instObj C dx)
  ns : h.Ns1 dx mA
  ne : dx ≠ x
theorem lookIn_ns {h : Heap} {dx : Addr} {mA : Str → Option Value} (n : h.Ns1 dx mA) : ∃ od, h.get? dx = some od ∧ ∀ name, PySem.W.lookIn name od = some (mA name) := by
  obtain ⟨o, es, ep, ho, hd, hk, _, hm⟩ := n
  refine ⟨o, ho, fun name => ?_⟩
  have e := hm name
  unfold nsFind findBy at e
  rw [← Array.find?_toList] at e
  unfold PySem.W.lookIn
  rw [hd]
  dsimp only
  split
  · rename_i y q
    rw [q] at e
    exact congrArg some e
  · rename_i q
    rw [q] at e
    have a : es.toList.any (·.refKey) = false := by
      rw [List.any_eq_false]
      intro y hy
      obtain ⟨z, t, hkey⟩ := hk y (Array.mem_toList_iff.mp hy)
      simp [DictEntry.refKey, hkey]
    have a' : ¬ es.toList.any (·.refKey) = true := by rw [a]; exact Bool.false_ne_true
    rw [if_neg a']
    exact congrArg some e
theorem ObjM.look {h : Heap} {x dx C : Addr} {mA : Str → Option Value} (I : ObjM h x dx C mA) : ∃ od, PySem.W.InstAt h x (PySem.W.instObj C dx) C (some od) ∧ ∀ name, PySem.W.lookIn name od = some (mA name) :=
  let ⟨od, ho, hl⟩ := lookIn_ns I.ns
  ⟨od, ⟨I.obj, rfl, rfl, ho⟩, hl⟩
section
variable {prog : Program} {w : World} {A : Around} {E : Value → Shared → Prop} {s : Shared} {K : PySem.W.Frag} {x dx C f : Addr} {mA : Str → Option Value} {name : Str} {v : Value}
end
theorem RelO.some_of {v : V} {o : Option Value} (r : RelO (some v) o) : ∃ u, o = some u ∧ RelV v u := by
  cases o with
  | none => exact (show False from r).elim
  | some u => exact ⟨u, rfl, r⟩
theorem RelO.none_of {o : Option Value} (r : RelO none o) : o = none := by
  cases o with
  | none => rfl
  | some u => exact (show False from r).elim
section
variable {P : Program} {w : World} {H H' : Hp} {h h' : Heap} {a C dx : Addr} {fs fs' : List (Str × V)}
theorem ins_get (hok : HOk P w H h) (e : H a = some (.ins C dx fs)) : ∃ mA, ObjM h a dx C mA ∧ (∀ f, RelO (fs.lookup f) (mA f)) ∧ PySem.Within mA (fs.map (·.1)) ∧ fs.length ≤ 1000 ∧ H dx = some (.own a) := by
  obtain ⟨d, z, ne, ob, mA, n, r, q⟩ := (show ObjOk P w H h a (.ins C dx fs) from hok a _ e)
  exact ⟨mA, ⟨ob, n, ne⟩, r, q, z, d⟩
end
structure Cls (K : PySem.W.Frag) (C : Addr) : Prop where
  pg : PySem.W.plainGet K C Str.empty = true
  hd : PySem.W.hasDictIn K C = true
  po : PySem.W.plainOver K C = true
  sa : PySem.W.findIn K (.ref C) "__setattr__" = some (some (.builtin "object.__setattr__"))
theorem Cls.get {K : PySem.W.Frag} {C : Addr} (c : Cls K C) (f : Str) : PySem.W.plainGet K C f = true := c.pg
section
variable {X : Cx} {pins : List (Addr × Obj)} {σ : St} {H : Hp} {s : Shared} {a C dx : Addr} {fs : List (Str × V)} {f : Str} {v : V} {A : Around} {E : Value → Shared → Prop}
end
section
variable {X : Cx} {o e value : Expr} {f : Str} {pos pos' tpos : Pos} {ta tv : TE}
end
section
variable {X : Cx} {pins : List (Addr × Obj)} {σ : St} {H : Hp} {s : Shared} {A : Around} {E : Value → Shared → Prop} {Q : Value → Shared → Prop} {c : Value} {b : Bool}
/-- the type of a value, as the fragment's deciders take it; for an instance its class -/
inductive TyOf (K : PySem.W.Frag) (H : Hp) : V → Value → Prop where
  | non : TyOf K H .non (.type "NoneType")
  | bl (x : Bool) : TyOf K H (.bl x) (.type "bool")
  | int (i : Int) : TyOf K H (.int i) (.type "int")
  | str (x : Str) : TyOf K H (.str x) (.type "str")
  | flt (x : UInt64) : TyOf K H (.flt x) (.type "float")
  | lst {a : Addr} {xs : List V} (e : H a = some (.lst xs)) : TyOf K H (.ref a) (.type "list")
  | frz {a : Addr} {o : Obj} {xs : List V} (e : H a = some (.frz o (.lst xs))) : TyOf K H (.ref a) (.type "list")
  | tup {a : Addr} {xs : List V} (e : H a = some (.tup xs)) : TyOf K H (.ref a) (.type "tuple")
  | dK {a : Addr} {kvs : List (Key × V)} (e : H a = some (.dK kvs)) : TyOf K H (.ref a) (.type "dict")
  | dT {a : Addr} {kvs : List (List Key × V)} (e : H a = some (.dT kvs)) : TyOf K H (.ref a) (.type "dict")
  | ins {a C dx : Addr} {fs : List (Str × V)} (e : H a = some (.ins C dx fs)) (cl : Cls K C) (ha : PySem.W.findIn K (.ref C) "__class__" = some (some (.builtin "object.__class__")))
      (hn : PySem.W.specialIn K (.builtin "object.__class__") "__get__" = some (some (.builtin "getset_descriptor.__get__"))) (htk : PySem.W.takesIn K (.builtin "object.__class__") = some true)
      (hm : PySem.W.mroIn K C (.type "object") = some true) : TyOf K H (.ref a) (.ref C)
/-- isinstance(x, c) for one class c, a built-in or an own one: kitOne's answer -/
theorem isinst_ok {x : V} {u t : Value} (I : Inv X pins σ H s) (rx : RelV x u) (ty : TyOf X.K H x t) (e : PySem.W.kitOne X.K t c = some b) (h : ∀ tk, Q (.bool b) { s with toks := tk }) :
    wpAny (model X.prog X.w) A (call (.builtin "isinstance") [u, c]) Q E s := by
  cases ty with
  | non => cases (show u = Value.none from rx); exact PySem.W.kia_one PySem.W.kitx_none I.kIn True.intro e (fun z => nomatch z) h
  | bl y => cases (show u = Value.bool y from rx); exact PySem.W.kia_one PySem.W.kitx_bool I.kIn True.intro e (fun z => nomatch z) h
  | int i => obtain ⟨t, q⟩ := (show ∃ t, u = Value.int i t from rx); cases q; exact PySem.W.kia_one PySem.W.kitx_int I.kIn True.intro e (fun z => nomatch z) h
  | str y => obtain ⟨t, q⟩ := (show ∃ t, u = Value.str y t from rx); cases q; exact PySem.W.kia_one PySem.W.kitx_str I.kIn True.intro e (fun z => nomatch z) h
  | flt y => obtain ⟨t, q⟩ := (show ∃ t, u = Value.float y t from rx); cases q; exact PySem.W.kia_one PySem.W.kitx_float I.kIn True.intro e (fun z => nomatch z) h
  | @lst a xs ea =>
    cases (show u = Value.ref a from rx)
    obtain ⟨_, _, n, _, h1⟩ := (show ObjOk X.prog X.w H s.heap a (.lst xs) from I.hok a _ ea)
    exact PySem.W.kia_one PySem.W.kitx_list I.kIn ⟨_, h1, rfl⟩ e (fun z => nomatch z) h
  | @frz a ob xs ea =>
    cases (show u = Value.ref a from rx)
    obtain ⟨_, _, _, n, _, h1⟩ := (show ObjOk X.prog X.w H s.heap a (.frz ob (.lst xs)) from I.hok a _ ea)
    exact PySem.W.kia_one PySem.W.kitx_list I.kIn ⟨_, h1, rfl⟩ e (fun z => nomatch z) h
  | @tup a xs ea =>
    cases (show u = Value.ref a from rx)
    obtain ⟨_, _, _, p⟩ := (show ObjOk X.prog X.w H s.heap a (.tup xs) from I.hok a _ ea)
    obtain ⟨o, h1, h2, _⟩ := p
    exact PySem.W.kia_one PySem.W.kitx_tuple I.kIn ⟨o, h1, h2⟩ e (fun z => nomatch z) h
  | @dK a kvs ea =>
    cases (show u = Value.ref a from rx)
    obtain ⟨_, _, vs, _, p⟩ := (show ObjOk X.prog X.w H s.heap a (.dK kvs) from I.hok a _ ea)
    obtain ⟨o, es, ep, h1, h2, _⟩ := p
    exact PySem.W.kia_one PySem.W.kitx_dict I.kIn ⟨o, h1, h2.1⟩ e (fun z => nomatch z) h
  | @dT a kvs ea =>
    cases (show u = Value.ref a from rx)
    obtain ⟨_, _, xs, _, o, es, ep, h1, h2, _⟩ := (show ObjOk X.prog X.w H s.heap a (.dT kvs) from I.hok a _ ea)
    exact PySem.W.kia_one PySem.W.kitx_dict I.kIn ⟨o, h1, h2.1⟩ e (fun z => nomatch z) h
  | @ins a C dx fs ea cl ha hn htk hm =>
    cases (show u = Value.ref a from rx)
    obtain ⟨mA, O, _⟩ := ins_get I.hok ea
    obtain ⟨od, J, _⟩ := O.look
    exact PySem.W.kia_one (PySem.W.kitx_own (cl.get _) cl.hd ha hn htk hm) I.kIn J e (fun z => nomatch z) h
end
end L2
namespace L2
open PySem PySem.Spec PyProof.Rows
structure Room (k : Nat) (A : Around) : Prop where
  hd : A.handled = none
  dp : A.depth + 3 * k + 5 < recursionLimit
  un : A.units + 16 * k + 200 < cLine
theorem Room.mono {j k : Nat} {A : Around} (r : Room k A) (h : j ≤ k) : Room j A := ⟨r.hd, by have := r.dp; lia, by have := r.un; lia⟩
theorem Room.deeper {k : Nat} {A : Around} (r : Room (k + 1) A) (env : Env) : Room k (A.deeper env) :=
  ⟨r.hd, by have := r.dp; show A.depth + 1 + 3 * k + 5 < _; lia, by have := r.un; show A.units + 3 + 16 * k + 200 < _; lia⟩
theorem Room.depth {k : Nat} {A : Around} (r : Room k A) : A.depth < recursionLimit := by have := r.dp; lia
theorem Room.units {k : Nat} {A : Around} (r : Room k A) : A.units + 64 < cLine := by have := r.un; lia
theorem Room.units0 {k : Nat} {A : Around} (r : Room k A) : A.units < cLine := by have := r.un; lia
def tNil : TA := fun _ H Q => Q [] H
def tCons (ta : TE) (tr : TA) : TA := fun σ H Q => ta σ H fun x H1 => tr σ H1 fun xs H2 => Q (x :: xs) H2
section
variable {X : Cx} {e : Expr} {es : List Expr} {te : TE} {t : TA} {pos : Pos}
theorem pa_nil : PA X [] tNil := fun _ _ _ _ H Q I h => Calls.spliced_nil ⟨[], H, I, .nil, h⟩
theorem pa_cons (ha : PE X e te) (hr : PA X es t) (hs : starEach (e :: es) X.env = (false, eval e X.env) :: starEach es X.env := by rfl) : PA X (e :: es) (tCons te t) := by
  intro pos pins s σ H Q I h
  rw [hs]
  show wpAny _ _ (spliced ((false, eval e X.env) :: backTo pos (starEach es X.env))) _ _ s
  refine Calls.spliced_cons (thn (ha pins s σ H _ I h) fun u s1 ⟨x, H1, I1, r1, q1⟩ => ?_)
  exact thn (hr pos pins s1 σ H1 _ I1 q1) fun us s2 ⟨xs, H2, I2, r2, q2⟩ => ⟨x :: xs, H2, I2, .cons r1 r2, q2⟩
/-- a tuple, a list of written items -/
inductive tTup_i (Q : VK) (xs : List V) (H1 : Hp) : Prop
  | mk  : (xs.length ≤ sizeLine) → (∀ p, H1 p = none → Q (.ref p) (upd H1 p (.tup xs))) → tTup_i Q xs H1
def tTup (t : TA) : TE := fun σ H Q => t σ H fun xs H1 => tTup_i Q xs H1
inductive tLst_i (Q : VK) (xs : List V) (H1 : Hp) : Prop
  | mk  : (xs.length ≤ sizeLine) → (∀ p, H1 p = none → Q (.ref p) (upd H1 p (.lst xs))) → tLst_i Q xs H1
def tLst (t : TA) : TE := fun σ H Q => t σ H fun xs H1 => tLst_i Q xs H1
theorem pe_tup {x1} (h : PA X es t) : PE X (.Tuple es x1 pos) (tTup t) := by
  intro pins s σ H Q I hq
  refine wpAny_Tuple_spliced (thn (h pos pins s σ H _ I hq) fun us s1 ⟨xs, H1, I1, r, z, q⟩ => ⟨by rw [← r.length]; exact z, ?_⟩)
  have hf : H1 s1.heap.objs.size = none := I1.hok.fresh (Nat.le_refl _)
  refine ⟨.ref s1.heap.objs.size, upd H1 s1.heap.objs.size (.tup xs), I1.laid (t' := s1.toks) (fun b u e => Heap.get?_push_of_some _ e) (Nat.le_refl _) ?_, rfl, q _ hf⟩
  exact ⟨z, us, r, TupN.new _ _⟩
theorem pe_lst (h : PA X es t) : PE X (.List es pos) (tLst t) := by
  intro pins s σ H Q I hq
  refine wpAny_List_spliced (thn (h pos pins s σ H _ I hq) fun us s1 ⟨xs, H1, I1, r, z, q⟩ => ⟨by rw [← r.length]; exact z, ?_⟩)
  have hf : H1 s1.heap.objs.size = none := I1.hok.fresh (Nat.le_refl _)
  refine ⟨.ref s1.heap.objs.size, upd H1 s1.heap.objs.size (.lst xs), I1.laid (t' := s1.toks) (fun b u e => Heap.get?_push_of_some _ e) (Nat.le_refl _) ?_, rfl, q _ hf⟩
  exact ⟨z, us, 0, r, Heap.get?_push_size _ rfl⟩
end
/-- a def's promise: the bound arguments in the parameters' order, the heap, the wanted end, the wanted exception -/
abbrev Sp := List V → Hp → VK → XK → Prop
/-- how an exception lies behind a call (file 08 gives it): the callers' frames, abstract heap and state ahead of the call, the wish, the exception, the state -/
abbrev CXT := List Env → Hp → Shared → XK → Value → Shared → Prop
/-- the state at a call -/
structure Env0 (P : Program) (w : World) (K : PySem.W.Frag) (mg : Str → Option Value) (base : Heap) (A : Around) (outer : List Env) (s : Shared) (H : Hp) : Prop where
  frames : A.frames = some outer
  mod : Mod K mg base
  bs : ∀ b o, base.get? b = some o → s.heap.get? b = some o ∧ H b = none
  bsz : base.objs.size ≤ s.heap.objs.size
  funs : s.heap.FunFrames base outer
  frf : ∀ b ∈ frs outer, H b = none
  hok : HOk P w H s.heap
  bare : AllBare s.gens
/-- a call's end -/
def CE (outer : List Env) (P : Program) (w : World) (H : Hp) (s : Shared) (Q : VK) (u : Value) (s' : Shared) : Prop :=
  ∃ v H', s'.os = s.os ∧ AllBare s'.gens ∧ Un (frs outer) [] H H' s.heap s'.heap ∧ HOk P w H' s'.heap ∧ RelV v u ∧ Q v H'
def CR (CX : CXT) (outer : List Env) (P : Program) (w : World) (H : Hp) (s : Shared) (Q : VK) (E : XK) (r : Result) (s' : Shared) : Prop :=
  match r with
  | .ok (.ret u) => CE outer P w H s Q u s'
  | .ok _ => False
  | .error e => CX outer H s E e s'
structure FnOk (P : Program) (w : World) (K : PySem.W.Frag) (mg : Str → Option Value) (base : Heap) (CX : CXT) (k : Nat) (f : Addr) (fd : FuncData) (ps : List Str) (sp : Sp) : Prop where
  len : ∀ vs H Q E, sp vs H Q E → vs.length = ps.length
  run : ∀ (A : Around) (outer : List Env) (s : Shared) (H : Hp) (args : Args) (us : List Value) (vs : List V) (Q : VK) (E : XK), Room k A → Env0 P w K mg base A outer s H → BindsTo s fd args (ps.zip us) → Vals vs us → sp vs H Q E →
    codeAny (model P w) A (.call (.ref f) args) (CR CX outer P w H s Q E) s
section
variable {X : Cx} {pins : List (Addr × Obj)} {σ : St} {H : Hp} {s s' : Shared}
/-- from a body: what a callee wants -/
theorem Inv.env0 (I : Inv X pins σ H s) : Env0 X.prog X.w X.K X.mg X.base X.A X.stack s H :=
  ⟨I.ok.frames, I.ok.mod, I.bs, Nat.le_trans I.ok.bsz I.sz, I.stack, I.stkFree, I.hok, I.bare⟩
/-- behind a call -/
theorem Inv.after {Q : VK} {u : Value} (I : Inv X pins σ H s) (h : CE X.stack X.prog X.w H s Q u s') : EP X pins σ Q u s' := by
  obtain ⟨v, H', os, bare, un, hok, r, q⟩ := h
  obtain ⟨hh, g, d, t, os'⟩ := s'
  obtain rfl : os' = s.os := os
  exact ⟨v, H', I.call (h' := hh) (g' := g) (d' := d) (t' := t) (ch := []) un hok bare (fun b z => absurd z (by simp)), r, q⟩
end
/-- f(..): the written arguments, then the defaults dvs; E: what is wanted of an exception -/
def tCall (sp : Sp) (dvs : List V) (E : XK) (t : TA) : TE := fun σ H Q => t σ H fun vs H1 => sp (vs ++ dvs) H1 Q E
/-- how the parameters are bound: us the positional arguments, kw the keywords' values by name, ds the defaults that fill up -/
def Binds (K : PySem.W.Frag) (fd : FuncData) (ps : List Str) (ds : List Value) : Prop :=
  ∀ (s : Shared) (us : List Value), K.In s.heap → (us ++ ds).length = ps.length → BindsTo s fd ⟨us, []⟩ (ps.zip (us ++ ds))
/-- every parameter is given -/
theorem Binds.all {K : PySem.W.Frag} {fd : FuncData} {ps : List Str} (h : ∀ us : List Value, us.length = ps.length → bindArgs fd ⟨us, []⟩ = pure (ps.zip us)) : Binds K fd ps [] := fun s us _ hl => by
  rw [List.append_nil] at hl ⊢
  exact .of_eq (h us hl)
/-- an exception of a callee reaches what this body wants of exceptions -/
def Passes (CX : CXT) (X : Cx) (E : XK) : Prop := ∀ (pins : List (Addr × Obj)) (σ : St) (H : Hp) (s : Shared) (e : Value) (s' : Shared), Inv X pins σ H s → CX X.stack H s E e s' → X.xe e s'
section
variable {X : Cx} {CX : CXT} {k : Nat} {f C : Addr} {fd : FuncData} {ps : List Str} {sp : Sp} {dvs : List V} {ds : List Value} {E : XK} {x m : Str} {p pos apos : Pos} {e o : Expr} {es : List Expr} {ta : TE} {t : TA}
/-- the callee runs -/
theorem run_fn {pins : List (Addr × Obj)} {σ : St} {H : Hp} {s : Shared} {Q : VK} {us : List Value} {vs : List V} (F : FnOk X.prog X.w X.K X.mg X.base CX k f fd ps sp) (hr : Room k X.A) (hb : Binds X.K fd ps ds) (hd : Vals dvs ds) (hx : Passes CX X E)
    (I : Inv X pins σ H s) (r : Vals vs us) (h : sp (vs ++ dvs) H Q E) : wpAny (model X.prog X.w) X.A (call (.ref f) us) (EP X pins σ Q) X.xe s := by
  have r2 : Vals (vs ++ dvs) (us ++ ds) := r.append hd
  have hl : (us ++ ds).length = ps.length := by rw [← r2.length]; exact F.len _ _ _ _ h
  refine wpAny_call (codeAny_mono (F.run X.A X.stack s H ⟨us, []⟩ (us ++ ds) (vs ++ dvs) Q E hr I.env0 (hb s us I.kIn hl) r2 h) fun r s' hq => ?_)
  cases r with
  | error e => exact hx pins σ H s e s' I hq
  | ok fl =>
    cases fl with
    | ret u => exact I.after hq
    | next => exact False.elim hq
    | brk => exact False.elim hq
    | cont => exact False.elim hq
theorem pe_call (F : FnOk X.prog X.w X.K X.mg X.base CX k f fd ps sp) (hr : Room k X.A) (hg : Gl X x) (hm : X.mg x = some (.ref f)) (hk : PySem.W.keepIn X.K (.ref f) = true) (hb : Binds X.K fd ps ds) (hd : Vals dvs ds) (hx : Passes CX X E)
    (ha : PA X (e :: es) t) (hdb : (x == ("__debug__" : Str)) = false := by decide) (he : starEach (e :: es) X.env = (false, eval e X.env) :: starEach es X.env := by rfl) (hpl : (backTo pos (starEach es X.env)).any (·.1) = false := by rfl) :
    PE X (.Call (.Name x p) (e :: es) [] pos) (tCall sp dvs E t) := by
  intro pins s σ H Q I h
  refine wpAny_Call_Name_kw (ld_glob I hg hm ?_ hdb)
  refine PySem.W.callWith_K (h₀ := X.base) I.ok.mod.kin hk (thn (ha pos pins s σ H _ I h) fun us s1 ⟨vs, H1, I1, r, q⟩ => ⟨I1.kIn, ?_⟩) he hpl
  exact run_fn F hr hb hd hx I1 r q
end
section
variable {X : Cx} {CX : CXT} {k : Nat} {f C : Addr} {fd : FuncData} {ps ks : List Str} {sp : Sp} {E : XK} {x m : Str} {p pos apos kpos : Pos} {e o : Expr} {es : List Expr} {kws : List Keyword} {te ta : TE} {t tk : TA} {nm : Option Str}
variable {g : List Value → List Value → List Value} {gV : List V → List V → List V}
end
/-- names: the parameters first -/
structure FnScope (N P : List Str) (sc : Scope) : Prop where
  kind : sc.kind = .function
  co : sc.isCoroutine = false
  gen : sc.isGenerator = false
  nd : N.Nodup
  pre : N.take P.length = P
  par : ∀ x ∈ P, sc.names.lookup x = some .local ∨ sc.names.lookup x = some .cell
  nofree : ∀ y ∈ sc.names, y.2 ≠ .free
theorem bindL_out {kindOf : Str → Option NameKind} {x : Str} : ∀ {binds : List (Str × Value)} {m : Str → Option Value}, (∀ v, (x, v) ∉ binds) → bindL kindOf binds m x = m x
  | [], _, _ => rfl
  | (n, v) :: r, m, h => by
    unfold bindL
    rw [bindL_out fun w hw => h w (List.mem_cons_of_mem _ hw)]
    split
    · have : x ≠ n := by rintro rfl; exact h v List.mem_cons_self
      simp [this]
    · rfl
theorem bindC_out {kindOf : Str → Option NameKind} {x : Str} : ∀ {binds : List (Str × Value)} {m : Str → Option Value}, (∀ v, (x, v) ∉ binds) → bindC kindOf binds m x = m x
  | [], _, _ => rfl
  | (n, v) :: r, m, h => by
    unfold bindC
    rw [bindC_out fun w hw => h w (List.mem_cons_of_mem _ hw)]
    split
    · rfl
    · have : x ≠ n := by rintro rfl; exact h v List.mem_cons_self
      simp [this]
theorem bindL_get {kindOf : Str → Option NameKind} {x : Str} {v : Value} : ∀ {P : List Str} {vs : List Value} {i : Nat} {m : Str → Option Value}, P.Nodup → P[i]? = some x → vs[i]? = some v → kindOf x = some .local →
    bindL kindOf (P.zip vs) m x = some v
  | [], _, _, _, _, h, _, _ => by simp at h
  | _ :: _, [], _, _, _, _, h, _ => by simp at h
  | p :: P, w :: vs, 0, m, nd, h1, h2, hk => by
    simp at h1 h2; subst h1; subst h2
    show bindL kindOf ((p, w) :: P.zip vs) m p = _
    unfold bindL
    rw [bindL_out fun v hv => (List.nodup_cons.mp nd).1 (List.of_mem_zip hv).1, if_pos hk]
    simp
  | p :: P, w :: vs, i + 1, m, nd, h1, h2, hk => by
    show bindL kindOf ((p, w) :: P.zip vs) m x = _
    unfold bindL
    exact bindL_get (i := i) (List.nodup_cons.mp nd).2 (by simpa using h1) (by simpa using h2) hk
theorem bindC_get {kindOf : Str → Option NameKind} {x : Str} {v : Value} : ∀ {P : List Str} {vs : List Value} {i : Nat} {m : Str → Option Value}, P.Nodup → P[i]? = some x → vs[i]? = some v → kindOf x ≠ some .local →
    bindC kindOf (P.zip vs) m x = some v
  | [], _, _, _, _, h, _, _ => by simp at h
  | _ :: _, [], _, _, _, _, h, _ => by simp at h
  | p :: P, w :: vs, 0, m, nd, h1, h2, hk => by
    simp at h1 h2; subst h1; subst h2
    show bindC kindOf ((p, w) :: P.zip vs) m p = _
    unfold bindC
    rw [bindC_out fun v hv => (List.nodup_cons.mp nd).1 (List.of_mem_zip hv).1, if_neg hk]
    simp
  | p :: P, w :: vs, i + 1, m, nd, h1, h2, hk => by
    show bindC kindOf ((p, w) :: P.zip vs) m x = _
    unfold bindC
    exact bindC_get (i := i) (List.nodup_cons.mp nd).2 (by simpa using h1) (by simpa using h2) hk
/-- the names' values at the entry -/
def start (N : List Str) (vs : List V) : St := vs.map some ++ List.replicate (N.length - vs.length) none
/-- the context of a def's body, at its entry; an exception leaves the frame, then lies as CX says -/
def cxOf (CX : CXT) (P : Program) (w : World) (K : PySem.W.Frag) (mg : Str → Option Value) (base : Heap) (N : List Str) (qual : Str) (scope : Scope) (f : Addr) (cd : Value) (A : Around) (outer : List Env) (s : Shared) (H : Hp) (E : XK) : Cx where
  prog := P
  w := w
  K := K
  mg := mg
  base := base
  A := A.deeper (envOfC qual scope s.heap.objs.size f cd)
  N := N
  s₀ := s
  H₀ := H
  env := envOfC qual scope s.heap.objs.size f cd
  outer := outer
  stack := envOfC qual scope s.heap.objs.size f cd :: outer
  ex := []
  calm := true
  fn := fun _ => true
  pn := []
  xe := fun e s' => wpAny (model P w) (A.deeper (envOfC qual scope s.heap.objs.size f cd)) (leaving (envOfC qual scope s.heap.objs.size f cd) e) (fun _ s'' => CX outer H s E e s'') (fun e' s'' => CX outer H s E e' s'') s'
theorem cell_has {sc : Scope} {n : Nat} {x : Str} (h : sc.names.lookup x = some .cell) : ∃ c, (cellsFrom n sc.names []).lookup x = some c := by
  have q := PySem.W.cellsFrom_some sc.names n [] (.inl h)
  exact Option.isSome_iff_exists.mp q
theorem inv_start {CX : CXT} {P : Program} {w : World} {K : PySem.W.Frag} {mg : Str → Option Value} {base : Heap} {N ps : List Str} {qual : Str} {scope : Scope} {f : Addr} {cd : Value} {A : Around} {outer : List Env} {s s1 : Shared} {H : Hp} {E : XK} {us : List Value} {vs : List V}
    (S : FnScope N ps scope) (hd : A.handled = none) (e0 : Env0 P w K mg base A outer s H) (hl : vs.length = ps.length) (r : Vals vs us)
    (x : InCallC s s.heap.objs.size (bindL (envOfC qual scope s.heap.objs.size f cd).kindOf (ps.zip us) fun _ => none) (cellsFrom (s.heap.objs.size + 1) scope.names []) (bindC (envOfC qual scope s.heap.objs.size f cd).kindOf (ps.zip us) fun _ => none) s1) :
    Inv (cxOf CX P w K mg base N qual scope f cd A outer s H E) [] (start N vs) H s1 := by
  have hpl : ps.length ≤ N.length := by have := congrArg List.length S.pre; rw [List.length_take] at this; lia
  obtain ⟨h1, tk, rfl, hk⟩ := x.done
  have noA : ∀ b : Addr, b ∉ (cxOf CX P w K mg base N qual scope f cd A outer s H E).ex := fun b z => absurd (show b ∈ ([] : List Addr) from z) (by simp)
  refine ⟨⟨e0.mod, S.kind, rfl, rfl, Nat.le_refl _, fun y z c h1 h2 => ?_, fun y hy => ?_, fun y c _ h => ?_, fun _ => hd, Around.frames_deeper e0.frames, .inr ⟨rfl, rfl⟩, fun b z => absurd z (noA b), e0.bs, e0.bsz, fun b _ _ => noA b, fun b z => absurd z (noA b), e0.funs, e0.frf⟩,
    rfl, e0.bare, Un.kept hk, ⟨_, x.toInCall.ns, fun i y v h1 h2 h3 => ?_⟩, fun y c h => ⟨_, x.cell y c h⟩, e0.hok.fresh (Nat.le_refl _), fun y c h => ?_, fun p hp => absurd (show p ∈ ([] : List (Addr × Obj)) from hp) (by simp), e0.hok.kept hk, ?_⟩
  · exact name_of_addr x.apart (PySem.mem_of_lookup h1) (PySem.mem_of_lookup h2)
  · have hy : scope.names.lookup y = some .cell ∨ scope.names.lookup y = some .free := hy
    rcases hy with hy | hy
    · exact cell_has hy
    · exact absurd rfl (S.nofree _ (PySem.mem_of_lookup hy))
  · exact Nat.le_of_lt (x.above y c (PySem.mem_of_lookup h))
  · have hi : i < vs.length := by
      unfold start at h2
      by_cases hi : i < vs.length
      · exact hi
      · rw [List.getElem?_append_right (by simpa using hi)] at h2
        rw [List.getElem?_replicate] at h2
        split at h2 <;> cases h2
    have ha : vs[i]? = some v := by
      unfold start at h2
      rw [List.getElem?_append_left (by simpa using hi), List.getElem?_map] at h2
      cases e : vs[i]? with
      | none => rw [e] at h2; cases h2
      | some a => rw [e] at h2; cases h2; rfl
    obtain ⟨u, hu, rv⟩ := r.get ha
    have hp : ps[i]? = some y := by
      rw [← S.pre, List.getElem?_take_of_lt (by lia)]; exact h1
    have ndP : ps.Nodup := by rw [← S.pre]; exact S.nd.sublist (List.take_sublist _ _)
    refine ⟨u, rv, ?_⟩
    rcases S.par y (List.mem_of_getElem? hp) with k | k
    · exact .inl ⟨k, bindL_get ndP hp hu k⟩
    · obtain ⟨c, e⟩ := cell_has (n := s.heap.objs.size + 1) k
      refine .inr ⟨.inl k, c, e, ?_⟩
      have q := x.cell y c e
      rw [bindC_get ndP hp hu (by show scope.names.lookup y ≠ _; rw [k]; decide)] at q
      exact q
  · exact e0.hok.fresh (Nat.le_of_lt (x.above y c (PySem.mem_of_lookup h)))
  · unfold start
    show _ = N.length
    rw [List.length_append, List.length_map, List.length_replicate]
    lia
/-- THE RULE: a def (or a method) of the text, by its body. The body's reading t is chosen for each entry; it is run at the parameters' values -/
theorem fn_of {CX : CXT} {P : Program} {w : World} {K : PySem.W.Frag} {mg : Str → Option Value} {base : Heap} {k : Nat} {f : Addr} {name qual : Str} {params : Arguments} {body : List Stmt} {scope : Scope} {dV kV doc pm cdv ct oc : Value} {an od : Option Addr}
    {osl : Array (Option Value)} {N ps : List Str} {sp : Sp} (lk : K.lookup f = some ⟨oc, od, .func (PySem.W.fnOf name qual params body scope dV kV doc pm an cdv ct), osl⟩) (hcd : PySem.W.codeIn K cdv qual = true) (S : FnScope N ps scope)
    (len : ∀ vs H Q E, sp vs H Q E → vs.length = ps.length)
    (hbody : ∀ (A : Around) (outer : List Env) (s : Shared) (H : Hp) (vs : List V) (Q : VK) (E : XK), Room k (A.deeper (envOfC qual scope s.heap.objs.size f cdv)) → sp vs H Q E →
      ∃ t, PSs (cxOf CX P w K mg base N qual scope f cdv A outer s H E) body t ∧ t { nx := fun _ H' => Q .non H', rt := Q } (start N vs) H) :
    FnOk P w K mg base CX (k + 1) f (PySem.W.fnOf name qual params body scope dV kV doc pm an cdv ct) ps sp := by
  refine ⟨len, fun A outer s H args us vs Q E hr e0 hb r hsp => ?_⟩
  have hl := len _ _ _ _ hsp
  have KX : K.In s.heap := e0.mod.kin.keeps fun b o e => (e0.bs b o e).1
  have lim : s.heap.NoLimit := e0.mod.nolimit.keeps fun b o e => (e0.bs b o e).1
  have hkind : ∀ y ∈ ps.zip us, scope.names.lookup y.1 = some .local ∨ (scope.names.lookup y.1 = some .cell ∧ ((cellsFrom (s.heap.objs.size + 1) scope.names []).lookup y.1).isSome = true) := fun ⟨n, v⟩ hy => by
    rcases S.par n (List.of_mem_zip hy).1 with q | q
    · exact .inl q
    · exact .inr ⟨q, PySem.W.cellsFrom_some _ _ _ (.inl q)⟩
  refine codeAny_call_function hr.depth (KX _ _ lk) rfl S.co S.gen rfl (PySem.W.codeRec_of KX hcd) (hb _ _ _ _ ?_)
  refine wpAny_newFunctionEnv_cells S.kind hkind fun env he s1 x => ?_
  subst he
  refine ⟨lim.keeps x.toInCall.keep, codeAny_func ?_⟩
  obtain ⟨t, ht, hq⟩ := hbody A outer s H vs Q E (hr.deeper _) hsp
  have I : Inv (cxOf CX P w K mg base N qual scope f cdv A outer s H E) [] (start N vs) H s1 := inv_start S hr.hd e0 hl r x
  refine wpAny_mono (ht [] s1 (start N vs) H _ I hq) (fun fl s' hs => ?_) fun e s' hs => hs
  have fin : ∀ {σ' : St} {H' : Hp} {v : V} {u : Value}, Inv (cxOf CX P w K mg base N qual scope f cdv A outer s H E) [] σ' H' s' → RelV v u → Q v H' → CE outer P w H s Q u s' :=
    fun {σ' H' v u} J rv q => ⟨v, H', J.os, J.bare, J.base, J.hok, rv, q⟩
  cases fl with
  | ret u =>
    obtain ⟨v, σ', H', J, rv, q⟩ := hs
    exact fin J rv q
  | next =>
    obtain ⟨σ', H', J, q⟩ := hs
    exact fin (v := V.non) (u := Value.none) J rfl q
  | brk =>
    obtain ⟨_, _, _, q⟩ := hs
    exact False.elim q
  | cont =>
    obtain ⟨_, _, _, q⟩ := hs
    exact False.elim q
end L2
namespace L2
open PySem PySem.Spec PyProof.Rows
section
variable {X : Cx} {x : Str} {p pos : Pos} {e : Expr} {es : List Expr} {t : TA} {id T : String} {r : List V → Hp → VK → Prop}
def tCB (r : List V → Hp → VK → Prop) (t : TA) : TE := fun σ H Q => t σ H fun vs H1 => r vs H1 Q
/-- f(e, ..), f a built-in function -/
theorem pe_callB (hc : CallR X (.builtin id) r) (hg : Gl X x) (hm : X.mg x = none) (hv : bootBuiltins x = some (.builtin id)) (ha : PA X (e :: es) t) (hn : x ≠ "__name__" := by decide) (hdb : (x == ("__debug__" : Str)) = false := by decide)
    (he : starEach (e :: es) X.env = (false, eval e X.env) :: starEach es X.env := by rfl) (hpl : (backTo pos (starEach es X.env)).any (·.1) = false := by rfl) : PE X (.Call (.Name x p) (e :: es) [] pos) (tCB r t) := by
  intro pins s σ H Q I h
  refine wpAny_Call_Name_kw (ld_blt I hg hm hv ?_ hn hdb)
  exact PyProof.Rows.callWith_builtin1 (thn (ha pos pins s σ H _ I h) fun us s1 ⟨vs, H1, I1, r1, q1⟩ => hc pins s1 σ H1 vs us Q I1 r1 q1) he hpl
/-- T(e, ..), T a built-in type -/
theorem pe_callTy (hc : CallR X (.type T) r) (hg : Gl X x) (hm : X.mg x = none) (hv : bootBuiltins x = some (.type T)) (ha : PA X (e :: es) t) (hn : x ≠ "__name__" := by decide) (hdb : (x == ("__debug__" : Str)) = false := by decide)
    (he : starEach (e :: es) X.env = (false, eval e X.env) :: starEach es X.env := by rfl) (hpl : (backTo pos (starEach es X.env)).any (·.1) = false := by rfl) : PE X (.Call (.Name x p) (e :: es) [] pos) (tCB r t) := by
  intro pins s σ H Q I h
  refine wpAny_Call_Name_kw (ld_blt I hg hm hv ?_ hn hdb)
  exact PyProof.Rows.callWith_type1 (thn (ha pos pins s σ H _ I h) fun us s1 ⟨vs, H1, I1, r1, q1⟩ => hc pins s1 σ H1 vs us Q I1 r1 q1) he hpl
end
end L2
namespace HT
open PySem PyProof.Rows
section
open PySem.SeqAt
open PySem.AutoSeq1 (wpAny_loadPart')
open PySem.MeetsSeq PySem.MeetsSeq2 PySem.MeetsSeq3
end
section
variable {prog : Program} {w : World} {A : Around} {E : Value → Shared → Prop} {s : Shared}
/-- t + u, t not empty -/
theorem cat_tup {t b : Addr} {vs ws : List Value} {Q : Value → Shared → Prop} (ht : IsTup s.heap t vs.toArray) (hb : IsTup s.heap b ws.toArray) (hv : vs ≠ [])
    (h1 : ws = [] → Q (.ref t) s) (h2 : ws ≠ [] → Q (.ref s.heap.objs.size) { s with heap := s.heap.push { cls := .type "tuple", data := .seq (vs ++ ws).toArray } })
    (hsz : vs.length + ws.length ≤ sizeLine) : wpAny (model prog w) A (binaryOp .Add (.ref t) (.ref b)) Q E s := by
  obtain ⟨⟨cls, dd, data, sl⟩, ho, hc, n, hd⟩ := id ht
  obtain ⟨⟨cls2, dd2, data2, sl2⟩, ho2, hc2, n2, hd2⟩ := id hb
  simp only at hc hd hc2 hd2
  subst hc hd hc2 hd2
  have e : vs.toArray ++ ws.toArray = (vs ++ ws).toArray := by simp
  by_cases hw : ws = []
  · exact concat_meets ⟨_, ho, rfl⟩ ⟨_, ho2, rfl⟩ noFill_tuple_add seq_tuple_add PySem.F.slot_tuple_add PySem.F.entry_tuple_add (PySem.F.args_tuple_add_2 _ _)
      (tuple_addW1 t b vs.toArray ws.toArray n n2 dd dd2 sl sl2 (by simpa using hv) (by simp [hw])) ⟨ho, ho2, h1 hw⟩
  · refine concat_meets ⟨_, ho, rfl⟩ ⟨_, ho2, rfl⟩ noFill_tuple_add seq_tuple_add PySem.F.slot_tuple_add PySem.F.entry_tuple_add (PySem.F.args_tuple_add_2 _ _)
      (tuple_addW2 t b vs.toArray ws.toArray n n2 dd dd2 sl sl2 (by simpa using hv) (by simpa using hw) (by rw [List.size_toArray, List.size_toArray]; exact hsz)) ⟨ho, ho2, ?_⟩
    rw [e]
    exact h2 hw
/-- a slice's bound as a place among n (d where it is left out) -/
def sIx (n d : Nat) : Option Int → Nat
  | none => d
  | some v => if v < 0 then (v + (n : Int)).toNat else min v.toNat n
theorem sIx_none (n d : Nat) : sIx n d none = d := rfl
theorem sIx_nat (n d k : Nat) : sIx n d (some (k : Int)) = min k n := by
  show (if (k : Int) < 0 then ((k : Int) + (n : Int)).toNat else min (k : Int).toNat n) = min k n
  rw [if_neg (by lia), Int.toNat_natCast]
theorem sIx_le (n d : Nat) (hd : d ≤ n) (o : Option Int) : sIx n d o ≤ n := by
  cases o with
  | none => exact hd
  | some v =>
    show (if v < 0 then (v + (n : Int)).toNat else min v.toNat n) ≤ n
    by_cases hv : v < 0
    · rw [if_pos hv]; lia
    · rw [if_neg hv]; exact Nat.min_le_right _ _
theorem clip_eq (v : Int) (n d : Nat) : (if v < 0 then max (v + (n : Int)) 0 else min v (n : Int)) = ((sIx n d (some v) : Nat) : Int) := by
  show (if v < 0 then max (v + (n : Int)) 0 else min v (n : Int)) = (((if v < 0 then (v + (n : Int)).toNat else min v.toNat n) : Nat) : Int)
  by_cases hv : v < 0
  · simp only [if_pos hv]; lia
  · simp only [if_neg hv]; lia
theorem adjust_gen (lo hi : Option Int) (n : Nat) : Builtin.Slice.sliceAdjust lo hi 1 (n : Int) = (((sIx n 0 lo : Nat) : Int), ((sIx n n hi : Nat) : Int)) := by
  have h1 : ¬ ((1 : Int) < 0) := by lia
  unfold Builtin.Slice.sliceAdjust
  simp only [h1, if_false]
  refine Prod.ext ?_ ?_
  · cases lo with
    | none => rfl
    | some v => exact clip_eq v n 0
  · cases hi with
    | none => rfl
    | some v => exact clip_eq v n n
theorem places_gen (i j : Nat) : Builtin.Slice.slicePlaces (i : Int) (j : Int) 1 = j - i := by
  unfold Builtin.Slice.slicePlaces
  have h1 : (1 : Int) > 0 := by lia
  simp only [h1, if_true, Int.ediv_one]
  split <;> lia
theorem slicePart_ {v : Value} {o : Option Int} {Q : Option Int → Shared → Prop} (p : IsPart v o) (h : Q o s) : wpAny (model prog w) A (Builtin.Slice.slicePartIndex v) Q E s := by
  cases p with
  | none => exact slicePart_none h
  | int i t => exact slicePart_int h
theorem sliceApplied_gen {sl : Addr} {vl vu : Value} {lo hi : Option Int} {n : Nat} {Q : Int × Int × Nat → Shared → Prop} (hs : s.heap.IsSliceOf sl vl vu .none) (pl : IsPart vl lo) (pu : IsPart vu hi)
    (h : Q (((sIx n 0 lo : Nat) : Int), 1, sIx n n hi - sIx n 0 lo) s) : wpAny (model prog w) A (Builtin.Slice.sliceApplied (.ref sl) (pure (n : Int))) Q E s := by
  obtain ⟨os, hos, hcs, hds⟩ := id hs
  unfold Builtin.Slice.sliceApplied Builtin.Slice.sliceFields
  refine wpAny_bind (wpAny_bind (wpAny_field hos hds (x := vl) rfl (wpAny_bind (wpAny_field hos hds (x := vu) rfl (wpAny_bind (wpAny_field hos hds (x := .none) rfl (wpAny_pure ?_)))))))
  refine wpAny_bind (slicePart_none ?_)
  show wpAny _ _ (if ((1 : Int) == 0) = true then _ else _) _ _ s
  rw [if_neg (by decide)]
  refine wpAny_bind (slicePart_ pl (wpAny_bind (slicePart_ pu (wpAny_bind (wpAny_pure ?_)))))
  show wpAny _ _ (match Builtin.Slice.sliceAdjust lo hi 1 (n : Int) with | (lo, hi) => pure (lo, (1 : Int), Builtin.Slice.slicePlaces lo hi 1)) _ _ s
  rw [adjust_gen lo hi n]
  show wpAny _ _ (pure (((sIx n 0 lo : Nat) : Int), (1 : Int), Builtin.Slice.slicePlaces ((sIx n 0 lo : Nat) : Int) ((sIx n n hi : Nat) : Int) 1)) _ _ s
  rw [places_gen]
  exact wpAny_pure h
theorem pick_gen (xs : Array Value) (i k : Nat) : ((List.range k).filterMap fun (m : Nat) => xs[((i : Int) + (m : Int) * 1).toNat]?).toArray = ((xs.toList.drop i).take k).toArray := by
  have e : (fun (m : Nat) => xs[((i : Int) + (m : Int) * 1).toNat]?) = fun m => xs[i + m]? := by
    funext m
    have : ((i : Int) + (m : Int) * 1).toNat = i + m := by lia
    rw [this]
  rw [e]
  have := pick_run xs i k
  rw [List.filterMap_map] at this
  have e2 : ((fun x => xs[x]?) ∘ fun x => i + x) = fun m => xs[i + m]? := rfl
  rw [e2] at this
  rw [this]
theorem getItem_tuple_cut {t sl : Addr} {items : Array Value} {vl vu : Value} {lo hi : Option Int} {Q : Value → Shared → Prop} (ht : IsTup s.heap t items) (hs : s.heap.IsSliceOf sl vl vu .none) (pl : IsPart vl lo) (pu : IsPart vu hi)
    (hw : ¬ (sIx items.size 0 lo = 0 ∧ sIx items.size items.size hi = items.size))
    (h : Q (.ref s.heap.objs.size) { s with heap := s.heap.push { cls := .type "tuple", data := .seq ((items.toList.drop (sIx items.size 0 lo)).take (sIx items.size items.size hi - sIx items.size 0 lo)).toArray } })
    (hsz : items.size ≤ sizeLine) : wpAny (model prog w) A (getItem (.ref t) (.ref sl)) Q E s := by
  have htake : sizeOk (.seq ((items.toList.drop (sIx items.size 0 lo)).take (sIx items.size items.size hi - sIx items.size 0 lo)).toArray) := by
    show ((items.toList.drop (sIx items.size 0 lo)).take (sIx items.size items.size hi - sIx items.size 0 lo)).toArray.size ≤ sizeLine
    rw [List.size_toArray, List.length_take, List.length_drop, Array.length_toList]
    lia
  have hj : sIx items.size items.size hi ≤ items.size := sIx_le _ _ (Nat.le_refl _) hi
  obtain ⟨os, hos, hcs, hds⟩ := id hs
  have hTs : s.TypeIs (.ref sl) "slice" := ⟨os, hos, hcs⟩
  unfold getItem
  try with_reducible refine wpAny_holding ?_
  first | refine wpAny_bind (wpAny_pure ?_) | skip
  refine wpAny_bind (wpAny_sequenceKey ht.typeIs (by decide) ?_)
  refine wpAny_bind (wpAny_callSpecial?_slot (name := Str.ofString "__getitem__") ht.typeIs PyProof.Rows.slot_tuple_getitem
    (wpAny_call_entry PyProof.Rows.slot_tuple_getitem ht.typeIs entry_tuple_getitem ?_ (args_tuple_getitem _ _)))
  show wpAny _ _ (Builtin.Tuple.tupleItemsOf (.ref t) >>= _) _ _ s
  refine wpAny_bind (tupleItemsOf_ ht ?_)
  refine wpAny_bind (wpAny_typeOf hTs ?_)
  rw [if_pos (by decide)]
  refine wpAny_bind (sliceApplied_gen hs pl pu ?_)
  have hno : ¬ ((((sIx items.size 0 lo : Nat) : Int) == 0 && (1 : Int) == 1 && (sIx items.size items.size hi - sIx items.size 0 lo) == items.size) = true) := by
    intro q
    rw [Bool.and_eq_true, Bool.and_eq_true] at q
    have q1 : ((sIx items.size 0 lo : Nat) : Int) = 0 := eq_of_beq q.1.1
    have q2 : sIx items.size items.size hi - sIx items.size 0 lo = items.size := eq_of_beq q.2
    exact hw ⟨by lia, by lia⟩
  show wpAny _ _ (if (((sIx items.size 0 lo : Nat) : Int) == 0 && (1 : Int) == 1 && (sIx items.size items.size hi - sIx items.size 0 lo) == items.size) = true then _ else _) _ _ s
  rw [if_neg hno, pick_gen]
  first
    | exact wpAny_bind (m := Builtin.Tuple.tupleExact _) (wpAny_newObj_type (wpAny_pure ⟨_, rfl, wpAny_pure h⟩) htake)
    | exact wpAny_bind (m := Builtin.Tuple.tupleExact _) (wpAny_newObj_type (wpAny_bind (wpAny_pure (wpAny_pure ⟨_, rfl, wpAny_pure h⟩))) htake)
    | exact wpAny_bind (wpAny_bind (m := Builtin.Tuple.tupleExact _) (wpAny_newObj_type (wpAny_pure (wpAny_pure ⟨_, rfl, wpAny_pure h⟩)) htake))
    | exact wpAny_bind (wpAny_bind (m := Builtin.Tuple.tupleExact _) (wpAny_newObj_type (wpAny_pure ⟨_, rfl, wpAny_pure h⟩) htake))
end
end HT
namespace L2
open PySem PySem.Spec PyProof.Rows
abbrev TO := St → Hp → (Option Int → Hp → Prop) → Prop
/-- a slice's part (left out, or an int) -/
def PO (X : Cx) (e : Option Expr) (t : TO) : Prop :=
  ∀ (pins : List (Addr × Obj)) (s : Shared) (σ : St) (H : Hp) (Q : Option Int → Hp → Prop), Inv X pins σ H s → t σ H Q →
    wpAny (model X.prog X.w) X.A (evalPart e X.env) (fun u s' => ∃ o H', Inv X pins σ H' s' ∧ IsPart u o ∧ Q o H') X.xe s
def tNoPart : TO := fun _ H Q => Q none H
inductive tPart_i (Q : Option Int → Hp → Prop) (x : V) (H1 : Hp) : Prop
  | mk (i) : (x = .int i) → (Q (some i) H1) → tPart_i Q x H1
def tPart (t : TE) : TO := fun σ H Q => t σ H fun x H1 => tPart_i Q x H1
section
variable {X : Cx} {e : Expr} {te : TE} {lo hi : Option Expr} {tl th : TO} {pos p2 : Pos}
theorem po_none : PO X none tNoPart := by
  intro pins s σ H Q I h
  rw [evalPart_none]
  exact wpAny_pure ⟨none, H, I, .none, h⟩
theorem po_some (h : PE X e te) : PO X (some e) (tPart te) := by
  intro pins s σ H Q I hw
  rw [evalPart_some]
  refine thn (h pins s σ H _ I hw) fun u s1 ⟨x, H1, I1, r1, q1⟩ => ?_
  obtain ⟨i, rfl, q⟩ := q1
  obtain ⟨t, rfl⟩ := r1
  exact ⟨some i, H1, I1, .int i t, q⟩
/-- what a slice of a value is, by values: the slice object stands at sl -/
def SlR (X : Cx) (r : V → Option Int → Option Int → Hp → VK → Prop) : Prop :=
  ∀ (pins : List (Addr × Obj)) (s : Shared) (σ : St) (H : Hp) (x : V) (v vl vu : Value) (lo hi : Option Int) (sl : Addr) (Q : VK), Inv X pins σ H s → RelV x v → s.heap.IsSliceOf sl vl vu .none → IsPart vl lo → IsPart vu hi → r x lo hi H Q →
    ∃ T id, typeLookup (.type T) "__getitem__" = pure (some (.builtin id)) ∧ s.TypeIs v T ∧ wpAny (model X.prog X.w) X.A (getItem v (.ref sl)) (EP X pins σ Q) X.xe s
theorem SlR.or {r r' : V → Option Int → Option Int → Hp → VK → Prop} (h : SlR X r) (h' : SlR X r') : SlR X (fun x lo hi H Q => r x lo hi H Q ∨ r' x lo hi H Q) := by
  intro pins s σ H x v vl vu lo hi sl Q I rx hs pl pu q
  rcases q with q | q
  · exact h pins s σ H x v vl vu lo hi sl Q I rx hs pl pu q
  · exact h' pins s σ H x v vl vu lo hi sl Q I rx hs pl pu q
def tSl (r : V → Option Int → Option Int → Hp → VK → Prop) (te : TE) (tl th : TO) : TE := fun σ H Q => te σ H fun x H1 => tl σ H1 fun l H2 => th σ H2 fun u H3 => r x l u H3 Q
/-- a[lo:hi], any a -/
theorem pe_slice {r : V → Option Int → Option Int → Hp → VK → Prop} (hr : SlR X r) (he : PE X e te) (hl : PO X lo tl) (hu : PO X hi th) : PE X (.Subscript e (.Slice lo hi none p2) pos) (tSl r te tl th) := by
  intro pins s σ H Q I h
  refine Subscript_ (thn (he pins s σ H _ I h) fun v s1 ⟨x, H1, I1, r1, q1⟩ => ?_)
  refine wpAny_Slice (thn (hl pins s1 σ H1 _ I1 q1) fun vl s2 ⟨l, H2, I2, pl, q2⟩ => thn (hu pins s2 σ H2 _ I2 q2) fun vu s3 ⟨u, H3, I3, pu, q3⟩ => ?_)
  rw [evalPart_none]
  refine wpAny_pure ?_
  have I4 : Inv X pins σ H3 { s3 with heap := s3.heap.push { cls := .type "slice", data := .fields #[vl, vu, .none] } } := I3.kept (t' := s3.toks) fun b ob q => Heap.get?_push_of_some _ q
  obtain ⟨T, id, hT, ht, hg⟩ := hr pins { s3 with heap := s3.heap.push { cls := .type "slice", data := .fields #[vl, vu, .none] } } σ H3 x v vl vu l u s3.heap.objs.size Q I4 r1 (Heap.IsSliceOf.new ..) pl pu q3
  show wpAny (model X.prog X.w) X.A (subscriptTail e (.Slice lo hi none p2) v (.ref s3.heap.objs.size)) (EP X pins σ Q) X.xe { s3 with heap := s3.heap.push { cls := .type "slice", data := .fields #[vl, vu, .none] } }
  exact tail_any (ops := [.ref s3.heap.objs.size, v]) ht hT hg (by with_unfolding_all rfl)
/-- the items of xs[lo:hi] -/
def cutV (xs : List V) (lo hi : Option Int) : List V := (xs.drop (HT.sIx xs.length 0 lo)).take (HT.sIx xs.length xs.length hi - HT.sIx xs.length 0 lo)
theorem cutV_length (xs : List V) (lo hi : Option Int) : (cutV xs lo hi).length ≤ xs.length := by
  unfold cutV
  rw [List.length_take, List.length_drop]
  lia
/-- t[lo:hi], not the whole of it (the whole would be t itself) -/
inductive rSlT_i (K : PySem.W.Frag) (x : V) (lo : Option Int) (hi : Option Int) (H : Hp) (Q : VK) : Prop
  | mk (a xs) : (x = .ref a) → (SqT K H a xs) → (¬ (HT.sIx xs.length 0 lo = 0 ∧ HT.sIx xs.length xs.length hi = xs.length)) → (∀ p, H p = none → Q (.ref p) (upd H p (.tup (cutV xs lo hi)))) → rSlT_i K x lo hi H Q
def rSlT (K : PySem.W.Frag) : V → Option Int → Option Int → Hp → VK → Prop := fun x lo hi H Q => rSlT_i K x lo hi H Q
theorem sl_tup : SlR X (rSlT X.K) := by
  intro pins s σ H x v vl vu lo hi sl Q I rx hs pl pu h
  obtain ⟨a, xs, rfl, hx, hw, q⟩ := h
  cases rx
  obtain ⟨its, r, ht, hz⟩ := I.tuple hx
  have hlen : its.toArray.size = xs.length := by rw [List.size_toArray]; exact r.length.symm
  refine ⟨"tuple", _, PyProof.Rows.slot_tuple_getitem.lookup, ht.typeIs, ?_⟩
  refine HT.getItem_tuple_cut ht hs pl pu (by rw [hlen]; exact hw) ?_ (by rw [hlen]; exact hz)
  rw [hlen]
  refine ⟨.ref s.heap.objs.size, _, I.laid (t' := s.toks) (o := .tup (cutV xs lo hi)) (fun b ob q => Heap.get?_push_of_some _ q) (Nat.le_refl _) ?_, rfl, q _ (I.hok.fresh (Nat.le_refl _))⟩
  exact ⟨Nat.le_trans (cutV_length xs lo hi) hz, _, (r.drop (HT.sIx xs.length 0 lo)).take (HT.sIx xs.length xs.length hi - HT.sIx xs.length 0 lo), TupN.new _ _⟩
theorem Vals.nil_iff {xs : List V} {us : List Value} (r : Vals xs us) : us = [] ↔ xs = [] := by
  cases r with
  | nil => simp
  | cons _ _ => simp
end
end L2
namespace L2
open PySem PySem.Spec PyProof.Rows
/-- the place that an index of any sign means -/
def ixN (n : Nat) (i : Int) : Option Nat := if 0 ≤ i then (if i < n then some i.toNat else none) else if -(n : Int) ≤ i then some (i + n).toNat else none
def atI {α : Type} (xs : List α) (i : Int) : Option α := (ixN xs.length i).bind fun j => xs[j]?
theorem ixN_seq {n : Nat} {i : Int} {j : Nat} (h : ixN n i = some j) : seqIndex? i n = some j ∧ j < n ∧ -(n : Int) ≤ i ∧ i < n := by
  unfold ixN at h
  by_cases h0 : 0 ≤ i
  · rw [if_pos h0] at h
    by_cases h1 : i < n
    · rw [if_pos h1] at h
      have e : i.toNat = j := Option.some.inj h
      exact ⟨by rw [seqIndex_of h0 h1, e], by lia, by lia, h1⟩
    · rw [if_neg h1] at h; cases h
  · rw [if_neg h0] at h
    by_cases h1 : -(n : Int) ≤ i
    · rw [if_pos h1] at h
      have e : (i + n).toNat = j := Option.some.inj h
      exact ⟨by rw [seqIndex_neg (by lia) h1, e], by lia, h1, by lia⟩
    · rw [if_neg h1] at h; cases h
theorem atI_get {α : Type} {xs : List α} {i : Int} {v : α} (h : atI xs i = some v) : ∃ j, seqIndex? i xs.length = some j ∧ xs[j]? = some v ∧ j < xs.length ∧ -(xs.length : Int) ≤ i ∧ i < xs.length := by
  unfold atI at h
  cases e : ixN xs.length i with
  | none => rw [e] at h; cases h
  | some j =>
    rw [e] at h
    obtain ⟨h1, h2, h3, h4⟩ := ixN_seq e
    exact ⟨j, h1, h, h2, h3, h4⟩
theorem atI_nat {α : Type} {xs : List α} {j : Nat} {v : α} (h : xs[j]? = some v) : atI xs (j : Int) = some v := by
  have hj : j < xs.length := (List.getElem?_eq_some_iff.mp h).1
  have e : ixN xs.length (j : Int) = some j := by
    unfold ixN
    rw [if_pos (by lia), if_pos (by lia)]; simp
  unfold atI; rw [e]; exact h
/-- what stands as an index of a plain subscript -/
def PlainIx (b : Expr) : Prop := ∀ o i, subscripted b false o i = operate [o, i] (getItem o i)
/-- a subscript by values -/
def IxR (X : Cx) (r : R2) : Prop :=
  ∀ (value slice : Expr) (pins : List (Addr × Obj)) (s : Shared) (σ : St) (H : Hp) (x y : V) (v u : Value) (Q : VK), Inv X pins σ H s → RelV x v → RelV y u → r x y H Q →
    subscripted slice false v u = operate [v, u] (getItem v u) → wpAny (model X.prog X.w) X.A (subscriptTail value slice v u) (EP X pins σ Q) X.xe s
/-- a call of a builtin's method by values: the receiver, the arguments -/
def MtR (X : Cx) (id : String) (r : V → List V → Hp → VK → Prop) : Prop :=
  ∀ (pins : List (Addr × Obj)) (s : Shared) (σ : St) (H : Hp) (x : V) (xs : List V) (v : Value) (us : List Value) (Q : VK), Inv X pins σ H s → RelV x v → Vals xs us → r x xs H Q →
    wpAny (model X.prog X.w) X.A (call (.builtin id) (v :: us)) (EP X pins σ Q) X.xe s
section
variable {X : Cx} {a b : Expr} {ta tb : TE} {pos : Pos}
/-- a[b] -/
theorem pe_ix {r : R2} (hr : IxR X r) (ha : PE X a ta) (hb : PE X b tb) (hs : PlainIx b) : PE X (.Subscript a b pos) (tOp r ta tb) := by
  intro pins s σ H Q I h
  exact Subscript_ (binT ha hb I h fun v u s2 x y H2 I2 rx ry q => hr a b pins s2 σ H2 x y v u Q I2 rx ry q (hs _ _))
inductive rIxL_i (K : PySem.W.Frag) (x : V) (y : V) (H : Hp) (Q : VK) : Prop
  | mk (p xs i v) : (x = .ref p) → (y = .int i) → (SqL K H p xs) → (atI xs i = some v) → (Q v H) → rIxL_i K x y H Q
def rIxL (K : PySem.W.Frag) : R2 := fun x y H Q => rIxL_i K x y H Q
inductive rIxT_i (K : PySem.W.Frag) (x : V) (y : V) (H : Hp) (Q : VK) : Prop
  | mk (p xs i v) : (x = .ref p) → (y = .int i) → (SqT K H p xs) → (atI xs i = some v) → (Q v H) → rIxT_i K x y H Q
def rIxT (K : PySem.W.Frag) : R2 := fun x y H Q => rIxT_i K x y H Q
inductive rIxS_i (x : V) (y : V) (H : Hp) (Q : VK) : Prop
  | mk (z i c) : (x = .str z) → (y = .int i) → (z.length ≤ sizeLine) → (atI z.cps.toList i = some c) → (Q (.str ⟨#[c]⟩) H) → rIxS_i x y H Q
def rIxS  : R2 := fun x y H Q => rIxS_i x y H Q
theorem ix_list : IxR X (rIxL X.K) := by
  intro value slice pins s σ H x y v u Q I rx ry h hs
  obtain ⟨p, xs, i, z, rfl, rfl, hq, he, q⟩ := h
  cases rx
  obtain ⟨t, rfl⟩ := ry
  obtain ⟨its, r, pl, hz⟩ := I.list hq
  obtain ⟨j, h1, h2, h3, h4, h5⟩ := atI_get he
  obtain ⟨w, ew, rw'⟩ := r.get h2
  have hl := r.length
  have hn := line63
  have fin : EP X pins σ Q w s := ⟨z, H, I, rw', q⟩
  by_cases h0 : 0 ≤ i
  · have hj : i.toNat = j := by
      rw [seqIndex_of h0 h5] at h1
      exact Option.some.inj h1
    exact item_listR pl.isList h0 (by lia) (by rw [hj]; simpa using ew) fin hs
  · have hj : (i + (its.toArray.size : Int)).toNat = j := by
      rw [seqIndex_neg (by lia) h4] at h1
      rw [List.size_toArray, ← hl]
      exact Option.some.inj h1
    exact subscriptTail_builtinR (x := w) pl.isList.typeIs slot_list_getitem.lookup
      (wpAny_getItem_list_neg (Q := fun r s' => r = w ∧ EP X pins σ Q r s') pl.isList (by lia) (by rw [List.size_toArray] <;> lia) (by lia) (by rw [hj]; simpa using ew) ⟨rfl, fin⟩) hs
theorem ix_tup : IxR X (rIxT X.K) := by
  intro value slice pins s σ H x y v u Q I rx ry h hs
  obtain ⟨p, xs, i, z, rfl, rfl, hq, he, q⟩ := h
  cases rx
  obtain ⟨t, rfl⟩ := ry
  obtain ⟨its, r, pl, hz⟩ := I.tuple hq
  obtain ⟨j, h1, h2, h3, h4, h5⟩ := atI_get he
  obtain ⟨w, ew, rw'⟩ := r.get h2
  have hl := r.length
  have hn := line63
  have fin : EP X pins σ Q w s := ⟨z, H, I, rw', q⟩
  exact subscriptTail_builtinR (x := w) pl.typeIs slot_tuple_getitem.lookup
    (getItem_tuple (j := j) (Q := fun r s' => r = w ∧ EP X pins σ Q r s') pl (by lia) (by lia) (by rw [List.size_toArray, ← hl]; exact h1) (by simpa using ew) ⟨rfl, fin⟩) hs
theorem ix_str : IxR X rIxS := by
  intro value slice pins s σ H x y v u Q I rx ry h hs
  obtain ⟨z, i, c, rfl, rfl, hz, he, q⟩ := h
  obtain ⟨t, rfl⟩ := rx
  obtain ⟨t', rfl⟩ := ry
  obtain ⟨j, h1, h2, h3, h4, h5⟩ := atI_get he
  have hl : z.cps.toList.length = z.length := by simp [Str.length]
  rw [hl] at h1 h4 h5
  have hn := line63
  exact tail_any (typeIs_str s z t) slot_str_getitem.lookup (getItem_str (c := c) (by
    have e1 : decide (i < -(2 ^ 63 : Int)) = false := decide_eq_false (by lia)
    have e2 : decide (i ≥ 2 ^ 63) = false := decide_eq_false (by lia)
    rw [e1, e2, Bool.or_false]) (by rw [h1]; simpa using h2) ⟨.str ⟨#[c]⟩, H, I.tok _, ⟨_, rfl⟩, q⟩) hs
/-- the list's object behind a store -/
theorem mapSeq_set (its : List Value) (n j : Nat) (u : Value) : Obj.mapSeq (·.setIfInBounds j u) { cls := .type "list", data := .seq its.toArray n } = { cls := .type "list", data := .seq (its.set j u).toArray n } := by
  simp [Obj.mapSeq]
theorem Inv.lst {pins : List (Addr × Obj)} {σ : St} {H : Hp} {s : Shared} {p : Addr} {xs : List V} (I : Inv X pins σ H s) (h : H p = some (.lst xs)) :
    ∃ (its : List Value) (n : Nat), Vals xs its ∧ s.heap.get? p = some { cls := .type "list", data := .seq its.toArray n } ∧ xs.length ≤ sizeLine := by
  obtain ⟨z, its, n, r, e⟩ := I.hok p _ h
  exact ⟨its, n, r, e, z⟩
/-- the list at p is written by an update of its object -/
theorem Inv.lstUpd {pins : List (Addr × Obj)} {σ : St} {H : Hp} {s : Shared} {p : Addr} {xs ys : List V} {its its' : List Value} {n n' : Nat} {f : Obj → Obj} (I : Inv X pins σ H s) (h : H p = some (.lst xs))
    (ho : s.heap.get? p = some { cls := .type "list", data := .seq its.toArray n }) (hf : f { cls := .type "list", data := .seq its.toArray n } = { cls := .type "list", data := .seq its'.toArray n' }) (r : Vals ys its') (hz : ys.length ≤ sizeLine) (t : Nat) :
    Inv X pins σ (upd H p (.lst ys)) { s with heap := s.heap.update p f, toks := t } := by
  have e : (s.heap.update p f).get? p = some { cls := .type "list", data := .seq its'.toArray n' } := by
    rw [Heap.get?_update_self f ho (by rw [hf] <;> rfl), hf]
  refine I.write (x := p) (e := p) (by rw [h]; trivial) (.inl rfl) (fun b u hb q => (Heap.get?_update_other _ _ (Ne.symm hb)).trans q) ⟨_, e⟩ ?_
  exact ⟨hz, its', n', r, e⟩
inductive rSetL_i (o : V) (i : V) (v : V) (H : Hp) (Q : (Hp → Prop)) : Prop
  | mk (p xs k j) : (o = .ref p) → (i = .int k) → (H p = some (.lst xs)) → (ixN xs.length k = some j) → (Q (upd H p (.lst (xs.set j v)))) → rSetL_i o i v H Q
def rSetL  : V → V → V → Hp → (Hp → Prop) → Prop := fun o i v H Q => rSetL_i o i v H Q
theorem set_list : PSet X rSetL := by
  intro pins s σ H o i v ov iv u Q I ro ri rv h
  obtain ⟨p, xs, k, j, rfl, rfl, hp, hj, q⟩ := h
  cases ro
  obtain ⟨t, rfl⟩ := ri
  obtain ⟨its, n, r, ho, hz⟩ := I.lst hp
  obtain ⟨h1, h2, h3, h4⟩ := ixN_seq hj
  have hl := r.length
  have hn := line63
  have I' : Inv X pins σ (upd H p (.lst (xs.set j v))) { s with heap := s.heap.update p (Obj.mapSeq (·.setIfInBounds j u)) } :=
    I.lstUpd hp ho (mapSeq_set its n j u) (r.set rv j) (by rw [List.length_set]; exact hz) s.toks
  by_cases h0 : 0 ≤ k
  · have hk : k.toNat = j := by
      rw [seqIndex_of h0 h4] at h1
      exact Option.some.inj h1
    exact PySem.W.ki_setAt ho h0 (by lia) (by rw [List.size_toArray, ← hl]; exact h4) (by rw [hk]; exact ⟨_, I', q⟩)
  · have hk : (k + (its.toArray.size : Int)).toNat = j := by
      rw [seqIndex_neg (by lia) h3] at h1
      rw [List.size_toArray, ← hl]
      exact Option.some.inj h1
    exact PySem.W.ki_setBack ho (by lia) (by rw [List.size_toArray, ← hl]; exact h3) (by lia) (by rw [hk]; exact ⟨_, I', q⟩)
def flatV : V → Bool
  | .non => true
  | .bl _ => true
  | .int _ => true
  | .str _ => true
  | _ => false
/-- == of flat values -/
def eqV : V → V → Bool
  | .non, .non => true
  | .bl a, .bl b => a == b
  | .bl a, .int b => (if a then 1 else 0) == b
  | .int a, .bl b => a == (if b then 1 else 0)
  | .int a, .int b => a == b
  | .str a, .str b => a == b
  | _, _ => false
theorem eqAt_V {A : Around} {s : Shared} {y x : V} {u v : Value} (ry : RelV y u) (rx : RelV x v) (fy : flatV y = true) (fx : flatV x = true) : SeqAt.EqAt A s u v (eqV y x) := by
  cases y with
  | non =>
    cases ry
    cases x with
    | non => cases rx; exact SeqAt.EqAt.same _
    | bl b => cases rx; exact SeqAt.EqAt.none_bool b
    | int b => obtain ⟨t, rfl⟩ := rx; exact SeqAt.EqAt.none_int b t
    | str b => obtain ⟨t, rfl⟩ := rx; exact SeqAt.EqAt.none_str b t
    | _ => exact absurd (show false = true from fx) Bool.false_ne_true
  | bl a =>
    cases ry
    cases x with
    | non => cases rx; exact SeqAt.EqAt.bool_none a
    | bl b => cases rx; exact SeqAt.EqAt.bool_bool a b
    | int b => obtain ⟨t, rfl⟩ := rx; exact SeqAt.EqAt.bool_int a b t
    | str b => obtain ⟨t, rfl⟩ := rx; exact SeqAt.EqAt.bool_str a b t
    | _ => exact absurd (show false = true from fx) Bool.false_ne_true
  | int a =>
    obtain ⟨t', rfl⟩ := ry
    cases x with
    | non => cases rx; exact SeqAt.EqAt.int_none a t'
    | bl b => cases rx; exact SeqAt.EqAt.int_bool a t' b
    | int b => obtain ⟨t, rfl⟩ := rx; exact SeqAt.EqAt.int_int a t' b t
    | str b => obtain ⟨t, rfl⟩ := rx; exact SeqAt.EqAt.int_str a t' b t
    | _ => exact absurd (show false = true from fx) Bool.false_ne_true
  | str a =>
    obtain ⟨t', rfl⟩ := ry
    cases x with
    | non => cases rx; exact SeqAt.EqAt.str_none a t'
    | bl b => cases rx; exact SeqAt.EqAt.str_bool a t' b
    | int b => obtain ⟨t, rfl⟩ := rx; exact SeqAt.EqAt.str_int a t' b t
    | str b => obtain ⟨t, rfl⟩ := rx; exact SeqAt.EqAt.str_str a t' b t
    | _ => exact absurd (show false = true from fx) Bool.false_ne_true
  | _ => exact absurd (show false = true from fy) Bool.false_ne_true
/-- the items' answers, read off the values (a value's own answer does not lean on its token) -/
def eqU (x : V) (u : Value) : Bool := match u with
  | .none => eqV .non x
  | .bool b => eqV (.bl b) x
  | .int i _ => eqV (.int i) x
  | .str z _ => eqV (.str z) x
  | _ => false
theorem eqU_of {x y : V} {u : Value} (r : RelV y u) (f : flatV y = true) : eqU x u = eqV y x := by
  cases y with
  | non => cases r; rfl
  | bl b => cases r; rfl
  | int i => obtain ⟨t, rfl⟩ := r; rfl
  | str z => obtain ⟨t, rfl⟩ := r; rfl
  | _ => exact absurd (show false = true from f) Bool.false_ne_true
theorem any_eqU {x : V} : ∀ {xs : List V} {us : List Value}, Vals xs us → xs.all flatV = true → us.any (eqU x) = xs.any fun y => eqV y x
  | _, _, .nil, _ => rfl
  | y :: xs, u :: us, .cons r t, f => by
    rw [List.all_cons, Bool.and_eq_true] at f
    rw [List.any_cons, List.any_cons, eqU_of r f.1, any_eqU t f.2]
theorem mem_eqAt {A : Around} {s : Shared} {x : V} {v : Value} (rx : RelV x v) (fx : flatV x = true) : ∀ {xs : List V} {us : List Value}, Vals xs us → xs.all flatV = true → ∀ u ∈ us, SeqAt.EqAt A s u v (eqU x u)
  | _, _, .nil, _ => fun u hu => by cases hu
  | y :: xs, u :: us, .cons r t, f => fun u' hu => by
    rw [List.all_cons, Bool.and_eq_true] at f
    rcases List.mem_cons.mp hu with rfl | hu
    · rw [eqU_of r f.1]; exact eqAt_V r rx f.1 fx
    · exact mem_eqAt rx fx t f.2 u' hu
def inV (x : V) (xs : List V) : Bool := xs.any fun y => eqV y x
/-- x in a list or tuple of flat items -/
inductive rIn_i (K : PySem.W.Frag) (neg : Bool) (x : V) (y : V) (H : Hp) (Q : VK) : Prop
  | mk (p xs) : (y = .ref p) → ((SqL K H p xs ∨ SqT K H p xs)) → (flatV x = true) → (xs.all flatV = true) → (Q (.bl (if neg then !inV x xs else inV x xs)) H) → rIn_i K neg x y H Q
def rIn (K : PySem.W.Frag) (neg : Bool) : R2 := fun x y H Q => rIn_i K neg x y H Q
theorem op_in_seq : OpR X (compareOp .In) (rIn X.K false) := by
  intro pins s σ H x y v u Q I rx ry h
  obtain ⟨p, xs, rfl, hq, fx, fs, q⟩ := h
  cases ry
  rcases hq with hq | hq
  · obtain ⟨its, r, pl, hz⟩ := I.list hq
    refine SeqAt.in_listAt (eqU x) pl.isList (fun w hw => mem_eqAt rx fx r fs w (by simpa using hw)) ⟨.bl _, H, I, rfl, ?_⟩
    rw [show its.toArray.any (eqU x) = its.any (eqU x) by simp, any_eqU r fs]
    exact q
  · obtain ⟨its, r, pl, hz⟩ := I.tuple hq
    refine SeqAt.in_tupleAt (eqU x) pl (fun w hw => mem_eqAt rx fx r fs w (by simpa using hw)) ⟨.bl _, H, I, rfl, ?_⟩
    rw [show its.toArray.any (eqU x) = its.any (eqU x) by simp, any_eqU r fs]
    exact q
theorem call_len_seq : CallR X (.builtin "len") (fun xs H Q => ∃ p ys, xs = [.ref p] ∧ (SqL X.K H p ys ∨ SqT X.K H p ys) ∧ Q (.int ys.length) H) := by
  intro pins s σ H xs us Q I r h
  obtain ⟨p, ys, rfl, hq, q⟩ := h
  obtain ⟨u, rfl, rx⟩ := vals1 r
  cases rx
  have hn := line63
  rcases hq with hq | hq
  · obtain ⟨its, r', pl, hz⟩ := I.list hq
    have hlen := r'.length
    exact Calls.call_len_list pl.isList (by simp only [List.size_toArray] <;> lia) ⟨.int ys.length, H, I.tok _, ⟨s.toks + 1, by rw [List.size_toArray, hlen]⟩, q⟩
  · obtain ⟨its, r', pl, hz⟩ := I.tuple hq
    have hlen := r'.length
    exact len_tuple pl (by simp only [List.size_toArray] <;> lia) ⟨.int ys.length, H, I.tok _, ⟨s.toks + 1, by rw [List.size_toArray, hlen]⟩, q⟩
theorem call_len_str : CallR X (.builtin "len") (fun xs H Q => ∃ z, xs = [.str z] ∧ z.length ≤ sizeLine ∧ Q (.int z.length) H) := by
  intro pins s σ H xs us Q I r h
  obtain ⟨z, rfl, hz, q⟩ := h
  obtain ⟨u, rfl, t, rfl⟩ := vals1 r
  have hn := line63
  exact len_str (by lia) ⟨.int z.length, H, I.tok _, ⟨_, rfl⟩, q⟩
theorem call_list_of : CallR X (.type "list") (fun xs H Q => ∃ p ys, xs = [.ref p] ∧ (SqL X.K H p ys ∨ SqT X.K H p ys) ∧ ∀ l, H l = none → Q (.ref l) (upd H l (.lst ys))) := by
  intro pins s σ H xs us Q I r h
  obtain ⟨p, ys, rfl, hq, q⟩ := h
  obtain ⟨u, rfl, rx⟩ := vals1 r
  cases rx
  have fin : ∀ (its : List Value), Vals ys its → ys.length ≤ sizeLine → ∀ (h' : Heap) (c' : Nat), (∀ b o', s.heap.get? b = some o' → h'.get? b = some o') →
      h'.get? s.heap.objs.size = some { cls := .type "list", dict := none, data := .seq its.toArray c', slots := #[] } → EP X pins σ Q (.ref s.heap.objs.size) { s with heap := h' } := fun its r' hz h' c' kp e =>
    ⟨.ref s.heap.objs.size, _, I.laid (t' := s.toks) kp (Nat.le_refl _) (show ObjOk X.prog X.w _ h' _ (.lst ys) from ⟨hz, its, c', r', e⟩), rfl, q _ (I.hok.fresh (Nat.le_refl _))⟩
  rcases hq with hq | hq
  · obtain ⟨its, r', pl, hz⟩ := I.list hq
    have hlen := r'.length
    obtain ⟨o, ho, hc, n, hd⟩ := pl.isList
    exact call_list_seq p (.inl rfl) ho hc hd (fun h' c' kp e => fin its r' hz h' c' kp e) (by simp only [List.size_toArray] <;> lia)
  · obtain ⟨its, r', pl, hz⟩ := I.tuple hq
    have hlen := r'.length
    obtain ⟨o, ho, hc, n, hd⟩ := pl
    exact call_list_seq p (.inr rfl) ho hc hd (fun h' c' kp e => fin its r' hz h' c' kp e) (by simp only [List.size_toArray] <;> lia)
theorem call_tuple_of : CallR X (.type "tuple") (fun xs H Q => ∃ p ys, xs = [.ref p] ∧ ((SqL X.K H p ys ∧ ∀ l, H l = none → Q (.ref l) (upd H l (.tup ys))) ∨ (SqT X.K H p ys ∧ Q (.ref p) H))) := by
  intro pins s σ H xs us Q I r h
  obtain ⟨p, ys, rfl, h⟩ := h
  obtain ⟨u, rfl, rx⟩ := vals1 r
  cases rx
  rcases h with ⟨hq, q⟩ | ⟨hq, q⟩
  · obtain ⟨its, r', pl, hz⟩ := I.list hq
    have hlen := r'.length
    refine call_tuple_list pl.isList (fun h' kp => ?_) (by simp only [List.size_toArray] <;> lia)
    have I1 : Inv X pins σ H { s with heap := h' } := I.kept (t' := s.toks) kp
    have I2 : Inv X pins σ (upd H h'.objs.size (.tup ys)) { s with heap := h'.push { cls := .type "tuple", data := .seq its.toArray } } :=
      I1.laid (t' := s.toks) (fun b o e => Heap.get?_push_of_some _ e) (Nat.le_refl _) (show ObjOk X.prog X.w _ _ _ (.tup ys) from ⟨hz, its, r', TupN.new _ _⟩)
    exact ⟨.ref h'.objs.size, _, I2, rfl, q _ (I1.hok.fresh (Nat.le_refl _))⟩
  · obtain ⟨its, r', pl, hz⟩ := I.tuple hq
    exact call_tuple_same pl ⟨.ref p, H, I, rfl, q⟩
/-- the value is of that builtin type -/
def tyV (K : PySem.W.Frag) (T : String) (x : V) (H : Hp) : Prop := match x with
  | .str _ => T = "str"
  | .int _ => T = "int"
  | .ref p => (T = "list" ∧ ∃ xs, SqL K H p xs) ∨ (T = "tuple" ∧ ∃ o, K.lookup p = some o ∧ o.cls = .type "tuple" ∧ o.dict = none) ∨
      (T = "dict" ∧ ((∃ kvs, H p = some (.dK kvs)) ∨ ∃ kvs, H p = some (.dT kvs))) ∨ (T = "set" ∧ ∃ S n, H p = some (.set S n))
  | _ => False
theorem tyV_is {pins : List (Addr × Obj)} {σ : St} {H : Hp} {s : Shared} {T : String} {x : V} {v : Value} (I : Inv X pins σ H s) (r : RelV x v) (ty : tyV X.K T x H) :
    s.TypeIs v T ∧ ∀ a, v = .ref a → ∃ ob, s.heap.get? a = some ob ∧ ob.dict = none := by
  cases x with
  | str z =>
    obtain ⟨t, rfl⟩ := r
    cases (show T = "str" from ty)
    exact ⟨typeIs_str s z t, fun _ e => nomatch e⟩
  | int i =>
    obtain ⟨t, rfl⟩ := r
    cases (show T = "int" from ty)
    exact ⟨typeIs_int s i t, fun _ e => nomatch e⟩
  | ref p =>
    cases r
    rcases ty with ⟨rfl, xs, hq⟩ | ⟨rfl, o, hk, hc, hd⟩ | ⟨rfl, hk⟩ | ⟨rfl, S, n, hk⟩
    · obtain ⟨its, _, pl, _⟩ := I.list hq
      refine ⟨pl.isList.typeIs, fun a e => ?_⟩
      cases e
      obtain ⟨o, n, e, c, hd, _⟩ := pl
      exact ⟨o, e, hd⟩
    · refine ⟨⟨o, I.kIn p o hk, hc⟩, fun a e => ?_⟩
      cases e
      exact ⟨o, I.kIn _ o hk, hd⟩
    · have z : ∃ o, s.heap.get? p = some o ∧ o.ExactDict := by
        rcases hk with ⟨kvs, hk⟩ | ⟨kvs, hk⟩
        · obtain ⟨_, _, _, _, o, _, _, e, ex, _⟩ := I.hok p _ hk
          exact ⟨o, e, ex⟩
        · obtain ⟨_, _, _, _, o, _, _, e, ex, _⟩ := I.hok p _ hk
          exact ⟨o, e, ex⟩
      obtain ⟨o, e, ex⟩ := z
      refine ⟨⟨o, e, ex.1⟩, fun a e2 => ?_⟩
      cases e2
      exact ⟨o, e, ex.2.1⟩
    · obtain ⟨o, _, _, _, e, ex, _⟩ := I.hok p _ hk
      refine ⟨⟨o, e, ex.1⟩, fun a e2 => ?_⟩
      cases e2
      exact ⟨o, e, ex.2.1⟩
  | _ => exact False.elim ty
inductive tBM0_i (K : PySem.W.Frag) (T : String) (r : V → List V → Hp → VK → Prop) (Q : VK) (x : V) (H1 : Hp) : Prop
  | mk  : (tyV K T x H1) → (r x [] H1 Q) → tBM0_i K T r Q x H1
def tBM0 (K : PySem.W.Frag) (T : String) (r : V → List V → Hp → VK → Prop) (to : TE) : TE := fun σ H Q => to σ H fun x H1 => tBM0_i K T r Q x H1
inductive tBM_i (K : PySem.W.Frag) (T : String) (r : V → List V → Hp → VK → Prop) (t : TA) (σ : St) (Q : VK) (x : V) (H1 : Hp) : Prop
  | mk  : (tyV K T x H1) → (t σ H1 fun xs H2 => r x xs H2 Q) → tBM_i K T r t σ Q x H1
def tBM (K : PySem.W.Frag) (T : String) (r : V → List V → Hp → VK → Prop) (to : TE) (t : TA) : TE := fun σ H Q => to σ H fun x H1 => tBM_i K T r t σ Q x H1
variable {o e : Expr} {es : List Expr} {to : TE} {t : TA} {name : Str} {apos cpos : Pos} {T id : String} {r : V → List V → Hp → VK → Prop}
theorem pe_bm0 (pa : PlainAttrs T) (slot : Slot T name id) (hty : typeOf (.builtin id) = pure (.type "method_descriptor")) (hm : MtR X id r) (ho : PE X o to)
    (hbase : attributeBase o name X.env (eval o X.env) = eval o X.env := by rfl) (hline : (apos.endLine == cpos.line) = true := by rfl) : PE X (.Call (.Attribute o name apos) [] [] cpos) (tBM0 X.K T r to) := by
  intro pins s σ H Q I h
  refine wpAny_Call_method0_late hbase hline (thn (ho pins s σ H _ I h) fun v s1 ⟨x, H1, I1, r1, ty, q1⟩ => ?_)
  obtain ⟨h1, h2⟩ := tyV_is I1 r1 ty
  exact ⟨T, id, pa, slot, hty, h1, h2, Calls.callWith_builtin rfl (PySem.evalArgs_none (hm pins s1 σ H1 x [] v [] Q I1 r1 .nil q1))⟩
theorem pe_bm (pa : PlainAttrs T) (slot : Slot T name id) (hty : typeOf (.builtin id) = pure (.type "method_descriptor")) (hm : MtR X id r) (ho : PE X o to) (ha : PA X (e :: es) t)
    (hbase : attributeBase o name X.env (eval o X.env) = eval o X.env := by rfl)
    (hfew : ((backTo cpos (starEach (e :: es) X.env)).all (fun x => !x.1) && (backToKw cpos (keywordEach [] X.env)).all (fun x => x.1.isSome)
      && decide ((e :: es).length + ([] : List Keyword).length + (if ([] : List Keyword).isEmpty then 0 else 1) < 30)) = true := by rfl)
    (hline : (apos.endLine == cpos.line) = true := by rfl) (hs : starEach (e :: es) X.env = (false, eval e X.env) :: starEach es X.env := by rfl) (hplain : (backTo cpos (starEach es X.env)).any (·.1) = false := by rfl) :
    PE X (.Call (.Attribute o name apos) (e :: es) [] cpos) (tBM X.K T r to t) := by
  intro pins s σ H Q I h
  refine wpAny_Call_method_late hbase hfew hline rfl (thn (ho pins s σ H _ I h) fun v s1 ⟨x, H1, I1, r1, ty, q1⟩ => ?_)
  obtain ⟨h1, h2⟩ := tyV_is I1 r1 ty
  refine ⟨T, id, pa, slot, hty, h1, h2, ?_⟩
  have hA := ha cpos pins s1 σ H1 _ I1 q1
  rw [hs] at hA ⊢
  refine Calls.callWith_builtin (by show (false || (backTo cpos (starEach es X.env)).any (·.1)) = false; rw [hplain] <;> rfl) (Calls.evalArgs_plain ?_)
  exact thn hA fun us s2 ⟨vs, H2, I2, r2, q2⟩ => hm pins s2 σ H2 x vs v us Q I2 r1 r2 q2
/- xs.append(e), list.index on a module's tuple .. are MtR facts of 06m -/
end
end L2
namespace L2
open PySem PySem.Spec PyProof.Rows
def MtM (X : Cx) (id : String) (r : V → List V → Hp → VK → Prop) : Prop :=
  ∀ (pins : List (Addr × Obj)) (s : Shared) (σ : St) (H : Hp) (x : V) (xs : List V) (v : Value) (us : List Value) (Q : VK), Inv X pins σ H s → RelV x v → Vals xs us → r x xs H Q →
    wpAny (model X.prog X.w) X.A (call (.builtin id) (v :: us)) (EP X pins σ Q) X.xe s
theorem Vals.one : ∀ {x : V} {us : List Value}, Vals [x] us → ∃ u, us = [u] ∧ RelV x u
  | _, _, .cons r .nil => ⟨_, rfl, r⟩
theorem Vals.zero : ∀ {us : List Value}, Vals [] us → us = []
  | _, .nil => rfl
theorem Vals.dropLast {xs : List V} {us : List Value} (h : Vals xs us) : Vals xs.dropLast us.dropLast := by
  induction h with
  | nil => exact .nil
  | cons r t ih =>
    cases t with
    | nil => exact .nil
    | cons q t' => exact .cons r ih
theorem Vals.eraseIdx : ∀ {xs : List V} {us : List Value} (i : Nat), Vals xs us → Vals (xs.eraseIdx i) (us.eraseIdx i)
  | _, _, _, .nil => .nil
  | _, _, 0, .cons _ t => t
  | _, _, i + 1, .cons r t => .cons r (Vals.eraseIdx i t)
theorem erase_last {α : Type} (l : List α) : l.eraseIdx (l.length - 1) = l.dropLast := by
  induction l with
  | nil => rfl
  | cons a r ih =>
    cases r with
    | nil => rfl
    | cons b r =>
      have e : (a :: b :: r).length - 1 = ((b :: r).length - 1) + 1 := by
        have h1 : (a :: b :: r).length = r.length + 2 := rfl
        have h2 : (b :: r).length = r.length + 1 := rfl
        lia
      rw [e, List.eraseIdx_cons_succ, ih]
      all_goals rfl
theorem len_erase {α : Type} : ∀ (l : List α) (i : Nat), (l.eraseIdx i).length ≤ l.length
  | [], _ => Nat.le_refl _
  | _ :: _, 0 => Nat.le_succ _
  | _ :: r, i + 1 => Nat.succ_le_succ (len_erase r i)
section
variable {X : Cx} {pins : List (Addr × Obj)} {σ : St} {H : Hp} {s : Shared} {l b : Addr} {xs ys zs : List V}
theorem Inv.lset {its its' : List Value} {n : Nat} {f : Array Value → Array Value} {t' : Nat} (I : Inv X pins σ H s) (hH : H l = some (.lst xs))
    (e : s.heap.get? l = some { cls := .type "list", data := .seq its.toArray n }) (hf : f its.toArray = its'.toArray) (hv : Vals ys its') (hz : ys.length ≤ sizeLine) :
    Inv X pins σ (upd H l (.lst ys)) { s with heap := s.heap.update l (Obj.mapSeq f), toks := t' } := by
  have q := PySem.IsL.update e f
  rw [hf] at q
  refine I.write (x := l) (e := l) (by rw [hH]; exact trivial) (.inl rfl) (fun b' u hb hu => (Heap.get?_update_other s.heap (Obj.mapSeq f) (Ne.symm hb)).trans hu) ⟨_, q⟩ ?_
  exact ⟨hz, its', _, hv, q⟩
theorem Inv.lnew {its : List Value} {t' : Nat} (I : Inv X pins σ H s) (hv : Vals ys its) (hz : ys.length ≤ sizeLine) :
    Inv X pins σ (upd H s.heap.objs.size (.lst ys)) { s with heap := s.heap.push { cls := .type "list", data := .seq its.toArray }, toks := t' } :=
  I.laid (fun _ _ q => Heap.get?_push_of_some _ q) (Nat.le_refl _) ⟨hz, its, 0, hv, Heap.get?_push_size _ rfl⟩
theorem Inv.fresh (I : Inv X pins σ H s) : H s.heap.objs.size = none := I.hok.fresh (Nat.le_refl _)
theorem Inv.lstM (I : Inv X pins σ H s) (hH : H l = some (.lst xs)) : xs.length ≤ sizeLine ∧ ∃ (its : List Value) (n : Nat), Vals xs its ∧ xs.length = its.length ∧ s.heap.get? l = some { cls := .type "list", data := .seq its.toArray n } := by
  obtain ⟨z, its, n, r, e⟩ := I.hok l _ hH
  exact ⟨z, its, n, r, r.length, e⟩
theorem notLongL {n : Nat} (h : n ≤ sizeLine) : Builtin.List.listTooLong n = false := by
  unfold Builtin.List.listTooLong
  exact decide_eq_false (by lia)
end
section
variable {X : Cx}
inductive rAppend_i (x : V) (vs : List V) (H : Hp) (Q : VK) : Prop
  | mk (l xs y) : (x = .ref l) → (vs = [y]) → (H l = some (.lst xs)) → (xs.length < sizeLine) → (Q .non (upd H l (.lst (xs ++ [y])))) → rAppend_i x vs H Q
def rAppend  : V → List V → Hp → VK → Prop := fun x vs H Q => rAppend_i x vs H Q
theorem mt_append : MtM X "list.append" rAppend := by
  intro pins s σ H x vs v us Q I rx rv h
  obtain ⟨l, xs, y, rfl, rfl, hH, hz, q⟩ := h
  cases rx
  obtain ⟨u, rfl, ru⟩ := rv.one
  obtain ⟨z, its, n, r, hl, e⟩ := I.lstM hH
  refine call_meets F.slot_list_append ⟨_, e, rfl⟩ F.entry_list_append (F.args_list_append_2 _ _) (PySem.list_append l its.toArray n u (by rw [List.size_toArray]; lia)) ⟨e, ?_⟩
  refine ⟨.non, _, I.lset (its' := its ++ [u]) hH e (by simp) (r.append (.cons ru .nil)) ?_, rfl, q⟩
  rw [List.length_append, List.length_singleton]
  lia
inductive rExtend_i (x : V) (vs : List V) (H : Hp) (Q : VK) : Prop
  | mk (l b xs zs) : (x = .ref l) → (vs = [.ref b]) → (H l = some (.lst xs)) → (H b = some (.lst zs)) → (xs.length + zs.length ≤ sizeLine) → (Q .non (upd H l (.lst (xs ++ zs)))) → rExtend_i x vs H Q
def rExtend  : V → List V → Hp → VK → Prop := fun x vs H Q => rExtend_i x vs H Q
theorem mt_extend : MtM X "list.extend" rExtend := by
  intro pins s σ H x vs v us Q I rx rv h
  obtain ⟨l, b, xs, zs, rfl, rfl, hH, hB, hz, q⟩ := h
  cases rx
  obtain ⟨u, rfl, ru⟩ := rv.one
  cases ru
  obtain ⟨z, its, n, r, hl, e⟩ := I.lstM hH
  obtain ⟨z2, its2, n2, r2, hl2, e2⟩ := I.lstM hB
  have hsz : its.toArray.size + its2.toArray.size ≤ sizeLine := by rw [List.size_toArray, List.size_toArray]; lia
  have hlong : ¬ (!its.toArray.isEmpty && Builtin.List.listTooLong (its.toArray.size + its2.toArray.size)) = true := by
    rw [notLongL hsz, Bool.and_false]
    exact Bool.false_ne_true
  refine call_meets F.slot_list_extend ⟨_, e, rfl⟩ F.entry_list_extend (F.args_list_extend_2 _ _)
    (AutoSeq1.list_extend_list_list_0 l its.toArray n b its2.toArray n2 hlong (by rw [List.size_toArray]; lia) (by lia)) ⟨e, e2, ?_⟩
  refine ⟨.non, _, I.lset (its' := its ++ its2) hH e (by simp) (r.append r2) ?_, rfl, q⟩
  rw [List.length_append]
  lia
inductive rPop_i (x : V) (vs : List V) (H : Hp) (Q : VK) : Prop
  | mk (l xs y) : (x = .ref l) → (vs = []) → (H l = some (.lst xs)) → (xs[xs.length - 1]? = some y) → (Q y (upd H l (.lst xs.dropLast))) → rPop_i x vs H Q
def rPop  : V → List V → Hp → VK → Prop := fun x vs H Q => rPop_i x vs H Q
theorem mt_pop : MtM X "list.pop" rPop := by
  intro pins s σ H x vs v us Q I rx rv h
  obtain ⟨l, xs, y, rfl, rfl, hH, hy, q⟩ := h
  cases rx
  have hus := rv.zero
  subst hus
  obtain ⟨z, its, n, r, hl, e⟩ := I.lstM hH
  obtain ⟨u, hu, ru⟩ := r.get hy
  have hy' : its.toArray[its.toArray.size - 1]? = some u := by
    show its.toArray[its.length - 1]? = some u
    rw [← Array.getElem?_toList, ← hl]
    exact hu
  refine call_meets F.slot_list_pop ⟨_, e, rfl⟩ F.entry_list_pop (F.args_list_pop_1 _) (MeetsSeq.list_pop_last l its.toArray n u hy' (by rw [List.size_toArray]; lia)) ⟨e, ?_⟩
  refine ⟨y, _, I.lset (its' := its.dropLast) hH e ?_ r.dropLast ?_, ru, q⟩
  · show its.toArray.eraseIdxIfInBounds (its.toArray.size - 1) = its.dropLast.toArray
    rw [List.size_toArray, List.eraseIdxIfInBounds_toArray, erase_last]
  · rw [List.length_dropLast]
    lia
inductive rPopAt_i (x : V) (vs : List V) (H : Hp) (Q : VK) : Prop
  | mk (l xs i k y) : (x = .ref l) → (vs = [.int i]) → (H l = some (.lst xs)) → (-(2 ^ 63) ≤ i) → (i < 2 ^ 63) → (seqIndex? i xs.length = some k) → (xs[k]? = some y) → (Q y (upd H l (.lst (xs.eraseIdx k)))) → rPopAt_i x vs H Q
def rPopAt  : V → List V → Hp → VK → Prop := fun x vs H Q => rPopAt_i x vs H Q
theorem mt_popAt : MtM X "list.pop" rPopAt := by
  intro pins s σ H x vs v us Q I rx rv h
  obtain ⟨l, xs, i, k, y, rfl, rfl, hH, h1, h2, hk, hy, q⟩ := h
  cases rx
  obtain ⟨u, rfl, ru⟩ := rv.one
  obtain ⟨t, rfl⟩ := ru
  obtain ⟨z, its, n, r, hl, e⟩ := I.lstM hH
  obtain ⟨w, hw, rw'⟩ := r.get hy
  refine call_meets F.slot_list_pop ⟨_, e, rfl⟩ F.entry_list_pop (F.args_list_pop_2 _ _)
    (MeetsSeq.list_pop_at l its.toArray n i t k w (fitsIndex_both h1 h2) (by rw [List.size_toArray, ← hl]; exact hk) (by rw [← Array.getElem?_toList]; exact hw) (by rw [List.size_toArray]; lia)) ⟨e, ?_⟩
  refine ⟨y, _, I.lset (its' := its.eraseIdx k) hH e ?_ (r.eraseIdx k) ?_, rw', q⟩
  · show its.toArray.eraseIdxIfInBounds k = (its.eraseIdx k).toArray
    rw [List.eraseIdxIfInBounds_toArray]
  · have := len_erase xs k
    lia
def rClear : V → List V → Hp → VK → Prop := fun x vs H Q => ∃ l xs, x = .ref l ∧ vs = [] ∧ H l = some (.lst xs) ∧ Q .non (upd H l (.lst []))
theorem mt_clear : MtM X "list.clear" rClear := by
  intro pins s σ H x vs v us Q I rx rv h
  obtain ⟨l, xs, rfl, rfl, hH, q⟩ := h
  cases rx
  have hus := rv.zero
  subst hus
  obtain ⟨z, its, n, r, hl, e⟩ := I.lstM hH
  refine call_meets F.slot_list_clear ⟨_, e, rfl⟩ F.entry_list_clear (F.args_list_clear_1 _) (AutoSeq1.list_clear_list_0 l its.toArray n (by rw [List.size_toArray]; lia)) ⟨e, ?_⟩
  exact ⟨.non, _, I.lset (its' := []) (ys := []) hH e rfl .nil (Nat.zero_le _), rfl, q⟩
inductive rCat_i (x : V) (y : V) (H : Hp) (Q : VK) : Prop
  | mk (l b xs zs) : (x = .ref l) → (y = .ref b) → (H l = some (.lst xs)) → (H b = some (.lst zs)) → (xs.length + zs.length ≤ sizeLine) → (∀ p, H p = none → Q (.ref p) (upd H p (.lst (xs ++ zs)))) → rCat_i x y H Q
def rCat  : R2 := fun x y H Q => rCat_i x y H Q
theorem op_cat : OpR X (binaryOp .Add) rCat := by
  intro pins s σ H x y v u Q I rx ry h
  obtain ⟨l, b, xs, zs, rfl, rfl, hH, hB, hz, q⟩ := h
  cases rx
  cases ry
  obtain ⟨z, its, n, r, hl, e⟩ := I.lstM hH
  obtain ⟨z2, its2, n2, r2, hl2, e2⟩ := I.lstM hB
  refine PySem.P.add_list e e2 ?_ (by rw [List.size_toArray, List.size_toArray]; lia)
  have ea : its.toArray ++ its2.toArray = (its ++ its2).toArray := by simp
  rw [ea]
  exact ⟨.ref _, _, I.lnew (t' := s.toks) (r.append r2) (by rw [List.length_append]; lia), rfl, q _ I.fresh⟩
end
section
variable {prog : Program} {w : World} {A : Around} {E : Value → Shared → Prop} {s : Shared}
end
section
variable {X : Cx}
end
end L2
namespace Att
open PySem PySem.W PySem.Calls PyProof.Rows
theorem ints_of_wellAll {P : Params} {h : Heap} : ∀ (ns : List Int) (vs : List Value), WellAll P h vs (ns.map WData.int) → IntsAre vs ns := by
  intro ns
  induction ns with
  | nil =>
    intro vs w
    rw [List.map_nil] at w
    cases w
    exact .nil
  | cons n ns ih =>
    intro vs w
    rw [List.map_cons] at w
    cases w with
    | cons a b =>
      cases a
      exact .cons _ _ (ih _ b)
theorem script_of {l : OpenLaw} {n : Nat} (hn : l.most = some n) {P : Params} {h : Heap} {args : List WData} {vals : List Value}
    (hpre : l.row.toRowW.claim.pre args = true) (hwl : WellAll P h vals args) :
    ∃ a vs ns, vals = [Value.ref a] ∧ args = [WData.list (ns.map WData.int)] ∧ h.get? a = some { cls := .type "list", data := .seq vs.toArray } ∧ IntsAre vs ns ∧ ns.length ≤ n := by
  have hsh : WShape.hasAll [] args [.list .int] = true := (pre_splitW hpre).1
  have hc : l.pre.holds [] { args := args } = true := (pre_splitW hpre).2
  obtain ⟨d, r, rfl, h1, h2⟩ := hasAllW_cons hsh
  obtain rfl := hasAllW_nil h2
  obtain ⟨xs, rfl, h3⟩ := hasW_list h1
  obtain ⟨ns, rfl⟩ := items_int h3
  have hlen : ns.length ≤ n := by
    unfold OpenLaw.pre at hc
    have h4 : (WTm.not (.lt (.lit (.int (n : Int))) (.len (.arg 0)))).holds [] { args := [.list (ns.map .int)] } = true := by
      have h4 := (holds_andW hc).1
      rw [hn] at h4
      exact h4
    have h5 := condW_of h4 (w_not (w_lt w_lit (w_len_list (w_arg rfl))))
    rw [List.length_map] at h5
    refine Nat.le_of_not_lt fun q => ?_
    have q' : (n : Int) < ((ns.length : Nat) : Int) := by lia
    first
      | (rw [decide_eq_true q'] at h5; exact absurd h5 (by decide))
      | (simp at h5; lia)
  cases hwl with
  | cons w1 w2 =>
    cases w2
    cases w1 with
    | list ho hall => exact ⟨_, _, ns, rfl, rfl, ho, ints_of_wellAll ns _ hall, hlen⟩
theorem post_true (l : OpenLaw) (args : List WData) : l.row.toRowW.claim.post args (.bool true) args = true :=
  postW_of (r := l.row.toRowW) (X := (true == true))
    (show WShape.has [] (.bool true) .bool = true by first | rfl | decide | simp [WShape.has, WShape.arms, WShape.armsAll])
    (show (WTm.eq .res (.lit (.bool true))).value [] { args := args, res := some (.bool true), after := args } = some (.bool (true == true)) from w_eq_bool (w_res rfl) w_lit) rfl
/-- the same from a codeAny of the CALL (for a layer whose function contracts speak of calls) -/
theorem attach_call {l : OpenLaw} {n : Nat} {q : Program} {loose : List Str} {XP : (Str → Option Value) → Heap → Prop} {YP : World → Heap → Prop} {d : DefRec}
    (hn : l.most = some n) (hdf : d.params.defaults = [])
    (call : ∀ (w : World) (s₀ s₁ : Shared) (mg mb : Str → Option Value) (fa : Addr) (o : Obj) (pm cd doc : Value) (a : Addr) (vs : List Value) (ns : List Int),
      Ground q loose [] XP w s₀ mg mb s₁.heap → YP w s₁.heap →
      s₁.heap.get? fa = some o → o.data = .func (docDef d.name d.params d.body d.scope pm cd doc) → s₁.heap.CodeRec cd d.name → mg d.name = some (.ref fa) →
      s₁.heap.get? a = some { cls := .type "list", data := .seq vs.toArray } → IntsAre vs ns → ns.length ≤ n → s₁.gens = #[] →
      codeAny (model l.prog w) callerA (.call (.ref fa) ⟨[.ref a], []⟩) (fun r s' => r = .ok (.ret (.bool true)) ∧ OldK s₁.heap s'.heap ∧ s'.os = s₁.os ∧ AllBare s'.gens) s₁) :
    WalkO q loose XP YP l.row.toRowW d [] (fun f vs => PySem.call f vs) := by
  intro w s₀ s₁ mg mb G Y fa o pm cd doc dV kV ho hd hcd hD hmg hg args vals as hpre hlay hrd hwl hlo
  obtain rfl : dV = .none := Dflts.none hD hdf
  obtain rfl : kV = .none := Dflts.noKw hD
  obtain ⟨a, vs, ns, rfl, rfl, hobj, hints, hlen⟩ := script_of hn hpre hwl
  refine enter_call (codeAny_mono (call w s₀ s₁ mg mb fa o pm cd doc a vs ns G Y ho (fd_plain hd) hcd hmg hobj hints hlen hg) fun r s' hq => ?_)
  obtain ⟨rfl, h2, h3, h4⟩ := hq
  exact ⟨.inl ⟨.bool true, .bool true, [], rfl, fun _ => rfl, .bool true, post_true l _, fun _ => ⟨List.Pairwise.nil, fun _ hm => (nomatch hm)⟩⟩, h2, h3, h4⟩
section
variable {prog : Program} {w : World} {A : Around} {E : Value → Shared → Prop} {s : Shared} {K : Frag}
end
end Att
namespace L2
open PySem PySem.Spec PyProof.Rows
theorem vals_ints : ∀ {vs : List Value} {ns : List Int}, IntsAre vs ns → Vals (ns.map V.int) vs
  | _, _, .nil => .nil
  | _, _, .cons n t h => .cons ⟨t, rfl⟩ (vals_ints h)
/-- nothing is tracked but the script, known to the object (or it is an object of the module) -/
def Only (H : Hp) : Prop := ∀ b, H b = none ∨ ∃ o xs, H b = some (.frz o (.lst xs))
/-- THE HEAD: the law's promise, at the heap behind the top. F, the promise of the law's def, may use that base is part of the heap (so K.In base, base.Ns mainGlobals mg stand in Mod) -/
theorem law_call {P : Program} {w : World} {K : PySem.W.Frag} {mg mb : Str → Option Value} {CX : CXT} {k : Nat} {fa a : Addr} {fd : FuncData} {x : Str} {sp : Sp} {s₁ : Shared} {vs : List Value} {ns : List Int}
    (KX : K.In s₁.heap) (hns : s₁.heap.Ns mainGlobals mg) (hb : s₁.heap.Ns builtinsNs mb) (hbb : ∀ x : Str, x ≠ "__name__" → mb x = bootBuiltins x) (hlim : s₁.heap.NoLimit) (hg : s₁.gens = #[])
    (ha : s₁.heap.get? a = some { cls := .type "list", data := .seq vs.toArray }) (hi : IntsAre vs ns) (hl : ns.length ≤ sizeLine) (hr : Room k callerA)
    (F : ∀ base : Heap, K.In base → base.Ns mainGlobals mg → FnOk P w K mg base CX k fa fd [x] sp) (hbind : ∀ (s : Shared) (u : Value), BindsTo s fd ⟨[u], []⟩ [(x, u)])
    (hsp : ∀ H : Hp, Only H → SqL K H a (ns.map V.int) → sp [.ref a] H (fun v _ => v = .bl true) fun _ _ _ => False)
    (hCX : ∀ H e s', CX [] H s₁ (fun _ _ _ => False) e s' → False) :
    codeAny (model P w) callerA (.call (.ref fa) ⟨[.ref a], []⟩) (fun r s' => r = .ok (.ret (.bool true)) ∧ OldK s₁.heap s'.heap ∧ s'.os = s₁.os ∧ AllBare s'.gens) s₁ := by
  have rv := vals_ints hi
  have lenV := hi.length
  -- from an abstract heap in which nothing but the script may be tracked
  have core : ∀ H : Hp, Only H → SqL K H a (ns.map V.int) → HOk P w H s₁.heap → (∀ b, H b ≠ none → b = a) → (H a ≠ none → K.lookup a = none) →
      codeAny (model P w) callerA (.call (.ref fa) ⟨[.ref a], []⟩) (fun r s' => r = .ok (.ret (.bool true)) ∧ OldK s₁.heap s'.heap ∧ s'.os = s₁.os ∧ AllBare s'.gens) s₁ := by
    intro H hO hS hok hA hK
    have base_of : ∀ {b : Addr} {o : Obj}, s₁.heap.get? b = some o → H b = none → (hidT s₁.heap H).get? b = some o := fun e n => hidT_get e n
    have noA : ∀ {b : Addr} {o : Obj} {es : Array DictEntry} {ep : Nat}, s₁.heap.get? b = some o → o.data = .dict es ep → H b = none := fun {b o es ep} e d => by
      cases q : H b with
      | none => rfl
      | some u =>
        have e' : b = a := hA b (by rw [q]; simp)
        subst e'
        rw [ha] at e; cases e
        have d' : Data.seq vs.toArray _ = Data.dict es ep := d
        cases d'
    have nsK : ∀ {b : Addr} {m : Str → Option Value}, s₁.heap.Ns b m → (hidT s₁.heap H).Ns b m := fun {b m} ⟨o, es, ep, e, d, r⟩ => ⟨o, es, ep, base_of e (noA e d), d, r⟩
    have hKb : K.In (hidT s₁.heap H) := fun b o e => base_of (KX b o e) (by
      cases q : H b with
      | none => rfl
      | some u =>
        have e' : b = a := hA b (by rw [q]; simp)
        subst e'
        rw [hK (by rw [q]; simp)] at e; cases e)
    have hM : Mod K mg (hidT s₁.heap H) := ⟨hKb, nsK hns, ⟨mb, nsK hb, hbb⟩, let ⟨mc, h1, h2⟩ := hlim; ⟨mc, nsK h1, h2⟩⟩
    have e0 : Env0 P w K mg (hidT s₁.heap H) callerA [] s₁ H := ⟨rfl, hM, fun b o e => of_hidT e, Nat.le_of_eq (hidT_size _ _), trivial, fun b hb => absurd (show b ∈ ([] : List Addr) from hb) (by simp), hok, .of_eq hg⟩
    refine codeAny_mono ((F _ hKb (nsK hns)).run callerA [] s₁ H ⟨[.ref a], []⟩ [.ref a] [.ref a] _ _ hr e0 (hbind s₁ (.ref a)) (.cons rfl .nil) (hsp H hO hS)) fun r s' h => ?_
    cases r with
    | error e => exact (hCX H e s' h).elim
    | ok fl =>
      cases fl with
      | next => exact False.elim h
      | brk => exact False.elim h
      | cont => exact False.elim h
      | ret u =>
        obtain ⟨v, H', os, bare, un, hok', r', q⟩ := h
        have q' : v = .bl true := q
        subst q'
        obtain rfl : u = Value.bool true := r'
        refine ⟨rfl, OldK.of_keep fun b o e => ?_, os, bare⟩
        cases q : H b with
        | none => exact un.keep b o e q (by intro z; exact absurd (show b ∈ ([] : List Addr) from z) (by simp)) (by simp)
        | some u =>
          rcases hO b with z | ⟨ob, xs, z⟩
          · rw [q] at z; cases z
          · have z2 := un.frzs b ob _ z
            obtain ⟨e1, _⟩ := hok b _ z
            obtain ⟨e2, _⟩ := hok' b _ z2
            rw [e] at e1; cases e1
            exact e2
  cases hk : K.lookup a with
  | some o =>
    -- the script is one of the module's own objects
    have e := KX a o hk
    rw [ha] at e
    cases e
    refine core (fun _ => none) (fun _ => .inl rfl) (.inr ⟨_, vs.toArray, _, hk, rfl, rfl, rfl, by rw [List.size_toArray, lenV]; exact hl, by simpa using rv⟩) (fun b u z => by have z' : (none : Option HO) = some u := z; cases z') (fun b z => absurd rfl z) fun z => absurd rfl z
  | none =>
    refine core (fun b => if b = a then some (.frz { cls := .type "list", data := .seq vs.toArray } (.lst (ns.map V.int))) else none) (fun b => ?_) (.inl (.inr ⟨{ cls := .type "list", data := .seq vs.toArray }, if_pos rfl⟩)) (fun b u z => ?_) (fun b z => ?_) fun _ => hk
    · by_cases hb : b = a
      · exact .inr ⟨_, _, if_pos hb⟩
      · exact .inl (if_neg hb)
    · by_cases hb : b = a
      · have z' := (if_pos hb).symm.trans z
        cases z'
        subst hb
        exact ⟨ha, by rw [List.length_map]; exact hl, vs, _, rv, ha⟩
      · have z' := (if_neg hb).symm.trans z
        cases z'
    · by_cases hb : b = a
      · exact hb
      · exact absurd (if_neg hb) z
end L2
namespace L2
open PySem PySem.Spec PyProof.Rows
/-- the goal that k_head leaves (case hc), from the law's promise. F gives the function object fd (K's own) once, then the promise over every base -/
theorem walk_of {l : PySem.W.OpenLaw} {n k : Nat} {q : Program} {loose : List Str} {XP : (Str → Option Value) → Heap → Prop} {YP : World → Heap → Prop} {d : DefRec} {K : Params → PySem.W.Frag} {CX : World → CXT} {sp : World → Sp} {x : Str}
    (hn : l.most = some n) (hn2 : n ≤ sizeLine) (hdf : d.params.defaults = []) (hr : Room k callerA)
    (hY : ∀ (w : World) (h : Heap), YP w h → (K w.params).In h)
    (F : ∀ (w : World) (mg : Str → Option Value) (fa : Addr) (h : Heap), (K w.params).In h → h.Ns mainGlobals mg → mg d.name = some (.ref fa) →
      ∃ fd : FuncData, (∀ (s : Shared) (u : Value), BindsTo s fd ⟨[u], []⟩ [(x, u)]) ∧
        ∀ base : Heap, (K w.params).In base → base.Ns mainGlobals mg → FnOk l.prog w (K w.params) mg base (CX w) k fa fd [x] (sp w))
    (hsp : ∀ (w : World) (H : Hp) (a : Addr) (ns : List Int), ns.length ≤ n → Only H → SqL (K w.params) H a (ns.map V.int) → sp w [.ref a] H (fun v _ => v = .bl true) fun _ _ _ => False)
    (hCX : ∀ (w : World) (H : Hp) (s : Shared) (e : Value) (s' : Shared), CX w [] H s (fun _ _ _ => False) e s' → False) :
    PySem.W.WalkO q loose XP YP l.row.toRowW d [] (fun f vs => PySem.call f vs) := by
  refine Att.attach_call hn hdf fun w s₀ s₁ mg mb fa o pm cd doc a vs ns G Y ho hd hcd hmg hobj hints hlen hg => ?_
  have KX := hY w _ Y
  obtain ⟨fd, hb, hF⟩ := F w mg fa _ KX G.T.g hmg
  exact law_call KX G.T.g G.T.b G.T.builtins G.T.nolimit hg hobj hints (Nat.le_trans hlen hn2) hr hF hb (fun H hO hS => hsp w H a ns hlen hO hS) fun H e s' => hCX w H s₁ e s'
end L2
namespace L2
open PySem PySem.Spec PyProof.Rows
def defArgs (s : Stmt) : Arguments := match s with
  | .FunctionDef _ a _ _ _ _ _ _ _ _ => a
  | _ => { posonlyargs := [], args := [], vararg := none, kwonlyargs := [], kw_defaults := [], kwarg := none, defaults := [] }
def defBody (s : Stmt) : List Stmt := match s with
  | .FunctionDef _ _ b _ _ _ _ _ _ _ => b
  | _ => []
def defScope (s : Stmt) : Scope := match s with
  | .FunctionDef _ _ _ _ _ _ sc _ _ _ => sc
  | _ => { kind := .function, names := [], isGenerator := false, isCoroutine := false }
abbrev CX0 : CXT := fun _ _ _ _ _ _ => False
abbrev E0 : XK := fun _ _ _ => False
theorem pass0 {X : Cx} : Passes CX0 X E0 := fun _ _ _ _ _ _ _ h => h.elim
structure Fun (K : PySem.W.Frag) (x qual : Str) (st : Stmt) (f : Addr) (fd : FuncData) : Prop where
  ex : ∃ (oc : Value) (od : Option Addr) (kV doc pm : Value) (an : Option Addr) (cdv ct : Value) (osl : Array (Option Value)),
    fd = PySem.W.fnOf x qual (defArgs st) (defBody st) (defScope st) .none kV doc pm an cdv ct ∧ K.lookup f = some ⟨oc, od, .func fd, osl⟩ ∧ PySem.W.codeIn K cdv qual = true
  kp : PySem.W.keepIn K (.ref f) = true
section
variable {P : Program} {w : World} {K : PySem.W.Frag} {mg : Str → Option Value} {base : Heap}
/-- THE RULE for a def: its body as a term of rules, and the reading of that term -/
theorem Fun.ok {x qual : Str} {st : Stmt} {f : Addr} {fd : FuncData} {N ps : List Str} {k : Nat} {sp : Sp} (F : Fun K x qual st f fd) (S : FnScope N ps (defScope st)) (len : ∀ vs H Q E, sp vs H Q E → vs.length = ps.length)
    (hbody : ∀ (cdv : Value) (A : Around) (outer : List Env) (s : Shared) (H : Hp) (vs : List V) (Q : VK) (E : XK), Room k (A.deeper (envOfC qual (defScope st) s.heap.objs.size f cdv)) → sp vs H Q E →
      ∃ t, PSs (cxOf CX0 P w K mg base N qual (defScope st) f cdv A outer s H E).nox (defBody st) t ∧ t { nx := fun _ H' => Q .non H', rt := Q } (start N vs) H) : FnOk P w K mg base CX0 (k + 1) f fd ps sp := by
  obtain ⟨oc, od, kV, doc, pm, an, cdv, ct, osl, rfl, lk, hcd⟩ := F.ex
  refine fn_of lk hcd S len fun A outer s H vs Q E hr hsp => ?_
  obtain ⟨t, h, q⟩ := hbody cdv A outer s H vs Q E hr hsp
  exact ⟨t, h.nox, q⟩
/-- how its arguments bind (no defaults): h is «fun _ _ _ _ _ _ us hl => match us, hl with | [_, _], _ => rfl», one _ a parameter -/
theorem Fun.binds {x qual : Str} {st : Stmt} {f : Addr} {fd : FuncData} {ps : List Str} (F : Fun K x qual st f fd)
    (h : ∀ (kV doc pm : Value) (an : Option Addr) (cdv ct : Value) (us : List Value), us.length = ps.length → bindArgs (PySem.W.fnOf x qual (defArgs st) (defBody st) (defScope st) .none kV doc pm an cdv ct) ⟨us, []⟩ = pure (ps.zip us)) : Binds K fd ps [] := by
  obtain ⟨oc, od, kV, doc, pm, an, cdv, ct, osl, rfl, lk, hcd⟩ := F.ex
  exact .all (h kV doc pm an cdv ct)
theorem fun_mk {x qual : Str} {st : Stmt} {f : Addr} {oc : Value} {od an : Option Addr} {osl : Array (Option Value)} {kV doc pm cdv ct : Value} (l : K.lookup f = some ⟨oc, od, .func (PySem.W.fnOf x qual (defArgs st) (defBody st) (defScope st) .none kV doc pm an cdv ct), osl⟩)
    (c : PySem.W.codeIn K cdv qual = true) (k : PySem.W.keepIn K (.ref f) = true) : Fun K x qual st f (PySem.W.fnOf x qual (defArgs st) (defBody st) (defScope st) .none kV doc pm an cdv ct) := ⟨⟨oc, od, kV, doc, pm, an, cdv, ct, osl, rfl, l, c⟩, k⟩
end
theorem hu_of {A : Around} {k : Nat} (hr : Room k A) : A.units + 1 < cLine := Nat.lt_of_le_of_lt (Nat.add_le_add_left (by decide : 1 ≤ 64) _) hr.units
theorem small1000 {n : Nat} (h : n ≤ 1000) : n < sizeLine := Nat.lt_of_le_of_lt h (by decide)
section
variable {X : Cx}
theorem pv (i : Nat) {x : Str} {pos : Pos} (hN : X.N[i]? = some x := by rfl) (hv : Vis X.env.scope x := by first | exact Or.inl rfl | exact Or.inr (Or.inl rfl) | exact Or.inr (Or.inr rfl)) (hd : (x == ("__debug__" : Str)) = false := by decide)
    (hcd : (x == ("__classdict__" : Str)) = false := by decide) : PE X (.Name x pos) (tVar i) := pe_var hN hv hd hcd
end
theorem iteF {A B : Prop} (h : B) : if false = true then A else B := by
  rw [if_neg Bool.false_ne_true]
  exact h
theorem iteT {A B : Prop} (h : A) : if true = true then A else B := by
  rw [if_pos rfl]
  exact h
theorem ite2 {c A B : Prop} [Decidable c] (h1 : c → A) (h2 : ¬ c → B) : if c then A else B := by
  by_cases h : c
  · rw [if_pos h]
    exact h1 h
  · rw [if_neg h]
    exact h2 h
/-- all that was tracked is as it was -/
def Same (H H' : Hp) : Prop := ∀ b o, H b = some o → H' b = some o
theorem Same.refl (H : Hp) : Same H H := fun _ _ h => h
theorem Same.trans {H H1 H2 : Hp} (a : Same H H1) (b : Same H1 H2) : Same H H2 := fun c o h => b c o (a c o h)
end L2
set_option Elab.async false
set_option linter.all false
set_option maxRecDepth 100000
namespace L2
open PySem PySem.Spec PyProof.Rows
section
variable {X : Cx}
def CDivB (i j : Int) : Prop := 0 < j ∧ j.natAbs.log2 < 9000
theorem op_fdivB : OpR X (binaryOp .FloorDiv) (rI CDivB fun i j => .int (i / j)) := opI fun i j _ _ _ _ _ hc q => by
  have h1 : (0 : Int) < j := hc.1
  exact floordiv_int (by lia) (by rw [Int.fdiv_eq_ediv_of_nonneg i (by lia)]; exact q) (.inl (PyProof.noPylong_of_log2 hc.2))
theorem CDivB.of {i j : Int} (h1 : 0 < j) (h2 : j < 2 ^ 250) : CDivB i j := by
  refine ⟨h1, ?_⟩
  have h3 : j.natAbs < 2 ^ 250 := by lia
  have h4 : j.natAbs ≠ 0 := by lia
  have := (Nat.log2_lt h4).mpr h3
  lia
def CMulB (i j : Int) : Prop := (i.natAbs < 2 ^ 250 ∧ j.natAbs < 2 ^ 250) ∨ CMul i j
theorem CMulB.ok {i j : Int} (h : CMulB i j) : IntMulOk i j := by
  rcases h with ⟨h1, h2⟩ | h
  · refine IntMulOk.of_bits (Nat.le_trans (PyProof.Rows.intBits_le h1) (by decide)) (Nat.le_trans (PyProof.Rows.intBits_le h2) (by decide))
  · exact h.ok
theorem op_mulB : OpR X (binaryOp .Mult) (rI CMulB fun i j => .int (i * j)) := opI fun _ _ _ _ _ _ _ hc q => mul_int q hc.ok
inductive rIsi_i (K : PySem.W.Frag) (xs : List V) (H : Hp) (Q : VK) : Prop
  | mk (x T t b) : (xs = [x, .ty T]) → (TyOf K H x t) → (PySem.W.kitOne K t (.type T) = some b) → (Q (.bl b) H) → rIsi_i K xs H Q
def rIsi (K : PySem.W.Frag) : List V → Hp → VK → Prop := fun xs H Q => rIsi_i K xs H Q
theorem call_isi : CallR X (.builtin "isinstance") (rIsi X.K) := by
  intro pins s σ H xs us Q I r h
  obtain ⟨x, T, t, b, rfl, ty, e, q⟩ := h
  obtain ⟨u, w', rfl, rx, rt⟩ := vals2 r
  cases rt
  exact isinst_ok I rx ty e fun tk => ⟨.bl b, H, I.tok tk, rfl, q⟩
end
def plainE : Expr → Bool
  | .Starred _ _ => false
  | _ => true
theorem starEach_plain {e : Expr} {rest : List Expr} {env : Env} (h : plainE e = true) : starEach (e :: rest) env = (false, eval e env) :: starEach rest env := by
  cases e <;> first
    | rfl
    | cases h
theorem any_plain {pos : Pos} {env : Env} : ∀ {es : List Expr}, es.all plainE = true → (backTo pos (starEach es env)).any (·.1) = false
  | [], _ => rfl
  | e :: es, h => by
    rw [List.all_cons, Bool.and_eq_true] at h
    rw [starEach_plain h.1]
    show (false || (backTo pos (starEach es env)).any (·.1)) = false
    rw [any_plain h.2]
    rfl
theorem all_plain {pos : Pos} {env : Env} : ∀ {es : List Expr}, es.all plainE = true → (backTo pos (starEach es env)).all (fun x => !x.1) = true
  | [], _ => rfl
  | e :: es, h => by
    rw [List.all_cons, Bool.and_eq_true] at h
    rw [starEach_plain h.1]
    show (true && (backTo pos (starEach es env)).all (fun x => !x.1)) = true
    rw [all_plain h.2]
    rfl
section
variable {X : Cx} {CX : CXT} {k : Nat} {f C : Addr} {fd : FuncData} {ps : List Str} {sp : Sp} {dvs : List V} {ds : List Value} {E : XK} {x m : Str} {p pos apos : Pos} {e o : Expr} {es : List Expr} {ta te : TE} {t : TA} {id T : String} {r : List V → Hp → VK → Prop}
theorem pa_c (ha : PE X e te) (hr : PA X es t) (hp : plainE e = true := by rfl) : PA X (e :: es) (tCons te t) := pa_cons ha hr (starEach_plain hp)
theorem pe_callF (F : FnOk X.prog X.w X.K X.mg X.base CX k f fd ps sp) (hr : Room k X.A) (hg : Gl X x) (hm : X.mg x = some (.ref f)) (hk : PySem.W.keepIn X.K (.ref f) = true) (hb : Binds X.K fd ps ds) (hd : Vals dvs ds) (hx : Passes CX X E)
    (ha : PA X (e :: es) t) (hdb : (x == ("__debug__" : Str)) = false := by decide) (hp : (e :: es).all plainE = true := by rfl) : PE X (.Call (.Name x p) (e :: es) [] pos) (tCall sp dvs E t) := by
  rw [List.all_cons, Bool.and_eq_true] at hp
  exact pe_call F hr hg hm hk hb hd hx ha hdb (starEach_plain hp.1) (any_plain hp.2)
theorem pe_callBF (hc : CallR X (.builtin id) r) (hg : Gl X x) (hm : X.mg x = none) (hv : bootBuiltins x = some (.builtin id)) (ha : PA X (e :: es) t) (hn : x ≠ "__name__" := by decide) (hdb : (x == ("__debug__" : Str)) = false := by decide)
    (hp : (e :: es).all plainE = true := by rfl) : PE X (.Call (.Name x p) (e :: es) [] pos) (tCB r t) := by
  rw [List.all_cons, Bool.and_eq_true] at hp
  exact pe_callB hc hg hm hv ha hn hdb (starEach_plain hp.1) (any_plain hp.2)
theorem pe_callTF (hc : CallR X (.type T) r) (hg : Gl X x) (hm : X.mg x = none) (hv : bootBuiltins x = some (.type T)) (ha : PA X (e :: es) t) (hn : x ≠ "__name__" := by decide) (hdb : (x == ("__debug__" : Str)) = false := by decide)
    (hp : (e :: es).all plainE = true := by rfl) : PE X (.Call (.Name x p) (e :: es) [] pos) (tCB r t) := by
  rw [List.all_cons, Bool.and_eq_true] at hp
  exact pe_callTy hc hg hm hv ha hn hdb (starEach_plain hp.1) (any_plain hp.2)
theorem pi_rangeF {tg a : Expr} (hg : Gl X "range") (hm : X.mg "range" = none) (ha : PA X [a] t) (hp : plainE a = true := by rfl) : PI X tg (.Call (.Name "range" p) [a] [] pos) (iRng1 t) :=
  pi_range1 hg hm ha (by rw [starEach_plain hp]; rfl)
theorem pe_bmF {name : Str} {cpos : Pos} {to : TE} {rm : V → List V → Hp → VK → Prop} (pa : PlainAttrs T) (slot : Slot T name id) (hty : typeOf (.builtin id) = pure (.type "method_descriptor")) (hm : MtR X id rm) (ho : PE X o to) (ha : PA X (e :: es) t)
    (hbase : attributeBase o name X.env (eval o X.env) = eval o X.env := by rfl) (hline : (apos.endLine == cpos.line) = true := by rfl) (hp : (e :: es).all plainE = true := by rfl) (hl : (e :: es).length < 30 := by decide) :
    PE X (.Call (.Attribute o name apos) (e :: es) [] cpos) (tBM X.K T rm to t) := by
  have hp' := hp
  rw [List.all_cons, Bool.and_eq_true] at hp'
  refine pe_bm pa slot hty hm ho ha hbase ?_ hline (starEach_plain hp'.1) (any_plain hp'.2)
  rw [all_plain hp]
  show decide ((e :: es).length + 0 + 0 < 30) = true
  exact decide_eq_true hl
end
theorem bt_len : bootBuiltins "len" = some (.builtin "len") := by decide +kernel
theorem bt_isinstance : bootBuiltins "isinstance" = some (.builtin "isinstance") := by decide +kernel
theorem bt_all : bootBuiltins "all" = some (.builtin "all") := by decide +kernel
theorem bt_int : bootBuiltins "int" = some (.type "int") := by decide +kernel
theorem bt_str : bootBuiltins "str" = some (.type "str") := by decide +kernel
theorem bt_list : bootBuiltins "list" = some (.type "list") := by decide +kernel
theorem bt_tuple : bootBuiltins "tuple" = some (.type "tuple") := by decide +kernel
theorem kit_str_str {K : PySem.W.Frag} : PySem.W.kitOne K (.type "str") (.type "str") = some true := by rfl
theorem kit_int_str {K : PySem.W.Frag} : PySem.W.kitOne K (.type "int") (.type "str") = some false := by with_unfolding_all rfl
end L2
set_option Elab.async false
set_option linter.all false
set_option maxRecDepth 100000
namespace L2
open PySem PySem.Spec PyProof.Rows
structure QE (X : Cx) (e : Expr) (t : TE) : Prop where
  out : PE X e t
structure QT (X : Cx) (e : Expr) (t : TT) : Prop where
  out : PT X e t
structure QW (X : Cx) (e : Expr) (t : TT) : Prop where
  out : PW X e t
structure QA (X : Cx) (e : List Expr) (t : TA) : Prop where
  out : PA X e t
structure QSs (X : Cx) (e : List Stmt) (t : TS) : Prop where
  out : PSs X e t
structure QS (X : Cx) (e : Stmt) (t : TS) : Prop where
  out : PS X e t
structure QG (X : Cx) (e : Expr) (t : TG) : Prop where
  out : PG X e t
structure QI (X : Cx) (tg e : Expr) (t : TI) : Prop where
  out : PI X tg e t
structure QO (X : Cx) (e : Option Expr) (t : TO) : Prop where
  out : PO X e t
theorem qv {X : Cx} (i : Nat) {x : Str} {pos : Pos} (hN : X.N[i]? = some x := by rfl) (hv : Vis X.env.scope x := by first | exact Or.inl rfl | exact Or.inr (Or.inl rfl) | exact Or.inr (Or.inr rfl)) (hd : (x == ("__debug__" : Str)) = false := by decide) (hcd : (x == ("__classdict__" : Str)) = false := by decide) : QE X (.Name x pos) (tVar i) := ⟨pv (i := i) (hN := hN) (hv := hv) (hd := hd) (hcd := hcd)⟩
theorem qe_int {X : Cx} {i j pos} : QE X (.Constant (.int i) j pos) (tC (.int i)) := ⟨pe_int ⟩
theorem qe_bl {X : Cx} {b j pos} : QE X (.Constant (.bool b) j pos) (tC (.bl b)) := ⟨pe_bl ⟩
theorem qe_non {X : Cx} {j pos} : QE X (.Constant .none j pos) (tC .non) := ⟨pe_non ⟩
theorem qe_str {X : Cx} {x j pos} : QE X (.Constant (.str x) j pos) (tC (.str x)) := ⟨pe_str ⟩
theorem qe_glob {X : Cx} {x : Str} {v : V} {u : Value} {pos : Pos} (hg : Gl X x) (hm : X.mg x = some u) (r : RelV v u) (hd : (x == ("__debug__" : Str)) = false := by decide) : QE X (.Name x pos) (tC v) := ⟨pe_glob (hg := hg) (hm := hm) (r := r) (hd := hd)⟩
theorem qe_bltn {X : Cx} {x : Str} {v : V} {u : Value} {pos : Pos} (hg : Gl X x) (hm : X.mg x = none) (hv : bootBuiltins x = some u) (r : RelV v u) (hn : x ≠ "__name__" := by decide) (hd : (x == ("__debug__" : Str)) = false := by decide) : QE X (.Name x pos) (tC v) := ⟨pe_bltn (hg := hg) (hm := hm) (hv := hv) (r := r) (hn := hn) (hd := hd)⟩
theorem qe_op {X : Cx} {a : Expr} {b : Expr} {ta : TE} {tb : TE} {pos : Pos} {op : Operator} {r : R2} (ho : OpR X (binaryOp op) r) (ha : QE X a ta) (hb : QE X b tb) : QE X (.BinOp a op b pos) (tOp r ta tb) := ⟨pe_op (ho := ho) (ha := ha.out) (hb := hb.out)⟩
theorem qe_un {X : Cx} {a : Expr} {ta : TE} {pos : Pos} {op : UnaryOp} {r : V → Hp → VK → Prop} (ho : UnR X (unaryOp op) r) (ha : QE X a ta) : QE X (.UnaryOp op a pos) (tUn r ta) := ⟨pe_un (ho := ho) (ha := ha.out)⟩
theorem qe_cmpR {X : Cx} {a : Expr} {b : Expr} {ta : TE} {tb : TE} {pos : Pos} {op : CmpOp} {r : R2} (ho : OpR X (compareOp op) r) (ha : QE X a ta) (hb : QE X b tb) (hm : behindInMarks op b = false) : QE X (.Compare a [op] [b] pos) (tOp r ta tb) := ⟨pe_cmpR (ho := ho) (ha := ha.out) (hb := hb.out) (hm := hm)⟩
theorem qt_cmpR {X : Cx} {a : Expr} {b : Expr} {ta : TE} {tb : TE} {pos : Pos} {op : CmpOp} {r : R2} (ho : OpR X (compareOp op) r) (ha : QE X a ta) (hb : QE X b tb) (hm : behindInMarks op b = false) : QT X (.Compare a [op] [b] pos) (tTest (tOp r ta tb)) := ⟨pt_cmpR (ho := ho) (ha := ha.out) (hb := hb.out) (hm := hm)⟩
theorem qt_val {X : Cx} {e : Expr} {t : TE} (h : QE X e t) (he : ∀ whole, isTrue e X.env whole = (do let v ← whole; standAt e.pos; holding [v] (truthy v)) := by intro _; rfl) : QT X e (tB t) := ⟨pt_val (h := h.out) (he := he)⟩
theorem qw_and1 {X : Cx} {a : Expr} {pos : Pos} {tA : TT} (ha : QT X a tA) : QW X (.BoolOp .And [a] pos) tA := ⟨pw_and1 (ha := ha.out)⟩
theorem qw_or1 {X : Cx} {a : Expr} {pos : Pos} {tA : TT} (ha : QT X a tA) : QW X (.BoolOp .Or [a] pos) tA := ⟨pw_or1 (ha := ha.out)⟩
theorem qw_and {X : Cx} {a : Expr} {b : Expr} {pos : Pos} {tA : TT} {tB' : TT} {rest : List Expr} (ha : QT X a tA) (hb : QW X (.BoolOp .And (b :: rest) pos) tB') : QW X (.BoolOp .And (a :: b :: rest) pos) (tAnd tA tB') := ⟨pw_and (ha := ha.out) (hb := hb.out)⟩
theorem qw_or {X : Cx} {a : Expr} {b : Expr} {pos : Pos} {tA : TT} {tB' : TT} {rest : List Expr} (ha : QT X a tA) (hb : QW X (.BoolOp .Or (b :: rest) pos) tB') : QW X (.BoolOp .Or (a :: b :: rest) pos) (tOr tA tB') := ⟨pw_or (ha := ha.out) (hb := hb.out)⟩
theorem qt_not {X : Cx} {a : Expr} {pos : Pos} {tA : TT} (ha : QT X a tA) : QT X (.UnaryOp .Not a pos) (tNot tA) := ⟨pt_not (ha := ha.out)⟩
theorem qe_one {X : Cx} {a : Expr} {pos : Pos} {op} {t : TE} (h : QE X a t) : QE X (.BoolOp op [a] pos) t := ⟨pe_one (h := h.out)⟩
theorem qe_and {X : Cx} {a : Expr} {b : Expr} {ta : TE} {tb : TE} {pos : Pos} {rest : List Expr} (ha : QE X a ta) (hb : QE X (.BoolOp .And (b :: rest) pos) tb) : QE X (.BoolOp .And (a :: b :: rest) pos) (tAndV ta tb) := ⟨pe_and (ha := ha.out) (hb := hb.out)⟩
theorem qe_or {X : Cx} {a : Expr} {b : Expr} {ta : TE} {tb : TE} {pos : Pos} {rest : List Expr} (ha : QE X a ta) (hb : QE X (.BoolOp .Or (b :: rest) pos) tb) : QE X (.BoolOp .Or (a :: b :: rest) pos) (tOrV ta tb) := ⟨pe_or (ha := ha.out) (hb := hb.out)⟩
theorem qe_ifExp {X : Cx} {a : Expr} {b : Expr} {ta : TE} {tb : TE} {pos : Pos} {tA : TT} {c : Expr} (hc : QT X c tA) (ha : QE X a ta) (hb : QE X b tb) : QE X (.IfExp c a b pos) (tIf tA ta tb) := ⟨pe_ifExp (hc := hc.out) (ha := ha.out) (hb := hb.out)⟩
theorem qss_nil {X : Cx} : QSs X [] tNext := ⟨pss_nil ⟩
theorem qss_cons {X : Cx} {st : Stmt} {rest : List Stmt} {t : TS} {u : TS} (h1 : QS X st t) (h2 : QSs X rest u) : QSs X (st :: rest) (tSeq t u) := ⟨pss_cons (h1 := h1.out) (h2 := h2.out)⟩
theorem qss_one {X : Cx} {st : Stmt} {t : TS} (h1 : QS X st t) : QSs X [st] t := ⟨pss_one (h1 := h1.out)⟩
theorem qs_expr {X : Cx} {e : Expr} {te : TE} {pos : Pos} (he : QE X e te) (hs : swapsWith e none pos.line X.env = pure false := by rfl) : QS X (.Expr e pos) (tDrop te) := ⟨ps_expr (he := he.out) (hs := hs)⟩
theorem qs_ret {X : Cx} {e : Expr} {te : TE} {pos : Pos} (he : QE X e te) : QS X (.Return (some e) pos) (tRet te) := ⟨ps_ret (he := he.out)⟩
theorem qs_if {X : Cx} {t : TS} {u : TS} {pos : Pos} {c : Expr} {a b : List Stmt} {tc : TT} (hc : QT X c tc) (ha : QSs X a t) (hb : QSs X b u) : QS X (.If c a b pos) (tIfS tc t u) := ⟨ps_if (hc := hc.out) (ha := ha.out) (hb := hb.out)⟩
theorem qg_name {X : Cx} {pos : Pos} {i : Nat} {x : Str} (hN : X.N.Nodup) (hi : X.N[i]? = some x) (hx : Loc X.env.scope x) (hf : X.fn x = true ∨ X.env.scope.names.lookup x = some .local := by first | exact .inl rfl | exact .inr rfl | assumption) : QG X (.Name x pos) (gName i) := ⟨pg_name (hN := hN) (hi := hi) (hx := hx) (hf := hf)⟩
theorem qg_sub {X : Cx} {pos : Pos} {o i : Expr} {to ti : TE} {t : TSet} (ho : QE X o to) (hi : QE X i ti) (hs : PSet X t) (ha : ∀ v, assign (.Subscript o i pos) X.env v = (do
      let ov ← holding [v] (eval o X.env)
      let iv ← holding [v, ov] (eval i X.env)
      standAt pos
      holding [v, ov, iv] (setItem ov iv v)
      release [v, ov, iv] []) := by intro _; rfl) : QG X (.Subscript o i pos) (gSub to ti t) := ⟨pg_sub (ho := ho.out) (hi := hi.out) (hs := hs) (ha := ha)⟩
theorem qs_asg {X : Cx} {pos : Pos} {tg e : Expr} {te : TE} {g : TG} (he : QE X e te) (hg : QG X tg g) (hs : swapsWithSole [tg] e pos.line X.env = pure false := by rfl) (hw : swappedStores [tg] e X.env = pure none := by rfl) (h1 : (assignEach [tg] X.env).map (·.2) = [assign tg X.env] := by rfl) : QS X (.Assign [tg] e pos) (tAsg te g) := ⟨ps_asg (he := he.out) (hg := hg.out) (hs := hs) (hw := hw) (h1 := h1)⟩
theorem qs_set {X : Cx} {pos : Pos} {i : Nat} {x : Str} {e : Expr} {te : TE} {pos' : Pos} (hN : X.N.Nodup) (hi : X.N[i]? = some x) (hx : Loc X.env.scope x) (he : QE X e te) (hs : swapsWith e (some (.Name x pos')) pos.line X.env = pure false := by rfl) (hf : X.fn x = true ∨ X.env.scope.names.lookup x = some .local := by first | exact .inl rfl | exact .inr rfl | assumption) : QS X (.Assign [.Name x pos'] e pos) (tAsg te (gName i)) := ⟨ps_set (hN := hN) (hi := hi) (hx := hx) (he := he.out) (hs := hs) (hf := hf)⟩
theorem qs_while {X : Cx} {pos : Pos} {c : Expr} {body : List Stmt} {tc : TT} {tb : TS} (hp : PassesOwn (model X.prog X.w) X.A X.env X.xe) (hc : QT X c tc) (hb : QSs X body tb) : QS X (.While c body [] pos) (tWhile tc tb) := ⟨ps_while (hp := hp) (hc := hc.out) (hb := hb.out)⟩
theorem qi_list {X : Cx} {tg : Expr} {l : Expr} {tl : TE} (hl : QE X l tl) : QI X tg l (iList X.K tl) := ⟨pi_list (hl := hl.out)⟩
theorem qi_tup {X : Cx} {tg : Expr} {l : Expr} {tl : TE} (hl : QE X l tl) : QI X tg l (iTup X.K tl) := ⟨pi_tup (hl := hl.out)⟩
theorem qs_for {X : Cx} {tg : Expr} {iter : Expr} {body : List Stmt} {wi : TI} {g : TG} {tb : TS} {pos : Pos} (hp : PassesOwn (model X.prog X.w) X.A X.env X.xe) (hc : X.calm = true) (hi : QI X tg iter wi) (hg : QG X tg g) (hb : QSs X body tb) (hs : ∀ x, foldedSetIterable iter X.env x = pure x := by intro _; rfl) : QS X (.For tg iter body [] pos) (tFor wi g tb) := ⟨ps_for (hp := hp) (hc := hc) (hi := hi.out) (hg := hg.out) (hb := hb.out) (hs := hs)⟩
theorem qe_tup {X : Cx} {es : List Expr} {t : TA} {pos : Pos} {x1} (h : QA X es t) : QE X (.Tuple es x1 pos) (tTup t) := ⟨pe_tup (h := h.out)⟩
theorem qe_lst {X : Cx} {es : List Expr} {t : TA} {pos : Pos} (h : QA X es t) : QE X (.List es pos) (tLst t) := ⟨pe_lst (h := h.out)⟩
theorem qa_nil {X : Cx} : QA X [] tNil := ⟨pa_nil ⟩
theorem qa_c {X : Cx} {e : Expr} {es : List Expr} {te : TE} {t : TA} (ha : QE X e te) (hr : QA X es t) (hp : plainE e = true := by rfl) : QA X (e :: es) (tCons te t) := ⟨pa_c (ha := ha.out) (hr := hr.out) (hp := hp)⟩
theorem qe_callF {X : Cx} {CX : CXT} {k : Nat} {f : Addr} {fd : FuncData} {ps : List Str} {sp : Sp} {dvs : List V} {ds : List Value} {E : XK} {x : Str} {p : Pos} {pos : Pos} {e : Expr} {es : List Expr} {t : TA} (F : FnOk X.prog X.w X.K X.mg X.base CX k f fd ps sp) (hr : Room k X.A) (hg : Gl X x) (hm : X.mg x = some (.ref f)) (hk : PySem.W.keepIn X.K (.ref f) = true) (hb : Binds X.K fd ps ds) (hd : Vals dvs ds) (hx : Passes CX X E) (ha : QA X (e :: es) t) (hdb : (x == ("__debug__" : Str)) = false := by decide) (hp : (e :: es).all plainE = true := by rfl) : QE X (.Call (.Name x p) (e :: es) [] pos) (tCall sp dvs E t) := ⟨pe_callF (F := F) (hr := hr) (hg := hg) (hm := hm) (hk := hk) (hb := hb) (hd := hd) (hx := hx) (ha := ha.out) (hdb := hdb) (hp := hp)⟩
theorem qe_callBF {X : Cx} {x : Str} {p : Pos} {pos : Pos} {e : Expr} {es : List Expr} {t : TA} {id : String} {r : List V → Hp → VK → Prop} (hc : CallR X (.builtin id) r) (hg : Gl X x) (hm : X.mg x = none) (hv : bootBuiltins x = some (.builtin id)) (ha : QA X (e :: es) t) (hn : x ≠ "__name__" := by decide) (hdb : (x == ("__debug__" : Str)) = false := by decide) (hp : (e :: es).all plainE = true := by rfl) : QE X (.Call (.Name x p) (e :: es) [] pos) (tCB r t) := ⟨pe_callBF (hc := hc) (hg := hg) (hm := hm) (hv := hv) (ha := ha.out) (hn := hn) (hdb := hdb) (hp := hp)⟩
theorem qe_callTF {X : Cx} {x : Str} {p : Pos} {pos : Pos} {e : Expr} {es : List Expr} {t : TA} {T : String} {r : List V → Hp → VK → Prop} (hc : CallR X (.type T) r) (hg : Gl X x) (hm : X.mg x = none) (hv : bootBuiltins x = some (.type T)) (ha : QA X (e :: es) t) (hn : x ≠ "__name__" := by decide) (hdb : (x == ("__debug__" : Str)) = false := by decide) (hp : (e :: es).all plainE = true := by rfl) : QE X (.Call (.Name x p) (e :: es) [] pos) (tCB r t) := ⟨pe_callTF (hc := hc) (hg := hg) (hm := hm) (hv := hv) (ha := ha.out) (hn := hn) (hdb := hdb) (hp := hp)⟩
theorem qi_rangeF {X : Cx} {p : Pos} {pos : Pos} {t : TA} {tg a : Expr} (hg : Gl X "range") (hm : X.mg "range" = none) (ha : QA X [a] t) (hp : plainE a = true := by rfl) : QI X tg (.Call (.Name "range" p) [a] [] pos) (iRng1 t) := ⟨pi_rangeF (hg := hg) (hm := hm) (ha := ha.out) (hp := hp)⟩
theorem qe_bmF {X : Cx} {apos : Pos} {e : Expr} {o : Expr} {es : List Expr} {t : TA} {id : String} {T : String} {name : Str} {cpos : Pos} {to : TE} {rm : V → List V → Hp → VK → Prop} (pa : PlainAttrs T) (slot : Slot T name id) (hty : typeOf (.builtin id) = pure (.type "method_descriptor")) (hm : MtR X id rm) (ho : QE X o to) (ha : QA X (e :: es) t) (hbase : attributeBase o name X.env (eval o X.env) = eval o X.env := by rfl) (hline : (apos.endLine == cpos.line) = true := by rfl) (hp : (e :: es).all plainE = true := by rfl) (hl : (e :: es).length < 30 := by decide) : QE X (.Call (.Attribute o name apos) (e :: es) [] cpos) (tBM X.K T rm to t) := ⟨pe_bmF (pa := pa) (slot := slot) (hty := hty) (hm := hm) (ho := ho.out) (ha := ha.out) (hbase := hbase) (hline := hline) (hp := hp) (hl := hl)⟩
theorem qe_bm0 {X : Cx} {o : Expr} {to : TE} {name : Str} {apos : Pos} {cpos : Pos} {T : String} {id : String} {r : V → List V → Hp → VK → Prop} (pa : PlainAttrs T) (slot : Slot T name id) (hty : typeOf (.builtin id) = pure (.type "method_descriptor")) (hm : MtR X id r) (ho : QE X o to) (hbase : attributeBase o name X.env (eval o X.env) = eval o X.env := by rfl) (hline : (apos.endLine == cpos.line) = true := by rfl) : QE X (.Call (.Attribute o name apos) [] [] cpos) (tBM0 X.K T r to) := ⟨pe_bm0 (pa := pa) (slot := slot) (hty := hty) (hm := hm) (ho := ho.out) (hbase := hbase) (hline := hline)⟩
theorem qo_none {X : Cx} : QO X none tNoPart := ⟨po_none ⟩
theorem qo_some {X : Cx} {e : Expr} {te : TE} (h : QE X e te) : QO X (some e) (tPart te) := ⟨po_some (h := h.out)⟩
theorem qe_slice {X : Cx} {e : Expr} {te : TE} {lo : Option Expr} {hi : Option Expr} {tl : TO} {th : TO} {pos : Pos} {p2 : Pos} {r : V → Option Int → Option Int → Hp → VK → Prop} (hr : SlR X r) (he : QE X e te) (hl : QO X lo tl) (hu : QO X hi th) : QE X (.Subscript e (.Slice lo hi none p2) pos) (tSl r te tl th) := ⟨pe_slice (hr := hr) (he := he.out) (hl := hl.out) (hu := hu.out)⟩
theorem qe_ix {X : Cx} {a : Expr} {b : Expr} {ta : TE} {tb : TE} {pos : Pos} {r : R2} (hr : IxR X r) (ha : QE X a ta) (hb : QE X b tb) (hs : PlainIx b) : QE X (.Subscript a b pos) (tOp r ta tb) := ⟨pe_ix (hr := hr) (ha := ha.out) (hb := hb.out) (hs := hs)⟩
theorem qs_never {X : Cx} {st : Stmt} : QS X st tNever := ⟨ps_never ⟩
theorem qw_pt {X : Cx} {e : Expr} {t : TT} (h : QW X e t) : QT X e t := ⟨h.out.pt⟩
end L2
set_option Elab.async false
set_option linter.all false
set_option maxRecDepth 100000
set_option maxHeartbeats 1000000
namespace L2
open PySem PySem.Spec PyProof.Rows
/-- the cells that the block takes over -/
def clOf (cells : List (Str × Addr)) : List (Str × NameKind) → List (Str × Addr) → List (Str × Addr)
  | [], acc => acc
  | (n, k) :: r, acc => clOf cells r (if (k == NameKind.free) = true then (n, (cells.lookup n).getD 0) :: acc else acc)
theorem closure_go {env : Env} : ∀ (names : List (Str × NameKind)) (acc : List (Str × Addr)), (∀ y ∈ names, y.2 = .free → ∃ c, env.cells.lookup y.1 = some c) →
    (forIn names acc fun (x : Str × NameKind) (r : List (Str × Addr)) => match x with
      | (name, kind) => if (kind == NameKind.free) = true then do let a ← cellOf env name; pure (ForInStep.yield ((name, a) :: r)) else pure (ForInStep.yield r) : Sem (List (Str × Addr))) = pure (clOf env.cells names acc)
  | [], acc, _ => rfl
  | (n, k) :: r, acc, h => by
    rw [List.forIn_cons]
    have ih := fun acc' => closure_go (env := env) r acc' fun y hy => h y (List.mem_cons_of_mem _ hy)
    by_cases hk : (k == NameKind.free) = true
    · obtain ⟨c, hc⟩ := h (n, k) List.mem_cons_self (by simpa using hk)
      have hc' : env.cells.lookup n = some c := hc
      have e : cellOf env n = pure c := by unfold cellOf; rw [hc']
      simp only [hk, if_true, e]
      rw [clOf, if_pos hk, hc']
      exact ih ((n, c) :: acc)
    · rw [clOf, if_neg hk]
      simp only [hk, if_false]
      exact ih acc
theorem closure_of {scope : Scope} {env : Env} (h : ∀ y ∈ scope.names, y.2 = .free → ∃ c, env.cells.lookup y.1 = some c) : closureFor scope env = pure (clOf env.cells scope.names []) := by
  have e := closure_go (env := env) scope.names [] h
  unfold closureFor
  show (do let r ← _; pure r) = _
  rw [show (forIn scope.names ([] : List (Str × Addr)) fun (x : Str × NameKind) (r : List (Str × Addr)) => match x with
      | (name, kind) => if (kind == NameKind.free) = true then do let a ← cellOf env name; pure (ForInStep.yield ((name, a) :: r)) else pure (ForInStep.yield r) : Sem (List (Str × Addr))) = pure (clOf env.cells scope.names []) from e]
  rfl
theorem clOf_get {cells : List (Str × Addr)} : ∀ {names : List (Str × NameKind)} {acc : List (Str × Addr)}, (∀ y ∈ names, y.2 = .free → ∃ c, cells.lookup y.1 = some c) → (∀ x c, acc.lookup x = some c → cells.lookup x = some c) →
    ∀ x c, (clOf cells names acc).lookup x = some c → cells.lookup x = some c
  | [], acc, _, ha, x, c, h => ha x c h
  | (n, k) :: r, acc, hf, ha, x, c, h => by
    rw [clOf] at h
    refine clOf_get (names := r) (fun y hy => hf y (List.mem_cons_of_mem _ hy)) (fun y d hd => ?_) x c h
    by_cases hk : (k == NameKind.free) = true
    · rw [if_pos hk] at hd
      obtain ⟨e, he⟩ := hf (n, k) List.mem_cons_self (by simpa using hk)
      have he' : cells.lookup n = some e := he
      rw [he', List.lookup_cons] at hd
      cases hy : y == n with
      | true =>
        rw [hy] at hd
        have hy' : y = n := by simpa using hy
        rw [hy', he']
        exact hd
      | false =>
        rw [hy] at hd
        exact ha y d hd
    · rw [if_neg hk] at hd
      exact ha y d hd
theorem clOf_keep {cells : List (Str × Addr)} : ∀ {names : List (Str × NameKind)} {acc : List (Str × Addr)} {x : Str}, (∃ c, acc.lookup x = some c) → ∃ c, (clOf cells names acc).lookup x = some c
  | [], acc, x, h => h
  | (n, k) :: r, acc, x, h => by
    rw [clOf]
    refine clOf_keep (names := r) ?_
    by_cases hk : (k == NameKind.free) = true
    · rw [if_pos hk, List.lookup_cons]
      cases hx : x == n with
      | true => exact ⟨_, rfl⟩
      | false => exact h
    · rw [if_neg hk]; exact h
theorem clOf_has {cells : List (Str × Addr)} : ∀ {names : List (Str × NameKind)} {acc : List (Str × Addr)} {x : Str}, names.lookup x = some .free → ∃ c, (clOf cells names acc).lookup x = some c
  | [], acc, x, h => by cases h
  | (n, k) :: r, acc, x, h => by
    rw [clOf]
    rw [List.lookup_cons] at h
    cases hx : x == n with
    | true =>
      rw [hx] at h
      have hk : k = .free := Option.some.inj h
      refine clOf_keep (names := r) ?_
      rw [hk, if_pos (show (NameKind.free == NameKind.free) = true by rfl), List.lookup_cons, hx]
      exact ⟨_, rfl⟩
    | false =>
      rw [hx] at h
      exact clOf_has (names := r) h
theorem relabel_free {scope : Scope} {env : Env} (hk : env.scope.kind = .function) : ∀ {names : List (Str × NameKind)} {x : Str}, names.lookup x = some .free → env.kindOf x = some .cell →
    (names.map fun (n, k) => if (k == NameKind.free && env.scope.kind == .function && env.kindOf n == some .cell) = true then (n, NameKind.cell) else (n, k)).lookup x = some .cell
  | [], _, h, _ => by cases h
  | (n, k) :: r, x, h, hc => by
    rw [List.lookup_cons] at h
    show List.lookup x ((if (k == NameKind.free && env.scope.kind == .function && env.kindOf n == some .cell) = true then (n, NameKind.cell) else (n, k)) :: _) = _
    cases hx : x == n with
    | true =>
      rw [hx] at h
      have hkk : k = .free := Option.some.inj h
      have hxn : x = n := by simpa using hx
      rw [hkk, hk, ← hxn, hc]
      simp [List.lookup_cons]
    | false =>
      rw [hx] at h
      have ih := relabel_free (scope := scope) hk (names := r) h hc
      by_cases hq : (k == NameKind.free && env.scope.kind == .function && env.kindOf n == some .cell) = true
      · rw [if_pos hq, List.lookup_cons, hx]; exact ih
      · rw [if_neg hq, List.lookup_cons, hx]; exact ih
theorem relabel_free2 {env : Env} : ∀ {names : List (Str × NameKind)} {x : Str}, names.lookup x = some .free → env.kindOf x = some .free →
    (names.map fun (n, k) => if (k == NameKind.free && env.scope.kind == .function && env.kindOf n == some .cell) = true then (n, NameKind.cell) else (n, k)).lookup x = some .free
  | [], _, h, _ => by cases h
  | (n, k) :: r, x, h, hc => by
    rw [List.lookup_cons] at h
    show List.lookup x ((if (k == NameKind.free && env.scope.kind == .function && env.kindOf n == some .cell) = true then (n, NameKind.cell) else (n, k)) :: _) = _
    cases hx : x == n with
    | true =>
      rw [hx] at h
      have hkk : k = .free := Option.some.inj h
      have hxn : x = n := by simpa using hx
      have hq : ¬ (k == NameKind.free && env.scope.kind == .function && env.kindOf n == some .cell) = true := by
        rw [← hxn, hc, Bool.and_eq_true]
        exact fun z => absurd z.2 (by decide)
      rw [if_neg hq, List.lookup_cons, hx, hkk]
    | false =>
      rw [hx] at h
      have ih := relabel_free2 (names := r) h hc
      by_cases hq : (k == NameKind.free && env.scope.kind == .function && env.kindOf n == some .cell) = true
      · rw [if_pos hq, List.lookup_cons, hx]; exact ih
      · rw [if_neg hq, List.lookup_cons, hx]; exact ih
/-- what is a cell or free within the block is free in its own scope -/
theorem relabel_back {env : Env} : ∀ {names : List (Str × NameKind)} {x : Str}, (∀ y ∈ names, y.2 ≠ .cell) →
    ((names.map fun (n, k) => if (k == NameKind.free && env.scope.kind == .function && env.kindOf n == some .cell) = true then (n, NameKind.cell) else (n, k)).lookup x = some .cell ∨
     (names.map fun (n, k) => if (k == NameKind.free && env.scope.kind == .function && env.kindOf n == some .cell) = true then (n, NameKind.cell) else (n, k)).lookup x = some .free) → names.lookup x = some .free
  | [], _, _, h => by rcases h with h | h <;> cases h
  | (n, k) :: r, x, hn, h => by
    have ih := relabel_back (env := env) (names := r) (x := x) fun y hy => hn y (List.mem_cons_of_mem _ hy)
    rw [List.map_cons] at h
    rw [List.lookup_cons]
    by_cases hq : (k == NameKind.free && env.scope.kind == .function && env.kindOf n == some .cell) = true
    · have hk : k = .free := by
        rw [Bool.and_eq_true, Bool.and_eq_true] at hq
        simpa using hq.1.1
      simp only [hq, if_true, List.lookup_cons] at h
      cases hx : x == n with
      | true => rw [hk]
      | false =>
        rw [hx] at h
        exact ih h
    · simp only [hq, Bool.false_eq_true, if_false, List.lookup_cons] at h
      cases hx : x == n with
      | true =>
        rw [hx] at h
        rcases h with h | h
        · exact absurd (Option.some.inj h) (hn (n, k) List.mem_cons_self)
        · exact h
      | false =>
        rw [hx] at h
        exact ih h
/-- the block's context -/
def cxC (X : Cx) (N' : List Str) (scope : Scope) (C : Addr) (s₂ : Shared) (H₂ : Hp) (ex : List Addr) : Cx :=
  { X with N := N', s₀ := s₂, H₀ := H₂, env := compEnvC scope (clOf X.env.cells scope.names []) C X.env, outer := X.stack, stack := X.stack, ex := ex, fn := fun _ => false, pn := [], xe := fun _ _ => False }
/-- the block's slots: its own name, then names of the body's -/
def selS (is : List Nat) (σ : St) (v : Option V) : St := v :: is.map fun i => (σ[i]?).getD none
/-- what is asked of a comprehension's scope; S: the scope of the body, N its names -/
structure CompSc (S scope : Scope) (N : List Str) (x : Str) (ys : List Str) (is : List Nat) : Prop where
  kind : scope.kind = .function
  cell : ∀ y ∈ scope.names, y.2 ≠ .cell
  names : ∀ y ∈ scope.names, y.2 = .local → scope.names.lookup y.1 = some .local
  own : scope.names.lookup x = some .local
  free : ∀ y ∈ scope.names, y.2 = .free → S.names.lookup y.1 = some .cell ∨ S.names.lookup y.1 = some .free
  vis : ∀ p ∈ ys.zip is, N[p.2]? = some p.1 ∧ scope.names.lookup p.1 = some .free
  len : ys.length = is.length
  nd : (x :: ys).Nodup
/-- the tests of a clause -/
def PF (X : Cx) (ifs : List Expr) (t : TT) : Prop :=
  ∀ (pins : List (Addr × Obj)) (s : Shared) (σ : St) (H : Hp) (Q : Bool → Hp → Prop), Inv X pins σ H s → t σ H Q →
    wpAny (model X.prog X.w) X.A (forIn ifs true fun c r => if r = true then do let ok ← isTrue c X.env (eval c X.env); pure (ForInStep.yield ok) else pure (ForInStep.yield r)) (TP X pins σ Q) X.xe s
structure QF (X : Cx) (ifs : List Expr) (t : TT) : Prop where
  out : PF X ifs t
def tYes : TT := fun _ H Q => Q true H
theorem qf_nil {X : Cx} : QF X [] tYes := ⟨fun _ _ _ H _ I h => wpAny_tests_nil ⟨H, I, h⟩⟩
theorem qf_one {X : Cx} {c : Expr} {t : TT} (h : QT X c t) : QF X [c] t := ⟨fun pins s σ H Q I hw => wpAny_tests_one (h.out pins s σ H Q I hw)⟩
section
variable {X : Cx} {S scope : Scope} {N : List Str} {x : Str} {ys : List Str} {is : List Nat} {pins : List (Addr × Obj)} {σ : St} {H₂ : Hp} {s₂ : Shared} {fp : List Addr}
theorem CompSc.cellOf' (K : CompSc S scope N x ys is) (hX : X.env.scope = S) (ok : X.Ok) : ∀ y ∈ scope.names, y.2 = .free → ∃ c, X.env.cells.lookup y.1 = some c := fun y hy h =>
  ok.has y.1 (by show X.env.scope.names.lookup y.1 = _ ∨ X.env.scope.names.lookup y.1 = _; rw [hX]; exact K.free y hy h)
theorem CompSc.cl (K : CompSc S scope N x ys is) (hX : X.env.scope = S) (ok : X.Ok) : ∀ y c, (clOf X.env.cells scope.names []).lookup y = some c → X.env.cells.lookup y = some c :=
  clOf_get (K.cellOf' hX ok) fun _ _ z => by cases z
theorem mem_free {names : List (Str × NameKind)} {y : Str} {k : NameKind} (h : names.lookup y = some k) : (y, k) ∈ names := by
  induction names with
  | nil => cases h
  | cons p r ih =>
    obtain ⟨n, k'⟩ := p
    rw [List.lookup_cons] at h
    cases hx : y == n with
    | true =>
      rw [hx] at h
      have e1 : y = n := by simpa using hx
      have e2 : k' = k := Option.some.inj h
      rw [e1, e2]
      exact List.mem_cons_self
    | false =>
      rw [hx] at h
      exact List.mem_cons_of_mem _ (ih h)
/-- the block's context is in order -/
theorem cxC_ok (K : CompSc S scope N x ys is) (hX : X.env.scope = S) (I : Inv X pins σ H₂ s₂) {C : Addr} (hC : s₂.heap.objs.size ≤ C) (hfp : ∀ b ∈ fp, FpOk X pins H₂ b) (hlt : ∀ b ∈ fp, b < s₂.heap.objs.size) : (cxC X (x :: ys) scope C s₂ H₂ fp).Ok where
  mod := I.ok.mod
  kind := K.kind
  glob := I.ok.glob
  blt := I.ok.blt
  above := hC
  inj := fun y z c h1 h2 => I.ok.inj y z c (K.cl hX I.ok y c h1) (K.cl hX I.ok z c h2)
  has := fun y hy => clOf_has (relabel_back (env := X.env) K.cell hy)
  cab := fun y c h => by cases h
  hd := I.ok.hd
  frames := I.ok.frames
  stk := .inl rfl
  exf := fun b hb => ⟨fun e => absurd (Nat.lt_of_lt_of_le (hlt b hb) (Nat.le_trans hC (Nat.le_of_eq (Eq.symm e)))) (Nat.lt_irrefl _), fun y c h => (hfp b hb).2.2.2.2.1 y c (K.cl hX I.ok y c h)⟩
  bs := I.bs
  bsz := Nat.le_trans I.ok.bsz I.sz
  noex := fun b o e hb => by
    rcases (hfp b hb).2.2.2.1 with z | z
    · exact I.ok.noex b o e z
    · exact absurd (Nat.lt_of_lt_of_le (Heap.lt_size e) (Nat.le_trans I.ok.bsz z)) (Nat.lt_irrefl _)
  exfs := fun b hb z => by
    rcases List.mem_cons.mp (I.stkSub b z) with e | e
    · exact (hfp b hb).2.1 e
    · exact (hfp b hb).2.2.1 e
  funs := I.stack
  frf := I.stkFree
/-- the state at the block's entry: the list at D, the block's names at C -/
theorem cxC_inv (K : CompSc S scope N x ys is) (hX : X.env.scope = S) (hN : X.N = N) (hk : S.kind = .function) (I : Inv X pins σ H₂ s₂) {C D : Addr} {h₁ : Heap} {tk : Nat} {oD : Obj} (hC : s₂.heap.objs.size ≤ C) (hD : s₂.heap.objs.size ≤ D) (hDC : D ≠ C)
    (hfp : ∀ b ∈ fp, FpOk X pins H₂ b) (hlt : ∀ b ∈ fp, b < s₂.heap.objs.size) (old : ∀ b o, s₂.heap.get? b = some o → h₁.get? b = some o) (hn : h₁.Ns C fun _ => none) (hacc : h₁.get? D = some oD) (hod : ∀ v, oD.data ≠ .cell v) :
    Inv (cxC X (x :: ys) scope C s₂ H₂ fp) [(D, oD)] (selS is σ none) H₂ { s₂ with heap := h₁, toks := tk } := by
  have ok := cxC_ok K hX I hC hfp hlt
  refine ⟨ok, rfl, I.bare, Un.kept old, ⟨_, hn, fun i y v h1 h2 h3 => ?_⟩, fun y c h => ?_, I.hok.fresh hC, fun y c h => I.freeC y c (K.cl hX I.ok y c h), fun p hp => ?_, I.hok.kept old, ?_⟩
  · cases i with
    | zero =>
      have h2' : some (none : Option V) = some (some v) := h2
      cases h2'
    | succ i =>
      have h1' : ys[i]? = some y := h1
      have h2' : (is.map fun i => (σ[i]?).getD none)[i]? = some (some v) := h2
      rw [List.getElem?_map] at h2'
      cases hj : is[i]? with
      | none => rw [hj] at h2'; cases h2'
      | some j =>
        rw [hj] at h2'
        have h2'' : (σ[j]?).getD none = some v := Option.some.inj h2'
        have hσ : σ[j]? = some (some v) := by
          cases q : σ[j]? with
          | none => rw [q] at h2''; cases h2''
          | some z => rw [q] at h2''; exact congrArg some h2''
        have hz : (y, j) ∈ ys.zip is := by
          obtain ⟨a1, e1⟩ := List.getElem?_eq_some_iff.mp h1'
          obtain ⟨a2, e2⟩ := List.getElem?_eq_some_iff.mp hj
          rw [← e1, ← e2, ← List.getElem_zip (h := by rw [List.length_zip]; lia)]
          exact List.getElem_mem _
        obtain ⟨v1, v2⟩ := K.vis _ hz
        have kc : X.env.kindOf y = some .cell ∨ X.env.kindOf y = some .free := by show X.env.scope.names.lookup y = _ ∨ X.env.scope.names.lookup y = _; rw [hX]; exact K.free _ (mem_free v2) rfl
        obtain ⟨m, hm, hl⟩ := I.loc
        obtain ⟨u, r, l⟩ := hl j y v (by rw [hN]; exact v1) hσ (.inr kc)
        refine ⟨u, r, .inr ?_⟩
        rcases l with ⟨l1, _⟩ | ⟨_, c, l2, l3⟩
        · rcases kc with kc | kc <;> rw [kc] at l1 <;> cases l1
        · obtain ⟨c', hc'⟩ := clOf_has (cells := X.env.cells) (acc := []) v2
          have e : c' = c := by have := K.cl hX I.ok y c' hc'; rw [l2] at this; exact (Option.some.inj this).symm
          subst e
          refine ⟨kc.imp (relabel_free (scope := scope) (by rw [hX]; exact hk) v2) (relabel_free2 v2), c', hc', ?_⟩
          obtain ⟨o, ho, hd⟩ := l3
          exact ⟨o, old _ _ ho, hd⟩
  · obtain ⟨v, o, ho, hd⟩ := I.cell y c (K.cl hX I.ok y c h)
    exact ⟨v, o, old _ _ ho, hd⟩
  · have e : p = (D, oD) := by simpa [cxC] using hp
    subst e
    refine ⟨hacc, I.hok.fresh hD, hDC, fun z => ?_, hod⟩
    obtain ⟨_, o, ho, _⟩ := ok.funs.mem z
    exact absurd (Nat.lt_of_lt_of_le (Heap.lt_size ho) hD) (Nat.lt_irrefl _)
  · show (selS is σ none).length = (x :: ys).length
    unfold selS
    rw [List.length_cons, List.length_map, List.length_cons, K.len]
/-- behind the block: the list at D is tracked now -/
theorem cxC_end (I : Inv X pins σ H₂ s₂) {C D : Addr} {N' : List Str} {σ' : St} {H' : Hp} {s' : Shared} {pl : List (Addr × Obj)} (I' : Inv (cxC X N' scope C s₂ H₂ fp) pl σ' H' s') (hD : s₂.heap.objs.size ≤ D) (hDn : H' D = none)
    (hfp : ∀ b ∈ fp, FpOk X pins H₂ b) {zs : List V} {its : List Value} {n : Nat} (hz : zs.length ≤ sizeLine) (r : Vals zs its) (hd : s'.heap.get? D = some { cls := .type "list", data := .seq its.toArray n }) :
    Inv X pins σ (upd H' D (.lst zs)) s' := by
  have b : Un (frs X.stack) fp H₂ H' s₂.heap s'.heap := I'.base
  have ne : ∀ c o, s₂.heap.get? c = some o → c ≠ D := fun c o e z => absurd (Nat.lt_of_lt_of_le (Heap.lt_size e) (Nat.le_trans hD (Nat.le_of_eq (Eq.symm z)))) (Nat.lt_irrefl _)
  have D2 : H₂ D = none := I.hok.fresh hD
  refine I.call' I'.os ⟨b.keep, b.slot, fun c o e n hx => ?_, b.there, fun c xs e => ?_, fun c o u e => ?_, fun c ps e => ?_⟩ (fun c u e => ?_) I'.bare fun c hc => ⟨(hfp c hc).2.2.2.1, (hfp c hc).2.1, (hfp c hc).2.2.2.2.1, (hfp c hc).2.2.2.2.2⟩
  · rw [upd_ne (ne c o e)]; exact b.free c o e n hx
  · rw [upd_ne (ne_of_none e D2)]; exact b.tups c xs e
  · rw [upd_ne (ne_of_none e D2)]; exact b.frzs c o u e
  · rw [upd_ne (ne_of_none e D2)]; exact b.tbls c ps e
  · by_cases hc : c = D
    · subst hc
      rw [upd_same] at e
      cases e
      exact ⟨hz, its, n, r, hd⟩
    · rw [upd_ne hc] at e
      exact (I'.hok c u e).stay (fun _ _ _ q => q) (fun d q => by rw [upd_ne (ne_of_none q hDn)]; exact q) fun d xs q => by rw [upd_ne (ne_of_none q hDn)]; exact q
end
section
variable {prog : Program} {w : World} {A : Around} {R : Result → Shared → Prop} {s : Shared}
theorem comp_loop {elt target iter : Expr} {ifs : List Expr} {scope : Scope} {pos : Pos} {it acc : Value} {env : Env} (I : Nat → Shared → Prop)
    (turn : ∀ n s, I n s → wpAny (model prog w) A (pyNext it) (fun r s₁ => match r with
      | none => R (.ok .next) s₁
      | some v => wpAny (model prog w) A (letOwnedTupleGo target it v) (fun _ s₁' => wpAny (model prog w) A (assign target env v) (fun _ s₂ =>
          wpAny (model prog w) A (forIn ifs true fun c r => if r = true then do let ok ← isTrue c env (eval c env); pure (ForInStep.yield ok) else pure (ForInStep.yield r)) (fun ok s₃ =>
            if ok = true then wpAny (model prog w) A (eval elt env) (fun x s₄ =>
              wpAny (model prog w) A (call (.builtin "list.append") [acc, x]) (fun _ s₅ => ∃ m, m < n ∧ I m s₅) (fun _ _ => False) s₄) (fun _ _ => False) s₃
            else ∃ m, m < n ∧ I m s₃) (fun _ _ => False) s₂) (fun _ _ => False) s₁') (fun _ _ => False) s₁) (fun _ _ => False) s)
    (n : Nat) (h : I n s) :
    codeAny (model prog w) A (.compLoop (.ListComp elt [⟨target, iter, ifs, 0⟩] scope pos) 0 it acc env) R s := by
  refine codeAny_loop rfl I (fun n s hI => ?_) n h
  show wpAny _ A ((compTurn (.ListComp elt [⟨target, iter, ifs, 0⟩] scope pos) 0 it acc env).onRaise (fun x => do noteFrame x env; theTreesLotGoes x)) _ _ s
  refine wpAny_noted ?_
  rw [compTurn_list]
  have nf : ∀ {E : Value → Shared → Prop} (e : Value) (s' : Shared), False → E e s' := fun _ _ z => z.elim
  refine wpAny_bind (wpAny_standAt (wpAny_bind (wpAny_mono (turn n s hI) (fun r s₁ h₁ => ?_) nf)))
  cases r with
  | none => exact wpAny_pure h₁
  | some v =>
    refine wpAny_bind (wpAny_mono h₁ (fun _ s₁' h₁' => ?_) nf)
    refine wpAny_bind (wpAny_mono h₁' (fun _ s₂ h₂ => wpAny_bind (wpAny_mono h₂ (fun ok s₃ h₃ => ?_) nf)) nf)
    cases ok with
    | false => exact wpAny_pure ⟨rfl, h₃⟩
    | true =>
      exact wpAny_bind (wpAny_bind (wpAny_mono h₃ (fun x s₄ h₄ => wpAny_bind (wpAny_mono h₄ (fun _ s₅ h₅ => wpAny_pure (wpAny_pure ⟨rfl, h₅⟩)) nf)) nf))
end
/-- a comprehension's reading: W by the turn, a measure, the items so far -/
def CompW (is : List Nat) (tc : TT) (te : TE) (σ : St) (Q : VK) (J : It) (H1 : Hp) : Prop := ∃ W : Nat → Nat → List V → Hp → Prop, (∃ m, W 0 m [] H1) ∧ ∀ i m zs H, W i m zs H →
  (J.stop i H ∧ zs.length ≤ sizeLine ∧ ∀ p, H p = none → Q (.ref p) (upd H p (.lst zs))) ∨
  (J.go i H ∧ zs.length ≤ sizeLine ∧ ∀ x H', J.yld i H x H' → tc (selS is σ (some x)) H' fun b H2 => if b = true then te (selS is σ (some x)) H2 fun y H3 => ∃ m', m' < m ∧ W (i + 1) m' (zs ++ [y]) H3 else ∃ m', m' < m ∧ W (i + 1) m' zs H2)
def tComp (wi : TI) (is : List Nat) (tc : TT) (te : TE) : TE := fun σ H Q => wi σ H (CompW is tc te σ Q)
section
variable {X : Cx} {S scope : Scope} {N : List Str} {x : Str} {ys : List Str} {is : List Nat} {pins : List (Addr × Obj)} {σ : St} {H₂ : Hp} {s₂ : Shared} {fp : List Addr} {elt iter : Expr} {px pos : Pos} {ifs : List Expr} {tc : TT} {te : TE}
/-- the list, the block's names, the loop; behind it the list at D is tracked, C may turn -/
theorem comp_block {J : It} {it : Addr} {tn : Nat → Heap → Prop} {Q : VK} {RR : Value → Addr → Result → Shared → Prop} {E : Value → Shared → Prop} (K : CompSc S scope N x ys is) (hX : X.env.scope = S) (hN : X.N = N) (hk : S.kind = .function) (hc : X.calm = true)
    (hf : ∀ C s₂ H₂ ex, QF (cxC X (x :: ys) scope C s₂ H₂ ex) ifs tc) (he : ∀ C s₂ H₂ ex, QE (cxC X (x :: ys) scope C s₂ H₂ ex) elt te)
    (I : Inv X pins σ H₂ s₂) (T : Turn X.prog X.w X.K (.Name x px) J fp it tn) (st : tn 0 s₂.heap) (hfp : ∀ b ∈ fp, FpOk X pins H₂ b)
    {W : Nat → Nat → List V → Hp → Prop} {m0 : Nat} (w0 : W 0 m0 [] H₂)
    (turn : ∀ i m zs H, W i m zs H → (J.stop i H ∧ zs.length ≤ sizeLine ∧ ∀ p, H p = none → Q (.ref p) (upd H p (.lst zs))) ∨
      (J.go i H ∧ zs.length ≤ sizeLine ∧ ∀ x H', J.yld i H x H' → tc (selS is σ (some x)) H' fun b H2 => if b = true then te (selS is σ (some x)) H2 fun y H3 => ∃ m', m' < m ∧ W (i + 1) m' (zs ++ [y]) H3 else ∃ m', m' < m ∧ W (i + 1) m' zs H2))
    (fin : ∀ D C s' H' m', Inv X pins σ H' s' → FpOk X pins H' C → s'.heap.Ns C m' → Q (.ref D) H' → RR (.ref D) C (.ok .next) s') :
    wpAny (model X.prog X.w) X.A (newList []) (fun acc s₃ => wpAny (model X.prog X.w) X.A (newFunctionEnv scope X.env.globals (clOf X.env.cells scope.names []) [] X.env.qual none .none (some X.env)) (fun cenv s₄ =>
      codeAny (model X.prog X.w) X.A (.compStart (.ListComp elt [⟨.Name x px, iter, ifs, 0⟩] scope pos) 0 (.ref it) acc { cenv with scope := relabel scope X.env }) (RR acc cenv.locals) s₄) E s₃) E s₂ := by
  refine wpAny_newObj_type (wpAny_newFunctionEnv K.cell (by intro y hy; simp at hy) (fun h₁ hns₁ hsb₁ => ?_) K.kind)
  dsimp only at hns₁ hsb₁ ⊢
  generalize hH2 : s₂.heap.push { cls := .type "list", dict := none, data := .seq ([] : List Value).toArray } = H2 at hns₁ hsb₁ ⊢
  have hCs : H2.objs.size = s₂.heap.objs.size + 1 := by rw [← hH2, Heap.size_push]
  have hDC : s₂.heap.objs.size ≠ H2.objs.size := by rw [hCs]; exact Nat.ne_of_lt (Nat.lt_succ_self _)
  have hC : s₂.heap.objs.size ≤ H2.objs.size := by rw [hCs]; exact Nat.le_succ _
  have hlt : ∀ b ∈ fp, b < s₂.heap.objs.size := fun b hb => by obtain ⟨o, e, _⟩ := T.obj 0 _ st b hb; exact Heap.lt_size e
  have old : ∀ b o, s₂.heap.get? b = some o → h₁.get? b = some o := fun b o e => hsb₁.extBut b o (by rw [hCs]; exact Nat.ne_of_lt (Nat.lt_succ_of_lt (Heap.lt_size e))) (Heap.get?_push_of_some _ (hH2 ▸ Heap.get?_push_of_some _ e))
  have hacc : h₁.get? s₂.heap.objs.size = some { cls := .type "list", data := .seq ([] : List Value).toArray 0 } := hsb₁.extBut _ _ hDC (Heap.get?_push_of_some _ (hH2 ▸ Heap.get?_push_size _ rfl))
  have st₁ : tn 0 h₁ := T.keep _ _ _ st fun b _ o e => old b o e
  -- the records of the iterator through the block
  have fpC : ∀ {H' : Hp} {pl : List (Addr × Obj)}, (∀ p ∈ pl, ∀ b ∈ fp, p.1 ≠ b) → (∀ b ∈ fp, H' b = none) → ∀ b ∈ fp, FpOk (cxC X (x :: ys) scope H2.objs.size s₂ H₂ fp) pl H' b := fun {H' pl} hpl hn b hb => by
    have ok := cxC_ok K hX I hC hfp hlt
    exact ⟨hn b hb, (ok.exf b hb).1, ok.exfs b hb, .inl hb, (ok.exf b hb).2, fun p hp => hpl p hp b hb⟩
  have Dfp : ∀ (o : Obj), ∀ p ∈ [(s₂.heap.objs.size, o)], ∀ b ∈ fp, p.1 ≠ b := fun o p hp b hb e => by
    have e1 : p = (s₂.heap.objs.size, o) := by simpa using hp
    subst e1
    exact absurd (hlt b hb) (by rw [← e]; exact Nat.lt_irrefl _)
  have loop : ∀ s₃ : Shared, s₃ = { s₂ with heap := h₁, toks := s₂.toks + ([] : List (Str × Value)).length } →
      codeAny (model X.prog X.w) X.A (.compLoop (.ListComp elt [⟨.Name x px, iter, ifs, 0⟩] scope pos) 0 (.ref it) (.ref s₂.heap.objs.size) (compEnvC scope (clOf X.env.cells scope.names []) H2.objs.size X.env))
        (RR (.ref s₂.heap.objs.size) H2.objs.size) s₃ := by
    rintro s₃ rfl
    have I0 := cxC_inv K hX hN hk I (tk := s₂.toks + ([] : List (Str × Value)).length) hC (Nat.le_refl _) hDC hfp hlt old hns₁ hacc (fun v z => by cases z)
    refine comp_loop (fun n s' => ∃ (i : Nat) (v0 : Option V) (zs : List V) (its : List Value) (k : Nat) (H' : Hp), Inv (cxC X (x :: ys) scope H2.objs.size s₂ H₂ fp) [(s₂.heap.objs.size, { cls := .type "list", data := .seq its.toArray k })] (selS is σ v0) H' s' ∧
      Vals zs its ∧ tn i s'.heap ∧ (∀ b ∈ fp, H' b = none) ∧ W i n zs H') ?_ m0 ⟨0, none, [], [], 0, H₂, I0, .nil, st₁, fun b hb => (hfp b hb).1, w0⟩
    rintro n s3 ⟨i, v0, zs, its, k, H3, I3, rv, st3, fr3, w3⟩
    have hD3 := I3.pin _ (List.mem_append_right _ (List.mem_singleton.mpr rfl))
    rcases turn i n zs H3 w3 with ⟨stop, hz, q⟩ | ⟨go, hz, step⟩
    · refine thn (T.done (cxC X (x :: ys) scope H2.objs.size s₂ H₂ fp) rfl rfl rfl hc i _ s3 _ H3 _ I3 (fpC (Dfp _) fr3) st3 stop) fun r s4 ⟨hr, I4⟩ => ?_
      subst hr
      have hD4 := I4.pin _ (List.mem_append_right _ (List.mem_singleton.mpr rfl))
      have I5 := cxC_end I I4 (Nat.le_refl _) hD4.2.1 hfp hz rv hD4.1
      obtain ⟨m', hm', _⟩ := I4.loc
      refine fin _ _ s4 _ m' I5 ?_ hm' (q _ hD4.2.1)
      refine I.fpOk hC ?_
      rw [upd_ne (Ne.symm hDC)]
      exact I4.free
    · refine thn (T.item (cxC X (x :: ys) scope H2.objs.size s₂ H₂ fp) rfl rfl rfl hc i _ s3 _ H3 _ I3 (fpC (Dfp _) fr3) st3 go) fun r s4 ⟨u, hr, h4⟩ => ?_
      subst hr
      refine thn h4 fun _ s5 ⟨xv, H5, I5, r5, y5, st5, fr5⟩ => ?_
      have I5' := I5.pinned (fpC (Dfp _) fr5) (T.obj _ _ st5)
      have pg : PG (cxC X (x :: ys) scope H2.objs.size s₂ H₂ fp) (.Name x px) (gName 0) := pg_name K.nd rfl (.inl (lookup_relabel_local K.own)) (.inr (lookup_relabel_local K.own))
      refine thn (pg _ s5 _ H5 xv u (fun σ2 H2 => σ2 = selS is σ (some xv) ∧ H2 = H5) I5' r5 ⟨rfl, rfl⟩) fun _ s6 ⟨σ6, H6, I6, e6, e6'⟩ => ?_
      subst e6
      subst e6'
      -- what stays of the list and the iterator
      have back : ∀ {s7 : Shared} {H7 : Hp}, Inv (cxC X (x :: ys) scope H2.objs.size s₂ H₂ fp) ([(s₂.heap.objs.size, { cls := .type "list", data := .seq its.toArray k })] ++ pinsAt fp s5.heap) (selS is σ (some xv)) H7 s7 →
          tn (i + 1) s7.heap ∧ (∀ b ∈ fp, H7 b = none) ∧ s7.heap.get? s₂.heap.objs.size = some { cls := .type "list", data := .seq its.toArray k } ∧ H7 s₂.heap.objs.size = none := fun {s7 H7} I7 => by
        refine ⟨T.keep _ _ _ st5 fun b hb o e => (I7.pin (b, o) (List.mem_append_right _ (List.mem_append_right _ (mem_pinsAt hb e)))).1, fun b hb => ?_, ?_, ?_⟩
        · obtain ⟨o, e, d⟩ := T.obj _ _ st5 b hb
          exact (I7.pin (b, o) (List.mem_append_right _ (List.mem_append_right _ (mem_pinsAt hb e)))).2.1
        · exact (I7.pin (s₂.heap.objs.size, { cls := .type "list", data := .seq its.toArray k }) (List.mem_append_right _ (List.mem_append_left _ (List.mem_singleton.mpr rfl)))).1
        · exact (I7.pin (s₂.heap.objs.size, { cls := .type "list", data := .seq its.toArray k }) (List.mem_append_right _ (List.mem_append_left _ (List.mem_singleton.mpr rfl)))).2.1
      refine thn ((hf _ _ _ _).out _ s6 _ H6 _ I6 (step xv H6 y5)) fun b s7 ⟨H7, I7, q7⟩ => ?_
      cases b with
      | false =>
        have q7' : ∃ m', m' < n ∧ W (i + 1) m' zs H7 := by simpa using q7
        obtain ⟨m', hm', w7⟩ := q7'
        obtain ⟨b1, b2, b3, b4⟩ := back I7
        rw [if_neg Bool.false_ne_true]
        exact ⟨m', hm', i + 1, some xv, zs, its, k, H7, I7.unpinned, rv, b1, b2, w7⟩
      | true =>
        rw [if_pos rfl]
        have q7' := q7
        rw [if_pos rfl] at q7'
        refine thn ((he _ _ _ _).out _ s7 _ H7 _ I7 q7') fun yv s8 ⟨y, H8, I8, r8, m', hm', w8⟩ => ?_
        obtain ⟨b1, b2, b3, b4⟩ := back I8
        refine append_at b3 (fun h9 sb9 e9 => ?_) (by rw [List.size_toArray, ← rv.length]; exact hz)
        have ok := cxC_ok K hX I hC hfp hlt
        have I8' : Inv (cxC X (x :: ys) scope H2.objs.size s₂ H₂ fp) [] (selS is σ (some xv)) H8 s8 := I8.pins_of fun p hp => by cases hp
        have I9 : Inv (cxC X (x :: ys) scope H2.objs.size s₂ H₂ fp) [] (selS is σ (some xv)) H8 { s8 with heap := h9 } := I8'.turned (t' := s8.toks) (it := s₂.heap.objs.size) (fun b o hb e => (sb9.2 b hb).trans e) b4 hDC (.inr (Nat.le_refl _))
          (fun y c h z => by
            obtain ⟨v, o, ho, _⟩ := I.cell y c (K.cl hX I.ok y c h)
            have := Heap.lt_size ho
            rw [z] at this
            exact Nat.lt_irrefl _ this) (fun p hp => by cases hp)
        refine ⟨m', hm', i + 1, some xv, zs ++ [y], its ++ [yv], k + 1, H8, ?_, rv.append (.cons r8 .nil), T.keep _ _ _ b1 fun b hb o e => (sb9.2 b fun z => absurd (hlt b hb) (by rw [z]; exact Nat.lt_irrefl _)).trans e, b2, w8⟩
        refine I9.pins_of fun p hp => ?_
        have e1 : p = (s₂.heap.objs.size, { cls := .type "list", data := .seq (its ++ [yv]).toArray (k + 1) }) := by simpa using hp
        subst e1
        refine ⟨by rw [e9, List.push_toArray], b4, hDC, fun z => ?_, fun v z => by cases z⟩
        obtain ⟨_, o, ho, _⟩ := ok.funs.mem z
        exact absurd (Heap.lt_size ho) (Nat.lt_irrefl _)
  exact codeAny_compStart_list (loop _ rfl) (T.self _ 0 _ _ _ st₁ (loop _ rfl))
end
section
variable {X : Cx} {S scope : Scope} {N : List Str} {x : Str} {ys : List Str} {is : List Nat} {elt iter : Expr} {px pos : Pos} {ifs : List Expr} {wi : TI} {tc : TT} {te : TE}
/-- [elt for x in iter if ..]; it never raises -/
theorem qe_comp (K : CompSc S scope N x ys is) (hi : QI X (.Name x px) iter wi) (hf : ∀ C s₂ H₂ ex, QF (cxC X (x :: ys) scope C s₂ H₂ ex) ifs tc) (he : ∀ C s₂ H₂ ex, QE (cxC X (x :: ys) scope C s₂ H₂ ex) elt te)
    (hc : X.calm = true := by rfl) (hX : X.env.scope = S := by rfl) (hN : X.N = N := by rfl) (hk : S.kind = .function := by rfl) (hs : ∀ v, foldedSetIterable iter X.env v = pure v := by intro _; rfl) :
    QE X (.ListComp elt [⟨.Name x px, iter, ifs, 0⟩] scope pos) (tComp wi is tc te) := by
  refine ⟨fun pins s σ H Q I h => ?_⟩
  rw [eval_ListComp]
  refine wpAny_comprehension_free (use := none) rfl hs (closure_of (K.cellOf' hX I.ok)) K.kind K.names (thn (hi.out pins s σ H _ I h) fun v s1 h1 => thn h1 fun itv s2 h2 => ?_)
  obtain ⟨it, fp, tn, J, H2, rfl, I2, T, st2, f2, W, ⟨m0, w0⟩, turn⟩ := h2
  refine comp_block (RR := fun acc C => compPost (model X.prog X.w) X.A X.xe none (EP X pins σ Q) acc C) K hX hN hk hc hf he I2 T st2 f2 w0 turn ?_
  intro D C s' H' m' I' fC hm' q
  obtain ⟨f0, f1, f3, f4, f5, f6⟩ := fC
  exact ⟨m', hm', fun h' hs' => ⟨.ref D, H', I'.turned (t' := s'.toks) (fun b o hb e => (hs'.2 b hb).trans e) f0 f1 f4 f5 f6, rfl, q⟩⟩
end
/-- over a tuple -/
theorem comp_tup {K : PySem.W.Frag} {a : Addr} {xs : List V} {is : List Nat} {tc : TT} {te : TE} {σ : St} {H : Hp} {Q : VK} (Pv : Nat → List V → Hp → Prop) (h0 : Pv 0 [] H) (hl : ∀ i zs H, Pv i zs H → zs.length ≤ sizeLine) (hq : ∀ i zs H, Pv i zs H → SqT K H a xs)
    (hs : ∀ i x zs H (R : List V → Hp → Prop), (∀ zs H, Pv (i + 1) zs H → R zs H) → xs[i]? = some x → Pv i zs H → tc (selS is σ (some x)) H fun b H2 => if b = true then te (selS is σ (some x)) H2 fun y H3 => R (zs ++ [y]) H3 else R zs H2)
    (hd : ∀ zs H, Pv xs.length zs H → ∀ p, H p = none → Q (.ref p) (upd H p (.lst zs))) :
    CompW is tc te σ Q (Itt K a) H := by
  refine ⟨fun i m zs H => m = xs.length - i ∧ i ≤ xs.length ∧ Pv i zs H, ⟨xs.length, by simp, Nat.zero_le _, h0⟩, ?_⟩
  rintro i m zs H ⟨rfl, hi, p⟩
  by_cases hlt : i < xs.length
  · refine .inr ⟨⟨xs, xs[i], hq i zs H p, List.getElem?_eq_getElem hlt⟩, hl i zs H p, fun x H' y => ?_⟩
    obtain ⟨e, y⟩ := y
    subst e
    exact hs i x zs _ (fun zs H => ∃ m', m' < xs.length - i ∧ m' = xs.length - (i + 1) ∧ i + 1 ≤ xs.length ∧ Pv (i + 1) zs H) (fun zs H q => ⟨xs.length - (i + 1), by lia, rfl, hlt, q⟩) (y xs (hq i zs _ p)) p
  · have e : i = xs.length := by lia
    exact .inl ⟨⟨xs, hq i zs H p, by lia⟩, hl _ _ _ p, by rw [e] at p; exact hd zs H p⟩
end L2
set_option Elab.async false
set_option linter.all false
set_option maxRecDepth 100000
set_option maxHeartbeats 1000000
namespace HT
open PySem PySem.Spec PyProof.Rows
section
variable {prog : Program} {w : World} {A : Around} {E : Value → Shared → Prop} {s : Shared}
end
end HT
namespace L2
open PySem PySem.Spec PyProof.Rows
section
variable {X : Cx} {e st : Expr} {te ts : TE} {pos p2 : Pos}
end
theorem units_of {k : Nat} {A : Around} (hr : Room k A) : A.units < cLine := hr.units0
end L2
set_option Elab.async false
set_option linter.all false
set_option maxRecDepth 100000
set_option maxHeartbeats 1000000
namespace RvT
open PySem PySem.Spec PyProof.Rows
section
variable {prog : Program} {w : World} {A : Around} {E : Value → Shared → Prop} {s : Shared}
end
end RvT
namespace L2
open PySem PySem.Spec PyProof.Rows
end L2
set_option Elab.async false
set_option linter.all false
set_option maxRecDepth 100000
set_option maxHeartbeats 1000000
namespace HT
open PySem PySem.Spec PyProof.Rows
section
variable {prog : Program} {w : World} {A : Around} {E : Value → Shared → Prop} {s : Shared}
theorem getItem_tuple_whole {t sl : Addr} {items : Array Value} {vl vu : Value} {lo hi : Option Int} {Q : Value → Shared → Prop} (ht : IsTup s.heap t items) (hs : s.heap.IsSliceOf sl vl vu .none) (pl : IsPart vl lo) (pu : IsPart vu hi)
    (hw : sIx items.size 0 lo = 0 ∧ sIx items.size items.size hi = items.size) (h : Q (.ref t) s) : wpAny (model prog w) A (getItem (.ref t) (.ref sl)) Q E s := by
  obtain ⟨os, hos, hcs, hds⟩ := id hs
  have hTs : s.TypeIs (.ref sl) "slice" := ⟨os, hos, hcs⟩
  unfold getItem
  try with_reducible refine wpAny_holding ?_
  first | refine wpAny_bind (wpAny_pure ?_) | skip
  refine wpAny_bind (wpAny_sequenceKey ht.typeIs (by decide) ?_)
  refine wpAny_bind (wpAny_callSpecial?_slot (name := Str.ofString "__getitem__") ht.typeIs PyProof.Rows.slot_tuple_getitem
    (wpAny_call_entry PyProof.Rows.slot_tuple_getitem ht.typeIs entry_tuple_getitem ?_ (args_tuple_getitem _ _)))
  show wpAny _ _ (Builtin.Tuple.tupleItemsOf (.ref t) >>= _) _ _ s
  refine wpAny_bind (tupleItemsOf_ ht ?_)
  refine wpAny_bind (wpAny_typeOf hTs ?_)
  rw [if_pos (by decide)]
  refine wpAny_bind (sliceApplied_gen hs pl pu ?_)
  have hyes : (((sIx items.size 0 lo : Nat) : Int) == 0 && (1 : Int) == 1 && (sIx items.size items.size hi - sIx items.size 0 lo) == items.size) = true := by
    rw [hw.1, hw.2]
    simp
  show wpAny _ _ (if (((sIx items.size 0 lo : Nat) : Int) == 0 && (1 : Int) == 1 && (sIx items.size items.size hi - sIx items.size 0 lo) == items.size) = true then _ else _) _ _ s
  rw [if_pos hyes]
  refine wpAny_bind (m := Builtin.Tuple.tupleIsExact (.ref t)) (wpAny_bind (wpAny_typeOf ht.typeIs (wpAny_pure ?_)))
  rw [if_pos (by decide)]
  first
    | exact wpAny_bind (wpAny_rule (wpAny_bind (wpAny_pure (wpAny_pure ⟨_, rfl, wpAny_pure h⟩))))
    | exact wpAny_bind (wpAny_rule (wpAny_pure ⟨_, rfl, wpAny_pure h⟩))
    | exact wpAny_bind (wpAny_rule (wpAny_bind (wpAny_pure ⟨_, rfl, wpAny_pure h⟩)))
end
end HT
namespace L2
open PySem PySem.Spec PyProof.Rows
section
variable {X : Cx}
/-- t[lo:hi], the whole of it: t itself -/
inductive rSlW_i (K : PySem.W.Frag) (x : V) (lo : Option Int) (hi : Option Int) (H : Hp) (Q : VK) : Prop
  | mk (a xs) : (x = .ref a) → (SqT K H a xs) → ((HT.sIx xs.length 0 lo = 0 ∧ HT.sIx xs.length xs.length hi = xs.length)) → (Q (.ref a) H) → rSlW_i K x lo hi H Q
def rSlW (K : PySem.W.Frag) : V → Option Int → Option Int → Hp → VK → Prop := fun x lo hi H Q => rSlW_i K x lo hi H Q
theorem sl_tupW : SlR X (rSlW X.K) := by
  intro pins s σ H x v vl vu lo hi sl Q I rx hs pl pu h
  obtain ⟨a, xs, rfl, hx, hw, q⟩ := h
  cases rx
  obtain ⟨its, r, ht, hz⟩ := I.tuple hx
  have hlen : its.toArray.size = xs.length := by rw [List.size_toArray]; exact r.length.symm
  refine ⟨"tuple", _, PyProof.Rows.slot_tuple_getitem.lookup, ht.typeIs, ?_⟩
  exact HT.getItem_tuple_whole ht hs pl pu (by rw [hlen]; exact hw) ⟨.ref a, H, I, rfl, q⟩
end
end L2
set_option Elab.async false
set_option linter.all false
set_option maxRecDepth 100000
set_option maxHeartbeats 1000000
namespace L2
open PySem PySem.Spec PyProof.Rows
section
variable {X : Cx}
end
/-- a comprehension over a list that the block leaves as it is -/
theorem comp_list {K : PySem.W.Frag} {a : Addr} {xs : List V} {is : List Nat} {tc : TT} {te : TE} {σ : St} {H : Hp} {Q : VK} (Pv : Nat → List V → Hp → Prop) (h0 : Pv 0 [] H) (hl : ∀ i zs H, Pv i zs H → zs.length ≤ sizeLine) (hq : ∀ i zs H, Pv i zs H → SqL K H a xs)
    (hs : ∀ i x zs H (R : List V → Hp → Prop), (∀ zs H, Pv (i + 1) zs H → R zs H) → xs[i]? = some x → Pv i zs H → tc (selS is σ (some x)) H fun b H2 => if b = true then te (selS is σ (some x)) H2 fun y H3 => R (zs ++ [y]) H3 else R zs H2)
    (hd : ∀ zs H, Pv xs.length zs H → ∀ p, H p = none → Q (.ref p) (upd H p (.lst zs))) :
    CompW is tc te σ Q (Itl K a) H := by
  refine ⟨fun i m zs H => m = xs.length - i ∧ i ≤ xs.length ∧ Pv i zs H, ⟨xs.length, by simp, Nat.zero_le _, h0⟩, ?_⟩
  rintro i m zs H ⟨rfl, hi, p⟩
  by_cases hlt : i < xs.length
  · refine .inr ⟨⟨xs, xs[i], hq i zs H p, List.getElem?_eq_getElem hlt⟩, hl i zs H p, fun x H' y => ?_⟩
    obtain ⟨e, y⟩ := y
    subst e
    exact hs i x zs _ (fun zs H => ∃ m', m' < xs.length - i ∧ m' = xs.length - (i + 1) ∧ i + 1 ≤ xs.length ∧ Pv (i + 1) zs H) (fun zs H q => ⟨xs.length - (i + 1), by lia, rfl, hlt, q⟩) (y xs (hq i zs _ p)) p
  · have e : i = xs.length := by lia
    exact .inl ⟨⟨xs, hq i zs H p, by lia⟩, hl _ _ _ p, by rw [e] at p; exact hd zs H p⟩
end L2
set_option Elab.async false
set_option linter.all false
set_option maxRecDepth 100000
set_option maxHeartbeats 1000000
namespace L2
open PySem PySem.Spec PyProof.Rows
def Its (x : Str) : It := ⟨fun i _ => i < x.cps.size, fun i H v H' => H' = H ∧ ∃ c, x.cps[i]? = some c ∧ v = .str ⟨#[c]⟩, fun i _ => i = x.cps.size⟩
theorem turn_str {P : Program} {w : World} {K : PySem.W.Frag} {tg : Expr} (it : Addr) (x : Str) (t : Tok) (T : String) (hT : T = "str_ascii_iterator" ∨ T = "str_iterator") : Turn P w K tg (Its x) [it] it (fun i h => h.IsStrIter it T x t i) where
  mem := by simp
  obj := fun i h st b hb => by
    have e : b = it := by simpa using hb
    subst e
    obtain ⟨o, e, c, d⟩ := st
    exact ⟨o, e, fun v z => by rw [d] at z; cases z⟩
  keep := fun i h h' st k => let ⟨o, ho, r⟩ := st; ⟨o, k it (by simp) o ho, r⟩
  item := by
    intro X hP hw hK hc i pins s σ H E I hf st hg
    subst hP hw hK
    obtain ⟨f0, f1, f2, f3, f4, f5⟩ := hf it (by simp)
    rcases hT with rfl | rfl
    · refine (Walks.strAscii (prog := X.prog) (w := X.w) (I.ok.hd hc) it x t).item i s _ _ hg st fun v h' tk hv st' kk => ?_
      obtain ⟨c, u, hc', rfl⟩ := hv
      have I1 : Inv X pins σ H { s with heap := h', toks := tk } := I.turned (fun b o hb e => kk b o (by simpa using hb) e) f0 f1 f3 f4 f5
      obtain ⟨o, e, cc, d⟩ := id st'
      exact ⟨_, rfl, go_of (s := { s with heap := h', toks := tk }) e cc d (by decide) ⟨.str ⟨#[c]⟩, H, I1, ⟨_, rfl⟩, ⟨rfl, c, hc', rfl⟩, st', fun b hb => (hf b hb).1⟩⟩
    · refine (Walks.strWide (prog := X.prog) (w := X.w) (I.ok.hd hc) it x t).item i s _ _ hg st fun v h' tk hv st' kk => ?_
      obtain ⟨c, u, hc', rfl⟩ := hv
      have I1 : Inv X pins σ H { s with heap := h', toks := tk } := I.turned (fun b o hb e => kk b o (by simpa using hb) e) f0 f1 f3 f4 f5
      obtain ⟨o, e, cc, d⟩ := id st'
      exact ⟨_, rfl, go_of (s := { s with heap := h', toks := tk }) e cc d (by decide) ⟨.str ⟨#[c]⟩, H, I1, ⟨_, rfl⟩, ⟨rfl, c, hc', rfl⟩, st', fun b hb => (hf b hb).1⟩⟩
  done := by
    intro X hP hw hK hc i pins s σ H E I hf st hg
    subst hP hw hK
    obtain ⟨f0, f1, f2, f3, f4, f5⟩ := hf it (by simp)
    have hg' : i = x.cps.size := hg
    subst hg'
    rcases hT with rfl | rfl
    · exact (Walks.strAscii (prog := X.prog) (w := X.w) (I.ok.hd hc) it x t).done s _ _ st fun h' tk kk => ⟨rfl, I.turned (t' := tk) (fun b o hb e => kk b o (by simpa using hb) e) f0 f1 f3 f4 f5⟩
    · exact (Walks.strWide (prog := X.prog) (w := X.w) (I.ok.hd hc) it x t).done s _ _ st fun h' tk kk => ⟨rfl, I.turned (t' := tk) (fun b o hb e => kk b o (by simpa using hb) e) f0 f1 f3 f4 f5⟩
  self := fun A i s Q E st h => by
    rcases hT with rfl | rfl
    · exact wpAny_pyIter_striter_ascii st h
    · exact wpAny_pyIter_striter_wide st h
inductive iStr_i (R : It → Hp → Prop) (v : V) (H1 : Hp) : Prop
  | mk (x) : (v = .str x) → (R (Its x) H1) → iStr_i R v H1
def iStr (te : TE) : TI := fun σ H R => te σ H fun v H1 => iStr_i R v H1
theorem qi_str {X : Cx} {tg l : Expr} {tl : TE} (hl : QE X l tl) : QI X tg l (iStr tl) := by
  refine ⟨fun pins s σ H R I h => ?_⟩
  refine thn (hl.out pins s σ H _ I h) fun v s1 ⟨y, H1, I1, r1, q1⟩ => ?_
  obtain ⟨x, rfl, q⟩ := q1
  obtain ⟨t, rfl⟩ := r1
  have go : ∀ (o : Obj) (T : String), (T = "str_ascii_iterator" ∨ T = "str_iterator") → (s1.heap.push o).IsStrIter s1.heap.objs.size T x t 0 → PIE X pins σ tg R (.ref s1.heap.objs.size) { s1 with heap := s1.heap.push o } := fun o T hT st =>
    ⟨s1.heap.objs.size, [s1.heap.objs.size], _, _, H1, rfl, I1.kept (t' := s1.toks) fun b o e => Heap.get?_push_of_some _ e, turn_str _ x t T hT, st, fun b hb => by
      have e : b = s1.heap.objs.size := by simpa using hb
      subst e
      exact I1.fpOk (Nat.le_refl _) (I1.hok.fresh (Nat.le_refl _)), q⟩
  cases ha : x.cps.all (· < 128)
  · exact wpAny_pyIter_wide ha (go _ "str_iterator" (.inr rfl) ⟨_, Heap.get?_push_size _ rfl, rfl, rfl⟩)
  · exact wpAny_pyIter_ascii ha (go _ "str_ascii_iterator" (.inl rfl) ⟨_, Heap.get?_push_size _ rfl, rfl, rfl⟩)
section
variable {X : Cx}
/-- all(xs) of a list of truths -/
theorem call_allL (hc : X.calm = true) : CallR X (.builtin "all") (fun xs H Q => ∃ (p : Addr) (bs : List Bool), xs = [.ref p] ∧ SqL X.K H p (bs.map V.bl) ∧ Q (.bl (bs.all id)) H) := by
  intro pins s σ H xs us Q I r h
  obtain ⟨p, bs, rfl, hq, q⟩ := h
  obtain ⟨u, rfl, rx⟩ := vals1 r
  cases rx
  obtain ⟨its, r', pl, hz⟩ := I.list hq
  have hl := pl.isList
  have hlt : p < s.heap.objs.size := by obtain ⟨_, e, _⟩ := hl; exact Heap.lt_size e
  have hlen := r'.length
  rw [List.length_map] at hlen
  refine call_all_walk (wpAny_pyIter_list hl ?_)
  refine ⟨s.heap.objs.size, [s.heap.objs.size, p], [s.heap.objs.size], its.toArray.size, _, _, fun i => (bs[i]?).getD true, rfl, Walks.list (A := X.A.in1) (I.ok.hd hc) _ p (Nat.ne_of_lt hlt) its.toArray,
    ⟨⟨_, Heap.get?_push_size _ rfl, rfl, rfl⟩, hl.push _⟩, fun i v s' Q' E' hP hQ => ?_, fun h' tk hk => ?_⟩
  · have hi : its[i]? = some v := by simpa using hP
    have hb : i < bs.length := by rw [hlen]; exact (List.getElem?_eq_some_iff.mp hi).1
    obtain ⟨w', e1, e2⟩ := r'.get (show (bs.map V.bl)[i]? = some (V.bl bs[i]) by rw [List.getElem?_map, List.getElem?_eq_getElem hb]; rfl)
    rw [hi] at e1
    cases e1
    cases e2
    simp only [List.getElem?_eq_getElem hb, Option.getD_some] at hQ
    exact wpAny_truthy_bool hQ
  · have e : ((List.range its.toArray.size).all fun i => (bs[i]?).getD true) = bs.all id := by
      rw [List.size_toArray, ← hlen, Bool.eq_iff_iff, List.all_eq_true, List.all_eq_true]
      constructor
      · intro z b hb
        obtain ⟨i, hi, rfl⟩ := List.getElem_of_mem hb
        have := z i (List.mem_range.mpr hi)
        simpa [List.getElem?_eq_getElem hi] using this
      · intro z i hi
        have hi' := List.mem_range.mp hi
        have := z _ (List.getElem_mem hi')
        simpa [List.getElem?_eq_getElem hi'] using this
    rw [e]
    refine ⟨.bl (bs.all id), H, I.kept (t' := tk) (fun b o eb => hk b o (fun hm => ?_) (Heap.get?_push_of_some _ eb)), rfl, q⟩
    rw [List.mem_singleton.mp hm] at eb
    exact absurd (Heap.lt_size eb) (Nat.lt_irrefl _)
end
end L2
set_option Elab.async false
set_option linter.all false
set_option maxRecDepth 100000
set_option maxHeartbeats 1000000
namespace L2
open PySem PySem.Spec PyProof.Rows
section
variable {X : Cx}
end
end L2
set_option Elab.async false
set_option linter.all false
set_option maxRecDepth 100000
set_option maxHeartbeats 1000000
namespace L2
open PySem PySem.Spec PyProof.Rows
theorem bt_max : bootBuiltins "max" = some (.builtin "max") := by decide +kernel
theorem bt_min : bootBuiltins "min" = some (.builtin "min") := by decide +kernel
theorem take_snoc {α : Type} {xs : List α} {i : Nat} {x : α} (h : xs[i]? = some x) : xs.take (i + 1) = xs.take i ++ [x] := by
  rw [List.take_succ, h]
  rfl
end L2
set_option Elab.async false
set_option linter.all false
set_option maxRecDepth 100000
namespace L2
open PySem PySem.Spec PyProof.Rows
section
variable {κ : Type} [DecidableEq κ]
def valV (kvs : List (κ × V)) (k : κ) : Option V := (kvs.find? fun kv => decide (kv.1 = k)).map (·.2)
/-- in its place, or at the end -/
def putK (kvs : List (κ × V)) (k : κ) (v : V) : List (κ × V) :=
  if (kvs.any fun kv => decide (kv.1 = k)) = true then kvs.map (fun kv => if kv.1 = k then (kv.1, v) else kv) else kvs ++ [(k, v)]
theorem valV_pos {p : κ × V} {r : List (κ × V)} {k : κ} (e : p.1 = k) : valV (p :: r) k = some p.2 := by simp [valV, List.find?_cons, e]
theorem valV_neg {p : κ × V} {r : List (κ × V)} {k : κ} (e : ¬ p.1 = k) : valV (p :: r) k = valV r k := by simp [valV, List.find?_cons, e]
theorem valV_any (k : κ) : ∀ kvs : List (κ × V), (kvs.any fun kv => decide (kv.1 = k)) = (valV kvs k).isSome
  | [] => rfl
  | p :: r => by
    rw [List.any_cons]
    by_cases e : p.1 = k
    · simp only [valV_pos e, decide_eq_true e, Bool.true_or, Option.isSome_some]
    · rw [valV_neg e, decide_eq_false e, Bool.false_or]; exact valV_any k r
theorem valV_map (k j : κ) (y : V) : ∀ kvs : List (κ × V), valV (kvs.map fun kv => if kv.1 = k then (kv.1, y) else kv) j = (valV kvs j).map fun x => if j = k then y else x
  | [] => rfl
  | p :: r => by
    have ih := valV_map k j y r
    rw [List.map_cons]
    by_cases h : p.1 = k
    · rw [if_pos h]
      by_cases e : p.1 = j
      · rw [valV_pos (p := (p.1, y)) e, valV_pos e, Option.map_some, if_pos (e.symm.trans h)]
      · rw [valV_neg (p := (p.1, y)) e, valV_neg e, ih]
    · rw [if_neg h]
      by_cases e : p.1 = j
      · rw [valV_pos (p := p) e, valV_pos e, Option.map_some, if_neg (fun z => h (e.trans z))]
      · rw [valV_neg (p := p) e, valV_neg e, ih]
theorem valV_snoc (k j : κ) (y : V) : ∀ kvs : List (κ × V), valV kvs k = none → valV (kvs ++ [(k, y)]) j = if j = k then some y else valV kvs j
  | [], _ => by
    by_cases e : k = j
    · rw [if_pos e.symm]; exact valV_pos (p := (k, y)) e
    · rw [if_neg (fun z => e z.symm)]; exact valV_neg (p := (k, y)) e
  | p :: r, hn => by
    rw [List.cons_append]
    have hk : ¬ p.1 = k := fun z => by rw [valV_pos z] at hn; cases hn
    rw [valV_neg hk] at hn
    have ih := valV_snoc k j y r hn
    by_cases e : p.1 = j
    · rw [valV_pos e, valV_pos e, if_neg (fun z => hk (e.trans z))]
    · rw [valV_neg e, valV_neg e, ih]
theorem valV_put (kvs : List (κ × V)) (k j : κ) (y : V) : valV (putK kvs k y) j = if j = k then some y else valV kvs j := by
  unfold putK
  by_cases a : (kvs.any fun kv => decide (kv.1 = k)) = true
  · rw [if_pos a, valV_map]
    rw [valV_any] at a
    by_cases e : j = k
    · obtain ⟨x, hx⟩ := Option.isSome_iff_exists.mp a
      rw [if_pos e, e, hx, Option.map_some, if_pos rfl]
    · rw [if_neg e]
      cases valV kvs j with
      | none => rfl
      | some x => rw [Option.map_some, if_neg e]
  · rw [if_neg a]
    refine valV_snoc k j y kvs ?_
    rw [valV_any] at a
    cases q : valV kvs k with
    | none => rfl
    | some x => rw [q] at a; exact (a rfl).elim
theorem length_putK (kvs : List (κ × V)) (k : κ) (v : V) : (putK kvs k v).length ≤ kvs.length + 1 := by
  unfold putK
  split
  · rw [List.length_map]; lia
  · rw [List.length_append, List.length_cons, List.length_nil]; lia
theorem RelO.isSome_eq {o : Option V} {u : Option Value} (r : RelO o u) : o.isSome = u.isSome := by
  cases o with
  | none => cases u with
    | none => rfl
    | some _ => exact (show False from r).elim
  | some _ => cases u with
    | none => exact (show False from r).elim
    | some _ => rfl
theorem RelO.getD {o : Option V} {u : Option Value} {d : V} {d' : Value} (r : RelO o u) (rd : RelV d d') : RelV (o.getD d) (u.getD d') := by
  cases o with
  | none => cases u with
    | none => exact rd
    | some _ => exact (show False from r).elim
  | some _ => cases u with
    | none => exact (show False from r).elim
    | some _ => exact r
/-- raw tables of the same keys -/
theorem KV.val {kvs : List (κ × V)} {vs : List (κ × Value)} (r : KV kvs vs) (k : κ) : RelO (valV kvs k) (valueAt vs k) := by
  unfold KV at r
  induction r with
  | nil => exact True.intro
  | @cons p q ps qs h t ih =>
    obtain ⟨h1, h2⟩ := h
    by_cases e : p.1 = k
    · have e' : q.1 = k := h1.symm.trans e
      have b : valueAt (q :: qs) k = some q.2 := by simp [valueAt, List.find?_cons, e']
      rw [valV_pos e, b]; exact h2
    · have e' : ¬ q.1 = k := fun z => e (h1.trans z)
      have b : valueAt (q :: qs) k = valueAt qs k := by simp [valueAt, List.find?_cons, e']
      rw [valV_neg e, b]; exact ih
theorem KV.any {kvs : List (κ × V)} {vs : List (κ × Value)} (r : KV kvs vs) (k : κ) : (kvs.any fun kv => decide (kv.1 = k)) = vs.any fun kv => decide (kv.1 = k) := by
  unfold KV at r
  induction r with
  | nil => rfl
  | cons h t ih => rw [List.any_cons, List.any_cons, ih, h.1]
theorem KV.repl {kvs : List (κ × V)} {vs : List (κ × Value)} (r : KV kvs vs) (k : κ) {y : V} {u : Value} (ry : RelV y u) :
    KV (kvs.map fun kv => if kv.1 = k then (kv.1, y) else kv) (vs.map fun kv => if kv.1 = k then (kv.1, u) else kv) := by
  unfold KV at r ⊢
  induction r with
  | nil => exact .nil
  | @cons p q ps qs h t ih =>
    rw [List.map_cons, List.map_cons]
    refine .cons ?_ ih
    obtain ⟨h1, h2⟩ := h
    by_cases e : p.1 = k
    · rw [if_pos e, if_pos (h1.symm.trans e)]; exact ⟨h1, ry⟩
    · rw [if_neg e, if_neg (fun z => e (h1.trans z))]; exact ⟨h1, h2⟩
theorem KV.put {kvs : List (κ × V)} {vs : List (κ × Value)} (r : KV kvs vs) (k : κ) {y : V} {u : Value} (ry : RelV y u) : KV (putK kvs k y) (stored vs k u) := by
  unfold putK stored
  rw [r.any k]
  by_cases e : (vs.any fun kv => decide (kv.1 = k)) = true
  · rw [if_pos e, if_pos e]; exact r.repl k ry
  · rw [if_neg e, if_neg e]; exact Paired.snoc r ⟨rfl, ry⟩
theorem KV.keys {kvs : List (κ × V)} {vs : List (κ × Value)} (r : KV kvs vs) : kvs.map (·.1) = vs.map (·.1) := by
  unfold KV at r
  induction r with
  | nil => rfl
  | cons h t ih => rw [List.map_cons, List.map_cons, ih, h.1]
theorem KV.length {kvs : List (κ × V)} {vs : List (κ × Value)} (r : KV kvs vs) : kvs.length = vs.length := Paired.length r
end
theorem kV_is {P : Program} {w : World} {k : Key} {u : Value} (r : RelV (kV k) u) : (mixKind P w).is k u = true := by
  cases k with
  | inl i => obtain ⟨t, e⟩ := (show ∃ t, u = Value.int i t from r); subst e; exact mixKind_int P w i t
  | inr x => obtain ⟨t, e⟩ := (show ∃ t, u = Value.str x t from r); subst e; exact mixKind_str P w x t
theorem items_are {P : Program} {w : World} : ∀ {ks : List Key} {us : List Value}, Vals (ks.map kV) us → ItemsAre (mixKind P w) ks us
  | [], _, r => by rw [List.map_nil] at r; cases r; exact .nil
  | k :: ks, _, r => by
    rw [List.map_cons] at r
    cases r with
    | cons h t => exact .cons (kV_is h) (items_are t)
/-- raw entries of a dict with tuple keys -/
abbrev KT (H : Hp) : List (List Key × V) → List (List Key × Addr × Value) → Prop := Paired fun p q => p.1 = q.1 ∧ H q.2.1 = some (.tup (p.1.map kV)) ∧ RelV p.2 q.2.2
theorem KT.val {H : Hp} {kvs : List (List Key × V)} {xs : List (List Key × Addr × Value)} (r : KT H kvs xs) (k : List Key) : RelO (valV kvs k) ((atKey xs k).map (·.2)) := by
  induction r with
  | nil => exact True.intro
  | @cons p q ps qs h t ih =>
    obtain ⟨h1, _, h2⟩ := h
    by_cases e : p.1 = k
    · have e' : q.1 = k := h1.symm.trans e
      have b : atKey (q :: qs) k = some q.2 := by simp [atKey, List.find?_cons, e']
      rw [valV_pos e, b]; exact h2
    · have e' : ¬ q.1 = k := fun z => e (h1.trans z)
      have b : atKey (q :: qs) k = atKey qs k := by simp [atKey, List.find?_cons, e']
      rw [valV_neg e, b]; exact ih
section
variable {P : Program} {w : World} {H : Hp} {h : Heap} {a : Addr}
theorem rd_of {u : HO} (ok : HOk P w H h) (e : Rd H a u) : ObjOk P w H h a u := e.ok ok
theorem dk_rd {kvs : List (Key × V)} (ok : HOk P w H h) (e : Rd H a (.dK kvs)) : kvs.length ≤ sizeLine ∧ (a == sysModules) = false ∧ ∃ vs, KV kvs vs ∧ h.DictOf (mixKind P w) a vs :=
  show ObjOk P w H h a (.dK kvs) from rd_of ok e
theorem dk_of {kvs : List (Key × V)} (ok : HOk P w H h) (e : H a = some (.dK kvs)) : kvs.length ≤ sizeLine ∧ (a == sysModules) = false ∧ ∃ vs, KV kvs vs ∧ h.DictOf (mixKind P w) a vs := dk_rd ok (.inl e)
/-- a tracked tuple of ints and texts is a key -/
theorem key_of {ks : List Key} (ok : HOk P w H h) (e : H a = some (.tup (ks.map kV))) : (tupleKind (mixKind P w)).is h ks a := by
  obtain ⟨_, its, r, o, h1, h2, ⟨n, h3⟩, _⟩ := (show ObjOk P w H h a (.tup (ks.map kV)) from ok a _ e)
  exact ⟨o, its.toArray, n, h1, h2, h3, by simpa using items_are r⟩
theorem dt_rd {kvs : List (List Key × V)} (ok : HOk P w H h) (e : Rd H a (.dT kvs)) : kvs.length ≤ sizeLine ∧ (a == sysModules) = false ∧
    ∃ xs, KT H kvs xs ∧ h.DictOfH (tupleKind (mixKind P w)) a xs := by
  obtain ⟨z, y, xs, r, o, es, ep, h1, h2, h3, h4, h5⟩ := (show ObjOk P w H h a (.dT kvs) from rd_of ok e)
  refine ⟨z, y, xs, r, o, es, ep, h1, h2, h3, h4, fun x hx => ?_, h5⟩
  have all : ∀ {l : List (List Key × V)} {m : List (List Key × Addr × Value)}, KT H l m → ∀ x ∈ m, (tupleKind (mixKind P w)).is h x.1 x.2.1 := by
    intro l m q
    induction q with
    | nil => intro x hx; exact nomatch hx
    | @cons p q ps qs hq t ih =>
      intro x hx
      rcases List.mem_cons.mp hx with e | hx
      · subst e
        exact key_of ok (by rw [← hq.1]; exact hq.2.1)
      · exact ih x hx
  exact all r x hx
end
/-- what the dict at a holds at the key y -/
def DGet (H : Hp) (a : Addr) (y : V) (r : Option V) : Prop :=
  (∃ kvs k, Rd H a (.dK kvs) ∧ y = kV k ∧ r = valV kvs k) ∨ ∃ kvs k b, Rd H a (.dT kvs) ∧ y = .ref b ∧ H b = some (.tup (k.map kV)) ∧ r = valV kvs k
section
variable {X : Cx} {pins : List (Addr × Obj)} {σ : St} {H : Hp} {s : Shared} {a : Addr} {y v : V} {u r : Value} {o : Option V} {A : Around} {E : Value → Shared → Prop}
theorem Inv.big (I : Inv X pins σ H s) : sysModules < s.heap.objs.size := by
  have h : mainGlobals < s.heap.objs.size := (I.mod.glob.keeps I.bk).lt
  exact Nat.lt_trans (by decide) h
/-- d[y], there -/
theorem d_getItem {Q : Value → Shared → Prop} (hu : A.units + 1 < cLine) (I : Inv X pins σ H s) (g : DGet H a y (some v)) (ry : RelV y u) (h : ∀ w' s', Inv X pins σ H s' → RelV v w' → Q w' s') :
    wpAny (model X.prog X.w) A (getItem (.ref a) u) Q E s := by
  rcases g with ⟨kvs, k, e, ey, l⟩ | ⟨kvs, k, b, e, ey, eb, l⟩
  · subst ey
    obtain ⟨z, hd, vs, rel, dd⟩ := dk_rd I.hok e
    obtain ⟨w', hw, rw'⟩ := RelO.some_of (v := v) (o := valueAt vs k) (by rw [l]; exact rel.val k)
    exact wpAny_getItem_of (kV_is ry) dd.mapOf hw (h w' _ (I.tok _) rw')
  · subst ey
    cases (show u = Value.ref b from ry)
    obtain ⟨z, hd, xs, rel, dd⟩ := dt_rd I.hok e
    obtain ⟨w', hw, rw'⟩ := RelO.some_of (v := v) (o := (atKey xs k).map (·.2)) (by rw [l]; exact rel.val k)
    obtain ⟨p, hp, hp2⟩ := Option.map_eq_some_iff.mp hw
    refine wpAny_getItem_heap (tupleKind_room_in1 hu) (key_of I.hok eb) dd hp ?_
    rw [hp2]
    exact h w' _ (I.tok _) rw'
/-- a dict's object is replaced -/
theorem d_write {h' : Heap} {t' : Nat} {ob : HO} (I : Inv X pins σ H s) (mu : Mut (H a)) (hs : Heap.SameBut a s.heap h') (he : ∃ q, h'.get? a = some q) (new : ObjOk X.prog X.w (upd H a ob) h' a ob) :
    Inv X pins σ (upd H a ob) { s with heap := h', toks := t' } :=
  I.write (x := a) (e := a) mu (.inl rfl) (fun b q hb z => (hs.2 b hb).trans z) he new
theorem dk_new {P : Program} {w : World} {H' : Hp} {h' : Heap} {kvs : List (Key × V)} {vs : List (Key × Value)} (z : kvs.length ≤ sizeLine) (hd : (a == sysModules) = false) (rel : KV kvs vs) (dd : h'.DictOf (mixKind P w) a vs) :
    ObjOk P w H' h' a (.dK kvs) := ⟨z, hd, vs, rel, dd⟩
end
section
variable {X : Cx} {pins : List (Addr × Obj)} {σ : St} {H : Hp} {s : Shared} {a : Addr} {kvs : List (Key × V)} {k : Key} {u : Value} {A : Around} {E : Value → Shared → Prop}
end
/-- the element of a subscription, not a slice -/
def NoSl (i : Expr) : Prop := ∀ ov iv, subscripted i false ov iv = operate [ov, iv] (getItem ov iv)
theorem subD_of {prog : Program} {w : World} {A : Around} {E : Value → Shared → Prop} {s : Shared} {env : Env} {value slice : Expr} {pos : Pos} {T id : String} {Q : Value → Shared → Prop}
    (hl : typeLookup (.type T) "__getitem__" = pure (some (.builtin id))) (hs : NoSl slice)
    (h : wpAny (model prog w) A (eval value env) (fun o s₁ => wpAny (model prog w) A (eval slice env) (fun i s₂ => s₂.TypeIs o T ∧ wpAny (model prog w) A (getItem o i) Q E s₂) E s₁) E s) :
    wpAny (model prog w) A (eval (.Subscript value slice pos) env) Q E s := by
  refine Subscript_ (wpAny_mono h (fun o s₁ h₁ => wpAny_mono h₁ (fun i s₂ h₂ => ?_) fun _ _ x => x) fun _ _ x => x)
  obtain ⟨hT, h₂⟩ := h₂
  unfold subscriptTail
  refine wpAny_bind ?_
  rw [getitemInPython_of_ne hT.not_modules]
  refine wpAny_bind (wpAny_specialOf hT hl ?_)
  have fin : wpAny (model prog w) A (subscripted slice false o i) (fun r s₃ => wpAny (model prog w) A (letTemporaryGo value o r >>= fun _ => pure r) Q E s₃) E s₂ := by
    rw [hs o i]
    exact wpAny_operating (wpAny_mono h₂ (fun r s₃ h₃ => wpAny_bind (wpAny_letTemporaryGo (wpAny_pure h₃))) fun _ _ x => x)
  first
    | exact wpAny_pure (wpAny_bind fin)
    | exact wpAny_bind (wpAny_pure (wpAny_bind fin))
    | exact wpAny_bind fin
theorem dict_typeIs {X : Cx} {pins : List (Addr × Obj)} {σ : St} {H : Hp} {s : Shared} {a : Addr} {y : V} {o : Option V} (I : Inv X pins σ H s) (g : DGet H a y o) : s.TypeIs (.ref a) "dict" := by
  rcases g with ⟨kvs, k, e, _, _⟩ | ⟨kvs, k, b, e, _, _, _⟩
  · obtain ⟨_, _, vs, _, dd⟩ := dk_rd I.hok e
    exact dd.typeIs
  · obtain ⟨_, _, xs, _, dd⟩ := dt_rd I.hok e
    exact dd.typeIs
/-- d[y] -/
inductive tDGet_i (Q : VK) (x : V) (y : V) (H2 : Hp) : Prop
  | mk (a v) : (x = .ref a) → (DGet H2 a y (some v)) → (Q v H2) → tDGet_i Q x y H2
def tDGet (td ty : TE) : TE := fun σ H Q => td σ H fun x H1 => ty σ H1 fun y H2 => tDGet_i Q x y H2
section
variable {X : Cx} {o i e value : Expr} {pos pos' tpos : Pos} {td ty tv : TE}
theorem pe_dget (hu : X.A.units + 1 < cLine) (ho : PE X o td) (hi : PE X i ty) (hs : NoSl i) : PE X (.Subscript o i pos) (tDGet td ty) := by
  intro pins s σ H Q I h
  refine subD_of PySem.F.slot_dict_getitem.lookup hs (thn (ho pins s σ H _ I h) fun u s1 ⟨x, H1, I1, rx, q1⟩ => thn (hi pins s1 σ H1 _ I1 q1) fun iv s2 ⟨y, H2, I2, ry, a, v, ex, g, q2⟩ => ?_)
  subst ex
  obtain rfl : u = Value.ref a := rx
  exact ⟨dict_typeIs I2 g, d_getItem hu I2 g ry fun w' s3 I3 rw' => ⟨v, H2, I3, rw', q2⟩⟩
end
theorem dk_empty {P : Program} {w : World} {H : Hp} (h : Heap) (hb : sysModules < h.objs.size) : ObjOk P w H (h.push { cls := .type "dict", data := .dict #[] }) h.objs.size (.dK []) :=
  ⟨Nat.zero_le _, beq_eq_false_iff_ne.mpr (Ne.symm (Nat.ne_of_lt hb)), [], .nil, Heap.DictOf.new h⟩
/-- {}, to be a dict of the kind that is wanted -/
def tDNewK : TE := fun _ H Q => ∀ p, H p = none → Q (.ref p) (upd H p (.dK []))
section
variable {X : Cx} {pos : Pos}
theorem pe_dnewK : PE X (.Dict [] [] pos) tDNewK := fun pins s σ H Q I h =>
  wpAny_Dict_empty ⟨.ref s.heap.objs.size, _, I.laid (a := s.heap.objs.size) (o := .dK []) (t' := s.toks) (fun _ _ q => Heap.get?_push_of_some _ q) (Nat.le_refl _) (dk_empty s.heap I.big), rfl, h _ (I.hok.fresh (Nat.le_refl _))⟩
end
structure M2 (X : Cx) (o : Expr) (m : Str) (apos : Pos) (e f : Expr) (cpos : Pos) : Prop where
  base : attributeBase o m X.env (eval o X.env) = eval o X.env
  few : ((backTo cpos (starEach [e, f] X.env)).all (fun x => !x.1) && (backToKw cpos (keywordEach [] X.env)).all (fun x => x.1.isSome)
    && decide (([e, f] : List Expr).length + ([] : List Keyword).length + (if ([] : List Keyword).isEmpty then 0 else 1) < 30)) = true
  line : (apos.endLine == cpos.line) = true
  trees : backTo cpos (starEach [e, f] X.env) = [(false, eval e X.env), (false, eval f X.env)]
section
variable {X : Cx} {pins : List (Addr × Obj)} {σ : St} {H : Hp} {s : Shared} {a : Addr} {y d : V} {u r : Value} {o : Option V} {A : Around} {E : Value → Shared → Prop}
end
section
variable {X : Cx} {o e f : Expr} {apos cpos : Pos} {td ty tx : TE}
end
section
variable {X : Cx} {pins : List (Addr × Obj)} {σ : St} {H : Hp} {s : Shared} {a : Addr} {kvs : List (Key × V)} {A : Around} {E : Value → Shared → Prop}
end
section
variable {X : Cx} {pins : List (Addr × Obj)} {σ : St} {H : Hp} {s : Shared} {a : Addr} {y : V} {u : Value} {A : Around} {E : Value → Shared → Prop}
end
end L2
namespace L2
open PySem PySem.Spec PyProof.Rows
section
variable {X : Cx}
end
end L2
set_option Elab.async false
set_option linter.all false
set_option maxRecDepth 100000
set_option maxHeartbeats 1000000
namespace EnT
open PySem PySem.Spec PyProof.Rows
open AutoSeq1 (wpAny_loadPart')
section
variable {prog : Program} {w : World} {A : Around} {E : Value → Shared → Prop} {s : Shared}
theorem next_of {it l : Addr} {i : Nat} {items} {x : Value} {Q : Value → Shared → Prop} (hit : s.heap.IsTupleIter it l i) (hl : s.heap.IsTuple l items) (hx : items[i]? = some x)
    (hQ : ∀ h', h'.IsTupleIter it l (i + 1) → Heap.SameBut it s.heap h' → Q x { s with heap := h' }) : wpAny (model prog w) A (Builtin.SmallTypes.nextOf (.ref it)) Q E s := by
  obtain ⟨o, ho, hc, hd⟩ := id hit
  obtain ⟨ol, hol, _, nl, hdl⟩ := hl
  unfold Builtin.SmallTypes.nextOf
  refine wpAny_bind (wpAny_callSpecial?_slot (name := Str.ofString "__next__") hit.typeIs F.slot_tuple_iterator_next (wpAny_call_entry F.slot_tuple_iterator_next hit.typeIs F.entry_tuple_iterator_next ?_ (F.args_tuple_iterator_next_1 _)))
  show wpAny _ _ (field (.ref it) 0 >>= _) _ _ s
  refine wpAny_bind (wpAny_field ho hd (x := .ref l) rfl ?_)
  show wpAny _ _ (if (Value.ref l == Value.none) = true then _ else _) _ _ s
  rw [if_neg (show ¬ ((Value.ref l == Value.none) = true) from Bool.false_ne_true)]
  show wpAny _ _ (field (.ref it) 1 >>= _) _ _ s
  refine wpAny_bind (wpAny_field ho hd (x := .int i 0) rfl ?_)
  show wpAny _ _ (seqItems? (.ref l) >>= _) _ _ s
  refine wpAny_bind (wpAny_seqItems hol hdl ?_)
  simp only [Int.toNat_natCast, hx]
  refine wpAny_bind (wpAny_setField ho hd (by simp) (wpAny_pure ⟨x, rfl, wpAny_pure (hQ _ ⟨_, Heap.get?_update_self _ ho (Obj.isFreed_of_fields (Obj.data_mapFields hd _)), (Obj.cls_mapFields ..).trans hc, ?_⟩ (Heap.SameBut.update ..))⟩))
  rw [Obj.data_mapFields hd]
  simp [rawInt]
theorem step_in {e it l : Addr} {i : Nat} {items : Array Value} {x old : Value} {Q : Value → Shared → Prop}
    (he : IsEnum s.heap e it i old) (hit : s.heap.IsTupleIter it l i) (hl : s.heap.IsTuple l items) (hx : items[i]? = some x) (hne : e ≠ it)
    (hQ : ∀ h', IsEnumOut h' e it ((i : Int) + 1) x s.heap.objs.size → h'.IsTupleIter it l (i + 1) →
      h'.get? s.heap.objs.size = some { cls := .type "tuple", data := .seq #[.int i s.toks, x] } → h'.objs.size = s.heap.objs.size + 1 →
      (∀ b o, b ≠ e → b ≠ it → s.heap.get? b = some o → h'.get? b = some o) → Q (.ref s.heap.objs.size) { s with heap := h', toks := s.toks + 1 }) :
    wpAny (model prog w) A (Builtin.«enumerate.__next__» ⟨[.ref e], []⟩) (fun fin s' => ∃ v, fin = .done (.ret v) ∧ Q v s') E s := by
  obtain ⟨hp, g, d, tk, os⟩ := s
  show wpAny _ _ (field (.ref e) 2 >>= _) _ _ _
  refine wpAny_bind (wpAny_field he rfl (x := .ref it) rfl ?_)
  refine wpAny_bind (next_of hit hl hx fun h₁ hit₁ hs₁ => ?_)
  replace hs₁ : Heap.SameBut it hp h₁ := hs₁
  have he₁ : IsEnum h₁ e it i old := (hs₁.2 e hne).trans he
  show wpAny _ _ (field (.ref e) 3 >>= _) _ _ ⟨h₁, g, d, tk, os⟩
  refine wpAny_bind (wpAny_field he₁ rfl (x := rawInt i) rfl ?_)
  show wpAny _ _ (field (.ref e) 4 >>= _) _ _ ⟨h₁, g, d, tk, os⟩
  refine wpAny_bind (wpAny_field he₁ rfl (x := .none) rfl ?_)
  show wpAny _ _ (mkInt i >>= _) _ _ ⟨h₁, g, d, tk, os⟩
  refine wpAny_bind (wpAny_mkInt ?_)
  show wpAny _ _ (setField (.ref e) 3 (rawInt ((i : Int) + 1)) >>= _) _ _ ⟨h₁, g, d, tk + 1, os⟩
  refine wpAny_bind (wpAny_setField_rec he₁ (by simp) fun h₂ he₂ hs₂ => ?_)
  replace hs₂ : Heap.SameBut e h₁ h₂ := hs₂
  replace he₂ : IsEnum h₂ e it ((i : Int) + 1) old := he₂
  show wpAny _ _ (setField (.ref e) 4 .none >>= _) _ _ ⟨h₂, g, d, tk + 1, os⟩
  refine wpAny_bind (wpAny_setField_rec he₂ (by simp) fun h₃ he₃ hs₃ => ?_)
  replace hs₃ : Heap.SameBut e h₂ h₃ := hs₃
  replace he₃ : IsEnum h₃ e it ((i : Int) + 1) old := he₃
  show wpAny _ _ (newTuple [.int i tk, x] >>= _) _ _ ⟨h₃, g, d, tk + 1, os⟩
  refine wpAny_bind (wpAny_newTuple ?_)
  have he₄ : IsEnum (h₃.push { cls := .type "tuple", data := .seq #[.int i tk, x] }) e it ((i : Int) + 1) old := Heap.get?_push_of_some _ he₃
  generalize hh₄ : h₃.push { cls := .type "tuple", data := .seq #[.int i tk, x] } = h₄ at he₄
  have hsz : h₃.objs.size = hp.objs.size := by rw [hs₃.1, hs₂.1, hs₁.1]
  have hel : e < hp.objs.size := Heap.lt_size he
  have ht₄ : h₄.get? hp.objs.size = some { cls := .type "tuple", data := .seq #[.int i tk, x] } := by rw [← hh₄, ← hsz]; exact Heap.get?_push_size _ rfl
  have hz₄ : h₄.objs.size = hp.objs.size + 1 := by rw [← hh₄, Heap.size_push, hsz]
  have hk₄ : ∀ b o, b ≠ e → b ≠ it → hp.get? b = some o → h₄.get? b = some o := fun b o hbe hbi hb => by
    rw [← hh₄]; exact Heap.get?_push_of_some _ (hs₃.extBut b o hbe (hs₂.extBut b o hbe (hs₁.extBut b o hbi hb)))
  have hit₄ : h₄.IsTupleIter it l (i + 1) := by
    rw [← hh₄]; obtain ⟨o, ho, r⟩ := (hit₁.extBut hs₂.extBut (Ne.symm hne)).extBut hs₃.extBut (Ne.symm hne); exact ⟨o, Heap.get?_push_of_some _ ho, r⟩
  show wpAny _ _ (Builtin.SmallTypes.ownedTupleIsFree (.ref e) >>= _) _ _ ⟨h₄, g, d, tk + 1, os⟩
  rw [hsz]
  clear hh₄ he₃ hs₃ he₂ hs₂ he₁ hs₁ hit₁ hsz h₃ h₂ h₁
  refine wpAny_bind ?_
  · unfold Builtin.SmallTypes.ownedTupleIsFree
    refine wpAny_bind (wpAny_field he₄ rfl (x := .none) rfl (wpAny_pure ?_))
    simp only [if_true]
    refine wpAny_bind (wpAny_rule ?_)
    refine wpAny_bind (wpAny_field he₄ rfl (x := old) rfl ?_)
    refine wpAny_bind (wpAny_setField_rec he₄ (by simp) fun h₅ he₅ hs₅ => ?_)
    replace hs₅ : Heap.SameBut e h₄ h₅ := hs₅
    replace he₅ : IsEnum h₅ e it ((i : Int) + 1) x := he₅
    show wpAny _ _ (Builtin.SmallTypes.ownedTupleHandOut (.ref e) (.ref hp.objs.size) >>= _) _ _ ⟨h₅, g, d, tk + 1, os⟩
    refine wpAny_bind ?_
    · unfold Builtin.SmallTypes.ownedTupleHandOut
      refine wpAny_bind (wpAny_setField_rec he₅ (by simp) fun h₆ he₆ hs₆ => ?_)
      replace hs₆ : Heap.SameBut e h₅ h₆ := hs₆
      replace he₆ : IsEnumOut h₆ e it ((i : Int) + 1) x hp.objs.size := he₆
      refine wpAny_setField_rec he₆ (by simp) fun h₇ he₇ hs₇ => ?_
      replace hs₇ : Heap.SameBut e h₆ h₇ := hs₇
      replace he₇ : IsEnumOut h₇ e it ((i : Int) + 1) x hp.objs.size := he₇
      refine wpAny_bind (wpAny_letGo (wpAny_pure ⟨_, rfl, hQ h₇ he₇ ?_ ?_ ?_ ?_⟩))
      · exact ((hit₄.extBut hs₅.extBut (Ne.symm hne)).extBut hs₆.extBut (Ne.symm hne)).extBut hs₇.extBut (Ne.symm hne)
      · exact hs₇.extBut _ _ (Nat.ne_of_gt hel) (hs₆.extBut _ _ (Nat.ne_of_gt hel) (hs₅.extBut _ _ (Nat.ne_of_gt hel) ht₄))
      · rw [hs₇.1, hs₆.1, hs₅.1, hz₄]
      · exact fun b o hbe hbi hb => hs₇.extBut b o hbe (hs₆.extBut b o hbe (hs₅.extBut b o hbe (hk₄ b o hbe hbi hb)))
end
end EnT
namespace L2
open PySem PySem.Spec PyProof.Rows
theorem turned_all {X : Cx} {pins : List (Addr × Obj)} {σ : St} {H : Hp} {s : Shared} {h' : Heap} {t' : Nat} {fp : List Addr} (I : Inv X pins σ H s) (hf : ∀ b ∈ fp, FpOk X pins H b) (k : ∀ b o, b ∉ fp → s.heap.get? b = some o → h'.get? b = some o) : Inv X pins σ H { s with heap := h', toks := t' } := by
  have nit : ∀ b u, H b = some u → b ∉ fp := fun b u e z => by rw [(hf b z).1] at e; cases e
  refine I.step (g' := s.gens) (d' := s.drawn) (ch := fp) (fun b hb => ⟨(hf b hb).2.2.2.1, (hf b hb).2.1, (hf b hb).2.2.2.2.1, (hf b hb).2.2.2.2.2⟩) (fun b o _ _ hc e _ => k b o hc e) (fun b o _ _ hc e _ => ⟨o.slots, k b o hc e⟩) (fun _ _ _ _ n => n)
    (fun b o hc e => ⟨o, k b o hc e⟩) (fun _ _ e => e) (fun _ _ _ e => e) (fun b ps e => ⟨#[], by rw [e]; simp⟩) (fun m hm => ?_) (fun b u e => ?_) I.bare
  · obtain ⟨o, es, ep, ho, r⟩ := hm
    exact ⟨o, es, ep, k _ o (fun z => (hf _ z).2.1 rfl) ho, r⟩
  · refine (I.hok b u e).stay (fun c v hc q => k c v ?_ q) (fun _ q => q) fun _ _ q => q
    rcases hc with z | z
    · rw [z]
      exact nit b u e
    · exact nit c _ z
theorem bt_enumerate : bootBuiltins "enumerate" = some (.type "enumerate") := by decide +kernel
/-- a, b = .. of a pair -/
theorem qg_pair {X : Cx} {x y : Str} {p1 p2 pos : Pos} {k : Nat} {t1 t2 : TG} (hc : X.calm = true) (h1 : QG X (.Name x p1) t1) (h2 : QG X (.Name y p2) t2) : QG X (.Tuple [.Name x p1, .Name y p2] k pos) (gTup X.K 2 (gCons t1 (gCons t2 gNil))) :=
  ⟨pg_tup hc (pgs_cons h1.out (pgs_cons h2.out pgs_nil))⟩
end L2
set_option Elab.async false
set_option linter.all false
set_option maxRecDepth 100000
set_option maxHeartbeats 1000000
namespace L2
open PySem PySem.Spec PyProof.Rows
section
variable {X : Cx}
theorem qe_dget {o i : Expr} {td ty : TE} {pos : Pos} (hu : X.A.units + 1 < cLine) (ho : QE X o td) (hi : QE X i ty) (hs : NoSl i) : QE X (.Subscript o i pos) (tDGet td ty) := ⟨pe_dget hu ho.out hi.out hs⟩
theorem qe_dnew {pos : Pos} : QE X (.Dict [] [] pos) tDNewK := ⟨pe_dnewK⟩
theorem eqV_self {x : V} (h : flatV x = true) : eqV x x = true := by
  cases x <;> first
    | exact beq_self_eq_true _
    | rfl
    | cases h
end
end L2
set_option Elab.async false
set_option linter.all false
set_option maxRecDepth 100000
set_option maxHeartbeats 1000000
namespace L2
open PySem PySem.Spec PyProof.Rows
inductive KTab (P : Params) : List DictEntry → List (Str × Int) → Prop
  | nil : KTab P [] []
  | cons {k : Str} {v : Int} {t u : Tok} {es : List DictEntry} {l : List (Str × Int)} : KTab P es l → KTab P ({ hash := PyData.keyHash P k, key := .str k t, val := .int v u } :: es) ((k, v) :: l)
structure KD (K : PySem.W.Frag) (w : World) (a : Addr) (l : List (Str × Int)) : Prop where
  ex : ∃ es ep, K.lookup a = some { cls := .type "dict", dict := none, data := .dict es ep, slots := #[] } ∧ KTab w.params es.toList l
  nd : (l.map (·.1)).Nodup
  ns : (a == sysModules) = false
def kvsOf (l : List (Str × Int)) : List (Key × V) := l.map fun p => ((Sum.inr p.1 : Key), V.int p.2)
theorem KTab.pairs {P : Program} {w : World} {es : List DictEntry} {l : List (Str × Int)} (h : KTab w.params es l) : (∃ vs, KV (kvsOf l) vs ∧ Pairs (mixKind P w) es vs) ∧ ∀ e ∈ es, ∃ k, (mixKind P w).is k e.key = true ∧ e.hash = (mixKind P w).hash k := by
  induction h with
  | nil => exact ⟨⟨[], .nil, .nil⟩, fun _ h => nomatch h⟩
  | @cons k v t u es l _ ih =>
    obtain ⟨⟨vs, r, p⟩, q⟩ := ih
    refine ⟨⟨(.inr k, .int v u) :: vs, .cons ⟨rfl, ⟨u, rfl⟩⟩ r, .cons (mixKind_str P w k t) rfl p⟩, fun e he => ?_⟩
    rcases List.mem_cons.mp he with rfl | he
    · exact ⟨.inr k, mixKind_str P w k t, rfl⟩
    · exact q e he
section
variable {X : Cx} {pins : List (Addr × Obj)} {σ : St} {H : Hp} {s : Shared} {a : Addr} {l : List (Str × Int)} {k : Key} {u : Value} {A : Around} {E : Value → Shared → Prop}
theorem KD.of (I : Inv X pins σ H s) (d : KD X.K X.w a l) : ∃ vs, KV (kvsOf l) vs ∧ s.heap.DictOf (mixKind X.prog X.w) a vs := by
  obtain ⟨es, ep, hk, t⟩ := d.ex
  obtain ⟨⟨vs, r, p⟩, q⟩ := t.pairs (P := X.prog)
  refine ⟨vs, r, _, es, ep, I.kIn a _ hk, ⟨rfl, rfl, rfl⟩, rfl, fun e he => q e (by simpa using he), p, ?_⟩
  rw [← r.keys]
  unfold kvsOf
  rw [List.map_map]
  have := d.nd
  rw [List.nodup_iff_pairwise_ne] at *
  rw [List.pairwise_map] at *
  exact this.imp fun h z => h (Sum.inr.inj z)
theorem kd_in {Q : Value → Shared → Prop} (I : Inv X pins σ H s) (d : KD X.K X.w a l) (ry : RelV (kV k) u) (h : ∀ s', Inv X pins σ H s' → Q (.bool (valV (kvsOf l) k).isSome) s') : wpAny (model X.prog X.w) A (compareOp .In u (.ref a)) Q E s := by
  obtain ⟨vs, rel, dd⟩ := d.of I
  refine wpAny_in_of (kV_is ry) d.ns dd.mapOf ?_
  rw [← (rel.val k).isSome_eq]
  exact h _ (I.tok _)
theorem kd_get2 {z : V} {r : Value} {Q : Value → Shared → Prop} (I : Inv X pins σ H s) (d : KD X.K X.w a l) (ry : RelV (kV k) u) (rz : RelV z r) (h : ∀ w' s', Inv X pins σ H s' → RelV ((valV (kvsOf l) k).getD z) w' → Q w' s') :
    wpAny (model X.prog X.w) A (call (.builtin "dict.get") [.ref a, u, r]) Q E s := by
  obtain ⟨vs, rel, dd⟩ := d.of I
  exact call_meetsIn PySem.F.slot_dict_get dd.typeIs PySem.F.entry_dict_get (PySem.F.args_dict_get_3 _ _ _) (meets_dict_get_default (mixKind X.prog X.w) a (kV_is ry) d.ns r) ⟨_, dd.mapOf, h _ _ (I.tok _) ((rel.val k).getD rz)⟩
end
section
variable {X : Cx}
def rKIn (K : PySem.W.Frag) (w : World) : R2 := fun y x H Q => ∃ a l k, x = .ref a ∧ KD K w a l ∧ y = kV k ∧ Q (.bl (valV (kvsOf l) k).isSome) H
theorem op_in_K : OpR X (compareOp .In) (rKIn X.K X.w) := by
  intro pins s σ H x y v u Q I rx ry h
  obtain ⟨a, l, k, rfl, d, rfl, q⟩ := h
  cases ry
  exact kd_in I d rx fun s' I' => ⟨.bl _, H, I', rfl, q⟩
def tKGet (K : PySem.W.Frag) (w : World) (td ty tx : TE) : TE := fun σ H Q => td σ H fun x H1 => ∃ a l, x = .ref a ∧ KD K w a l ∧ ty σ H1 fun y H2 => tx σ H2 fun z H3 => ∃ k, y = kV k ∧ Q ((valV (kvsOf l) k).getD z) H3
theorem m2_of {o e f : Expr} {m : Str} {apos cpos : Pos} (he : plainE e = true) (hf : plainE f = true) (hb : attributeBase o m X.env (eval o X.env) = eval o X.env) (hl : (apos.endLine == cpos.line) = true) : M2 X o m apos e f cpos where
  base := hb
  few := by
    rw [all_plain (by rw [List.all_cons, he, List.all_cons, hf]; rfl)]
    rfl
  line := hl
  trees := by
    rw [starEach_plain he, starEach_plain hf]
    rfl
theorem qe_kget {o e f : Expr} {apos cpos : Pos} {td ty tx : TE} (ho : QE X o td) (he : QE X e ty) (hf : QE X f tx) (h1 : plainE e = true := by rfl) (h2 : plainE f = true := by rfl) (hb : attributeBase o "get" X.env (eval o X.env) = eval o X.env := by rfl) (hl : (apos.endLine == cpos.line) = true := by rfl) :
    QE X (.Call (.Attribute o "get" apos) [e, f] [] cpos) (tKGet X.K X.w td ty tx) := by
  have m := m2_of (X := X) (m := "get") (o := o) h1 h2 hb hl
  refine ⟨fun pins s σ H Q I h => ?_⟩
  refine wpAny_Call_method m.base m.few m.line PySem.F.plainAttrs_dict PySem.F.slot_dict_get PySem.F.type_dict_get (thn (ho.out pins s σ H _ I h) fun u s1 ⟨x, H1, I1, rx, a, l, ex, d, q1⟩ => ?_)
  subst ex
  obtain rfl : u = Value.ref a := rx
  obtain ⟨vs, rel, dd⟩ := d.of I1
  refine ⟨dd.typeIs, fun b q => ?_, ?_⟩
  · cases q
    obtain ⟨ob, _, _, g1, g2, _⟩ := dd
    exact ⟨ob, g1, g2.2.1⟩
  rw [m.trees]
  refine Calls.callWith_builtin rfl (Calls.evalArgs_plain (Calls.spliced_cons (thn (he.out pins s1 σ H1 _ I1 q1) fun iv s2 ⟨y, H2, I2, ry, q2⟩ => Calls.spliced_cons (thn (hf.out pins s2 σ H2 _ I2 q2) fun fv s3 ⟨z, H3, I3, rz, k, ey, q3⟩ => Calls.spliced_nil ?_))))
  subst ey
  exact kd_get2 I3 d ry rz fun w' s4 I4 rw' => ⟨_, H3, I4, rw', q3⟩
end
theorem comp_str {x : Str} {is : List Nat} {te : TE} {σ : St} {H : Hp} {Q : VK} (f : Nat → V) (hz : x.cps.size ≤ sizeLine)
    (he : ∀ c ∈ x.cps.toList, ∀ R : VK, R (f c) H → te (selS is σ (some (.str ⟨#[c]⟩))) H R)
    (hd : ∀ l, H l = none → Q (.ref l) (upd H l (.lst (x.cps.toList.map f)))) : CompW is tYes te σ Q (Its x) H := by
  refine ⟨fun i m zs H' => m = x.cps.size - i ∧ i ≤ x.cps.size ∧ zs = (x.cps.toList.take i).map f ∧ H' = H, ⟨x.cps.size, by simp, Nat.zero_le _, rfl, rfl⟩, ?_⟩
  rintro i m zs H' ⟨rfl, hi, rfl, rfl⟩
  have hl : ((x.cps.toList.take i).map f).length ≤ sizeLine := by
    rw [List.length_map, List.length_take]
    lia
  by_cases hlt : i < x.cps.size
  · refine .inr ⟨hlt, hl, fun v H2 y => ?_⟩
    obtain ⟨e, c, hc, rfl⟩ := y
    subst e
    have hc' : x.cps.toList[i]? = some c := by rw [Array.getElem?_toList]; exact hc
    unfold tYes
    dsimp only
    rw [if_pos rfl]
    refine he c (List.mem_of_getElem? hc') _ ⟨x.cps.size - (i + 1), by lia, rfl, hlt, ?_, rfl⟩
    rw [take_snoc hc', List.map_append]
    rfl
  · have e : i = x.cps.size := by lia
    refine .inl ⟨e, hl, fun l hl2 => ?_⟩
    rw [List.take_of_length_le (by rw [Array.length_toList]; lia)]
    exact hd l hl2
end L2
set_option Elab.async false
set_option linter.all false
set_option maxRecDepth 100000
set_option maxHeartbeats 1000000
namespace L2
open PySem PySem.Spec PyProof.Rows
def eqvs : List V → List V → Bool
  | [], [] => true
  | x :: xs, y :: ys => eqV x y && eqvs xs ys
  | _, _ => false
def eqJ (xs ys : List V) (j : Nat) : Bool := match xs[j]?, ys[j]? with
  | some a, some b => eqV a b
  | _, _ => true
theorem eqvs_range : ∀ xs ys : List V, ((List.range (min xs.length ys.length)).all (eqJ xs ys) && xs.length == ys.length) = eqvs xs ys
  | [], [] => rfl
  | [], y :: ys => by simp [eqvs]
  | x :: xs, [] => by simp [eqvs]
  | x :: xs, y :: ys => by
    have ih := eqvs_range xs ys
    have e1 : min (x :: xs).length (y :: ys).length = min xs.length ys.length + 1 := by
      simp only [List.length_cons]
      lia
    have e2 : ((x :: xs).length == (y :: ys).length) = (xs.length == ys.length) := by simp
    rw [e1, e2, List.range_succ_eq_map, List.all_cons, List.all_map, Bool.and_assoc]
    show (eqV x y && ((List.range (min xs.length ys.length)).all (eqJ xs ys) && xs.length == ys.length)) = (eqV x y && eqvs xs ys)
    rw [ih]
theorem flat_eqAt {A : Around} {s : Shared} {xs ys : List V} {its its2 : List Value} (r : Vals xs its) (r2 : Vals ys its2) (f : xs.all flatV = true) (f2 : ys.all flatV = true) : ∀ j (h1 : j < its.toArray.size) (h2 : j < its2.toArray.size), SeqAt.EqAt A s its.toArray[j] its2.toArray[j] (eqJ xs ys j) := by
  intro j h1 h2
  have l1 := r.length
  have l2 := r2.length
  have hj : j < xs.length := by rw [l1]; simpa using h1
  have hj2 : j < ys.length := by rw [l2]; simpa using h2
  obtain ⟨u, e1, q1⟩ := r.get (List.getElem?_eq_getElem hj)
  obtain ⟨u2, e2, q2⟩ := r2.get (List.getElem?_eq_getElem hj2)
  have g1 : flatV xs[j] = true := List.all_eq_true.mp f _ (List.getElem_mem hj)
  have g2 : flatV ys[j] = true := List.all_eq_true.mp f2 _ (List.getElem_mem hj2)
  have e1' : its.toArray[j] = u := by
    have : its[j]? = some its[j] := List.getElem?_eq_getElem (by simpa using h1)
    rw [e1] at this
    simpa using (Option.some.inj this).symm
  have e2' : its2.toArray[j] = u2 := by
    have : its2[j]? = some its2[j] := List.getElem?_eq_getElem (by simpa using h2)
    rw [e2] at this
    simpa using (Option.some.inj this).symm
  have e3 : eqJ xs ys j = eqV xs[j] ys[j] := by
    unfold eqJ
    rw [List.getElem?_eq_getElem hj, List.getElem?_eq_getElem hj2]
  rw [e1', e2', e3]
  exact eqAt_V (A := A) (s := s) q1 q2 g1 g2
section
variable {X : Cx}
inductive rEqT_i (K : PySem.W.Frag) (neg : Bool) (x : V) (y : V) (H : Hp) (Q : VK) : Prop
  | mk (a c xs ys) : (x = .ref a) → (y = .ref c) → (SqT K H a xs) → (SqT K H c ys) → (xs.all flatV = true) → (ys.all flatV = true) → (Q (.bl (if neg then !eqvs xs ys else eqvs xs ys)) H) → rEqT_i K neg x y H Q
def rEqT (K : PySem.W.Frag) (neg : Bool) : R2 := fun x y H Q => rEqT_i K neg x y H Q
theorem op_eqTT (hu : X.A.units < cLine) : OpR X (compareOp .Eq) (rEqT X.K false) := by
  intro pins s σ H x y v u Q I rx ry h
  obtain ⟨a, c, xs, ys, rfl, rfl, ha, hc, f, f2, q⟩ := h
  cases rx
  cases ry
  obtain ⟨its, r, p, _⟩ := I.tuple ha
  obtain ⟨its2, r2, p2, _⟩ := I.tuple hc
  refine SeqAt.eq_tupleAt (e := eqJ xs ys) p p2 hu (flat_eqAt r r2 f f2) (fin_bl I q ?_)
  show eqvs xs ys = _
  rw [List.size_toArray, List.size_toArray, ← r.length, ← r2.length, eqvs_range]
theorem op_neTT (hu : X.A.units < cLine) : OpR X (compareOp .NotEq) (rEqT X.K true) := by
  intro pins s σ H x y v u Q I rx ry h
  obtain ⟨a, c, xs, ys, rfl, rfl, ha, hc, f, f2, q⟩ := h
  cases rx
  cases ry
  obtain ⟨its, r, p, _⟩ := I.tuple ha
  obtain ⟨its2, r2, p2, _⟩ := I.tuple hc
  refine SeqAt.RcNeAt.tuples (e := eqJ xs ys) p p2 hu (flat_eqAt r r2 f f2) X.prog X.w _ _ (fin_bl I q ?_)
  show (!eqvs xs ys) = _
  rw [List.size_toArray, List.size_toArray, ← r.length, ← r2.length, eqvs_range]
end
end L2
set_option Elab.async false
set_option linter.all false
set_option maxRecDepth 100000
set_option maxHeartbeats 1000000
namespace L2
open PySem PySem.Spec PyProof.Rows
section
variable {prog : Program} {w : World} {A : Around} {E : Value → Shared → Prop} {s : Shared}
end
end L2
set_option Elab.async false
set_option linter.all false
set_option maxRecDepth 100000
set_option maxHeartbeats 3200000
namespace L2
open PySem PySem.Spec PyProof.Rows
section
variable {prog : Program} {w : World} {A : Around} {R : Result → Shared → Prop} {I : Addr} {fp wr : List Addr} {G : Array GenState → Array GenState → Prop} {n : Nat} {P : Nat → Value → Prop} {St : Nat → Shared → Prop}
end
end L2
set_option Elab.async false
set_option linter.all false
set_option maxRecDepth 100000
set_option maxHeartbeats 3200000
namespace L2
open PySem PySem.Spec PyProof.Rows
section
variable {prog : Program} {w : World} {A : Around} {E : Value → Shared → Prop} {s : Shared}
end
end L2
set_option Elab.async false
set_option linter.all false
set_option maxRecDepth 100000
set_option maxHeartbeats 3200000
namespace L2
open PySem PySem.Spec PyProof.Rows
section
variable {prog : Program} {w : World} {A : Around} {E : Value → Shared → Prop} {s : Shared}
end
end L2
set_option Elab.async false
set_option linter.all false
set_option maxRecDepth 100000
set_option maxHeartbeats 3200000
namespace L2
open PySem PySem.Spec PyProof.Rows
section
variable {prog : Program} {w : World} {A : Around} {E : Value → Shared → Prop} {s : Shared}
end
end L2
set_option Elab.async false
set_option linter.all false
set_option maxRecDepth 100000
set_option maxHeartbeats 3200000
namespace L2
open PySem PySem.Spec PyProof.Rows
section
variable {prog : Program} {w : World} {A : Around} {E : Value → Shared → Prop} {s : Shared}
end
end L2
set_option Elab.async false
set_option linter.all false
set_option maxRecDepth 100000
set_option maxHeartbeats 3200000
namespace L2
open PySem PySem.Spec PyProof.Rows
section
variable {prog : Program} {w : World} {A : Around} {E : Value → Shared → Prop} {s : Shared}
end
end L2
set_option Elab.async false
set_option linter.all false
set_option maxRecDepth 100000
set_option maxHeartbeats 3200000
namespace L2
open PySem PySem.Spec PyProof.Rows
section
variable {prog : Program} {w : World} {A : Around} {E : Value → Shared → Prop} {s : Shared}
end
end L2
set_option Elab.async false
set_option linter.all false
set_option maxRecDepth 100000
set_option maxHeartbeats 3200000
namespace L2
open PySem PySem.Spec PyProof.Rows
section
variable {prog : Program} {w : World} {A : Around} {E : Value → Shared → Prop} {s : Shared}
end
end L2
set_option Elab.async false
set_option linter.all false
set_option maxRecDepth 100000
set_option maxHeartbeats 3200000
namespace L2
open PySem PySem.Spec PyProof.Rows
section
variable {X : Cx}
end
end L2
set_option Elab.async false
set_option linter.all false
set_option maxRecDepth 100000
set_option maxHeartbeats 3200000
namespace L2
open PySem PySem.Spec PyProof.Rows
end L2
set_option Elab.async false
set_option linter.all false
set_option maxRecDepth 100000
set_option maxHeartbeats 3200000
namespace L2
open PySem PySem.Spec PyProof.Rows
section
variable {prog : Program} {w : World} {A : Around} {E : Value → Shared → Prop} {s : Shared}
end
section
variable {X : Cx}
end
end L2
set_option Elab.async false
set_option linter.all false
set_option maxRecDepth 100000
set_option maxHeartbeats 3200000
namespace L2
open PySem PySem.Spec PyProof.Rows
end L2
namespace L2
open PySem PySem.Spec PyProof.Rows
end L2
set_option Elab.async false
set_option linter.all false
set_option maxRecDepth 100000
set_option maxHeartbeats 3200000
namespace L2
open PySem PySem.Spec PyProof.Rows
section
variable {X : Cx}
end
end L2
set_option Elab.async false
set_option linter.all false
set_option maxRecDepth 100000
set_option maxHeartbeats 3200000
namespace L2
open PySem PySem.Spec PyProof.Rows
section
variable {P : Program} {w : World} {H H' : Hp} {h h' : Heap} {cs : List Addr}
end
section
variable {P : Program} {w : World} {K : PySem.W.Frag} {mg : Str → Option Value} {base : Heap}
end
end L2
set_option Elab.async false
set_option linter.all false
set_option maxRecDepth 100000
set_option maxHeartbeats 3200000
namespace L2
open PySem PySem.Spec PyProof.Rows
section
variable {X : Cx} {params : Arguments} {body : Expr} {scope : Scope} {lpos : Pos} {c P : Addr} {qual : Str}
end
end L2
set_option Elab.async false
set_option linter.all false
set_option maxRecDepth 100000
set_option maxHeartbeats 3200000
namespace L2
open PySem PySem.Spec PyProof.Rows
section
variable {X : Cx} {params : Arguments} {body a : Expr} {scope : Scope} {lpos p pos : Pos} {c P g : Addr} {qual x : Str} {k kl : Nat} {gd : FuncData} {pg ps ys : List Str} {is : List Nat} {sp : Sp} {ta te : TE}
end
end L2
set_option Elab.async false
set_option linter.all false
set_option maxRecDepth 100000
set_option maxHeartbeats 3200000
namespace L2
open PySem PySem.Spec PyProof.Rows
end L2
set_option Elab.async false
set_option linter.all false
set_option maxRecDepth 100000
set_option maxHeartbeats 3200000
namespace L2
open PySem PySem.Spec PyProof.Rows
section
variable {X : Cx}
end
section
variable {prog : Program} {w : World} {A : Around} {E : Value → Shared → Prop} {s : Shared}
end
section
variable {X : Cx}
end
end L2
set_option Elab.async false
set_option linter.all false
set_option maxRecDepth 100000
set_option maxHeartbeats 3200000
namespace L2
open PySem PySem.Spec PyProof.Rows
end L2
set_option Elab.async false
set_option linter.all false
set_option maxRecDepth 100000
set_option maxHeartbeats 3200000
namespace L2
open PySem PySem.Spec PyProof.Rows
section
variable {prog : Program} {w : World} {K : Type} [DecidableEq K] {knd : KeyKind prog w K} {A : Around} {R : Result → Shared → Prop} {d l it : Addr} {items : List Value}
end
section
variable {X : Cx}
end
end L2
set_option Elab.async false
set_option linter.all false
set_option maxRecDepth 100000
set_option maxHeartbeats 1000000
namespace L2
open PySem PySem.Spec PyProof.Rows
section
variable {X : Cx}
end
end L2
set_option Elab.async false
set_option linter.all false
set_option maxRecDepth 100000
set_option maxHeartbeats 3200000
namespace ZpT
open PySem PySem.Spec PyProof.Rows
def IterAt : Bool → Heap → Addr → Addr → Nat → Prop
  | true, h, it, l, k => h.IsTupleIter it l k
  | false, h, it, l, k => h.IsListIter it l k
def SeqAt : Bool → Heap → Addr → Array Value → Prop
  | true, h, l, xs => h.IsTuple l xs
  | false, h, l, xs => h.IsList l xs
def zO (f0 : Value) (b : Bool) (TI TO : Addr) : Obj := { cls := .type "zip", dict := none, data := .fields #[f0, .bool b, .bool false, .ref TI, .ref TO], slots := #[] }
/-- what stands in the first field: nothing, or the number of the tuple that was handed out -/
def F0 (f0 : Value) : Prop := f0 = .none ∨ ∃ T : Addr, f0 = rawInt T
structure Ap (z TI TO i1 i2 : Addr) : Prop where
  TIz : TI ≠ z
  TOz : TO ≠ z
  i1z : i1 ≠ z
  i2z : i2 ≠ z
  TITO : TI ≠ TO
  TIi1 : TI ≠ i1
  TIi2 : TI ≠ i2
  TOi1 : TO ≠ i1
  TOi2 : TO ≠ i2
  i12 : i1 ≠ i2
section
variable {prog : Program} {w : World} {A : Around} {E : Value → Shared → Prop} {s : Shared}
end
end ZpT
set_option Elab.async false
set_option linter.all false
set_option maxRecDepth 100000
set_option maxHeartbeats 3200000
namespace ZpT
open PySem PySem.Spec PyProof.Rows
structure Of (z TO i1 i2 l : Addr) : Prop where
  z : l ≠ z
  o : l ≠ TO
  i : l ≠ i1
  j : l ≠ i2
/-- the iterators, where they stand -/
structure St (b1 b2 : Bool) (z TI TO i1 i2 l1 l2 : Addr) (k1 k2 : Nat) (h : Heap) : Prop where
  z : ∃ f0 fb, h.get? z = some (zO f0 fb TI TO) ∧ F0 f0
  I : IsPair h TI (.ref i1) (.ref i2)
  O : ∃ a b, IsPair h TO a b
  n1 : IterAt b1 h i1 l1 k1
  n2 : IterAt b2 h i2 l2 k2
section
variable {prog : Program} {w : World} {A : Around} {E : Value → Shared → Prop} {s : Shared}
end
end ZpT
set_option Elab.async false
set_option linter.all false
set_option maxRecDepth 100000
set_option maxHeartbeats 3200000
namespace ZpT
open PySem PySem.Spec PyProof.Rows
section
variable {prog : Program} {w : World} {A : Around} {E : Value → Shared → Prop} {s : Shared}
end
end ZpT
set_option Elab.async false
set_option linter.all false
set_option maxRecDepth 100000
set_option maxHeartbeats 3200000
namespace ZpT
open PySem PySem.Spec PyProof.Rows
section
variable {prog : Program} {w : World} {A : Around} {E : Value → Shared → Prop} {s : Shared}
end
section
variable {prog : Program} {w : World} {A : Around} {E : Value → Shared → Prop} {s : Shared}
end
end ZpT
set_option Elab.async false
set_option linter.all false
set_option maxRecDepth 100000
set_option maxHeartbeats 3200000
namespace L2
open PySem PySem.Spec PyProof.Rows
open ZpT (St Ap Of SeqAt IterAt)
end L2
set_option Elab.async false
set_option linter.all false
set_option maxRecDepth 100000
set_option maxHeartbeats 3200000
namespace L2
open PySem PySem.Spec PyProof.Rows
open ZpT (Ap Of SeqAt IterAt)
section
variable {X : Cx} {A : Around} {b1 b2 : Bool} {z TI TO i1 i2 a1 a2 S : Addr} {xs ys : List V} {pins : List (Addr × Obj)} {σ : St} {R : Result → Shared → Prop}
end
end L2
set_option Elab.async false
set_option linter.all false
set_option maxRecDepth 100000
set_option maxHeartbeats 3200000
namespace L2
open PySem PySem.Spec PyProof.Rows
open ZpT (Ap Of SeqAt IterAt)
section
variable {X : Cx} {e1 e2 : Expr} {t : TA} {p pos : Pos} {b1 b2 : Bool}
end
end L2
set_option Elab.async false
set_option linter.all false
set_option maxRecDepth 100000
set_option maxHeartbeats 1000000
namespace L2
open PySem PySem.Spec PyProof.Rows
section
variable {X : Cx} {S scope : Scope} {N : List Str} {x x2 : Str} {ys : List Str} {is : List Nat} {pins : List (Addr × Obj)} {σ : St} {H₂ : Hp} {s₂ : Shared} {fp : List Addr} {elt iter : Expr} {px px2 pp pos : Pos} {pq : Nat} {ifs : List Expr} {tc : TT} {te : TE} {wi : TI}
end
end L2
set_option Elab.async false
set_option linter.all false
set_option maxRecDepth 100000
set_option maxHeartbeats 3200000
namespace L2
open PySem PySem.Spec PyProof.Rows PySem.W
end L2
set_option Elab.async false
set_option linter.all false
set_option maxRecDepth 100000
set_option maxHeartbeats 3200000
namespace L2
open PySem PySem.Spec PyProof.Rows PySem.W
section
variable {prog : Program} {w : World} {A : Around} {E : Value → Shared → Prop} {s : Shared}
end
end L2
set_option Elab.async false
set_option linter.all false
set_option maxRecDepth 100000
set_option maxHeartbeats 3200000
namespace L2
open PySem PySem.Spec PyProof.Rows PySem.W
section
variable {prog : Program} {w : World} {h : Heap}
end
section
variable {X : Cx}
end
end L2
set_option Elab.async false
set_option linter.all false
set_option maxRecDepth 100000
set_option maxHeartbeats 1000000
namespace L2
open PySem PySem.Spec PyProof.Rows
section
variable {prog : Program} {w : World} {A : Around} {E : Value → Shared → Prop} {s : Shared} {c it : Addr} {oc : Obj} {es : Array DictEntry} {ep i : Nat}
end
section
variable {X : Cx}
end
end L2
set_option Elab.async false
set_option linter.all false
set_option maxRecDepth 100000
set_option maxHeartbeats 1000000
namespace L2
open PySem PySem.Spec PyProof.Rows
section
variable {X : Cx}
end
end L2
set_option Elab.async false
set_option linter.all false
set_option maxRecDepth 100000
set_option maxHeartbeats 1000000
namespace L2
open PySem PySem.Spec PyProof.Rows
section
variable {X : Cx}
theorem HT.cat_tup0 {prog : Program} {w : World} {A : Around} {E : Value → Shared → Prop} {s : Shared} {t b : Addr} {ws : List Value} {Q : Value → Shared → Prop} (ht : IsTup s.heap t #[]) (hb : IsTup s.heap b ws.toArray) (q : Q (.ref b) s) :
    wpAny (model prog w) A (binaryOp .Add (.ref t) (.ref b)) Q E s := by
  obtain ⟨⟨cls, dd, data, sl⟩, ho, hc, n, hd⟩ := id ht
  obtain ⟨⟨cls2, dd2, data2, sl2⟩, ho2, hc2, n2, hd2⟩ := id hb
  simp only at hc hd hc2 hd2
  subst hc hd hc2 hd2
  exact concat_meets ⟨_, ho, rfl⟩ ⟨_, ho2, rfl⟩ noFill_tuple_add seq_tuple_add PySem.F.slot_tuple_add PySem.F.entry_tuple_add (PySem.F.args_tuple_add_2 _ _)
    (tuple_addW0 t b #[] ws.toArray n n2 dd dd2 sl sl2 rfl) ⟨ho, ho2, q⟩
inductive rCatG_i (x : V) (y : V) (H : Hp) (Q : VK) : Prop
  | mk (a b xs ys) : (x = .ref a) → (y = .ref b) → (H a = some (.tup xs)) → (H b = some (.tup ys)) → (xs.length + ys.length ≤ sizeLine) → (∀ p H', H' p = some (.tup (xs ++ ys)) → Same H H' → Q (.ref p) H') → rCatG_i x y H Q
def rCatG  : R2 := fun x y H Q => rCatG_i x y H Q
theorem op_catG : OpR X (binaryOp .Add) rCatG := by
  intro pins s σ H x y v u Q I rx ry h
  obtain ⟨a, b, xs, ys, rfl, rfl, ha, hb, hz, q⟩ := h
  cases rx
  cases ry
  obtain ⟨its, r1, p1, _⟩ := I.tuple (SqT.of ha : SqT X.K H a xs)
  obtain ⟨its2, r2, p2, _⟩ := I.tuple (SqT.of hb : SqT X.K H b ys)
  by_cases hx : xs = []
  · have e := r1.nil_iff.mpr hx
    subst e hx
    exact HT.cat_tup0 p1 p2 ⟨.ref b, H, I, rfl, q b H hb fun _ _ z => z⟩
  · refine HT.cat_tup p1 p2 (fun z => hx (r1.nil_iff.mp z)) (fun z => ⟨.ref a, H, I, rfl, q a H ?_ fun _ _ z => z⟩) (fun z => ?_) (by rw [← r1.length, ← r2.length]; exact hz)
    · rw [r2.nil_iff.mp z, List.append_nil]
      exact ha
    · have hn := I.hok.fresh (Nat.le_refl s.heap.objs.size)
      refine ⟨.ref s.heap.objs.size, _, I.laid (t' := s.toks) (o := .tup (xs ++ ys)) (fun b ob q => Heap.get?_push_of_some _ q) (Nat.le_refl _) ?_, rfl, q _ _ upd_same fun c o z => by rw [upd_ne (fun e => by rw [e, hn] at z; cases z)]; exact z⟩
      exact ⟨by rw [List.length_append]; exact hz, _, r1.append r2, TupN.new _ _⟩
end
end L2
set_option Elab.async false
set_option linter.all false
set_option maxRecDepth 100000
set_option maxHeartbeats 1000000
namespace L2
open PySem PySem.Spec PyProof.Rows
open PySem.W (hideAll of_hideAll hideAll_get hideAll_none funFrames_hide)
section
variable {P : Program} {w : World} {X : Cx} {pins : List (Addr × Obj)} {σ : St} {H : Hp} {s : Shared}
end
end L2
set_option Elab.async false
set_option linter.all false
set_option maxRecDepth 100000
set_option maxHeartbeats 1000000
namespace L2
open PySem PySem.Spec PyProof.Rows
open PySem.W (hideAll of_hideAll hideAll_get hideAll_none funFrames_hide)
section
variable {X : Cx} {E : XK}
end
end L2
set_option Elab.async false
set_option linter.all false
set_option maxRecDepth 100000
set_option maxHeartbeats 1000000
namespace L2
open PySem PySem.Spec PyProof.Rows
section
variable {X : Cx} {E : XK} {x : Str} {C : Addr} {np cpos pos : Pos} {e₀ : Expr} {rest : List Expr} {t : TA}
end
end L2
set_option Elab.async false
set_option linter.all false
set_option maxRecDepth 100000
set_option maxHeartbeats 1000000
namespace L2
open PySem PySem.Spec PyProof.Rows
section
variable {M : Model} {A : Around} {E : Value → Shared → Prop}
variable {nm q nm' q' : Str} {C N D N' : Addr} {bs bm bs' bm' : List Value} {hdct hdct' : Bool} {sn sn' : List Str} {sub sub' : List Value} {ab ab' : Bool} {col col' : Option Bool} {dd dd' : Option Addr} {k0 k1 k2 k3 k5 k0' k1' k2' k3' k5' : Option Value} {newId newId' : String}
end
end L2
set_option Elab.async false
set_option linter.all false
set_option maxRecDepth 100000
set_option maxHeartbeats 1000000
namespace L2
open PySem PySem.Spec PyProof.Rows
section
variable {X : Cx} {pins : List (Addr × Obj)} {σ : St} {H H' : Hp} {s s' : Shared}
end
end L2
set_option Elab.async false
set_option linter.all false
set_option maxRecDepth 100000
set_option maxHeartbeats 1000000
namespace L2
open PySem PySem.Spec PyProof.Rows
section
variable {X : Cx} {pins : List (Addr × Obj)} {σ : St} {H H' : Hp} {s s' : Shared}
end
section
variable {prog : Program} {w : World} {A : Around} {E : Value → Shared → Prop} {s : Shared} {env : Env}
end
end L2
set_option Elab.async false
set_option linter.all false
set_option maxRecDepth 100000
set_option maxHeartbeats 1000000
namespace L2
open PySem PySem.Spec PyProof.Rows
section
variable {X : Cx} {pins : List (Addr × Obj)} {σ : St} {H : Hp} {s : Shared}
variable {k : Nat} {f : Addr} {fd : FuncData} {ps : List Str} {sp : Sp} {g x y n : Str} {p np p0 cpos spos hpos pos : Pos} {e₀ : Expr} {es : List Expr} {t : TA} {b₀ : Stmt} {suite : List Stmt} {i j : Nat} {Dc : Addr} {ts : TS}
end
end L2
set_option Elab.async false
set_option linter.all false
set_option maxRecDepth 100000
set_option maxHeartbeats 1000000
namespace L2
open PySem PySem.Spec PyProof.Rows PySem.Calls
open PySem.W (Frag InstAt findObj plainGet plainGet_of kin_open kin_hooked class_get handed_on mroIn clsIn Looks subIn typeIn looks_typeIn looks_subIn isIn isi_call)
section
variable {prog : Program} {w : World} {A : Around} {E : Value → Shared → Prop} {s : Shared} {K : Frag} {e C D : Addr} {oe : Obj} {od : Option Obj}
end
end L2
set_option Elab.async false
set_option linter.all false
set_option maxRecDepth 100000
set_option maxHeartbeats 1000000
namespace L2
open PySem PySem.Spec PyProof.Rows PySem.Calls
open PySem.W Builtin Builtin.ObjectAttr Builtin.Getset_descriptor
section
variable {prog : Program} {w : World} {A : Around} {E : Value → Shared → Prop} {s : Shared} {K : Frag} {e C D : Addr}
end
end L2
set_option Elab.async false
set_option linter.all false
set_option maxRecDepth 100000
set_option maxHeartbeats 1000000
namespace L2
open PySem PySem.Spec PyProof.Rows PySem.Calls
end L2
set_option Elab.async false
set_option linter.all false
set_option maxRecDepth 100000
set_option maxHeartbeats 1000000
namespace L2
open PySem PySem.Spec PyProof.Rows PySem.Calls
open PySem.W Builtin Builtin.ObjectAttr
def onlyVE : List Value → Bool
  | [.type a, .type b, .type c, .type d] => a == "ValueError" && (b == "Exception" && (c == "BaseException" && d == "object"))
  | .ref _ :: r => onlyVE r
  | _ => false
section
variable {prog : Program} {w : World} {A : Around} {E : Value → Shared → Prop} {s : Shared} {K : Frag} {x C : Addr} {name : Str} {v : Value}
end
section
variable {X : Cx} {pins : List (Addr × Obj)} {σ : St} {H : Hp} {s : Shared} {e C d : Addr} {f : Str} {v : V} {u : Value} {A : Around} {E : Value → Shared → Prop}
end
section
variable {X : Cx} {o value : Expr} {ta tv : TE} {f : Str} {pos pos' : Pos}
end
end L2
set_option Elab.async false
set_option linter.all false
set_option maxRecDepth 100000
set_option maxHeartbeats 1000000
namespace L2
open PySem PySem.Spec PyProof.Rows PySem.Calls
open PySem.W
section
variable {prog : Program} {w : World} {A : Around} {E : Value → Shared → Prop} {hh : Heap} {g : Array GenState} {dr : Drawn} {t : Nat} {os : OsState} {K : Frag}
variable {nm q : Str} {C N fI : Addr} {bs tl : List Value} {hdct : Bool} {sn : List Str} {sub : List Value} {ab : Bool} {col : Option Bool} {dd : Option Addr} {k0 k1 k2 k3 k5 : Option Value}
end
end L2
set_option Elab.async false
set_option linter.all false
set_option maxRecDepth 100000
set_option maxHeartbeats 1000000
namespace L2
open PySem PySem.Spec PyProof.Rows PySem.Calls
open PySem.W
section
variable {X : Cx} {x : Str} {C f : Addr} {k : Nat} {fd : FuncData} {ps : List Str} {sp : Sp} {p pos : Pos} {e₀ : Expr} {es : List Expr} {t : TA}
end
end L2
set_option Elab.async false
set_option linter.all false
set_option maxRecDepth 100000
set_option maxHeartbeats 1000000
namespace L2
open PySem PySem.Spec PyProof.Rows PySem.Calls
end L2
set_option Elab.async false
set_option linter.all false
set_option maxRecDepth 100000
set_option maxHeartbeats 1000000
namespace L2
open PySem PySem.Spec PyProof.Rows PySem.Calls
open Builtin Builtin.Str
section
variable {X : Cx} {e b : Expr} {es : List Expr} {te tb : TE} {t : TA}
end
section
variable {X : Cx} {o : Expr} {to : TE} {y z : Str} {j1 j2 j3 : Nat} {p1 p2 p3 apos cpos : Pos}
end
end L2
set_option Elab.async false
set_option linter.all false
set_option maxRecDepth 100000
set_option maxHeartbeats 1000000
namespace L2
open PySem PySem.Spec PyProof.Rows PySem.Calls
open Builtin Builtin.Str
section
variable {X : Cx} {e : Expr} {ta : TE} {c : Str} {j : Nat} {p1 p2 pos : Pos}
end
section
variable {X : Cx}
end
end L2
set_option Elab.async false
set_option linter.all false
set_option maxRecDepth 100000
set_option maxHeartbeats 1000000
namespace L2
open PySem PySem.Spec PyProof.Rows PySem.Calls
open PySem.W
end L2
set_option Elab.async false
set_option linter.all false
set_option maxRecDepth 100000
set_option maxHeartbeats 1000000
namespace L2
open PySem PySem.Spec PyProof.Rows PySem.Calls
open Builtin Builtin.Str
end L2
set_option Elab.async false
set_option linter.all false
set_option maxRecDepth 100000
set_option maxHeartbeats 1000000
namespace L2
open PySem PySem.Spec PyProof.Rows PySem.Calls
end L2
set_option Elab.async false
set_option linter.all false
set_option maxRecDepth 100000
set_option maxHeartbeats 1000000
namespace L2
open PySem PySem.Spec PyProof.Rows PySem.Calls
section
variable {M : Model} {A : Around} {E : Value → Shared → Prop} {s : Shared} {B : Heap} {env : Env} {outer : List Env} {L e : Addr} {φ : Obj → Prop} {Q : Unit → Shared → Prop}
end
end L2
set_option Elab.async false
set_option linter.all false
set_option maxRecDepth 100000
set_option maxHeartbeats 1000000
namespace L2
open PySem PySem.Spec PyProof.Rows PySem.Calls
section
variable {prog : Program} {w : World} {A : Around} {E : Value → Shared → Prop} {s : Shared} {env : Env} {x : Sem Value} {Q : Flow → Shared → Prop} {C e1 : Addr} {j : Nat} {p pos : Pos}
end
end L2
set_option Elab.async false
set_option linter.all false
set_option maxRecDepth 100000
set_option maxHeartbeats 1000000
namespace L2
open PySem PySem.Spec PyProof.Rows PySem.Calls
open PySem.W (hideAll of_hideAll hideAll_get hideAll_none funFrames_hide)
section
variable {X : Cx} {E : XK}
end
end L2
set_option Elab.async false
set_option linter.all false
set_option maxRecDepth 100000
set_option maxHeartbeats 1000000
namespace L2
open PySem PySem.Spec PyProof.Rows PySem.Calls
section
variable {prog : Program} {w : World} {A : Around} {E : Value → Shared → Prop} {s : Shared} {env : Env}
end
section
variable {X : Cx} {E : XK}
end
end L2
set_option Elab.async false
set_option linter.all false
set_option maxRecDepth 100000
set_option maxHeartbeats 1000000
namespace L2
open PySem PySem.Spec PyProof.Rows PySem.Calls
section
variable {X : Cx} {E : XK} {k : Nat} {f : Addr} {fd : FuncData} {ps : List Str} {sp : Sp} {g y x2 : Str} {p np np2 cpos cpos2 spos hpos pos p9 rpos : Pos} {j : Nat} {e₀ a₀ : Expr} {es as : List Expr} {t t2 : TA} {Dc C2 : Addr}
end
end L2
set_option Elab.async false
set_option linter.all false
set_option maxRecDepth 100000
set_option maxHeartbeats 1000000
namespace L2
open PySem PySem.Spec PyProof.Rows PySem.Calls
section
variable {prog : Program} {w : World} {A : Around} {E : Value → Shared → Prop} {s : Shared} {a : Addr} {oa : Obj} {x : Value} {l : List Value} {na : Nat} {ts : List Str}
end
section
variable {X : Cx} {e : Expr} {ta : TE} {c : Str} {j : Nat} {p1 p2 pos : Pos}
end
end L2
set_option Elab.async false
set_option linter.all false
set_option maxRecDepth 100000
set_option maxHeartbeats 1000000
namespace L2
open PySem PySem.Spec PyProof.Rows PySem.Calls
open PySem.W
section
variable {X : Cx} {pins : List (Addr × Obj)} {σ : St} {H : Hp} {s : Shared} {e C d : Addr} {f : Str} {v : V} {u : Value} {A : Around} {E : Value → Shared → Prop} {arr : Array Value}
end
section
variable {X : Cx} {E : XK}
end
end L2
set_option Elab.async false
set_option linter.all false
set_option maxRecDepth 100000
set_option maxHeartbeats 1000000
namespace L2
open PySem PySem.Spec PyProof.Rows PySem.Calls
open PySem.W (hideAll of_hideAll hideAll_get hideAll_none funFrames_hide)
section
variable {X : Cx} {E : XK}
end
section
variable {prog : Program} {w : World} {A : Around} {E : Value → Shared → Prop} {s : Shared} {env : Env} {x : Sem Value} {Q : Flow → Shared → Prop} {C : Addr}
end
section
variable {X : Cx} {E : XK} {x : Str} {C f : Addr} {k : Nat} {fd : FuncData} {ps : List Str} {sp : Sp} {np cpos pos : Pos} {e₀ : Expr} {es : List Expr} {t : TA}
end
end L2
set_option Elab.async false
set_option linter.all false
set_option maxRecDepth 100000
set_option maxHeartbeats 1000000
namespace L2
open PySem PySem.Spec PyProof.Rows PySem.Calls
section
variable {X : Cx} {k : Nat} {f : Addr} {fd : FuncData} {ps : List Str} {sp : Sp} {g y n : Str} {p np cpos spos hpos pos : Pos} {e₀ : Expr} {es : List Expr} {t : TA} {b₀ : Stmt} {suite : List Stmt} {j : Nat} {Dc : Addr} {ts : TS}
end
end L2
set_option Elab.async false
set_option linter.all false
set_option maxRecDepth 100000
set_option maxHeartbeats 1000000
namespace L2
open PySem PySem.Spec PyProof.Rows PySem.Calls
section
variable {X : Cx}
end
end L2
set_option Elab.async false
set_option linter.all false
namespace L2
open PySem
theorem hideG {G0 : Prop} (h : ∀ G : Prop, (G0 → G) → G) : G0 := h G0 fun z => z
theorem len1 {α : Type} {P : List α → Prop} (h : ∀ a, P [a]) : ∀ us : List α, us.length = 1 → P us
  | [a], _ => h a
theorem len2 {α : Type} {P : List α → Prop} (h : ∀ a b, P [a, b]) : ∀ us : List α, us.length = 2 → P us
  | [a, b], _ => h a b
theorem len3 {α : Type} {P : List α → Prop} (h : ∀ a b c, P [a, b, c]) : ∀ us : List α, us.length = 3 → P us
  | [a, b, c], _ => h a b c
theorem len4 {α : Type} {P : List α → Prop} (h : ∀ a b c d, P [a, b, c, d]) : ∀ us : List α, us.length = 4 → P us
  | [a, b, c, d], _ => h a b c d
/-- from a head that tells the heap at the start alone -/
theorem walk_X {q : Program} {loose : List Str} {XP : (Str → Option Value) → Heap → Prop} {K : Params → PySem.W.Frag} {as : List Addr} {n t : Nat} {r : PySem.W.RowW} {d : DefRec} {kwd : List (Str × Expr)} {run : Value → List Value → Sem Value}
    (e : ∀ P, as = (K P).map (·.1)) (W : PySem.W.WalkO q loose XP (PySem.W.InK K) r d kwd run) : PySem.W.WalkX q loose XP (PySem.W.X.obsZ as) (PySem.W.X.valZ K n t) r d kwd run :=
  fun w s₀ s₁ mg mb G y a o pm cd doc dV kV e1 e2 e3 e4 e5 e6 args vals as L p l R W' nn =>
    W w s₀ s₁ mg mb G (PySem.W.InK.keeps w _ _ (PySem.W.X.z_facts e y).2.1 L.keeps) a o pm cd doc dV kV e1 e2 e3 e4 e5 e6 args vals as p l R W' nn
end L2
set_option Elab.async false
set_option linter.all false
namespace L2
open PySem
end L2
set_option Elab.async false
set_option linter.all false
namespace L2
open PySem
theorem cxK {CX : CXT} {P : Program} {w : World} {K : PySem.W.Frag} {mg : Str → Option Value} {base : Heap} {N : List Str} {qual : Str} {scope : Scope} {f : Addr} {cd : Value} {A : Around} {outer : List Env} {s : Shared} {H : Hp} {E : XK} : (cxOf CX P w K mg base N qual scope f cd A outer s H E).nox.K = K := rfl
theorem cxK2 {CX : CXT} {P : Program} {w : World} {K : PySem.W.Frag} {mg : Str → Option Value} {base : Heap} {N : List Str} {qual : Str} {scope : Scope} {f : Addr} {cd : Value} {A : Around} {outer : List Env} {s : Shared} {H : Hp} {E : XK} : (cxOf CX P w K mg base N qual scope f cd A outer s H E).K = K := rfl
theorem let2 {s1 s2 : TS} {D : Ends} {σ : St} {H : Hp} (h : let U1 := s2; tSeq s1 U1 D σ H) : tSeq s1 s2 D σ H := h
theorem let3 {s1 s2 s3 : TS} {D : Ends} {σ : St} {H : Hp} (h : let U2 := s3; let U1 := tSeq s2 U2; tSeq s1 U1 D σ H) : tSeq s1 (tSeq s2 s3) D σ H := h
theorem let4 {s1 s2 s3 s4 : TS} {D : Ends} {σ : St} {H : Hp} (h : let U3 := s4; let U2 := tSeq s3 U3; let U1 := tSeq s2 U2; tSeq s1 U1 D σ H) : tSeq s1 (tSeq s2 (tSeq s3 s4)) D σ H := h
theorem let5 {s1 s2 s3 s4 s5 : TS} {D : Ends} {σ : St} {H : Hp} (h : let U4 := s5; let U3 := tSeq s4 U4; let U2 := tSeq s3 U3; let U1 := tSeq s2 U2; tSeq s1 U1 D σ H) : tSeq s1 (tSeq s2 (tSeq s3 (tSeq s4 s5))) D σ H := h
theorem let6 {s1 s2 s3 s4 s5 s6 : TS} {D : Ends} {σ : St} {H : Hp} (h : let U5 := s6; let U4 := tSeq s5 U5; let U3 := tSeq s4 U4; let U2 := tSeq s3 U3; let U1 := tSeq s2 U2; tSeq s1 U1 D σ H) : tSeq s1 (tSeq s2 (tSeq s3 (tSeq s4 (tSeq s5 s6)))) D σ H := h
theorem let7 {s1 s2 s3 s4 s5 s6 s7 : TS} {D : Ends} {σ : St} {H : Hp} (h : let U6 := s7; let U5 := tSeq s6 U6; let U4 := tSeq s5 U5; let U3 := tSeq s4 U4; let U2 := tSeq s3 U3; let U1 := tSeq s2 U2; tSeq s1 U1 D σ H) : tSeq s1 (tSeq s2 (tSeq s3 (tSeq s4 (tSeq s5 (tSeq s6 s7))))) D σ H := h
theorem let8 {s1 s2 s3 s4 s5 s6 s7 s8 : TS} {D : Ends} {σ : St} {H : Hp} (h : let U7 := s8; let U6 := tSeq s7 U7; let U5 := tSeq s6 U6; let U4 := tSeq s5 U5; let U3 := tSeq s4 U4; let U2 := tSeq s3 U3; let U1 := tSeq s2 U2; tSeq s1 U1 D σ H) : tSeq s1 (tSeq s2 (tSeq s3 (tSeq s4 (tSeq s5 (tSeq s6 (tSeq s7 s8)))))) D σ H := h
theorem let12 {s1 s2 s3 s4 s5 s6 s7 s8 s9 s10 s11 s12 : TS} {D : Ends} {σ : St} {H : Hp} (h : let U11 := s12; let U10 := tSeq s11 U11; let U9 := tSeq s10 U10; let U8 := tSeq s9 U9; let U7 := tSeq s8 U8; let U6 := tSeq s7 U7; let U5 := tSeq s6 U6; let U4 := tSeq s5 U5; let U3 := tSeq s4 U4; let U2 := tSeq s3 U3; let U1 := tSeq s2 U2; tSeq s1 U1 D σ H) : tSeq s1 (tSeq s2 (tSeq s3 (tSeq s4 (tSeq s5 (tSeq s6 (tSeq s7 (tSeq s8 (tSeq s9 (tSeq s10 (tSeq s11 s12)))))))))) D σ H := h
end L2
set_option Elab.async false
set_option linter.all false
set_option maxRecDepth 100000
set_option maxHeartbeats 3200000
namespace ZpT
open PySem PySem.Spec PyProof.Rows
abbrev IsTrip (h : Heap) (T : Addr) (a b c : Value) : Prop := h.get? T = some { cls := .type "tuple", data := .seq #[a, b, c] }
structure Ap3 (z TI TO i1 i2 i3 : Addr) : Prop where
  TIz : TI ≠ z
  TOz : TO ≠ z
  i1z : i1 ≠ z
  i2z : i2 ≠ z
  i3z : i3 ≠ z
  TITO : TI ≠ TO
  TIi1 : TI ≠ i1
  TIi2 : TI ≠ i2
  TIi3 : TI ≠ i3
  TOi1 : TO ≠ i1
  TOi2 : TO ≠ i2
  TOi3 : TO ≠ i3
  i12 : i1 ≠ i2
  i13 : i1 ≠ i3
  i23 : i2 ≠ i3
structure Of3 (z TO i1 i2 i3 l : Addr) : Prop where
  z : l ≠ z
  o : l ≠ TO
  i : l ≠ i1
  j : l ≠ i2
  m : l ≠ i3
structure St3 (z TI TO i1 i2 i3 l1 l2 l3 : Addr) (k : Nat) (h : Heap) : Prop where
  z : ∃ f0 fb, h.get? z = some (zO f0 fb TI TO) ∧ F0 f0
  I : IsTrip h TI (.ref i1) (.ref i2) (.ref i3)
  O : ∃ a b c, IsTrip h TO a b c
  n1 : IterAt false h i1 l1 k
  n2 : IterAt false h i2 l2 k
  n3 : IterAt false h i3 l3 k
section
variable {prog : Program} {w : World} {A : Around} {E : Value → Shared → Prop} {s : Shared}
end
end ZpT
set_option Elab.async false
set_option linter.all false
set_option maxRecDepth 100000
set_option maxHeartbeats 1000000
namespace L2
open PySem PySem.Spec PyProof.Rows
structure Thr (scope : Scope) (x x2 x3 : Str) (ys : List Str) : Prop where
  own : scope.names.lookup x2 = some .local
  own3 : scope.names.lookup x3 = some .local
  nd : (x :: x2 :: x3 :: ys).Nodup
def sel3 (is : List Nat) (σ : St) (v w u : Option V) : St := v :: w :: u :: is.map fun i => (σ[i]?).getD none
/-- the reading: W by the turn, a measure, the items so far -/
def CompW3 (K : PySem.W.Frag) (is : List Nat) (tc : TT) (te : TE) (σ : St) (Q : VK) (J : It) (H1 : Hp) : Prop := ∃ W : Nat → Nat → List V → Hp → Prop, (∃ m, W 0 m [] H1) ∧ ∀ i m zs H, W i m zs H →
  (J.stop i H ∧ zs.length ≤ sizeLine ∧ ∀ p, H p = none → Q (.ref p) (upd H p (.lst zs))) ∨
  (J.go i H ∧ zs.length ≤ sizeLine ∧ ∀ x H', J.yld i H x H' → ∃ a v1 v2 v3, x = .ref a ∧ SqT K H' a [v1, v2, v3] ∧ tc (sel3 is σ (some v1) (some v2) (some v3)) H' fun b H2 => if b = true then te (sel3 is σ (some v1) (some v2) (some v3)) H2 fun y H3 => ∃ m', m' < m ∧ W (i + 1) m' (zs ++ [y]) H3 else ∃ m', m' < m ∧ W (i + 1) m' zs H2)
def tComp3 (K : PySem.W.Frag) (wi : TI) (is : List Nat) (tc : TT) (te : TE) : TE := fun σ H Q => wi σ H (CompW3 K is tc te σ Q)
section
variable {X : Cx} {S scope : Scope} {N : List Str} {x x2 x3 : Str} {ys : List Str} {is : List Nat} {pins : List (Addr × Obj)} {σ : St} {H₂ : Hp} {s₂ : Shared} {fp : List Addr} {elt iter : Expr} {px px2 px3 pp pos : Pos} {pq : Nat} {ifs : List Expr} {tc : TT} {te : TE} {wi : TI}
theorem cxC_ok3 (K : CompSc S scope N x ys is) (K2 : Thr scope x x2 x3 ys) (hX : X.env.scope = S) (I : Inv X pins σ H₂ s₂) {C : Addr} (hC : s₂.heap.objs.size ≤ C) (hfp : ∀ b ∈ fp, FpOk X pins H₂ b) (hlt : ∀ b ∈ fp, b < s₂.heap.objs.size) : (cxC X (x :: x2 :: x3 :: ys) scope C s₂ H₂ fp).Ok where
  mod := I.ok.mod
  kind := K.kind
  glob := I.ok.glob
  blt := I.ok.blt
  above := hC
  inj := fun y z c h1 h2 => I.ok.inj y z c (K.cl hX I.ok y c h1) (K.cl hX I.ok z c h2)
  has := fun y hy => clOf_has (relabel_back (env := X.env) K.cell hy)
  cab := fun y c h => by cases h
  hd := I.ok.hd
  frames := I.ok.frames
  stk := .inl rfl
  exf := fun b hb => ⟨fun e => absurd (Nat.lt_of_lt_of_le (hlt b hb) (Nat.le_trans hC (Nat.le_of_eq (Eq.symm e)))) (Nat.lt_irrefl _), fun y c h => (hfp b hb).2.2.2.2.1 y c (K.cl hX I.ok y c h)⟩
  bs := I.bs
  bsz := Nat.le_trans I.ok.bsz I.sz
  noex := fun b o e hb => by
    rcases (hfp b hb).2.2.2.1 with z | z
    · exact I.ok.noex b o e z
    · exact absurd (Nat.lt_of_lt_of_le (Heap.lt_size e) (Nat.le_trans I.ok.bsz z)) (Nat.lt_irrefl _)
  exfs := fun b hb z => by
    rcases List.mem_cons.mp (I.stkSub b z) with e | e
    · exact (hfp b hb).2.1 e
    · exact (hfp b hb).2.2.1 e
  funs := I.stack
  frf := I.stkFree
theorem cxC_inv3 (K : CompSc S scope N x ys is) (K2 : Thr scope x x2 x3 ys) (hX : X.env.scope = S) (hN : X.N = N) (hk : S.kind = .function) (I : Inv X pins σ H₂ s₂) {C D : Addr} {h₁ : Heap} {tk : Nat} {oD : Obj} (hC : s₂.heap.objs.size ≤ C) (hD : s₂.heap.objs.size ≤ D) (hDC : D ≠ C)
    (hfp : ∀ b ∈ fp, FpOk X pins H₂ b) (hlt : ∀ b ∈ fp, b < s₂.heap.objs.size) (old : ∀ b o, s₂.heap.get? b = some o → h₁.get? b = some o) (hn : h₁.Ns C fun _ => none) (hacc : h₁.get? D = some oD) (hod : ∀ v, oD.data ≠ .cell v) :
    Inv (cxC X (x :: x2 :: x3 :: ys) scope C s₂ H₂ fp) [(D, oD)] (sel3 is σ none none none) H₂ { s₂ with heap := h₁, toks := tk } := by
  have ok := cxC_ok3 K K2 hX I hC hfp hlt
  refine ⟨ok, rfl, I.bare, Un.kept old, ⟨_, hn, fun i y v h1 h2 h3 => ?_⟩, fun y c h => ?_, I.hok.fresh hC, fun y c h => I.freeC y c (K.cl hX I.ok y c h), fun p hp => ?_, I.hok.kept old, ?_⟩
  · cases i with
    | zero =>
      have h2' : some (none : Option V) = some (some v) := h2
      cases h2'
    | succ i =>
     cases i with
     | zero =>
      have h2' : some (none : Option V) = some (some v) := h2
      cases h2'
     | succ i =>
     cases i with
     | zero =>
      have h2' : some (none : Option V) = some (some v) := h2
      cases h2'
     | succ i =>
      have h1' : ys[i]? = some y := h1
      have h2' : (is.map fun i => (σ[i]?).getD none)[i]? = some (some v) := h2
      rw [List.getElem?_map] at h2'
      cases hj : is[i]? with
      | none => rw [hj] at h2'; cases h2'
      | some j =>
        rw [hj] at h2'
        have h2'' : (σ[j]?).getD none = some v := Option.some.inj h2'
        have hσ : σ[j]? = some (some v) := by
          cases q : σ[j]? with
          | none => rw [q] at h2''; cases h2''
          | some z => rw [q] at h2''; exact congrArg some h2''
        have hz : (y, j) ∈ ys.zip is := by
          obtain ⟨a1, e1⟩ := List.getElem?_eq_some_iff.mp h1'
          obtain ⟨a2, e2⟩ := List.getElem?_eq_some_iff.mp hj
          rw [← e1, ← e2, ← List.getElem_zip (h := by rw [List.length_zip]; lia)]
          exact List.getElem_mem _
        obtain ⟨v1, v2⟩ := K.vis _ hz
        have kc : X.env.kindOf y = some .cell ∨ X.env.kindOf y = some .free := by show X.env.scope.names.lookup y = _ ∨ X.env.scope.names.lookup y = _; rw [hX]; exact K.free _ (mem_free v2) rfl
        obtain ⟨m, hm, hl⟩ := I.loc
        obtain ⟨u, r, l⟩ := hl j y v (by rw [hN]; exact v1) hσ (.inr kc)
        refine ⟨u, r, .inr ?_⟩
        rcases l with ⟨l1, _⟩ | ⟨_, c, l2, l3⟩
        · rcases kc with kc | kc <;> rw [kc] at l1 <;> cases l1
        · obtain ⟨c', hc'⟩ := clOf_has (cells := X.env.cells) (acc := []) v2
          have e : c' = c := by have := K.cl hX I.ok y c' hc'; rw [l2] at this; exact (Option.some.inj this).symm
          subst e
          refine ⟨kc.imp (relabel_free (scope := scope) (by rw [hX]; exact hk) v2) (relabel_free2 v2), c', hc', ?_⟩
          obtain ⟨o, ho, hd⟩ := l3
          exact ⟨o, old _ _ ho, hd⟩
  · obtain ⟨v, o, ho, hd⟩ := I.cell y c (K.cl hX I.ok y c h)
    exact ⟨v, o, old _ _ ho, hd⟩
  · have e : p = (D, oD) := by simpa [cxC] using hp
    subst e
    refine ⟨hacc, I.hok.fresh hD, hDC, fun z => ?_, hod⟩
    obtain ⟨_, o, ho, _⟩ := ok.funs.mem z
    exact absurd (Nat.lt_of_lt_of_le (Heap.lt_size ho) hD) (Nat.lt_irrefl _)
  · show (sel3 is σ none none none).length = (x :: x2 :: x3 :: ys).length
    unfold sel3
    rw [List.length_cons, List.length_cons, List.length_cons, List.length_map, List.length_cons, List.length_cons, List.length_cons, K.len]
theorem comp_block3 {J : It} {it : Addr} {tn : Nat → Heap → Prop} {Q : VK} {RR : Value → Addr → Result → Shared → Prop} {E : Value → Shared → Prop} (K : CompSc S scope N x ys is) (K2 : Thr scope x x2 x3 ys) (hX : X.env.scope = S) (hN : X.N = N) (hk : S.kind = .function) (hc : X.calm = true)
    (hf : ∀ C s₂ H₂ ex, QF (cxC X (x :: x2 :: x3 :: ys) scope C s₂ H₂ ex) ifs tc) (he : ∀ C s₂ H₂ ex, QE (cxC X (x :: x2 :: x3 :: ys) scope C s₂ H₂ ex) elt te)
    (I : Inv X pins σ H₂ s₂) (T : Turn X.prog X.w X.K (.Tuple [.Name x px, .Name x2 px2, .Name x3 px3] pq pp) J fp it tn) (st : tn 0 s₂.heap) (hfp : ∀ b ∈ fp, FpOk X pins H₂ b)
    {W : Nat → Nat → List V → Hp → Prop} {m0 : Nat} (w0 : W 0 m0 [] H₂)
    (turn : ∀ i m zs H, W i m zs H → (J.stop i H ∧ zs.length ≤ sizeLine ∧ ∀ p, H p = none → Q (.ref p) (upd H p (.lst zs))) ∨
      (J.go i H ∧ zs.length ≤ sizeLine ∧ ∀ x H', J.yld i H x H' → ∃ a v1 v2 v3, x = .ref a ∧ SqT X.K H' a [v1, v2, v3] ∧ tc (sel3 is σ (some v1) (some v2) (some v3)) H' fun b H2 => if b = true then te (sel3 is σ (some v1) (some v2) (some v3)) H2 fun y H3 => ∃ m', m' < m ∧ W (i + 1) m' (zs ++ [y]) H3 else ∃ m', m' < m ∧ W (i + 1) m' zs H2))
    (fin : ∀ D C s' H' m', Inv X pins σ H' s' → FpOk X pins H' C → s'.heap.Ns C m' → Q (.ref D) H' → RR (.ref D) C (.ok .next) s') :
    wpAny (model X.prog X.w) X.A (newList []) (fun acc s₃ => wpAny (model X.prog X.w) X.A (newFunctionEnv scope X.env.globals (clOf X.env.cells scope.names []) [] X.env.qual none .none (some X.env)) (fun cenv s₄ =>
      codeAny (model X.prog X.w) X.A (.compStart (.ListComp elt [⟨(.Tuple [.Name x px, .Name x2 px2, .Name x3 px3] pq pp), iter, ifs, 0⟩] scope pos) 0 (.ref it) acc { cenv with scope := relabel scope X.env }) (RR acc cenv.locals) s₄) E s₃) E s₂ := by
  refine wpAny_newObj_type (wpAny_newFunctionEnv K.cell (by intro y hy; simp at hy) (fun h₁ hns₁ hsb₁ => ?_) K.kind)
  dsimp only at hns₁ hsb₁ ⊢
  generalize hH2 : s₂.heap.push { cls := .type "list", dict := none, data := .seq ([] : List Value).toArray } = H2 at hns₁ hsb₁ ⊢
  have hCs : H2.objs.size = s₂.heap.objs.size + 1 := by rw [← hH2, Heap.size_push]
  have hDC : s₂.heap.objs.size ≠ H2.objs.size := by rw [hCs]; exact Nat.ne_of_lt (Nat.lt_succ_self _)
  have hC : s₂.heap.objs.size ≤ H2.objs.size := by rw [hCs]; exact Nat.le_succ _
  have hlt : ∀ b ∈ fp, b < s₂.heap.objs.size := fun b hb => by obtain ⟨o, e, _⟩ := T.obj 0 _ st b hb; exact Heap.lt_size e
  have old : ∀ b o, s₂.heap.get? b = some o → h₁.get? b = some o := fun b o e => hsb₁.extBut b o (by rw [hCs]; exact Nat.ne_of_lt (Nat.lt_succ_of_lt (Heap.lt_size e))) (Heap.get?_push_of_some _ (hH2 ▸ Heap.get?_push_of_some _ e))
  have hacc : h₁.get? s₂.heap.objs.size = some { cls := .type "list", data := .seq ([] : List Value).toArray 0 } := hsb₁.extBut _ _ hDC (Heap.get?_push_of_some _ (hH2 ▸ Heap.get?_push_size _ rfl))
  have st₁ : tn 0 h₁ := T.keep _ _ _ st fun b _ o e => old b o e
  -- the records of the iterator through the block
  have fpC : ∀ {H' : Hp} {pl : List (Addr × Obj)}, (∀ p ∈ pl, ∀ b ∈ fp, p.1 ≠ b) → (∀ b ∈ fp, H' b = none) → ∀ b ∈ fp, FpOk (cxC X (x :: x2 :: x3 :: ys) scope H2.objs.size s₂ H₂ fp) pl H' b := fun {H' pl} hpl hn b hb => by
    have ok := cxC_ok3 K K2 hX I hC hfp hlt
    exact ⟨hn b hb, (ok.exf b hb).1, ok.exfs b hb, .inl hb, (ok.exf b hb).2, fun p hp => hpl p hp b hb⟩
  have Dfp : ∀ (o : Obj), ∀ p ∈ [(s₂.heap.objs.size, o)], ∀ b ∈ fp, p.1 ≠ b := fun o p hp b hb e => by
    have e1 : p = (s₂.heap.objs.size, o) := by simpa using hp
    subst e1
    exact absurd (hlt b hb) (by rw [← e]; exact Nat.lt_irrefl _)
  have loop : ∀ s₃ : Shared, s₃ = { s₂ with heap := h₁, toks := s₂.toks + ([] : List (Str × Value)).length } →
      codeAny (model X.prog X.w) X.A (.compLoop (.ListComp elt [⟨(.Tuple [.Name x px, .Name x2 px2, .Name x3 px3] pq pp), iter, ifs, 0⟩] scope pos) 0 (.ref it) (.ref s₂.heap.objs.size) (compEnvC scope (clOf X.env.cells scope.names []) H2.objs.size X.env))
        (RR (.ref s₂.heap.objs.size) H2.objs.size) s₃ := by
    rintro s₃ rfl
    have I0 := cxC_inv3 K K2 hX hN hk I (tk := s₂.toks + ([] : List (Str × Value)).length) hC (Nat.le_refl _) hDC hfp hlt old hns₁ hacc (fun v z => by cases z)
    refine comp_loop (fun n s' => ∃ (i : Nat) (w1 w2 w9 : Option V) (zs : List V) (its : List Value) (k : Nat) (H' : Hp), Inv (cxC X (x :: x2 :: x3 :: ys) scope H2.objs.size s₂ H₂ fp) [(s₂.heap.objs.size, { cls := .type "list", data := .seq its.toArray k })] (sel3 is σ w1 w2 w9) H' s' ∧
      Vals zs its ∧ tn i s'.heap ∧ (∀ b ∈ fp, H' b = none) ∧ W i n zs H') ?_ m0 ⟨0, none, none, none, [], [], 0, H₂, I0, .nil, st₁, fun b hb => (hfp b hb).1, w0⟩
    rintro n s3 ⟨i, w1, w2, w9, zs, its, k, H3, I3, rv, st3, fr3, w3⟩
    have hD3 := I3.pin _ (List.mem_append_right _ (List.mem_singleton.mpr rfl))
    rcases turn i n zs H3 w3 with ⟨stop, hz, q⟩ | ⟨go, hz, step⟩
    · refine thn (T.done (cxC X (x :: x2 :: x3 :: ys) scope H2.objs.size s₂ H₂ fp) rfl rfl rfl hc i _ s3 _ H3 _ I3 (fpC (Dfp _) fr3) st3 stop) fun r s4 ⟨hr, I4⟩ => ?_
      subst hr
      have hD4 := I4.pin _ (List.mem_append_right _ (List.mem_singleton.mpr rfl))
      have I5 := cxC_end I I4 (Nat.le_refl _) hD4.2.1 hfp hz rv hD4.1
      obtain ⟨m', hm', _⟩ := I4.loc
      refine fin _ _ s4 _ m' I5 ?_ hm' (q _ hD4.2.1)
      refine I.fpOk hC ?_
      rw [upd_ne (Ne.symm hDC)]
      exact I4.free
    · refine thn (T.item (cxC X (x :: x2 :: x3 :: ys) scope H2.objs.size s₂ H₂ fp) rfl rfl rfl hc i _ s3 _ H3 _ I3 (fpC (Dfp _) fr3) st3 go) fun r s4 ⟨u, hr, h4⟩ => ?_
      subst hr
      refine thn h4 fun _ s5 ⟨xv, H5, I5, r5, y5, st5, fr5⟩ => ?_
      have I5' := I5.pinned (fpC (Dfp _) fr5) (T.obj _ _ st5)
      have pg : PG (cxC X (x :: x2 :: x3 :: ys) scope H2.objs.size s₂ H₂ fp) (.Tuple [.Name x px, .Name x2 px2, .Name x3 px3] pq pp) (gTup X.K 3 (gCons (gName 0) (gCons (gName 1) (gCons (gName 2) gNil)))) := pg_tup hc (pgs_cons (pg_name K2.nd rfl (.inl (lookup_relabel_local K.own)) (.inr (lookup_relabel_local K.own))) (pgs_cons (pg_name K2.nd rfl (.inl (lookup_relabel_local K2.own)) (.inr (lookup_relabel_local K2.own))) (pgs_cons (pg_name K2.nd rfl (.inl (lookup_relabel_local K2.own3)) (.inr (lookup_relabel_local K2.own3))) pgs_nil)))
      obtain ⟨av, v1, v2, v3, exv, sq5, stp⟩ := step xv H5 y5
      subst exv
      refine thn (pg _ s5 _ H5 (.ref av) u (fun σ2 H2 => σ2 = sel3 is σ (some v1) (some v2) (some v3) ∧ H2 = H5) I5' r5 ⟨av, [v1, v2, v3], rfl, sq5, rfl, _, _, rfl, _, _, rfl, _, _, rfl, rfl, rfl, rfl⟩) fun _ s6 ⟨σ6, H6, I6, e6, e6'⟩ => ?_
      subst e6
      subst e6'
      -- what stays of the list and the iterator
      have back : ∀ {s7 : Shared} {H7 : Hp}, Inv (cxC X (x :: x2 :: x3 :: ys) scope H2.objs.size s₂ H₂ fp) ([(s₂.heap.objs.size, { cls := .type "list", data := .seq its.toArray k })] ++ pinsAt fp s5.heap) (sel3 is σ (some v1) (some v2) (some v3)) H7 s7 →
          tn (i + 1) s7.heap ∧ (∀ b ∈ fp, H7 b = none) ∧ s7.heap.get? s₂.heap.objs.size = some { cls := .type "list", data := .seq its.toArray k } ∧ H7 s₂.heap.objs.size = none := fun {s7 H7} I7 => by
        refine ⟨T.keep _ _ _ st5 fun b hb o e => (I7.pin (b, o) (List.mem_append_right _ (List.mem_append_right _ (mem_pinsAt hb e)))).1, fun b hb => ?_, ?_, ?_⟩
        · obtain ⟨o, e, d⟩ := T.obj _ _ st5 b hb
          exact (I7.pin (b, o) (List.mem_append_right _ (List.mem_append_right _ (mem_pinsAt hb e)))).2.1
        · exact (I7.pin (s₂.heap.objs.size, { cls := .type "list", data := .seq its.toArray k }) (List.mem_append_right _ (List.mem_append_left _ (List.mem_singleton.mpr rfl)))).1
        · exact (I7.pin (s₂.heap.objs.size, { cls := .type "list", data := .seq its.toArray k }) (List.mem_append_right _ (List.mem_append_left _ (List.mem_singleton.mpr rfl)))).2.1
      refine thn ((hf _ _ _ _).out _ s6 _ H6 _ I6 stp) fun b s7 ⟨H7, I7, q7⟩ => ?_
      cases b with
      | false =>
        have q7' : ∃ m', m' < n ∧ W (i + 1) m' zs H7 := by simpa using q7
        obtain ⟨m', hm', w7⟩ := q7'
        obtain ⟨b1, b2, b3, b4⟩ := back I7
        rw [if_neg Bool.false_ne_true]
        exact ⟨m', hm', i + 1, some v1, some v2, some v3, zs, its, k, H7, I7.unpinned, rv, b1, b2, w7⟩
      | true =>
        rw [if_pos rfl]
        have q7' := q7
        rw [if_pos rfl] at q7'
        refine thn ((he _ _ _ _).out _ s7 _ H7 _ I7 q7') fun yv s8 ⟨y, H8, I8, r8, m', hm', w8⟩ => ?_
        obtain ⟨b1, b2, b3, b4⟩ := back I8
        refine append_at b3 (fun h9 sb9 e9 => ?_) (by rw [List.size_toArray, ← rv.length]; exact hz)
        have ok := cxC_ok3 K K2 hX I hC hfp hlt
        have I8' : Inv (cxC X (x :: x2 :: x3 :: ys) scope H2.objs.size s₂ H₂ fp) [] (sel3 is σ (some v1) (some v2) (some v3)) H8 s8 := I8.pins_of fun p hp => by cases hp
        have I9 : Inv (cxC X (x :: x2 :: x3 :: ys) scope H2.objs.size s₂ H₂ fp) [] (sel3 is σ (some v1) (some v2) (some v3)) H8 { s8 with heap := h9 } := I8'.turned (t' := s8.toks) (it := s₂.heap.objs.size) (fun b o hb e => (sb9.2 b hb).trans e) b4 hDC (.inr (Nat.le_refl _))
          (fun y c h z => by
            obtain ⟨v, o, ho, _⟩ := I.cell y c (K.cl hX I.ok y c h)
            have := Heap.lt_size ho
            rw [z] at this
            exact Nat.lt_irrefl _ this) (fun p hp => by cases hp)
        refine ⟨m', hm', i + 1, some v1, some v2, some v3, zs ++ [y], its ++ [yv], k + 1, H8, ?_, rv.append (.cons r8 .nil), T.keep _ _ _ b1 fun b hb o e => (sb9.2 b fun z => absurd (hlt b hb) (by rw [z]; exact Nat.lt_irrefl _)).trans e, b2, w8⟩
        refine I9.pins_of fun p hp => ?_
        have e1 : p = (s₂.heap.objs.size, { cls := .type "list", data := .seq (its ++ [yv]).toArray (k + 1) }) := by simpa using hp
        subst e1
        refine ⟨by rw [e9, List.push_toArray], b4, hDC, fun z => ?_, fun v z => by cases z⟩
        obtain ⟨_, o, ho, _⟩ := ok.funs.mem z
        exact absurd (Heap.lt_size ho) (Nat.lt_irrefl _)
  exact codeAny_compStart_list (loop _ rfl) (T.self _ 0 _ _ _ st₁ (loop _ rfl))
theorem qe_comp3 (K : CompSc S scope N x ys is) (K2 : Thr scope x x2 x3 ys) (hi : QI X (.Tuple [.Name x px, .Name x2 px2, .Name x3 px3] pq pp) iter wi) (hf : ∀ C s₂ H₂ ex, QF (cxC X (x :: x2 :: x3 :: ys) scope C s₂ H₂ ex) ifs tc) (he : ∀ C s₂ H₂ ex, QE (cxC X (x :: x2 :: x3 :: ys) scope C s₂ H₂ ex) elt te)
    (hc : X.calm = true := by rfl) (hX : X.env.scope = S := by rfl) (hN : X.N = N := by rfl) (hk : S.kind = .function := by rfl) (hs : ∀ v, foldedSetIterable iter X.env v = pure v := by intro _; rfl) :
    QE X (.ListComp elt [⟨(.Tuple [.Name x px, .Name x2 px2, .Name x3 px3] pq pp), iter, ifs, 0⟩] scope pos) (tComp3 X.K wi is tc te) := by
  refine ⟨fun pins s σ H Q I h => ?_⟩
  rw [eval_ListComp]
  refine wpAny_comprehension_free (use := none) rfl hs (closure_of (K.cellOf' hX I.ok)) K.kind K.names (thn (hi.out pins s σ H _ I h) fun v s1 h1 => thn h1 fun itv s2 h2 => ?_)
  obtain ⟨it, fp, tn, J, H2, rfl, I2, T, st2, f2, W, ⟨m0, w0⟩, turn⟩ := h2
  refine comp_block3 (RR := fun acc C => compPost (model X.prog X.w) X.A X.xe none (EP X pins σ Q) acc C) K K2 hX hN hk hc hf he I2 T st2 f2 w0 turn ?_
  intro D C s' H' m' I' fC hm' q
  obtain ⟨f0, f1, f3, f4, f5, f6⟩ := fC
  exact ⟨m', hm', fun h' hs' => ⟨.ref D, H', I'.turned (t' := s'.toks) (fun b o hb e => (hs'.2 b hb).trans e) f0 f1 f4 f5 f6, rfl, q⟩⟩
end
end L2
set_option Elab.async false
set_option linter.all false
set_option maxRecDepth 100000
set_option maxHeartbeats 3200000
namespace ZpT
open PySem PySem.Spec PyProof.Rows
section
variable {prog : Program} {w : World} {A : Around} {E : Value → Shared → Prop} {s : Shared}
end
end ZpT
set_option Elab.async false
set_option linter.all false
set_option maxRecDepth 100000
set_option maxHeartbeats 3200000
namespace L2
open PySem PySem.Spec PyProof.Rows
open ZpT (St3 Ap3 Of3 SeqAt IterAt)
section
variable {X : Cx} {e1 e2 e3 : Expr} {t : TA} {p pos : Pos}
end
end L2
set_option Elab.async false
set_option linter.all false
set_option maxRecDepth 100000
namespace L2
open PySem PySem.Spec PyProof.Rows
end L2
set_option Elab.async false
set_option linter.all false
set_option maxRecDepth 100000
set_option maxHeartbeats 1000000
namespace L2
open PySem PySem.Spec PyProof.Rows
end L2
set_option Elab.async false
set_option linter.all false
set_option maxRecDepth 100000
set_option maxHeartbeats 1000000
namespace L2
open PySem PySem.Spec PyProof.Rows
section
variable {prog : Program} {w : World} {A : Around} {s : Shared}
end
section
variable {X : Cx}
end
end L2
set_option Elab.async false
set_option linter.all false
set_option maxRecDepth 100000
set_option maxHeartbeats 1000000
namespace L2
open PySem PySem.Spec PyProof.Rows
section
variable {prog : Program} {w : World}
end
end L2
set_option Elab.async false
set_option linter.all false
set_option maxRecDepth 100000
set_option maxHeartbeats 1000000
namespace L2
open PySem PySem.Spec PyProof.Rows
section
variable {prog : Program} {w : World}
end
end L2
set_option Elab.async false
set_option linter.all false
set_option maxRecDepth 100000
set_option maxHeartbeats 1000000
namespace L2
open PySem PySem.Spec PyProof.Rows
section
variable {prog : Program} {w : World} {K : Type} [DecidableEq K]
end
end L2
set_option Elab.async false
set_option linter.all false
set_option maxRecDepth 100000
set_option maxHeartbeats 1000000
namespace L2
open PySem PySem.Spec PyProof.Rows
/-- how keys of a kind stand in the abstract heap -/
structure KN (Kk : Type) [DecidableEq Kk] where
  knd : ∀ (P : Program) (w : World), HeapKind P w Kk
  hsh : Kk → Int
  at_ : Hp → Kk → Addr → Prop
  hash_eq : ∀ P w k, (knd P w).hash k = hsh k
  ok : ∀ (P : Program) (w : World) (H : Hp) (h : Heap) (k : Kk) (a : Addr), HOk P w H h → at_ H k a → (knd P w).is h k a
  room : ∀ (P : Program) (w : World) (A : Around), A.units + 2 < cLine → (knd P w).room A.in1
  room0 : ∀ (P : Program) (w : World) (A : Around), A.units + 2 < cLine → (knd P w).room A
  keep : ∀ (H H' : Hp) (k : Kk) (a : Addr), (∀ b xs, H b = some (.tup xs) → H' b = some (.tup xs)) → at_ H k a → at_ H' k a
section
variable {Kk : Type} [DecidableEq Kk] (kn : KN Kk)
variable {kn}
end
end L2
set_option Elab.async false
set_option linter.all false
set_option maxRecDepth 100000
set_option maxHeartbeats 1000000
namespace L2
open PySem PySem.Spec PyProof.Rows
section
variable {X : Cx}
variable {o e : Expr} {es : List Expr} {to : TE} {t : TA} {name : Str} {apos cpos : Pos}
end
end L2
set_option Elab.async false
set_option linter.all false
set_option maxRecDepth 100000
set_option maxHeartbeats 1000000
namespace L2
open PySem PySem.Spec PyProof.Rows
section
variable {X : Cx}
end
end L2
set_option Elab.async false
set_option linter.all false
set_option maxRecDepth 100000
set_option maxHeartbeats 1000000
namespace L2
open PySem PySem.Spec PyProof.Rows
section
variable {X : Cx} {params : Arguments} {body a : Expr} {scope : Scope} {lpos p pos : Pos} {c P g : Addr} {qual x : Str} {k kl : Nat} {gd : FuncData} {pg ps ys : List Str} {is : List Nat} {sp : Sp} {ta te : TE} {b : Expr} {tb : TE}
end
end L2
set_option Elab.async false
set_option linter.all false
set_option maxRecDepth 100000
namespace L2
open PySem PySem.Spec PyProof.Rows
section
variable {κ : Type} [DecidableEq κ]
end
end L2
set_option Elab.async false
set_option linter.all false
set_option maxRecDepth 100000
set_option maxHeartbeats 1000000
namespace EnL
open PySem PySem.Spec PyProof.Rows
open AutoSeq1 (wpAny_loadPart')
def tIt (l : Addr) : Obj := { cls := .type "list_iterator", data := .fields #[.ref l, .int 0 0] }
def enO (it : Addr) : Obj := { cls := .type "enumerate", data := .fields #[.none, .bool false, .ref it, rawInt 0, .none, .none] }
theorem meets_new (l : Addr) (items : Array Value) :
    Meets (Builtin.«enumerate.__new__» ⟨[.type "enumerate", .ref l], []⟩) (fun _ R s => s.heap.IsList l items ∧
      R (.ok (.ret (.ref (s.heap.push (tIt l)).objs.size))) { s with heap := (s.heap.push (tIt l)).push (enO s.heap.objs.size) }) :=
  .of_wp fun prog w A R s h => by
    obtain ⟨hp, g, d, tk, os⟩ := s; obtain ⟨hL, h⟩ := h
    have hsub := sub_enumerate
    obtain ⟨⟨oc, od, oda, osl⟩, hl, hc, n, hd⟩ := id hL
    simp only at hc hd
    subst hc hd
    wp_walk using wpAny_loadPart' hl
    refine wpAny_stack_any fun st => wpAny_pure ?_
    split
    · rename_i c _ _ _ _ _
      cases (c == Value.type "enumerate")
      · wp_walk using wpAny_loadPart' hl, wpAny_pyIter_list hL
        exact ⟨_, rfl, h⟩
      · wp_walk using wpAny_loadPart' hl, wpAny_pyIter_list hL
        exact ⟨_, rfl, h⟩
    · wp_walk using wpAny_loadPart' hl, wpAny_pyIter_list hL
      exact ⟨_, rfl, h⟩
section
variable {prog : Program} {w : World} {A : Around} {E : Value → Shared → Prop} {s : Shared}
theorem next_of {it l : Addr} {i : Nat} {items} {x : Value} {Q : Value → Shared → Prop} (hit : s.heap.IsListIter it l i) (hl : s.heap.IsList l items) (hx : items[i]? = some x)
    (hQ : ∀ h', h'.IsListIter it l (i + 1) → Heap.SameBut it s.heap h' → Q x { s with heap := h' }) : wpAny (model prog w) A (Builtin.SmallTypes.nextOf (.ref it)) Q E s := by
  obtain ⟨o, ho, hc, hd⟩ := id hit
  obtain ⟨ol, hol, _, nl, hdl⟩ := hl
  unfold Builtin.SmallTypes.nextOf
  refine wpAny_bind (wpAny_callSpecial?_slot (name := Str.ofString "__next__") hit.typeIs slot_listiter_next (wpAny_call_entry slot_listiter_next hit.typeIs entry_listiter_next ?_ (args_listiter_next _)))
  show wpAny _ _ (field (.ref it) 0 >>= _) _ _ s
  refine wpAny_bind (wpAny_field ho hd (x := .ref l) rfl ?_)
  show wpAny _ _ (if (Value.ref l == Value.none) = true then _ else _) _ _ s
  rw [if_neg (show ¬ ((Value.ref l == Value.none) = true) from Bool.false_ne_true)]
  show wpAny _ _ (field (.ref it) 1 >>= _) _ _ s
  refine wpAny_bind (wpAny_field ho hd (x := .int i 0) rfl ?_)
  show wpAny _ _ (seqItems? (.ref l) >>= _) _ _ s
  refine wpAny_bind (wpAny_seqItems hol hdl ?_)
  simp only [Int.toNat_natCast, hx]
  refine wpAny_bind (wpAny_setField ho hd (by simp) (wpAny_pure ⟨x, rfl, wpAny_pure (hQ _ ⟨_, Heap.get?_update_self _ ho (Obj.isFreed_of_fields (Obj.data_mapFields hd _)), (Obj.cls_mapFields ..).trans hc, ?_⟩ (Heap.SameBut.update ..))⟩))
  rw [Obj.data_mapFields hd]
  simp [rawInt]
theorem next_no {it l : Addr} {i : Nat} {items} {Q : Value → Shared → Prop} (hh : A.handled = none) (hit : s.heap.IsListIter it l i) (hl : s.heap.IsList l items) (hx : items[i]? = none)
    (hE : ∀ h' e, Heap.ExtBut it s.heap h' → (∃ o, h'.get? e = some o ∧ o.cls = .type "StopIteration") → E (.ref e) { s with heap := h' }) : wpAny (model prog w) A (Builtin.SmallTypes.nextOf (.ref it)) Q E s := by
  obtain ⟨o, ho, hc, hd⟩ := id hit
  obtain ⟨ol, hol, _, nl, hdl⟩ := hl
  unfold Builtin.SmallTypes.nextOf
  refine wpAny_bind (wpAny_callSpecial?_slot (name := Str.ofString "__next__") hit.typeIs slot_listiter_next (wpAny_call_entry slot_listiter_next hit.typeIs entry_listiter_next ?_ (args_listiter_next _)))
  show wpAny _ _ (field (.ref it) 0 >>= _) _ _ s
  refine wpAny_bind (wpAny_field ho hd (x := .ref l) rfl ?_)
  show wpAny _ _ (if (Value.ref l == Value.none) = true then _ else _) _ _ s
  rw [if_neg (show ¬ ((Value.ref l == Value.none) = true) from Bool.false_ne_true)]
  show wpAny _ _ (field (.ref it) 1 >>= _) _ _ s
  refine wpAny_bind (wpAny_field ho hd (x := .int i 0) rfl ?_)
  show wpAny _ _ (seqItems? (.ref l) >>= _) _ _ s
  refine wpAny_bind (wpAny_seqItems hol hdl ?_)
  simp only [Int.toNat_natCast, hx]
  refine wpAny_bind (wpAny_rule (wpAny_bind (wpAny_setField ho hd (by simp) ?_)))
  show wpAny _ _ (newExc (.type "StopIteration") [] >>= _) _ _ _
  refine wpAny_bind ?_
  simp only [newExc, newTuple]
  refine wpAny_bind (wpAny_newObj_type ?_ (by size_fits))
  refine wpAny_bind (m := firstArgMember _ _) (wpAny_of_eq (a := Value.none) (by first | rfl | (simp only [firstArgMember]; rfl)) ?_)
  refine wpAny_newObj_type ?_ (by size_fits)
  simp only [raiseNew]
  refine wpAny_bind (wpAny_handled ?_)
  first | rw [show A.in1.handled = none from hh] | rw [hh]
  refine wpAny_bind (wpAny_pure (wpAny_throw ?_))
  exact hE _ _ (((Heap.SameBut.update ..).extBut.push _).push _) ⟨_, Heap.get?_push_size _ rfl, rfl⟩
theorem step_in {e it l : Addr} {i : Nat} {items : Array Value} {x old : Value} {Q : Value → Shared → Prop}
    (he : IsEnum s.heap e it i old) (hit : s.heap.IsListIter it l i) (hl : s.heap.IsList l items) (hx : items[i]? = some x) (hne : e ≠ it)
    (hQ : ∀ h', IsEnumOut h' e it ((i : Int) + 1) x s.heap.objs.size → h'.IsListIter it l (i + 1) →
      h'.get? s.heap.objs.size = some { cls := .type "tuple", data := .seq #[.int i s.toks, x] } → h'.objs.size = s.heap.objs.size + 1 →
      (∀ b o, b ≠ e → b ≠ it → s.heap.get? b = some o → h'.get? b = some o) → Q (.ref s.heap.objs.size) { s with heap := h', toks := s.toks + 1 }) :
    wpAny (model prog w) A (Builtin.«enumerate.__next__» ⟨[.ref e], []⟩) (fun fin s' => ∃ v, fin = .done (.ret v) ∧ Q v s') E s := by
  obtain ⟨hp, g, d, tk, os⟩ := s
  show wpAny _ _ (field (.ref e) 2 >>= _) _ _ _
  refine wpAny_bind (wpAny_field he rfl (x := .ref it) rfl ?_)
  refine wpAny_bind (next_of hit hl hx fun h₁ hit₁ hs₁ => ?_)
  replace hs₁ : Heap.SameBut it hp h₁ := hs₁
  have he₁ : IsEnum h₁ e it i old := (hs₁.2 e hne).trans he
  show wpAny _ _ (field (.ref e) 3 >>= _) _ _ ⟨h₁, g, d, tk, os⟩
  refine wpAny_bind (wpAny_field he₁ rfl (x := rawInt i) rfl ?_)
  show wpAny _ _ (field (.ref e) 4 >>= _) _ _ ⟨h₁, g, d, tk, os⟩
  refine wpAny_bind (wpAny_field he₁ rfl (x := .none) rfl ?_)
  show wpAny _ _ (mkInt i >>= _) _ _ ⟨h₁, g, d, tk, os⟩
  refine wpAny_bind (wpAny_mkInt ?_)
  show wpAny _ _ (setField (.ref e) 3 (rawInt ((i : Int) + 1)) >>= _) _ _ ⟨h₁, g, d, tk + 1, os⟩
  refine wpAny_bind (wpAny_setField_rec he₁ (by simp) fun h₂ he₂ hs₂ => ?_)
  replace hs₂ : Heap.SameBut e h₁ h₂ := hs₂
  replace he₂ : IsEnum h₂ e it ((i : Int) + 1) old := he₂
  show wpAny _ _ (setField (.ref e) 4 .none >>= _) _ _ ⟨h₂, g, d, tk + 1, os⟩
  refine wpAny_bind (wpAny_setField_rec he₂ (by simp) fun h₃ he₃ hs₃ => ?_)
  replace hs₃ : Heap.SameBut e h₂ h₃ := hs₃
  replace he₃ : IsEnum h₃ e it ((i : Int) + 1) old := he₃
  show wpAny _ _ (newTuple [.int i tk, x] >>= _) _ _ ⟨h₃, g, d, tk + 1, os⟩
  refine wpAny_bind (wpAny_newTuple ?_)
  have he₄ : IsEnum (h₃.push { cls := .type "tuple", data := .seq #[.int i tk, x] }) e it ((i : Int) + 1) old := Heap.get?_push_of_some _ he₃
  generalize hh₄ : h₃.push { cls := .type "tuple", data := .seq #[.int i tk, x] } = h₄ at he₄
  have hsz : h₃.objs.size = hp.objs.size := by rw [hs₃.1, hs₂.1, hs₁.1]
  have hel : e < hp.objs.size := Heap.lt_size he
  have ht₄ : h₄.get? hp.objs.size = some { cls := .type "tuple", data := .seq #[.int i tk, x] } := by rw [← hh₄, ← hsz]; exact Heap.get?_push_size _ rfl
  have hz₄ : h₄.objs.size = hp.objs.size + 1 := by rw [← hh₄, Heap.size_push, hsz]
  have hk₄ : ∀ b o, b ≠ e → b ≠ it → hp.get? b = some o → h₄.get? b = some o := fun b o hbe hbi hb => by
    rw [← hh₄]; exact Heap.get?_push_of_some _ (hs₃.extBut b o hbe (hs₂.extBut b o hbe (hs₁.extBut b o hbi hb)))
  have hit₄ : h₄.IsListIter it l (i + 1) := by
    rw [← hh₄]; obtain ⟨o, ho, r⟩ := (hit₁.extBut hs₂.extBut (Ne.symm hne)).extBut hs₃.extBut (Ne.symm hne); exact ⟨o, Heap.get?_push_of_some _ ho, r⟩
  show wpAny _ _ (Builtin.SmallTypes.ownedTupleIsFree (.ref e) >>= _) _ _ ⟨h₄, g, d, tk + 1, os⟩
  rw [hsz]
  clear hh₄ he₃ hs₃ he₂ hs₂ he₁ hs₁ hit₁ hsz h₃ h₂ h₁
  refine wpAny_bind ?_
  · unfold Builtin.SmallTypes.ownedTupleIsFree
    refine wpAny_bind (wpAny_field he₄ rfl (x := .none) rfl (wpAny_pure ?_))
    simp only [if_true]
    refine wpAny_bind (wpAny_rule ?_)
    refine wpAny_bind (wpAny_field he₄ rfl (x := old) rfl ?_)
    refine wpAny_bind (wpAny_setField_rec he₄ (by simp) fun h₅ he₅ hs₅ => ?_)
    replace hs₅ : Heap.SameBut e h₄ h₅ := hs₅
    replace he₅ : IsEnum h₅ e it ((i : Int) + 1) x := he₅
    show wpAny _ _ (Builtin.SmallTypes.ownedTupleHandOut (.ref e) (.ref hp.objs.size) >>= _) _ _ ⟨h₅, g, d, tk + 1, os⟩
    refine wpAny_bind ?_
    · unfold Builtin.SmallTypes.ownedTupleHandOut
      refine wpAny_bind (wpAny_setField_rec he₅ (by simp) fun h₆ he₆ hs₆ => ?_)
      replace hs₆ : Heap.SameBut e h₅ h₆ := hs₆
      replace he₆ : IsEnumOut h₆ e it ((i : Int) + 1) x hp.objs.size := he₆
      refine wpAny_setField_rec he₆ (by simp) fun h₇ he₇ hs₇ => ?_
      replace hs₇ : Heap.SameBut e h₆ h₇ := hs₇
      replace he₇ : IsEnumOut h₇ e it ((i : Int) + 1) x hp.objs.size := he₇
      refine wpAny_bind (wpAny_letGo (wpAny_pure ⟨_, rfl, hQ h₇ he₇ ?_ ?_ ?_ ?_⟩))
      · exact ((hit₄.extBut hs₅.extBut (Ne.symm hne)).extBut hs₆.extBut (Ne.symm hne)).extBut hs₇.extBut (Ne.symm hne)
      · exact hs₇.extBut _ _ (Nat.ne_of_gt hel) (hs₆.extBut _ _ (Nat.ne_of_gt hel) (hs₅.extBut _ _ (Nat.ne_of_gt hel) ht₄))
      · rw [hs₇.1, hs₆.1, hs₅.1, hz₄]
      · exact fun b o hbe hbi hb => hs₇.extBut b o hbe (hs₆.extBut b o hbe (hs₅.extBut b o hbe (hk₄ b o hbe hbi hb)))
theorem next_item {e it l : Addr} {i : Nat} {items : Array Value} {x old : Value} {Q : Option Value → Shared → Prop}
    (he : IsEnum s.heap e it i old) (hit : s.heap.IsListIter it l i) (hl : s.heap.IsList l items) (hx : items[i]? = some x) (hne : e ≠ it)
    (hQ : ∀ h', IsEnumOut h' e it ((i : Int) + 1) x s.heap.objs.size → h'.IsListIter it l (i + 1) →
      h'.get? s.heap.objs.size = some { cls := .type "tuple", data := .seq #[.int i s.toks, x] } → h'.objs.size = s.heap.objs.size + 1 →
      (∀ b o, b ≠ e → b ≠ it → s.heap.get? b = some o → h'.get? b = some o) → Q (some (.ref s.heap.objs.size)) { s with heap := h', toks := s.toks + 1 }) :
    wpAny (model prog w) A (pyNext (.ref e)) Q E s := by
  have hT : s.TypeIs (.ref e) "enumerate" := ⟨_, he, rfl⟩
  unfold pyNext
  exact wpAny_bind (wpAny_attempt (wpAny_callSpecial?_slot (name := Str.ofString "__next__") hT F.slot_enumerate_next (wpAny_call_entry F.slot_enumerate_next hT F.entry_enumerate_next
      (step_in he hit hl hx hne fun h' a b c d k => wpAny_pure (hQ h' a b c d k)) (F.args_enumerate_next_1 _))))
theorem next_end {e it l : Addr} {i : Nat} {items : Array Value} {old : Value} {Q : Option Value → Shared → Prop} (hh : A.handled = none)
    (he : IsEnum s.heap e it i old) (hit : s.heap.IsListIter it l i) (hl : s.heap.IsList l items) (hx : items[i]? = none)
    (hQ : ∀ h', Heap.ExtBut it s.heap h' → Q none { s with heap := h' }) : wpAny (model prog w) A (pyNext (.ref e)) Q E s := by
  have hT : s.TypeIs (.ref e) "enumerate" := ⟨_, he, rfl⟩
  unfold pyNext
  refine wpAny_bind (wpAny_attempt (wpAny_callSpecial?_slot (name := Str.ofString "__next__") hT F.slot_enumerate_next (wpAny_call_entry F.slot_enumerate_next hT F.entry_enumerate_next ?_ (F.args_enumerate_next_1 _))))
  show wpAny _ _ (field (.ref e) 2 >>= _) _ _ _
  refine wpAny_bind (wpAny_field he rfl (x := .ref it) rfl ?_)
  refine wpAny_bind (next_no hh hit hl hx fun h' x he' hx' => ?_)
  obtain ⟨o, ho, hc⟩ := hx'
  refine wpAny_bind (wpAny_isInstance (T := "StopIteration") (b := true) ⟨o, ho, hc⟩ isSubtype_stop ?_)
  exact wpAny_pure (hQ _ he')
theorem call_new {l : Addr} {items : Array Value} {Q : Value → Shared → Prop} (hl : s.heap.IsList l items)
    (h : ∀ h', IsEnum h' (s.heap.objs.size + 1) s.heap.objs.size 0 .none → h'.IsListIter s.heap.objs.size l 0 → h'.objs.size = s.heap.objs.size + 2 →
      (∀ b o, s.heap.get? b = some o → h'.get? b = some o) → Q (.ref (s.heap.objs.size + 1)) { s with heap := h' }) : wpAny (model prog w) A (call (.type "enumerate") [.ref l]) Q E s := by
  refine callType_new F.called_enumerate (by decide) (F.typeCall_enumerate_1 _) (F.newCall_enumerate_1 _) (fun obj => F.args_object_init_2 obj _) F.entry_enumerate_new (meets_new l items) ⟨hl, ?_⟩
  have hz : (s.heap.push (tIt l)).objs.size = s.heap.objs.size + 1 := Heap.size_push ..
  show _ ∧ _
  rw [hz]
  have he : IsEnum ((s.heap.push (tIt l)).push (enO s.heap.objs.size)) (s.heap.objs.size + 1) s.heap.objs.size 0 .none := by
    have := Heap.get?_push_size (s.heap.push (tIt l)) (o := enO s.heap.objs.size) rfl
    rw [hz] at this
    exact this
  refine ⟨⟨_, he, rfl⟩, h _ he ⟨_, Heap.get?_push_of_some _ (Heap.get?_push_size _ rfl), rfl, rfl⟩ (by rw [Heap.size_push, hz]) fun b o x => Heap.get?_push_of_some _ (Heap.get?_push_of_some _ x)⟩
end
end EnL
namespace L2
open PySem PySem.Spec PyProof.Rows
/-- (0, t[0]), (1, t[1]) .., each a new tuple -/
def Itel (K : PySem.W.Frag) (a : Addr) (n : Nat) : It :=
  ⟨fun i H => ∃ xs x, SqL K H a xs ∧ xs.length = n ∧ xs[i]? = some x, fun i H v H' => ∃ p, H p = none ∧ v = .ref p ∧ ∀ xs x, SqL K H a xs → xs[i]? = some x → H' = upd H p (.tup [.int i, x]), fun i H => ∃ xs, SqL K H a xs ∧ xs.length = n ∧ n ≤ i⟩
theorem turn_enumL {P : Program} {w : World} {K : PySem.W.Frag} {es : List Expr} {q : Nat} {ps : Pos} (a e it : Addr) (n : Nat) (hei : e ≠ it) : Turn P w K (.Tuple es q ps) (Itel K a n) [e, it] e (fun i h => (∃ old, IsEnum h e it i old) ∧ h.IsListIter it a i) where
  mem := by simp
  obj := fun i h st b hb => by
    obtain ⟨⟨old, he⟩, o, ho, hc, hd⟩ := st
    rcases List.mem_cons.mp hb with rfl | hb
    · exact ⟨_, he, fun v z => by
        have z' : Data.fields _ = Data.cell v := z
        cases z'⟩
    · have : b = it := by simpa using hb
      subst this
      exact ⟨o, ho, fun v z => by rw [hd] at z; cases z⟩
  keep := fun i h h' st k => by
    obtain ⟨⟨old, he⟩, hit⟩ := st
    exact ⟨⟨old, k e (by simp) _ he⟩, hit.at fun o x => k it (by simp) o x⟩
  item := by
    intro X hP hw hK hc i pins s σ H E I hf st hg
    subst hP hw hK
    obtain ⟨xs, x, hq, hn, hx⟩ := hg
    obtain ⟨its, rv, p, hz⟩ := I.list hq
    obtain ⟨u, hu, ru⟩ := rv.get hx
    obtain ⟨⟨old, he⟩, hit⟩ := st
    obtain ⟨f0, f1, f2, f3, f4, f5⟩ := hf e (by simp)
    obtain ⟨g0, g1, g2, g3, g4, g5⟩ := hf it (by simp)
    have hlt : e < s.heap.objs.size := Heap.lt_size he
    have hilt : it < s.heap.objs.size := by obtain ⟨_, z, _⟩ := hit; exact Heap.lt_size z
    refine EnL.next_item he hit p.isList (x := u) (by simpa using hu) hei fun h' ho hit' hT hsz hk => ?_
    refine ⟨_, rfl, wpAny_letOwnedTupleGo_enum (s := { s with heap := h', toks := s.toks + 1 }) ho fun h2 he2 hs2 => ?_⟩
    have hs2' : Heap.SameBut e h' h2 := hs2
    have I1 : Inv X pins σ (upd H s.heap.objs.size (.tup [.int i, x])) { s with heap := s.heap.push { cls := .type "tuple", data := .seq #[.int i s.toks, u] }, toks := s.toks + 1 } :=
      I.laid (fun b o y => Heap.get?_push_of_some _ y) (Nat.le_refl _) ⟨by show 2 ≤ sizeLine; decide, [.int i s.toks, u], .cons ⟨_, rfl⟩ (.cons ru .nil), TupN.new _ _⟩
    have fp' : ∀ b ∈ [e, it], FpOk X pins (upd H s.heap.objs.size (.tup [.int i, x])) b := fun b hb => by
      have hlb : b ≠ s.heap.objs.size := by
        rcases List.mem_cons.mp hb with rfl | hb
        · exact Nat.ne_of_lt hlt
        · have : b = it := by simpa using hb
          rw [this]
          exact Nat.ne_of_lt hilt
      obtain ⟨a0, ar⟩ := hf b hb
      exact ⟨by rw [upd_ne hlb]; exact a0, ar⟩
    have I2 : Inv X pins σ (upd H s.heap.objs.size (.tup [.int i, x])) { s with heap := h2, toks := s.toks + 1 } := by
      refine turned_all (s := { s with heap := s.heap.push { cls := .type "tuple", data := .seq #[.int i s.toks, u] }, toks := s.toks + 1 }) I1 fp' fun b o hb y => ?_
      have hbe : b ≠ e := fun z => hb (by simp [z])
      have hbi : b ≠ it := fun z => hb (by simp [z])
      rcases Heap.get?_push_cases y with ⟨rfl, rfl⟩ | y
      · exact (hs2'.2 _ hbe).trans hT
      · exact (hs2'.2 b hbe).trans (hk b o hbe hbi y)
    refine ⟨.ref s.heap.objs.size, _, I2, rfl, ⟨_, I.hok.fresh (Nat.le_refl _), rfl, fun ys y hy hyi => ?_⟩, ⟨⟨u, ?_⟩, hit'.at fun o y => (hs2'.2 it hei.symm).trans y⟩, fun b hb => (fp' b hb).1⟩
    · rw [I.list_inj hy hq, hx] at hyi
      cases hyi
      rfl
    · have e1 : ((i + 1 : Nat) : Int) = (i : Int) + 1 := by lia
      show IsEnum h2 e it ((i + 1 : Nat) : Int) u
      rw [e1]
      exact he2
  done := by
    intro X hP hw hK hc i pins s σ H E I hf st hg
    subst hP hw hK
    obtain ⟨xs, hq, hn, hx⟩ := hg
    obtain ⟨its, rv, p, hz⟩ := I.list hq
    obtain ⟨⟨old, he⟩, hit⟩ := st
    obtain ⟨g0, g1, g2, g3, g4, g5⟩ := hf it (by simp)
    have hl := rv.length
    exact EnL.next_end (I.ok.hd hc) he hit p.isList (by simp; lia) fun h' eb => ⟨rfl, I.turned (t' := s.toks) (fun b o hb e => eb b o hb e) g0 g1 g3 g4 g5⟩
  self := fun _ _ _ _ _ st h => let ⟨⟨_, he⟩, _⟩ := st; wpAny_pyIter_enum he h
def iEnumL (K : PySem.W.Frag) (te : TE) : TI := fun σ H R => te σ H fun x H1 => ∃ a xs, x = .ref a ∧ SqL K H1 a xs ∧ R (Itel K a xs.length) H1
theorem qi_enumL {X : Cx} {e : Expr} {es : List Expr} {q : Nat} {ps : Pos} {te : TE} {p pos : Pos} (hg : Gl X "enumerate") (hm : X.mg "enumerate" = none) (he : QE X e te) (hp : plainE e = true := by rfl) : QI X (.Tuple es q ps) (.Call (.Name "enumerate" p) [e] [] pos) (iEnumL X.K te) := by
  refine ⟨fun pins s σ H R I h => ?_⟩
  have hs : starEach [e] X.env = [(false, eval e X.env)] := by rw [starEach_plain hp]; rfl
  refine Call_ (ld_blt I hg hm bt_enumerate (PyProof.Rows.callWith_type1 ?_ hs rfl))
  rw [hs]
  show wpAny _ _ (spliced ((false, eval e X.env) :: [])) _ _ s
  refine Calls.spliced_cons (thn (he.out pins s σ H _ I h) fun u s1 ⟨x, H1, I1, ru, q1⟩ => ?_)
  refine Calls.spliced_nil ?_
  obtain ⟨a, xs, rfl, hq, r⟩ := q1
  cases ru
  obtain ⟨its, rv, pt, hz⟩ := I1.list hq
  refine EnL.call_new pt.isList fun h' he' hit' hsz hk => ?_
  have I2 : Inv X pins σ H1 { s1 with heap := h' } := I1.kept (t' := s1.toks) hk
  refine wpAny_pyIter_enum he' ⟨s1.heap.objs.size + 1, [s1.heap.objs.size + 1, s1.heap.objs.size], _, _, H1, rfl, I2, turn_enumL a (s1.heap.objs.size + 1) s1.heap.objs.size xs.length (Nat.succ_ne_self _), ⟨⟨_, he'⟩, hit'⟩, fun b hb => ?_, r⟩
  rcases List.mem_cons.mp hb with rfl | hb
  · exact I1.fpOk (Nat.le_succ _) (I1.hok.fresh (Nat.le_succ _))
  · have : b = s1.heap.objs.size := by simpa using hb
    subst this
    exact I1.fpOk (Nat.le_refl _) (I1.hok.fresh (Nat.le_refl _))
theorem for_enumL {K : PySem.W.Frag} {a : Addr} {xs : List V} {j k : Nat} {tb : TS} {D : Ends} {σ : St} {H : Hp} (Pv : Nat → St → Hp → Prop) (h0 : Pv 0 σ H) (hl : ∀ i σ H, i ≤ xs.length → Pv i σ H → SqL K H a xs)
    (hs : ∀ i x σ H p, xs[i]? = some x → H p = none → Pv i σ H → tb { D with nx := Pv (i + 1), ct := Pv (i + 1), bk := D.nx } ((σ.set j (some (.int i))).set k (some x)) (upd H p (.tup [.int i, x]))) (hd : ∀ σ H, Pv xs.length σ H → D.nx σ H) :
    ∃ W : Nat → Nat → St → Hp → Prop, (∃ m, W 0 m σ H) ∧ ∀ i m σ H, W i m σ H →
      ((Itel K a xs.length).stop i H ∧ D.nx σ H) ∨ ((Itel K a xs.length).go i H ∧ ∃ N : St → Hp → Prop, (∀ σ' H', N σ' H' → ∃ m', m' < m ∧ W (i + 1) m' σ' H') ∧ ∀ x H', (Itel K a xs.length).yld i H x H' → (gTup K 2 (gCons (gName j) (gCons (gName k) gNil))) x σ H' fun σ2 H2 => tb { D with nx := N, ct := N, bk := D.nx } σ2 H2) := by
  refine ⟨fun i m σ H => m = xs.length - i ∧ i ≤ xs.length ∧ Pv i σ H, ⟨xs.length, by simp, Nat.zero_le _, h0⟩, ?_⟩
  rintro i m σ H ⟨rfl, hi, p⟩
  have hq := hl i σ H hi p
  by_cases hlt : i < xs.length
  · have hx := List.getElem?_eq_getElem hlt
    refine .inr ⟨⟨xs, xs[i], hq, rfl, hx⟩, Pv (i + 1), fun σ' H' p' => ⟨xs.length - (i + 1), by lia, rfl, hlt, p'⟩, fun v H' y => ?_⟩
    obtain ⟨t, ht, rfl, y⟩ := y
    have e := y xs _ hq hx
    subst e
    exact ⟨t, _, rfl, SqT.of upd_same, rfl, _, _, rfl, _, _, rfl, rfl, hs i _ σ H t hx ht p⟩
  · have e : i = xs.length := by lia
    exact .inl ⟨⟨xs, hq, rfl, by lia⟩, by rw [e] at p; exact hd σ H p⟩
end L2
set_option Elab.async false
set_option linter.all false
namespace L2
section
variable {κ β : Type} [DecidableEq κ] [DecidableEq β]
end
end L2
set_option Elab.async false
set_option linter.all false
set_option maxRecDepth 100000
namespace L2
open PySem PySem.Spec PyProof.Rows
end L2
set_option Elab.async false
set_option linter.all false
namespace L2
open PySem PySem.Spec PyProof.Rows
theorem units4_of {k : Nat} {A : Around} (r : Room k A) : A.units + 4 < cLine := by have := r.un; lia
section
variable {X : Cx}
end
end L2
set_option Elab.async false
set_option linter.all false
namespace L2
open PySem PySem.Spec PyProof.Rows
def EqB (H : Hp) : Nat → V → V → Bool → Prop
  | 0, x, y, b => flatV x = true ∧ flatV y = true ∧ b = eqV x y
  | n + 1, x, y, b => (flatV x = true ∧ flatV y = true ∧ b = eqV x y) ∨ ∃ (a c : Addr) (xs ys : List V) (e : Nat → Bool), x = .ref a ∧ y = .ref c ∧ H a = some (.tup xs) ∧ H c = some (.tup ys) ∧ b = ((List.range (min xs.length ys.length)).all e && xs.length == ys.length) ∧ ∀ (j : Nat) (u v : V), xs[j]? = some u → ys[j]? = some v → EqB H n u v (e j)
theorem eqB_self {H : Hp} : ∀ (n : Nat) (x : V) (b : Bool), EqB H n x x b → b = true
  | 0, x, b, h => by
    obtain ⟨f, _, rfl⟩ := h
    exact eqV_self f
  | n + 1, x, b, h => by
    rcases h with ⟨f, _, rfl⟩ | ⟨a, c, xs, ys, e, rfl, ec, ha, hc, rfl, he⟩
    · exact eqV_self f
    · cases ec
      rw [ha] at hc
      cases hc
      rw [Nat.min_self, beq_self_eq_true, Bool.and_true, List.all_eq_true]
      intro j hj
      have hj := List.mem_range.mp hj
      exact eqB_self n _ _ (he j _ _ (List.getElem?_eq_getElem hj) (List.getElem?_eq_getElem hj))
theorem itm_at {xs : List V} {its : List Value} (r : Vals xs its) {j : Nat} (h1 : j < its.toArray.size) : ∃ x, xs[j]? = some x ∧ RelV x its.toArray[j] := by
  have hj : j < xs.length := by rw [r.length]; simpa using h1
  obtain ⟨u, e1, q1⟩ := r.get (List.getElem?_eq_getElem hj)
  have e1' : its.toArray[j] = u := by
    have : its[j]? = some its[j] := List.getElem?_eq_getElem (by simpa using h1)
    rw [e1] at this
    simpa using (Option.some.inj this).symm
  rw [e1']
  exact ⟨_, List.getElem?_eq_getElem hj, q1⟩
theorem eqAt_B {X : Cx} {pins : List (Addr × Obj)} {σ : St} {H : Hp} {s : Shared} (I : Inv X pins σ H s) : ∀ (n : Nat) (A : Around) (x y : V) (b : Bool) (v u : Value), RelV x v → RelV y u → EqB H n x y b → A.units + n < cLine → SeqAt.EqAt A s v u b
  | 0, A, x, y, b, v, u, rx, ry, h, hu => by
    obtain ⟨f, f', rfl⟩ := h
    exact eqAt_V (A := A) (s := s) rx ry f f'
  | n + 1, A, x, y, b, v, u, rx, ry, h, hu => by
    rcases h with ⟨f, f', rfl⟩ | ⟨a, c, xs, ys, e, rfl, rfl, ha, hc, rfl, he⟩
    · exact eqAt_V (A := A) (s := s) rx ry f f'
    · cases rx
      cases ry
      by_cases hac : a = c
      · subst hac
        have z := eqB_self (H := H) (n + 1) (.ref a) _ (.inr ⟨a, a, xs, ys, e, rfl, rfl, ha, hc, rfl, he⟩)
        rw [z]
        exact SeqAt.EqAt.same _
      obtain ⟨its, r, p, _⟩ := I.tuple (SqT.of ha)
      obtain ⟨its2, r2, p2, _⟩ := I.tuple (SqT.of hc)
      refine SeqAt.EqAt.of_refs hac ?_
      have q := SeqAt.RcAt.tuples (A := A) (e := e) p p2 (by lia) fun j h1 h2 => ?_
      · rw [List.size_toArray, List.size_toArray, ← r.length, ← r2.length] at q
        exact q
      · obtain ⟨w1, g1, q1⟩ := itm_at r h1
        obtain ⟨w2, g2, q2⟩ := itm_at r2 h2
        exact eqAt_B I n A.in1 _ _ _ _ _ q1 q2 (he j _ _ g1 g2) (by show A.units + 1 + n < _; lia)
section
variable {X : Cx}
end
end L2
set_option Elab.async false
set_option linter.all false
namespace L2
open PySem PySem.Spec PyProof.Rows
section
variable {X : Cx}
end
end L2
set_option Elab.async false
set_option linter.all false
set_option maxRecDepth 100000
set_option maxHeartbeats 3200000
namespace L2
open PySem PySem.Spec PyProof.Rows
section
variable {M : Model} {A : Around} {E : Value → Shared → Prop} {s : Shared}
end
section
variable {P : Program} {w : World} {K : PySem.W.Frag} {mg : Str → Option Value} {base : Heap}
end
end L2
set_option Elab.async false
set_option linter.all false
set_option maxRecDepth 100000
set_option maxHeartbeats 3200000
namespace L2
open PySem PySem.Spec PyProof.Rows
section
variable {X : Cx} {params : Arguments} {body : List Stmt} {scope : Scope} {lpos : Pos} {c P : Addr} {name qual : Str}
end
end L2
set_option Elab.async false
set_option linter.all false
set_option maxRecDepth 100000
set_option maxHeartbeats 3200000
namespace L2
open PySem PySem.Spec PyProof.Rows
section
variable {X : Cx} {pins : List (Addr × Obj)} {σ : St} {H : Hp} {s : Shared}
end
section
variable {X : Cx} {params : Arguments} {body : List Stmt} {scope : Scope} {p pos : Pos} {g : Addr} {name qual x : Str} {k kl : Nat} {gd : FuncData} {pg ps ls ys : List Str} {is : List Nat} {sp : Sp} {ts : TS} {e : Expr} {es : List Expr} {ta : TA}
end
end L2
set_option Elab.async false
set_option linter.all false
set_option maxRecDepth 100000
set_option maxHeartbeats 1000000
namespace L2
open PySem PySem.Spec PyProof.Rows
section
variable {X : Cx}
theorem PI.or {tg l : Expr} {t u : TI} (h : PI X tg l t) (g : PI X tg l u) : PI X tg l (fun σ H R => t σ H R ∨ u σ H R) := fun pins s σ H R I z => z.elim (h pins s σ H R I) (g pins s σ H R I)
theorem QI.or {tg l : Expr} {t u : TI} (h : QI X tg l t) (g : QI X tg l u) : QI X tg l (fun σ H R => t σ H R ∨ u σ H R) := ⟨PI.or h.out g.out⟩
end
end L2
set_option Elab.async false
set_option linter.all false
set_option maxRecDepth 100000
set_option maxHeartbeats 1000000
namespace L2
open PySem PySem.Spec PyProof.Rows
section
variable {prog : Program} {w : World} {A : Around} {R : Result → Shared → Prop} {I : Addr} {fp wr : List Addr} {n : Nat} {P : Nat → Value → Prop} {St : Nat → Heap → Prop} {d : Value}
end
section
variable {prog : Program} {w : World} {A : Around} {E : Value → Shared → Prop} {s : Shared} {l : Addr} {xs : Array (Int × Tok)} {d : Value}
end
section
variable {X : Cx}
end
end L2
set_option Elab.async false
set_option linter.all false
namespace L2
open PySem PySem.Spec PyProof.Rows
end L2
set_option Elab.async false
set_option linter.all false
set_option maxRecDepth 100000
namespace L2
open PySem PySem.Spec PyProof.Rows
section
variable {X : Cx} {pos : Pos}
end
end L2
set_option Elab.async false
set_option linter.all false
set_option maxRecDepth 100000
set_option maxHeartbeats 1000000
namespace L2
open PySem PySem.Spec PyProof.Rows
section
variable {prog : Program} {w : World} {A : Around} {E : Value → Shared → Prop} {s : Shared}
end
open AutoSeq1 (wpAny_loadPart')
section
variable {prog : Program} {w : World} {A : Around} {E : Value → Shared → Prop} {s : Shared}
end
section
variable {X : Cx}
/-- d.setdefault(k, v), k a whole number or a text -/
def rSetD : V → List V → Hp → VK → Prop := fun x vs H Q => ∃ (d : Addr) (k : Key) (v : V) (kvs : List (Key × V)), x = .ref d ∧ vs = [kV k, v] ∧ H d = some (.dK kvs) ∧ kvs.length < sizeLine ∧
  (∀ y, valV kvs k = some y → Q y H) ∧ (valV kvs k = none → Q v (upd H d (.dK (putK kvs k v))))
theorem mt_setD : MtM X "dict.setdefault" rSetD := by
  intro pins s σ H x vs v us Q I rx rv h
  obtain ⟨d, k, y, kvs, rfl, rfl, e, hz, h1, h2⟩ := h
  cases rx
  cases rv with
  | cons r1 r2 =>
  cases r2 with
  | cons r2 r3 =>
  cases r3
  obtain ⟨z, hd, vs, rel, dd⟩ := dk_of I.hok e
  refine call_meetsIn F.slot_dict_setdefault dd.typeIs F.entry_dict_setdefault (F.args_dict_setdefault_3 _ _ _) (kt_meets_setdefault (mixKind X.prog X.w) d (kV_is r1) hd _) ⟨vs, dd, by rw [← rel.length]; exact z, fun v' hv => ?_, fun hv h' dd' hs => ?_⟩
  · cases hy : valV kvs k with
    | none =>
      have := RelO.none_of (by rw [← hy]; exact rel.val k)
      rw [hv] at this
      cases this
    | some y' =>
      obtain ⟨w', hw, rw'⟩ := RelO.some_of (v := y') (o := valueAt vs k) (by rw [← hy]; exact rel.val k)
      rw [hv] at hw
      cases hw
      exact ⟨y', H, I.tok _, rw', h1 y' hy⟩
  · have hn : valV kvs k = none := by
      cases hy : valV kvs k with
      | none => rfl
      | some y' =>
        obtain ⟨w', hw, rw'⟩ := RelO.some_of (v := y') (o := valueAt vs k) (by rw [← hy]; exact rel.val k)
        rw [hv] at hw
        cases hw
    have he : ∃ q, h'.get? d = some q := let ⟨q, _, _, hq, _⟩ := dd'; ⟨q, hq⟩
    have hl : (putK kvs k y).length ≤ sizeLine := by have := length_putK kvs k y; lia
    exact ⟨y, _, d_write I (by rw [e]; exact True.intro) hs he (dk_new hl hd (rel.put k r2) dd'), r2, h2 hn⟩
def Itn (n : Nat) : It := ⟨fun i _ => i < n, fun i H v H' => H' = H ∧ v = .int ((n : Int) - 1 - i), fun i _ => n ≤ i⟩
theorem turn_down {P : Program} {w : World} {K : PySem.W.Frag} {tg : Expr} (it : Addr) (n : Nat) : Turn P w K tg (Itn n) [it] it (fun i h => IsRangeIter h it ((n : Int) - 1 + (i : Nat) * (-1)) ((n : Int) - (i : Nat)) (-1)) where
  mem := by simp
  obj := fun i h st b hb => by
    have e : b = it := by simpa using hb
    subst e
    exact ⟨_, st, fun v z => by
      have z' : Data.fields _ = Data.cell v := z
      cases z'⟩
  keep := fun i h h' st k => k it (by simp) _ st
  item := by
    intro X hP hw hK hc i pins s σ H E I hf st hg
    subst hP hw hK
    obtain ⟨f0, f1, f2, f3, f4, f5⟩ := hf it (by simp)
    have W := Walks.range (prog := X.prog) (w := X.w) (I.ok.hd hc) it ((n : Int) - 1) (-1) n
    refine W.item i s _ _ hg st fun v h' tk hv st' kk => ?_
    obtain ⟨t, rfl⟩ := hv
    have I1 : Inv X pins σ H { s with heap := h', toks := tk } := I.turned (fun b o hb e => kk b o (by simpa using hb) e) f0 f1 f3 f4 f5
    refine ⟨_, rfl, go_of (s := { s with heap := h', toks := tk }) (n := "range_iterator") st' rfl rfl (by decide) ⟨.int ((n : Int) - 1 - i), H, I1, ⟨t, ?_⟩, ⟨rfl, rfl⟩, st', fun b hb => (hf b hb).1⟩⟩
    rw [show (n : Int) - 1 + (i : Int) * (-1) = (n : Int) - 1 - i by lia]
  done := by
    intro X hP hw hK hc i pins s σ H E I hf st hg
    subst hP hw hK
    obtain ⟨f0, f1, f2, f3, f4, f5⟩ := hf it (by simp)
    exact wpAny_pyNext_range_end (I.ok.hd hc) st (by have : n ≤ i := hg; lia) fun h' eb => ⟨rfl, I.turned (t' := s.toks) (fun b o hb e => eb b o hb e) f0 f1 f3 f4 f5⟩
  self := fun _ _ _ _ _ st h => wpAny_pyIter_rangeiter st h
theorem size_down (n : Nat) : Builtin.Range.rangeSize ((n : Int) - 1) (-1) (-1) = (n : Int) := by
  unfold Builtin.Range.rangeSize
  rw [if_neg (by decide)]
  split
  · rw [show (n : Int) - 1 - -1 - 1 = (n : Int) - 1 by lia, show -(-1 : Int) = 1 by decide, Int.ediv_one]
    lia
  · lia
theorem small_down {n : Nat} (h : n ≤ 1000000) : Builtin.Range.small ((n : Int) - 1) (-1) (-1) = true := by
  have hfit : ∀ z : Int, -10 ≤ z → z ≤ 1000010 → Builtin.Range.rangeFitsLong z = true := fun z h1 h2 => by
    unfold Builtin.Range.rangeFitsLong
    simp only [Bool.and_eq_true, decide_eq_true_eq]
    lia
  unfold Builtin.Range.small
  rw [size_down]
  simp [hfit ((n : Int) - 1) (by lia) (by lia), hfit (n : Int) (by lia) (by lia), hfit (-1) (by lia) (by lia), hfit (-1 + (-1 + 1)) (by lia) (by lia), hfit (-1 - 1) (by lia) (by lia), hfit (-2) (by lia) (by lia), hfit (-1 + 1) (by lia) (by lia), hfit 0 (by lia) (by lia)]
def iDown (ta : TA) : TI := fun σ H R => ta σ H fun vs H1 => ∃ n : Nat, vs = [.int ((n : Int) - 1), .int (-1), .int (-1)] ∧ n ≤ 1000000 ∧ R (Itn n) H1
theorem qi_down {p pos : Pos} {t : TA} {tg a b c : Expr} (hg : Gl X "range") (hm : X.mg "range" = none) (ha : QA X [a, b, c] t) (hp : plainE a = true := by rfl) (hp2 : plainE b = true := by rfl) (hp3 : plainE c = true := by rfl) : QI X tg (.Call (.Name "range" p) [a, b, c] [] pos) (iDown t) := by
  refine ⟨fun pins s σ H R I h => ?_⟩
  refine Call_ (ld_blt I hg hm boot_range (PyProof.Rows.callWith_type1 (thn (ha.out pos pins s σ H _ I h) fun us s1 ⟨vs, H1, I1, r1, q1⟩ => ?_) (starEach_plain hp) (by rw [starEach_plain hp2, starEach_plain hp3]; rfl)))
  obtain ⟨n, e, hn, q⟩ := q1
  subst e
  cases r1 with
  | cons r rr =>
  cases rr with
  | cons r' rr =>
  cases rr with
  | cons r'' rr =>
  cases rr
  obtain ⟨t, rfl⟩ := r
  obtain ⟨t', rfl⟩ := r'
  obtain ⟨t'', rfl⟩ := r''
  refine call_range_3 (by decide) ?_ (Or.inl (PyProof.noPylong_small (by decide)))
  refine wpAny_pyIter_range (IsRange.new ..) (small_down hn) ?_
  have I2 : Inv X pins σ H1 { s1 with heap := s1.heap.push { cls := .type "range", data := .fields #[.int ((n : Int) - 1) t, .int (-1) t', .int (-1) t''] }, toks := s1.toks } := I1.kept fun b o e => Heap.get?_push_of_some _ e
  generalize s1.heap.push { cls := .type "range", data := .fields #[.int ((n : Int) - 1) t, .int (-1) t', .int (-1) t''] } = h9 at I2 ⊢
  refine ⟨h9.objs.size, [h9.objs.size], _, _, H1, rfl, I2.kept (t' := s1.toks) fun b o e => Heap.get?_push_of_some _ e, turn_down _ n, ?_, fun b hb => ?_, q⟩
  · show IsRangeIter _ _ ((n : Int) - 1 + ((0 : Nat) : Int) * (-1)) ((n : Int) - ((0 : Nat) : Int)) (-1)
    rw [size_down, show (n : Int) - 1 + ((0 : Nat) : Int) * (-1) = (n : Int) - 1 by lia, show (n : Int) - ((0 : Nat) : Int) = n by lia]
    exact Heap.get?_push_size _ rfl
  · have e : b = h9.objs.size := by simpa using hb
    subst e
    exact I2.fpOk (Nat.le_refl _) (I2.hok.fresh (Nat.le_refl _))
end
/-- for i in range(n - 1, -1, -1) -/
theorem for_down {n : Nat} {g : TG} {tb : TS} {D : Ends} {σ : St} {H : Hp} (Pv : Nat → St → Hp → Prop) (h0 : Pv 0 σ H)
    (hs : ∀ i σ H, i < n → Pv i σ H → g (.int ((n : Int) - 1 - i)) σ H fun σ2 H2 => tb { D with nx := Pv (i + 1), ct := Pv (i + 1), bk := D.nx } σ2 H2) (hd : ∀ σ H, Pv n σ H → D.nx σ H) :
    ∃ W : Nat → Nat → St → Hp → Prop, (∃ m, W 0 m σ H) ∧ ∀ i m σ H, W i m σ H →
      ((Itn n).stop i H ∧ D.nx σ H) ∨ ((Itn n).go i H ∧ ∃ N : St → Hp → Prop, (∀ σ' H', N σ' H' → ∃ m', m' < m ∧ W (i + 1) m' σ' H') ∧ ∀ x H', (Itn n).yld i H x H' → g x σ H' fun σ2 H2 => tb { D with nx := N, ct := N, bk := D.nx } σ2 H2) := by
  refine ⟨fun i m σ H => m = n - i ∧ i ≤ n ∧ Pv i σ H, ⟨n, by simp, Nat.zero_le _, h0⟩, fun i m σ H ⟨e, hi, p⟩ => ?_⟩
  rcases Nat.lt_or_ge i n with h | h
  · refine .inr ⟨h, fun σ H => Pv (i + 1) σ H, fun σ' H' q => ⟨n - (i + 1), by lia, rfl, h, q⟩, ?_⟩
    rintro x H' ⟨rfl, rfl⟩
    exact hs i σ _ h p
  · have : i = n := by lia
    subst this
    exact .inl ⟨Nat.le_refl _, hd _ _ p⟩
end L2
set_option Elab.async false
set_option linter.all false
set_option maxRecDepth 100000
set_option maxHeartbeats 3200000
namespace L2
open PySem PySem.Spec PyProof.Rows
section
variable {prog : Program} {w : World} {A : Around} {E : Value → Shared → Prop} {s : Shared}
end
section
variable {X : Cx}
end
end L2
set_option Elab.async false
set_option linter.all false
set_option maxRecDepth 100000
set_option maxHeartbeats 1000000
namespace L2
open PySem PySem.Spec PyProof.Rows PySem.Calls
open AutoSeq1 (wpAny_loadPart')
section
variable {X : Cx} {o e : Expr} {es : List Expr} {to : TE} {t : TA} {name : Str} {apos cpos : Pos} {id : String} {r : V → List V → Hp → VK → Prop}
end
section
variable {X : Cx}
end
end L2
set_option Elab.async false
set_option linter.all false
set_option maxRecDepth 100000
namespace L2
open PySem PySem.Spec PyProof.Rows
end L2
set_option Elab.async false
set_option linter.all false
set_option maxRecDepth 100000
set_option maxHeartbeats 3200000
namespace L2
open PySem PySem.Spec PyProof.Rows
end L2
set_option Elab.async false
set_option linter.all false
set_option maxRecDepth 100000
set_option maxHeartbeats 3200000
namespace L2
open PySem PySem.Spec PyProof.Rows
/-- name op= e -/
theorem qs_aug {X : Cx} {pos : Pos} {i : Nat} {x : Str} {e : Expr} {te : TE} {op : Operator} {ti : TIp} {pos' : Pos} (hN : X.N.Nodup) (hi : X.N[i]? = some x) (hx : Loc X.env.scope x) (he : QE X e te) (ho : PIp X op ti) (hf : X.fn x = true ∨ X.env.scope.names.lookup x = some .local := by first | exact .inl rfl | exact .inr rfl | assumption) : QS X (.AugAssign (.Name x pos') op e pos) (tAug i te ti) := ⟨ps_aug hN hi hx he.out ho hf⟩
end L2
set_option Elab.async false
set_option linter.all false
set_option maxRecDepth 100000
set_option maxHeartbeats 3200000
namespace L2
open PySem PySem.Spec PyProof.Rows PySem.Calls
theorem eqB_det {H : Hp} : ∀ (n : Nat) (x y : V) (b c : Bool), EqB H n x y b → EqB H n x y c → b = c
  | 0, x, y, b, c, h, g => by rw [h.2.2, g.2.2]
  | n + 1, x, y, b, c, h, g => by
    rcases h with ⟨_, _, rfl⟩ | ⟨a, d, xs, ys, e, rfl, rfl, ha, hd, rfl, he⟩
    · rcases g with ⟨_, _, rfl⟩ | ⟨a, d, xs, ys, e, rfl, rfl, ha, hd, rfl, he⟩
      · rfl
      · rename_i f _; cases f
    · rcases g with ⟨f, _, _⟩ | ⟨a', d', xs', ys', e', e1, e2, ha', hd', rfl, he'⟩
      · cases f
      · cases e1
        cases e2
        rw [ha] at ha'
        cases ha'
        rw [hd] at hd'
        cases hd'
        congr 1
        rw [Bool.eq_iff_iff, List.all_eq_true, List.all_eq_true]
        have hj : ∀ j ∈ List.range (min xs.length ys.length), e j = e' j := fun j hj => by
          have hj := List.mem_range.mp hj
          exact eqB_det n _ _ _ _ (he j _ _ (List.getElem?_eq_getElem (by lia)) (List.getElem?_eq_getElem (by lia))) (he' j _ _ (List.getElem?_eq_getElem (by lia)) (List.getElem?_eq_getElem (by lia)))
        exact ⟨fun h j m => (hj j m).symm.trans (h j m), fun h j m => (hj j m).trans (h j m)⟩
theorem rel_of {xs : List V} {its : List Value} (r : Vals xs its) {i : Nat} {w : Value} (h : its[i]? = some w) : ∃ x, xs[i]? = some x ∧ RelV x w := by
  have hi : i < xs.length := by rw [r.length]; exact (List.getElem?_eq_some_iff.mp h).1
  obtain ⟨u, e1, q1⟩ := r.get (List.getElem?_eq_getElem hi)
  rw [h] at e1
  cases e1
  exact ⟨_, List.getElem?_eq_getElem hi, q1⟩
section
variable {X : Cx}
open Classical in
/-- the items' answers, by the values -/
noncomputable def eW (its : List Value) (e : Nat → Bool) (w : Value) : Bool := decide (∃ i, its[i]? = some w ∧ e i = true)
open Classical in
theorem eW_iff {its : List Value} {e : Nat → Bool} {w : Value} : eW its e w = true ↔ ∃ i, its[i]? = some w ∧ e i = true := decide_eq_true_iff
theorem eW_at {pins : List (Addr × Obj)} {σ : St} {H : Hp} {s : Shared} {A : Around} (I : Inv X pins σ H s) {xs : List V} {its : List Value} {e : Nat → Bool} {x : V} {v : Value} (r : Vals xs its) (rx : RelV x v) (he : ∀ (j : Nat) (u : V), xs[j]? = some u → EqB H 3 u x (e j)) (hu : A.units + 3 < cLine) :
    ∀ w ∈ its, SeqAt.EqAt A s w v (eW its e w) := fun w hw => by
  have one : ∀ i, its[i]? = some w → SeqAt.EqAt A s w v (e i) := fun i hi => by
    obtain ⟨u, hu', ru⟩ := rel_of r hi
    exact eqAt_B I 3 A _ _ _ _ _ ru rx (he i u hu') hu
  obtain ⟨i, hi⟩ := List.getElem?_of_mem hw
  by_cases h : ∃ i, its[i]? = some w ∧ e i = true
  · have e1 : eW its e w = true := eW_iff.mpr h
    obtain ⟨j, h1, h2⟩ := h
    have := one j h1
    rw [h2] at this
    rw [e1]
    exact this
  · have e1 : eW its e w = false := Bool.eq_false_iff.mpr fun z => h (eW_iff.mp z)
    have h2 : e i = false := by
      cases q : e i with
      | false => rfl
      | true => exact absurd ⟨i, hi, q⟩ h
    have := one i hi
    rw [h2] at this
    rw [e1]
    exact this
theorem eW_any {xs : List V} {its : List Value} {e : Nat → Bool} (r : Vals xs its) : its.toArray.any (eW its e) = (List.range xs.length).any e := by
  rw [show its.toArray.any (eW its e) = its.any (eW its e) by simp, Bool.eq_iff_iff, List.any_eq_true, List.any_eq_true]
  constructor
  · rintro ⟨w, _, h⟩
    obtain ⟨i, h1, h2⟩ := eW_iff.mp h
    exact ⟨i, List.mem_range.mpr (by rw [r.length]; exact (List.getElem?_eq_some_iff.mp h1).1), h2⟩
  · rintro ⟨i, hi, h⟩
    have hi : i < its.length := by rw [← r.length]; exact List.mem_range.mp hi
    exact ⟨its[i], List.getElem_mem hi, eW_iff.mpr ⟨i, List.getElem?_eq_getElem hi, h⟩⟩
def rInB (K : PySem.W.Frag) (neg : Bool) : R2 := fun x y H Q => ∃ (p : Addr) (xs : List V) (e : Nat → Bool), y = .ref p ∧ SqL K H p xs ∧ (∀ (j : Nat) (u : V), xs[j]? = some u → EqB H 3 u x (e j)) ∧ Q (.bl (if neg then !(List.range xs.length).any e else (List.range xs.length).any e)) H
theorem op_notInB (hu : X.A.units + 4 < cLine) : OpR X (compareOp .NotIn) (rInB X.K true) := by
  intro pins s σ H x y v u Q I rx ry h
  obtain ⟨p, xs, e, rfl, hq, he, q⟩ := h
  cases ry
  obtain ⟨its, r, pl, hz⟩ := I.list hq
  refine SeqAt.notIn_listAt (eW its e) pl.isList (fun w hw => eW_at I r rx he (by show X.A.units + 1 + 3 < _; lia) w (by simpa using hw)) ⟨.bl _, H, I, rfl, ?_⟩
  rw [eW_any r]
  exact q
/-- xs.index(x), x first met at j -/
def rLIndexB : V → List V → Hp → VK → Prop := fun x vs H Q => ∃ (l : Addr) (xs : List V) (y : V) (e : Nat → Bool) (j : Nat), x = .ref l ∧ vs = [y] ∧ H l = some (.lst xs) ∧ xs.length ≤ 1000000 ∧ j < xs.length ∧ (∀ (i : Nat) (u : V), xs[i]? = some u → EqB H 3 u y (e i)) ∧ e j = true ∧ (∀ i, i < j → e i = false) ∧ Q (.int (j : Int)) H
theorem mt_lindexB (hu : X.A.units + 4 < cLine) : MtM X "list.index" rLIndexB := by
  intro pins s σ H x vs v us Q I rx rv h
  obtain ⟨l, xs, y, e, j, rfl, rfl, hH, hlen, hjl, he, hit, hno, q⟩ := h
  cases rx
  obtain ⟨u, rfl, ru⟩ := rv.one
  obtain ⟨_, its, n, r, hl, ee⟩ := I.lstM hH
  have hj2 : j < its.toArray.size := by rw [List.size_toArray, ← hl]; exact hjl
  have at_ : ∀ (i : Nat) (hi : i < its.toArray.size), eW its e its.toArray[i] = e i := fun i hi => by
    have hi' : i < its.length := by simpa using hi
    have e0 : its.toArray[i] = its[i] := by simp
    rw [e0]
    cases q : e i with
    | true => exact eW_iff.mpr ⟨i, List.getElem?_eq_getElem hi', q⟩
    | false =>
      refine Bool.eq_false_iff.mpr fun z => ?_
      obtain ⟨k, h1, h2⟩ := eW_iff.mp z
      obtain ⟨x1, g1, r1⟩ := rel_of r h1
      obtain ⟨x2, g2, r2⟩ := rel_of r (List.getElem?_eq_getElem hi')
      have ea := r1.inj r2
      subst ea
      have := eqB_det 3 _ _ _ _ (he k _ g1) (he i _ g2)
      rw [h2, q] at this
      cases this
  refine call_meets PySem.F.slot_list_index ⟨_, ee, rfl⟩ PySem.F.entry_list_index (PySem.F.args_list_index_2 _ _) (SeqAt.list_indexAt l its.toArray n none #[] u (eW its e) j hj2 (by lia) ((at_ j hj2).trans hit) (fun m hm hlt => (at_ m hm).trans (hno m hlt))) ⟨ee, fun w hw => eW_at I r ru he ?_ w (by simpa using hw), ⟨.int (j : Int), H, I.tok _, ⟨_, rfl⟩, q⟩⟩
  show X.A.units + 1 + 3 < _
  lia
theorem noI_tuple_add : typeLookup (.type "tuple") (dunderI "add") = pure none := by rw [typeLookup_type, builtinLookup_eq_fast]; kernel_rfl
/-- t += u -/
theorem ip_catG : PIp X .Add rCatG := by
  intro pins s σ H x y v u Q I rx ry h
  obtain ⟨a, b, xs, ys, rfl, rfl, ha, hb, hz, q⟩ := h
  cases rx
  cases ry
  obtain ⟨its, r1, p1, _⟩ := I.tuple (SqT.of ha : SqT X.K H a xs)
  obtain ⟨its2, r2, p2, _⟩ := I.tuple (SqT.of hb : SqT X.K H b ys)
  obtain ⟨⟨cls, dd, data, sl⟩, ho, hc, n, hd⟩ := id p1
  obtain ⟨⟨cls2, dd2, data2, sl2⟩, ho2, hc2, n2, hd2⟩ := id p2
  simp only at hc hd hc2 hd2
  subst hc hd hc2 hd2
  have e : its.toArray ++ its2.toArray = (its ++ its2).toArray := by simp
  refine wpAny_inplaceOp_concat ⟨_, ho, rfl⟩ ⟨_, ho2, rfl⟩ noI_tuple_add noFill_tuple_add seq_tuple_add ?_
  by_cases hx : xs = []
  · have e := r1.nil_iff.mpr hx
    subst e hx
    exact call_meets PySem.F.slot_tuple_add ⟨_, ho, rfl⟩ PySem.F.entry_tuple_add (PySem.F.args_tuple_add_2 _ _) (tuple_addW0 a b #[] its2.toArray n n2 dd dd2 sl sl2 rfl) ⟨ho, ho2, ⟨.ref b, H, I, rfl, q b H hb fun _ _ z => z⟩⟩
  · by_cases hy : ys = []
    · have e2 := r2.nil_iff.mpr hy
      subst e2 hy
      exact call_meets PySem.F.slot_tuple_add ⟨_, ho, rfl⟩ PySem.F.entry_tuple_add (PySem.F.args_tuple_add_2 _ _) (tuple_addW1 a b its.toArray _ n n2 dd dd2 sl sl2 (by simpa using fun z => hx (r1.nil_iff.mp z)) (by simp)) ⟨ho, ho2, ⟨.ref a, H, I, rfl, q a H (by rw [List.append_nil]; exact ha) fun _ _ z => z⟩⟩
    · refine call_meets PySem.F.slot_tuple_add ⟨_, ho, rfl⟩ PySem.F.entry_tuple_add (PySem.F.args_tuple_add_2 _ _) (tuple_addW2 a b its.toArray its2.toArray n n2 dd dd2 sl sl2 (by simpa using fun z => hx (r1.nil_iff.mp z)) (by simpa using fun z => hy (r2.nil_iff.mp z)) (by rw [List.size_toArray, List.size_toArray, ← r1.length, ← r2.length]; exact hz)) ⟨ho, ho2, ?_⟩
      rw [e]
      have hn := I.hok.fresh (Nat.le_refl _)
      refine ⟨.ref s.heap.objs.size, _, I.laid (t' := s.toks) (o := .tup (xs ++ ys)) (fun b ob q => Heap.get?_push_of_some _ q) (Nat.le_refl _) ⟨by rw [List.length_append]; exact hz, _, r1.append r2, TupN.new _ _⟩, rfl, q _ _ upd_same fun b o eb => ?_⟩
      rw [upd_ne (ne_of_none eb hn)]
      exact eb
/-- xs != ys, lists of tuples -/
def rNeLB : R2 := fun x y H Q => ∃ (a c : Addr) (xs ys : List V) (e : Nat → Bool), x = .ref a ∧ y = .ref c ∧ H a = some (.lst xs) ∧ H c = some (.lst ys) ∧ (xs.length = ys.length → ∀ (j : Nat) (u v : V), xs[j]? = some u → ys[j]? = some v → EqB H 3 u v (e j)) ∧ Q (.bl (!((List.range xs.length).all e && xs.length == ys.length))) H
theorem op_neLB (hu : X.A.units + 4 < cLine) : OpR X (compareOp .NotEq) rNeLB := by
  intro pins s σ H x y v u Q I rx ry h
  obtain ⟨a, c, xs, ys, e, rfl, rfl, ha, hc, he, q⟩ := h
  cases rx
  cases ry
  obtain ⟨its, r, p, _⟩ := I.list (SqL.of ha : SqL X.K H a xs)
  obtain ⟨its2, r2, p2, _⟩ := I.list (SqL.of hc : SqL X.K H c ys)
  by_cases hl : xs.length = ys.length
  · have hs : its.toArray.size = its2.toArray.size := by rw [List.size_toArray, List.size_toArray, ← r.length, ← r2.length]; exact hl
    refine SeqAt.RcNeAt.lists (e := e) p.isList p2.isList hs (by lia) (fun j h1 h2 => ?_) X.prog X.w _ _ (fin_bl I q ?_)
    · obtain ⟨w1, g1, q1⟩ := itm_at r h1
      obtain ⟨w2, g2, q2⟩ := itm_at r2 h2
      exact eqAt_B I 3 _ _ _ _ _ _ q1 q2 (he hl j _ _ g1 g2) (by show X.A.units + 1 + 3 < _; lia)
    · rw [List.size_toArray, ← r.length, hl, beq_self_eq_true, Bool.and_true]
  · have hs : (its.toArray.size != its2.toArray.size) = true := by
      rw [List.size_toArray, List.size_toArray, ← r.length, ← r2.length]
      simpa using hl
    refine SeqAt.RcNeAt.lists_lengths p.isList p2.isList hs (by lia) X.prog X.w _ _ (fin_bl I q ?_)
    rw [beq_false_of_ne hl, Bool.and_false]
    rfl
/-- a sign, so often -/
theorem op_mulS : OpR X (binaryOp .Mult) (fun x y H Q => ∃ (c : Nat) (n : Int), x = .str ⟨#[c]⟩ ∧ y = .int n ∧ 0 ≤ n ∧ n ≤ 1000 ∧ ∀ z : Str, z.cps.toList = List.replicate n.toNat c → Q (.str z) H) := by
  intro pins s σ H x y v u Q I rx ry h
  obtain ⟨c, n, rfl, rfl, h0, h1, q⟩ := h
  obtain ⟨t, rfl⟩ := rx
  obtain ⟨t', rfl⟩ := ry
  refine SB.mul ⟨?_, fun h _ => ?_, fun _ _ => ?_⟩ fun t' tk => ⟨.str _, H, I.tok _, ⟨_, rfl⟩, q _ (mul_one_list c n)⟩
  · rw [decide_eq_false (by lia), decide_eq_false (by lia)]
    rfl
  · show ¬ ((1 : Int) > (2 ^ 63 - 1) / n)
    have : (1 : Int) ≤ (2 ^ 63 - 1) / n := Int.le_ediv_of_mul_le (by lia) (by lia)
    lia
  · show Builtin.Str.tooLong (1 * n.toNat) = false
    unfold Builtin.Str.tooLong
    exact decide_eq_false (by have := small1000 (n := 1 * n.toNat) (by lia); lia)
end
end L2
set_option Elab.async false
set_option linter.all false
set_option maxRecDepth 100000
namespace L2
open PySem PySem.Spec PyProof.Rows
section
variable {X : Cx} {pos : Pos}
def gLst (K : PySem.W.Frag) (n : Nat) (t : TGs) : TG := fun v σ H Q => ∃ a xs, v = .ref a ∧ SqL K H a xs ∧ xs.length = n ∧ t xs σ H Q
theorem pg_lst {es : List Expr} {k : Nat} {t : TGs} {n : Nat} (hc : X.calm = true) (h : PGs X es t)
    (hn : (assignEach es X.env).length = n := by rfl) (hst : (assignEach es X.env).findIdx? (·.1) = none := by rfl) : PG X (.Tuple es k pos) (gLst X.K n t) := by
  intro pins s σ H v u Q I r hw
  obtain ⟨a, xs, e1, hq, hl, hw⟩ := hw
  subst e1
  cases r
  obtain ⟨its, rv, pl, hz⟩ := I.list hq
  have e : (assignEach es X.env).length = its.toArray.size := by simp [hn, ← hl, rv.length]
  rw [assign_Tuple]
  refine wpAny_bind (wpAny_standAt ?_)
  unfold unpack
  rw [e, hst]
  refine wpAny_bind (wpAny_holding (PySem.W.kun_itemsOf (I.ok.hd hc) pl.isList fun h' hx => ?_))
  have I1 : Inv X pins σ H { s with heap := h' } := I.kept (t' := s.toks) fun b o e => hx b o (Nat.ne_of_lt (Heap.lt_size e)) e
  exact h pins _ σ H xs _ Q I1 (by simpa using rv) hw
end
def rEqLB : R2 := fun x y H Q => ∃ (a c : Addr) (xs ys : List V) (e : Nat → Bool), x = .ref a ∧ y = .ref c ∧ H a = some (.lst xs) ∧ H c = some (.lst ys) ∧ (xs.length = ys.length → ∀ (j : Nat) (u v : V), xs[j]? = some u → ys[j]? = some v → EqB H 3 u v (e j)) ∧ Q (.bl ((List.range ys.length).all e && (xs.length == ys.length))) H
theorem op_eqLB {X : Cx} (hu : X.A.units + 4 < cLine) : OpR X (compareOp .Eq) rEqLB := by
  intro pins s σ H x y v u Q I rx ry h
  obtain ⟨a, c, xs, ys, e, rfl, rfl, ha, hc, he, q⟩ := h
  cases rx
  cases ry
  obtain ⟨its, r, p, _⟩ := I.list (SqL.of ha : SqL X.K H a xs)
  obtain ⟨its2, r2, p2, _⟩ := I.list (SqL.of hc : SqL X.K H c ys)
  by_cases hl : xs.length = ys.length
  · have hs : its.toArray.size = its2.toArray.size := by rw [List.size_toArray, List.size_toArray, ← r.length, ← r2.length]; exact hl
    refine SeqAt.RcAt.lists (e := e) p.isList p2.isList hs (by lia) (fun j h1 h2 => ?_) X.prog X.w _ _ (fin_bl I q ?_)
    · obtain ⟨w1, g1, q1⟩ := itm_at r h1
      obtain ⟨w2, g2, q2⟩ := itm_at r2 h2
      exact eqAt_B I 3 _ _ _ _ _ _ q1 q2 (he hl j _ _ g1 g2) (by show X.A.units + 1 + 3 < _; lia)
    · rw [List.size_toArray, ← r.length, hl, beq_self_eq_true, Bool.and_true]
  · have hs : (its.toArray.size != its2.toArray.size) = true := by
      rw [List.size_toArray, List.size_toArray, ← r.length, ← r2.length]
      simpa using hl
    refine SeqAt.RcAt.lists_lengths p.isList p2.isList hs (by lia) X.prog X.w _ _ (fin_bl I q ?_)
    rw [beq_false_of_ne hl, Bool.and_false]
theorem qg_pairL {X : Cx} {x y : Str} {p1 p2 pos : Pos} {k : Nat} {t1 t2 : TG} (hc : X.calm = true) (h1 : QG X (.Name x p1) t1) (h2 : QG X (.Name y p2) t2) : QG X (.Tuple [.Name x p1, .Name y p2] k pos) (gLst X.K 2 (gCons t1 (gCons t2 gNil))) :=
  ⟨pg_lst hc (pgs_cons h1.out (pgs_cons h2.out pgs_nil))⟩
/-- a, b, c = .. of a tuple of three -/
theorem qg_tri {X : Cx} {x y z : Str} {p1 p2 p3 pos : Pos} {k : Nat} {t1 t2 t3 : TG} (hc : X.calm = true) (h1 : QG X (.Name x p1) t1) (h2 : QG X (.Name y p2) t2) (h3 : QG X (.Name z p3) t3) : QG X (.Tuple [.Name x p1, .Name y p2, .Name z p3] k pos) (gTup X.K 3 (gCons t1 (gCons t2 (gCons t3 gNil)))) :=
  ⟨pg_tup hc (pgs_cons h1.out (pgs_cons h2.out (pgs_cons h3.out pgs_nil)))⟩
theorem comp3_list {K : PySem.W.Frag} {a : Addr} {xs : List V} {is : List Nat} {tc : TT} {te : TE} {σ : St} {H : Hp} {Q : VK} (Pv : Nat → List V → Hp → Prop) (h0 : Pv 0 [] H) (hl : ∀ i zs H, Pv i zs H → zs.length ≤ sizeLine) (hq : ∀ i zs H, Pv i zs H → SqL K H a xs)
    (hs : ∀ i x zs H (R : List V → Hp → Prop), (∀ zs H, Pv (i + 1) zs H → R zs H) → xs[i]? = some x → Pv i zs H → ∃ a v1 v2 v3, x = .ref a ∧ SqT K H a [v1, v2, v3] ∧ tc (sel3 is σ (some v1) (some v2) (some v3)) H fun b H2 => if b = true then te (sel3 is σ (some v1) (some v2) (some v3)) H2 fun y H3 => R (zs ++ [y]) H3 else R zs H2)
    (hd : ∀ zs H, Pv xs.length zs H → ∀ p, H p = none → Q (.ref p) (upd H p (.lst zs))) :
    CompW3 K is tc te σ Q (Itl K a) H := by
  refine ⟨fun i m zs H => m = xs.length - i ∧ i ≤ xs.length ∧ Pv i zs H, ⟨xs.length, by simp, Nat.zero_le _, h0⟩, ?_⟩
  rintro i m zs H ⟨rfl, hi, p⟩
  have q := hq i zs H p
  by_cases hlt : i < xs.length
  · refine .inr ⟨⟨xs, xs[i], q, by simp [hlt]⟩, hl i zs H p, fun x H' y => ?_⟩
    obtain ⟨e, y⟩ := y
    subst e
    exact hs i x zs _ (fun zs H => ∃ m', m' < xs.length - i ∧ (fun i m zs H => m = xs.length - i ∧ i ≤ xs.length ∧ Pv i zs H) (i + 1) m' zs H) (fun zs H p' => ⟨xs.length - (i + 1), by lia, rfl, hlt, p'⟩) (y xs q) p
  · have e : i = xs.length := by lia
    subst e
    exact .inl ⟨⟨xs, q, Nat.le_refl _⟩, hl _ zs H p, hd zs H p⟩
end L2
set_option Elab.async false
set_option linter.all false
set_option maxRecDepth 100000
set_option maxHeartbeats 4000000
namespace Lw
open PySem L2
def top (i : Nat) : Stmt := PySem.Challenge.pw_everywidth_k36_steps_told.main.body.getD i (.Pass ⟨0, 0, 0, 0⟩)
abbrev s_is_sum_word : Stmt := top 9
abbrev s_is_claim_word : Stmt := top 10
abbrev s_sums_behind : Stmt := top 11
abbrev s_claims_behind : Stmt := top 12
abbrev s_is_made_of : Stmt := top 14
abbrev s_law_draw : Stmt := top 28
abbrev s_law_arity : Stmt := top 30
abbrev s_law_carries : Stmt := top 34
abbrev s_law_joined : Stmt := top 37
abbrev s_parts_of : Stmt := top 13
abbrev s_is_name : Stmt := top 15
abbrev s_law_word : Stmt := top 29
abbrev s_law_parts : Stmt := top 36
abbrev s_part_end : Stmt := top 17
abbrev s_paths_of : Stmt := top 18
abbrev s_is_part_name : Stmt := top 26
abbrev s_law_leaf : Stmt := top 31
abbrev s_law_turned_two : Stmt := top 38
abbrev s_law_turned_one : Stmt := top 39
abbrev s_parts_bound : Stmt := top 24
abbrev s_filled : Stmt := top 25
abbrev s_law_turned : Stmt := top 40
abbrev s_stepped_once : Stmt := top 22
abbrev s_steps : Stmt := top 23
abbrev s_led : Stmt := top 21
abbrev s_law_two : Stmt := top 32
abbrev s_law_sum : Stmt := top 33
abbrev s_law_fit : Stmt := top 35
abbrev s_law_paths : Stmt := top 41
abbrev s_law_put : Stmt := top 42
abbrev s_law_steps : Stmt := top 43
abbrev s_law : Stmt := top 44
theorem same_upd {H : Hp} {p : Addr} {o : HO} (h : H p = none) : Same H (upd H p o) := fun b u e => by rw [upd_ne (ne_of_none e h)]; exact e
theorem nx_join {t u : TS} {D : Ends} {r : VK} {b c : St → Hp → Prop} {σ : St} {H : Hp} (J : St → Hp → Prop) (h1 : ∀ N : St → Hp → Prop, (∀ σ H, J σ H → N σ H) → t { D with nx := N } σ H) (h2 : ∀ σ H, J σ H → u D σ H) : ({ nx := tSeq t u D, rt := r, bk := b, ct := c } : Ends).nx σ H := h1 _ h2
theorem gName_go {i : Nat} {v : V} {σ : St} {H : Hp} {Q : St → Hp → Prop} (h : Q (σ.set i (some v)) H) : gName i v σ H Q := h
theorem same_put {H H2 : Hp} {p : Addr} {o : HO} (s : Same H H2) (hp : H p = none) : Same H (upd H2 p o) := fun b u e => by
  rw [upd_ne (ne_of_none e hp)]
  exact s b u e
theorem atI_str {z : Str} {i : Int} (n : Nat) (hn : z.cps.toList.length = n) (h0 : 0 ≤ i) (h1 : i < (n : Int)) : ∃ c, c ∈ z.cps.toList ∧ atI z.cps.toList i = some c := by
  obtain ⟨j, rfl⟩ : ∃ j : Nat, i = (j : Int) := ⟨i.toNat, by lia⟩
  have hj : j < z.cps.toList.length := by lia
  exact ⟨z.cps.toList[j], List.getElem_mem hj, atI_nat (List.getElem?_eq_getElem hj)⟩
/-- a function on ints, as one on values -/
def fI (g : Int → V) : V → V
  | .int x => g x
  | v => v
theorem app_signs (a b : Str) : (a ++ b).cps.toList = a.cps.toList ++ b.cps.toList := by
  rw [PySem.Str.cps_append, Array.toList_append]
theorem len_signs (a : Str) : a.length = a.cps.toList.length := by
  unfold Str.length
  rw [Array.length_toList]
def lowS : Str := "abcdefghijklmnopqrstuvwxyz"
def Low (c : Nat) : Prop := c ∈ lowS.cps.toList
instance (c : Nat) : Decidable (Low c) := inferInstanceAs (Decidable (c ∈ _))
def keptS : List Str := ["not", "neg", "twice", "low", "and", "or", "odd", "add", "sub", "pick", "same", "under", "beneath", "sign", "nought", "both", "either", "so", "never", "yes"]
/-- one to eight letters -/
def NmL (y : Str) : Prop := (1 ≤ y.length ∧ y.length ≤ 8) ∧ ∀ c ∈ y.cps.toList, Low c
instance (y : Str) : Decidable (NmL y) := inferInstanceAs (Decidable (_ ∧ _))
structure NmS (y : Str) : Prop where
  l : NmL y
  k : y ∉ keptS
theorem low_len : lowS.cps.toList.length = 26 := by decide +kernel
theorem low_size : lowS.length ≤ sizeLine := by decide +kernel
theorem low_at {i : Int} (h0 : 0 ≤ i) (h1 : i < 26) : ∃ c, Low c ∧ atI lowS.cps.toList i = some c := by
  obtain ⟨c, hc, e⟩ := atI_str (z := lowS) (i := i) 26 low_len h0 h1
  exact ⟨c, hc, e⟩
theorem one_len (c : Nat) : (⟨#[c]⟩ : Str).length = 1 := rfl
theorem inV_strs (y : Str) : ∀ ys : List Str, inV (.str y) (ys.map V.str) = decide (y ∈ ys)
  | [] => rfl
  | z :: r => by
    have e : inV (.str y) ((z :: r).map V.str) = ((z == y) || inV (.str y) (r.map V.str)) := rfl
    rw [e, inV_strs y r]
    by_cases h : z = y
    · rw [h, beq_self_eq_true, Bool.true_or]
      exact (decide_eq_true List.mem_cons_self).symm
    · rw [beq_eq_false_iff_ne.mpr h, Bool.false_or]
      by_cases m : y ∈ r
      · rw [decide_eq_true m, decide_eq_true (List.mem_cons_of_mem _ m)]
      · rw [decide_eq_false m, decide_eq_false (fun z => (List.mem_cons.mp z).elim (fun q => h q.symm) m)]
/-- while, the word told of each turn -/
theorem while_w {c : TT} {tb : TS} {D : Ends} {σ : St} {H : Hp} (Pv : St → Hp → Prop) (μ : St → Hp → Nat) (h0 : Pv σ H)
    (hs : ∀ σ H, Pv σ H → c σ H fun b H1 => if b = true then ∃ N : St → Hp → Prop, (∀ σ' H', N σ' H' → ∃ m', m' < μ σ H ∧ m' = μ σ' H' ∧ Pv σ' H') ∧ tb { D with nx := N, ct := N, bk := D.nx } σ H1 else D.nx σ H1) : tWhile c tb D σ H := by
  refine ⟨fun m σ H => m = μ σ H ∧ Pv σ H, ⟨_, rfl, h0⟩, ?_⟩
  rintro m σ H ⟨rfl, p⟩
  exact hs σ H p
/-- a leaf: a name, or a number below 1000 -/
def LeafOk (ys : List Str) (v : V) : Prop := (∃ y ∈ ys, v = .str y) ∨ ∃ z : Int, v = .int z ∧ 0 ≤ z ∧ z < 1000
def sumT : List (Str × Nat) := [("not", 1), ("neg", 1), ("twice", 1), ("low", 1), ("and", 2), ("or", 2), ("odd", 2), ("add", 2), ("sub", 2), ("pick", 3)]
def sumW : List Str := sumT.map (·.1)
def partsS (y : Str) : Nat := ((sumT.find? fun p => decide (p.1 = y)).map (·.2)).getD 0
def partsV : V → Nat
  | .str y => partsS y
  | _ => 0
def WordOk (ys : List Str) (v : V) : Prop := (∃ y, v = .str y ∧ y ∈ sumW) ∨ LeafOk ys v
theorem sum_kept : ∀ y ∈ sumW, y ∈ keptS := by decide +kernel
theorem parts_name {y : Str} (h : y ∉ keptS) : partsS y = 0 := by
  unfold partsS
  have e : sumT.find? (fun p => decide (p.1 = y)) = none := by
    rw [List.find?_eq_none]
    intro p hp hq
    exact h (sum_kept y (by rw [← of_decide_eq_true hq]; exact List.mem_map_of_mem hp))
  rw [e]
  rfl
def T1 : List (Str × Int) := [("not", 1), ("neg", 1), ("twice", 1), ("low", 1), ("and", 2), ("or", 2), ("odd", 2), ("add", 2), ("sub", 2), ("pick", 3)]
def T2 : List (Str × Int) := [("same", 2), ("under", 2), ("beneath", 2), ("sign", 1), ("nought", 1)]
def T3 : List (Str × Int) := [("both", 2), ("either", 2), ("so", 2), ("never", 1), ("yes", 0)]
def claimW : List Str := ["same", "under", "beneath", "sign", "nought", "both", "either", "so", "never", "yes"]
theorem kv_has (l : List (Str × Int)) (y : Str) : (valV (kvsOf l) (.inr y)).isSome = decide (y ∈ l.map (·.1)) := by
  induction l with
  | nil => rfl
  | cons p r ih =>
    by_cases h : p.1 = y
    · have e : valV (kvsOf (p :: r)) (.inr y) = some (.int p.2) := valV_pos (p := ((Sum.inr p.1 : Key), V.int p.2)) (by rw [h])
      rw [e, List.map_cons, decide_eq_true (by rw [h]; exact List.mem_cons_self)]
      rfl
    · have e : valV (kvsOf (p :: r)) (.inr y) = valV (kvsOf r) (.inr y) := valV_neg (p := ((Sum.inr p.1 : Key), V.int p.2)) (fun z => h (Sum.inr.inj z))
      rw [e, ih, List.map_cons]
      by_cases m : y ∈ r.map (·.1)
      · rw [decide_eq_true m, decide_eq_true (List.mem_cons_of_mem _ m)]
      · rw [decide_eq_false m, decide_eq_false (fun z => (List.mem_cons.mp z).elim (fun q => h q.symm) m)]
/-- what D.get(word, 0) tells -/
def getN : List (Str × Int) → Key → Int
  | [], _ => 0
  | p :: r, k => if (Sum.inr p.1 : Key) = k then p.2 else getN r k
theorem kget (l : List (Str × Int)) (k : Key) : (valV (kvsOf l) k).getD (.int 0) = .int (getN l k) := by
  induction l with
  | nil => rfl
  | cons p r ih =>
    unfold getN
    by_cases h : (Sum.inr p.1 : Key) = k
    · have e : valV (kvsOf (p :: r)) k = some (.int p.2) := valV_pos (p := ((Sum.inr p.1 : Key), V.int p.2)) h
      rw [e, if_pos h]
      rfl
    · have e : valV (kvsOf (p :: r)) k = valV (kvsOf r) k := valV_neg (p := ((Sum.inr p.1 : Key), V.int p.2)) h
      rw [e, ih, if_neg h]
theorem getN_int (l : List (Str × Int)) (i : Int) : getN l (.inl i) = 0 := by
  induction l with
  | nil => rfl
  | cons p r ih =>
    unfold getN
    rw [if_neg (fun z => nomatch z), ih]
theorem getN_none {l : List (Str × Int)} {y : Str} (h : y ∉ l.map (·.1)) : getN l (.inr y) = 0 := by
  induction l with
  | nil => rfl
  | cons p r ih =>
    unfold getN
    rw [List.map_cons] at h
    rw [if_neg (fun z => h (by rw [← Sum.inr.inj z]; exact List.mem_cons_self)), ih (fun z => h (List.mem_cons_of_mem _ z))]
def allParts (k : Key) : Int := getN T1 k + getN T2 k + getN T3 k
theorem tw1 : T1.map (·.1) = sumW := by decide +kernel
theorem kept_of : ∀ y, y ∈ keptS ↔ y ∈ sumW ∨ y ∈ claimW := by
  intro y
  have e : keptS = sumW ++ claimW := by decide +kernel
  rw [e, List.mem_append]
theorem tab_kept : (∀ y ∈ T1.map (·.1), y ∈ keptS) ∧ (∀ y ∈ T2.map (·.1), y ∈ keptS) ∧ ∀ y ∈ T3.map (·.1), y ∈ keptS := by decide +kernel
def keyOf : V → Key
  | .int i => .inl i
  | .str y => .inr y
  | _ => .inl 0
/-- a sign in a text -/
theorem occ_mem (x : Str) (c : Nat) : (!(Builtin.Str.occurrences x ⟨#[c]⟩ 0 x.length 1).isEmpty) = decide (c ∈ x.cps.toList) := by
  have h := PyProof.Rows.in_closes (x := x) (c := c) rfl rfl
  rw [beq_iff_eq] at h
  rw [h]
  by_cases m : c ∈ x.cps.toList
  · rw [decide_eq_true m, decide_eq_true ((PyProof.Rows.countIn_signs c _).mpr m)]
  · rw [decide_eq_false m, decide_eq_false (fun z => m ((PyProof.Rows.countIn_signs c _).mp z))]
def MadeOf (y sg : Str) : Prop := y.cps.toList ≠ [] ∧ ∀ c ∈ y.cps.toList, c ∈ sg.cps.toList
instance (y sg : Str) : Decidable (MadeOf y sg) := inferInstanceAs (Decidable (_ ∧ _))
theorem all_bs (l : List Nat) (p : Nat → Bool) : (l.map p).all id = decide (∀ c ∈ l, p c = true) := by
  rw [Bool.eq_iff_iff, List.all_eq_true, decide_eq_true_iff]
  constructor
  · intro h c hc
    exact h _ (List.mem_map_of_mem hc)
  · intro h b hb
    obtain ⟨c, hc, rfl⟩ := List.mem_map.mp hb
    exact h c hc
theorem nil_signs {y : Str} : y.cps.toList = [] ↔ y = ("" : Str) := by
  constructor
  · intro h
    obtain ⟨a⟩ := y
    have : a = #[] := by
      apply Array.toList_inj.mp
      simpa using h
    subst this
    decide +kernel
  · rintro rfl
    decide +kernel
theorem str_ext {a b : Str} (h : a.cps.toList = b.cps.toList) : a = b := by
  obtain ⟨x⟩ := a
  obtain ⟨y⟩ := b
  have : x = y := Array.toList_inj.mp h
  rw [this]
def nmB : V → Bool
  | .str y => decide (y ∉ keptS ∧ NmL y)
  | _ => false
def WB (ys : List Str) : Bool → V → Prop
  | true, w => ∃ y, w = .str y ∧ y ∈ claimW
  | false, w => WordOk ys w
def nSum (w : V) : Nat := (getN T1 (keyOf w) + getN T2 (keyOf w)).toNat
def nClm (w : V) : Nat := (getN T3 (keyOf w)).toNat
def nextK (w : V) : List Bool := List.replicate (nSum w) false ++ List.replicate (nClm w) true
inductive PreK (ys : List Str) : List Bool → List V → List Bool → Prop
  | nil {ls : List Bool} : PreK ys ls [] ls
  | cons {ls e : List Bool} {b : Bool} {w : V} {r : List V} : WB ys b w → PreK ys (ls ++ nextK w) r e → PreK ys (ls ++ [b]) (w :: r) e
theorem getN_bd {l : List (Str × Int)} (h : ∀ p ∈ l, 0 ≤ p.2 ∧ p.2 ≤ 3) (k : Key) : 0 ≤ getN l k ∧ getN l k ≤ 3 := by
  induction l with
  | nil => exact ⟨Int.le_refl _, (by decide : (0 : Int) ≤ 3)⟩
  | cons p r ih =>
    unfold getN
    split
    · exact h p List.mem_cons_self
    · exact ih fun q hq => h q (List.mem_cons_of_mem _ hq)
theorem T1_bd (k : Key) : 0 ≤ getN T1 k ∧ getN T1 k ≤ 3 := getN_bd (by decide +kernel) k
theorem T2_bd (k : Key) : 0 ≤ getN T2 k ∧ getN T2 k ≤ 3 := getN_bd (by decide +kernel) k
theorem T3_bd (k : Key) : 0 ≤ getN T3 k ∧ getN T3 k ≤ 3 := getN_bd (by decide +kernel) k
def npw (w : V) : Nat := (allParts (keyOf w)).toNat
theorem allParts_bd (k : Key) : 0 ≤ allParts k ∧ allParts k ≤ 9 := by
  have h1 := T1_bd k
  have h2 := T2_bd k
  have h3 := T3_bd k
  unfold allParts
  lia
theorem npw_eq (w : V) : allParts (keyOf w) = (npw w : Int) := by
  have := allParts_bd (keyOf w)
  unfold npw
  lia
theorem last_snoc (l : List V) (y : V) : (l ++ [y])[(l ++ [y]).length - 1]? = some y := by
  rw [List.length_append, show ([y] : List V).length = 1 from rfl, Nat.add_sub_cancel, List.getElem?_append_right (Nat.le_refl _), Nat.sub_self]
  rfl
def LsAt (ys : List Str) (ws : List V) (ls : Nat → List Bool) : Prop := ls ws.length = [] ∧ ∀ i x, ws[i]? = some x → ∃ l0 b, ls i = l0 ++ [b] ∧ WB ys b x ∧ ls (i + 1) = l0 ++ nextK x
theorem PreK.at {ys : List Str} {a e : List Bool} {ws : List V} (h : PreK ys a ws e) (he : e = []) : ∃ ls, LsAt ys ws ls ∧ ls 0 = a := by
  induction h with
  | @nil ls =>
    subst he
    exact ⟨fun _ => [], ⟨rfl, fun i x hx => by simp at hx⟩, rfl⟩
  | @cons l0 e b w r hw _ ih =>
    obtain ⟨ls, ⟨h1, h2⟩, h0⟩ := ih he
    refine ⟨fun i => match i with | 0 => l0 ++ [b] | i + 1 => ls i, ⟨h1, fun i x hx => ?_⟩, rfl⟩
    cases i with
    | zero =>
      have : w = x := by simpa using hx
      subst this
      exact ⟨l0, b, rfl, hw, h0⟩
    | succ i => exact h2 i x (by simpa using hx)
def oneV (y : Str) (a : Int) : Int := if y = "not" then Builtin.bitNot a else if y = "neg" then -a else if y = "twice" then a + a else Builtin.bitAnd a (-a)
def twoV (y : Str) (a b : Int) : Int := if y = "and" then Builtin.bitAnd a b else if y = "or" then Builtin.bitOr a b else if y = "odd" then Builtin.bitXor a b else if y = "add" then a + b else a - b
def wwv (ρ : Str → Int) : V → List Int → Int
  | .int z, _ => z
  | .str y, [] => ρ y
  | .str y, [a] => oneV y a
  | .str y, [a, b] => twoV y a b
  | .str _, a :: b :: c :: _ => Builtin.bitOr (Builtin.bitAnd a b) (Builtin.bitAnd (Builtin.bitNot a) c)
  | _, _ => 0
def clK : Key → Bool
  | .inr y => decide (y ∈ claimW)
  | .inl _ => false
def remW : List Str := ["neg", "twice", "low", "add", "sub"]
def remB : V → Bool
  | .str y => decide (y ∈ remW)
  | _ => false
theorem inV_int (z : Int) (ys : List Str) : inV (.int z) (ys.map V.str) = false := by
  cases q : inV (.int z) (ys.map V.str) with
  | false => rfl
  | true =>
    obtain ⟨x, hx, e⟩ := List.any_eq_true.mp q
    obtain ⟨y, _, rfl⟩ := List.mem_map.mp hx
    cases e
inductive Tm where
  | lf (w : V)
  | one (y : Str) (a : Tm)
  | two (y : Str) (a b : Tm)
  | thr (y : Str) (a b c : Tm)
def Tm.flat : Tm → List V
  | .lf w => [w]
  | .one y a => .str y :: a.flat
  | .two y a b => .str y :: (a.flat ++ b.flat)
  | .thr y a b c => .str y :: (a.flat ++ (b.flat ++ c.flat))
def Tm.ev (m : Int) (ρ : Str → Int) : Tm → Int
  | .lf w => wwv ρ w [] % m
  | .one y a => oneV y (a.ev m ρ) % m
  | .two y a b => twoV y (a.ev m ρ) (b.ev m ρ) % m
  | .thr _ a b c => Builtin.bitOr (Builtin.bitAnd (a.ev m ρ) (b.ev m ρ)) (Builtin.bitAnd (Builtin.bitNot (a.ev m ρ)) (c.ev m ρ)) % m
def Tm.ok (ys : List Str) : Tm → Prop
  | .lf w => LeafOk ys w
  | .one y a => (y ∈ sumW ∧ partsS y = 1) ∧ a.ok ys
  | .two y a b => (y ∈ sumW ∧ partsS y = 2) ∧ a.ok ys ∧ b.ok ys
  | .thr y a b c => (y ∈ sumW ∧ partsS y = 3) ∧ a.ok ys ∧ b.ok ys ∧ c.ok ys
def Tm.hd : Tm → V
  | .lf w => w
  | .one y _ => .str y
  | .two y _ _ => .str y
  | .thr y _ _ _ => .str y
def Tm.kids : Tm → List Tm
  | .lf _ => []
  | .one _ a => [a]
  | .two _ a b => [a, b]
  | .thr _ a b c => [a, b, c]
def flats : List Tm → List V
  | [] => []
  | t :: r => t.flat ++ flats r
theorem flats_app (u v : List Tm) : flats (u ++ v) = flats u ++ flats v := by
  induction u with
  | nil => rfl
  | cons t r ih =>
    show t.flat ++ flats (r ++ v) = t.flat ++ flats r ++ flats v
    rw [ih, List.append_assoc]
theorem Tm.flat_eq (t : Tm) : t.flat = t.hd :: flats t.kids := by
  cases t with
  | lf w => rfl
  | one y a => exact congrArg (V.str y :: ·) (List.append_nil _).symm
  | two y a b =>
    show _ :: (a.flat ++ b.flat) = _ :: (a.flat ++ (b.flat ++ []))
    rw [List.append_nil]
    rfl
  | thr y a b c =>
    show _ :: (a.flat ++ (b.flat ++ c.flat)) = _ :: (a.flat ++ (b.flat ++ (c.flat ++ [])))
    rw [List.append_nil]
    rfl
theorem Tm.flat_pos (t : Tm) : 1 ≤ t.flat.length := by
  rw [t.flat_eq, List.length_cons]
  lia
theorem sum_npw : ∀ y ∈ sumW, npw (.str y) = partsS y := by decide +kernel
theorem name_npw {y : Str} (h : y ∉ keptS) : npw (.str y) = 0 := by
  unfold npw allParts
  show (getN T1 (.inr y) + getN T2 (.inr y) + getN T3 (.inr y)).toNat = 0
  rw [getN_none fun z => h (tab_kept.1 y z), getN_none fun z => h (tab_kept.2.1 y z), getN_none fun z => h (tab_kept.2.2 y z)]
  rfl
theorem int_npw (z : Int) : npw (.int z) = 0 := by
  unfold npw allParts
  show (getN T1 (.inl z) + getN T2 (.inl z) + getN T3 (.inl z)).toNat = 0
  rw [getN_int, getN_int, getN_int]
  rfl
theorem Tm.npw_hd {ys : List Str} (hk : ∀ y ∈ ys, y ∉ keptS) {t : Tm} (h : t.ok ys) : npw t.hd = t.kids.length := by
  cases t with
  | lf w =>
    rcases h with ⟨y, hy, rfl⟩ | ⟨z, rfl, _⟩
    · exact name_npw (hk y hy)
    · exact int_npw z
  | one y a => exact (sum_npw y h.1.1).trans h.1.2
  | two y a b => exact (sum_npw y h.1.1).trans h.1.2
  | thr y a b c => exact (sum_npw y h.1.1).trans h.1.2
theorem Tm.ok_kids {ys : List Str} {t : Tm} (h : t.ok ys) : ∀ k ∈ t.kids, k.ok ys := by
  intro k hk
  cases t with
  | lf w => cases hk
  | one y a => rw [List.mem_singleton.mp hk]; exact h.2
  | two y a b =>
    rcases List.mem_cons.mp hk with e | e
    · rw [e]; exact h.2.1
    · rw [List.mem_singleton.mp e]; exact h.2.2
  | thr y a b c =>
    rcases List.mem_cons.mp hk with e | e
    · rw [e]; exact h.2.1
    rcases List.mem_cons.mp e with e | e
    · rw [e]; exact h.2.2.1
    · rw [List.mem_singleton.mp e]; exact h.2.2.2
/-- how a row of words is read is known from the words -/
theorem kids_eq {t u : Tm} (h : t.hd = u.hd) (hl : t.kids.length = u.kids.length) (hk : t.kids = u.kids) : t = u := by
  cases t <;> cases u <;> simp only [Tm.kids, Tm.hd, List.length_cons, List.length_nil] at h hl hk <;> first
    | (exact absurd hl (by decide))
    | skip
  · rw [h]
  · injection h with h; injection hk with hk; rw [h, hk]
  · injection h with h; injection hk with h1 h2; injection h2 with h2; rw [h, h1, h2]
  · injection h with h; injection hk with h1 h2; injection h2 with h2 h3; injection h3 with h3; rw [h, h1, h2, h3]
theorem flats_inj {ys : List Str} (hk : ∀ y ∈ ys, y ∉ keptS) : ∀ (n : Nat) (us vs : List Tm) (r r' : List V), (flats us).length ≤ n → (∀ t ∈ us, t.ok ys) → (∀ t ∈ vs, t.ok ys) → us.length = vs.length → flats us ++ r = flats vs ++ r' → us = vs ∧ r = r' := by
  intro n
  induction n with
  | zero =>
    intro us vs r r' hn _ _ hl e
    match us, vs, hl with
    | [], [], _ => exact ⟨rfl, e⟩
    | t :: us, _ :: _, _ =>
      have := t.flat_pos
      have e1 : flats (t :: us) = t.flat ++ flats us := rfl
      rw [e1, List.length_append] at hn
      lia
  | succ n ih =>
    intro us vs r r' hn hu hv hl e
    match us, vs, hl with
    | [], [], _ => exact ⟨rfl, e⟩
    | t :: us, v :: vs, hl =>
      have e1 : flats (t :: us) = t.hd :: flats (t.kids ++ us) := by
        show t.flat ++ flats us = _
        rw [t.flat_eq, flats_app]
        rfl
      have e2 : flats (v :: vs) = v.hd :: flats (v.kids ++ vs) := by
        show v.flat ++ flats vs = _
        rw [v.flat_eq, flats_app]
        rfl
      rw [e1, e2] at e
      rw [e1, List.length_cons] at hn
      injection e with h1 h2
      have ht := hu t List.mem_cons_self
      have hv' := hv v List.mem_cons_self
      have lk : t.kids.length = v.kids.length := by rw [← Tm.npw_hd hk ht, ← Tm.npw_hd hk hv', h1]
      have hl' : us.length = vs.length := Nat.succ.inj hl
      obtain ⟨g1, g2⟩ := ih (t.kids ++ us) (v.kids ++ vs) r r' (by lia)
        (fun x hx => (List.mem_append.mp hx).elim (fun z => Tm.ok_kids ht x z) (fun z => hu x (List.mem_cons_of_mem _ z)))
        (fun x hx => (List.mem_append.mp hx).elim (fun z => Tm.ok_kids hv' x z) (fun z => hv x (List.mem_cons_of_mem _ z)))
        (by rw [List.length_append, List.length_append, lk, hl']) h2
      obtain ⟨g3, g4⟩ := List.append_inj g1 lk
      exact ⟨by rw [kids_eq h1 lk g3, g4], g2⟩
theorem flat_inj {ys : List Str} (hk : ∀ y ∈ ys, y ∉ keptS) {t u : Tm} (ht : t.ok ys) (hu : u.ok ys) (e : t.flat = u.flat) : t = u := by
  have h := flats_inj hk _ [t] [u] [] [] (Nat.le_refl _) (fun x hx => by rw [List.mem_singleton.mp hx]; exact ht) (fun x hx => by rw [List.mem_singleton.mp hx]; exact hu) rfl (by
    show t.flat ++ [] ++ [] = u.flat ++ [] ++ []
    rw [e])
  injection h.1
def Tm.nds : List Int → Tm → List (List Int × Tm)
  | p, .lf w => [(p, .lf w)]
  | p, .one y a => (p, .one y a) :: a.nds (p ++ [0])
  | p, .two y a b => (p, .two y a b) :: (a.nds (p ++ [0]) ++ b.nds (p ++ [1]))
  | p, .thr y a b c => (p, .thr y a b c) :: (a.nds (p ++ [0]) ++ (b.nds (p ++ [1]) ++ c.nds (p ++ [2])))
theorem Tm.nds_len (t : Tm) : ∀ p, (t.nds p).length = t.flat.length := by
  induction t with
  | lf w => intro p; rfl
  | one y a ih => intro p; show (a.nds _).length + 1 = a.flat.length + 1; rw [ih]
  | two y a b ia ib =>
    intro p
    show (a.nds (p ++ [0]) ++ b.nds (p ++ [1])).length + 1 = (a.flat ++ b.flat).length + 1
    rw [List.length_append, List.length_append, ia, ib]
  | thr y a b c ia ib ic =>
    intro p
    show (a.nds (p ++ [0]) ++ (b.nds (p ++ [1]) ++ c.nds (p ++ [2]))).length + 1 = (a.flat ++ (b.flat ++ c.flat)).length + 1
    rw [List.length_append, List.length_append, List.length_append, List.length_append, ia, ib, ic]
/-- paths begin with the place's own -/
theorem Tm.nds_pre (t : Tm) : ∀ p q s, (q, s) ∈ t.nds p → ∃ r, q = p ++ r := by
  have up : ∀ (p : List Int) (k : Int) q, (∃ r, q = p ++ [k] ++ r) → ∃ r, q = p ++ r := fun p k q ⟨r, e⟩ => ⟨k :: r, by rw [e, List.append_assoc]; rfl⟩
  have nil : ∀ (p q : List Int), q = p → ∃ r, q = p ++ r := fun p q e => ⟨[], by rw [e, List.append_nil]⟩
  induction t with
  | lf w => intro p q s h; exact nil p q (congrArg Prod.fst (List.mem_singleton.mp h))
  | one y a ih =>
    intro p q s h
    rcases List.mem_cons.mp h with e | e
    · exact nil p q (congrArg Prod.fst e)
    · exact up p 0 q (ih _ _ _ e)
  | two y a b ia ib =>
    intro p q s h
    rcases List.mem_cons.mp h with e | e
    · exact nil p q (congrArg Prod.fst e)
    rcases List.mem_append.mp e with e | e
    · exact up p 0 q (ia _ _ _ e)
    · exact up p 1 q (ib _ _ _ e)
  | thr y a b c ia ib ic =>
    intro p q s h
    rcases List.mem_cons.mp h with e | e
    · exact nil p q (congrArg Prod.fst e)
    rcases List.mem_append.mp e with e | e
    · exact up p 0 q (ia _ _ _ e)
    rcases List.mem_append.mp e with e | e
    · exact up p 1 q (ib _ _ _ e)
    · exact up p 2 q (ic _ _ _ e)
theorem fst_mem {t : Tm} {p q : List Int} (h : q ∈ (t.nds p).map (·.1)) : ∃ r, q = p ++ r := by
  obtain ⟨⟨q', s⟩, hm, rfl⟩ := List.mem_map.mp h
  exact t.nds_pre _ _ _ hm
theorem Tm.nds_nd (t : Tm) : ∀ p, ((t.nds p).map (·.1)).Nodup := by
  have own : ∀ (t : Tm) (p : List Int) (k : Int), p ∉ (t.nds (p ++ [k])).map (·.1) := fun t p k h => by
    obtain ⟨r, e⟩ := fst_mem h
    have := congrArg List.length e
    simp at this
  have apart : ∀ (t u : Tm) (p : List Int) (k j : Int), k ≠ j → ∀ q, q ∈ (t.nds (p ++ [k])).map (·.1) → q ∈ (u.nds (p ++ [j])).map (·.1) → False := fun t u p k j hkj q h1 h2 => by
    obtain ⟨r, e⟩ := fst_mem h1
    obtain ⟨r', e'⟩ := fst_mem h2
    rw [e, List.append_assoc, List.append_assoc] at e'
    have := List.append_cancel_left e'
    injection this with h _
    exact hkj h
  induction t with
  | lf w => intro p; show [p].Nodup; simp
  | one y a ih =>
    intro p
    show (p :: (a.nds (p ++ [0])).map (·.1)).Nodup
    exact List.nodup_cons.mpr ⟨own a p 0, ih _⟩
  | two y a b ia ib =>
    intro p
    show (p :: (a.nds (p ++ [0]) ++ b.nds (p ++ [1])).map (·.1)).Nodup
    rw [List.map_append]
    refine List.nodup_cons.mpr ⟨fun h => (List.mem_append.mp h).elim (own a p 0) (own b p 1), ?_⟩
    exact List.nodup_append.mpr ⟨ia _, ib _, fun q h1 q' h2 e => apart a b p 0 1 (by decide) q h1 (by rw [e]; exact h2)⟩
  | thr y a b c ia ib ic =>
    intro p
    show (p :: (a.nds (p ++ [0]) ++ (b.nds (p ++ [1]) ++ c.nds (p ++ [2]))).map (·.1)).Nodup
    rw [List.map_append, List.map_append]
    refine List.nodup_cons.mpr ⟨fun h => (List.mem_append.mp h).elim (own a p 0) fun h => (List.mem_append.mp h).elim (own b p 1) (own c p 2), ?_⟩
    refine List.nodup_append.mpr ⟨ia _, List.nodup_append.mpr ⟨ib _, ic _, fun q h1 q' h2 e => apart b c p 1 2 (by decide) q h1 (by rw [e]; exact h2)⟩, fun q h1 q' h2 e => ?_⟩
    rcases List.mem_append.mp h2 with h2 | h2
    · exact apart a b p 0 1 (by decide) q h1 (by rw [e]; exact h2)
    · exact apart a c p 0 2 (by decide) q h1 (by rw [e]; exact h2)
/-- what stands around a place -/
structure Ctx (t s : Tm) (u v : List V) (f : Tm → Tm) : Prop where
  here : t.flat = u ++ (s.flat ++ v)
  put : ∀ x : Tm, (f x).flat = u ++ (x.flat ++ v)
  ok : ∀ ys, t.ok ys → s.ok ys ∧ ∀ x : Tm, x.ok ys → (f x).ok ys
  ev : ∀ m ρ (x : Tm), x.ev m ρ = s.ev m ρ → (f x).ev m ρ = t.ev m ρ
theorem Ctx.refl (t : Tm) : Ctx t t [] [] (fun x => x) := ⟨by simp, fun x => by simp, fun ys h => ⟨h, fun x hx => hx⟩, fun m ρ x h => h⟩
theorem Tm.ctx (t : Tm) : ∀ p i q s, (t.nds p)[i]? = some (q, s) → ∃ u v f, u.length = i ∧ Ctx t s u v f := by
  have top : ∀ (t : Tm) (p : List Int) q s, some (p, t) = some (q, s) → ∃ u v f, u.length = 0 ∧ Ctx t s u v f := fun t p q s e => by
    injection e with e
    injection e with _ e
    subst e
    exact ⟨[], [], _, rfl, Ctx.refl t⟩
  have spl : ∀ {α : Type} {l r : List α} {i : Nat} {x : α}, (l ++ r)[i]? = some x → (l[i]? = some x) ∨ ∃ j, i = l.length + j ∧ r[j]? = some x := fun {α l r i x} h => by
    rcases Nat.lt_or_ge i l.length with z | z
    · rw [List.getElem?_append_left z] at h
      exact .inl h
    · rw [List.getElem?_append_right z] at h
      exact .inr ⟨i - l.length, by lia, h⟩
  induction t with
  | lf w =>
    intro p i q s h
    cases i with
    | zero => exact top _ _ _ _ h
    | succ i => cases h
  | one y a ih =>
    intro p i q s h
    cases i with
    | zero => exact top _ _ _ _ h
    | succ i =>
      obtain ⟨u, v, f, hl, C⟩ := ih _ _ _ _ h
      refine ⟨.str y :: u, v, fun x => .one y (f x), by rw [List.length_cons, hl], ⟨?_, fun x => ?_, fun ys h => ⟨(C.ok ys h.2).1, fun x hx => ⟨h.1, (C.ok ys h.2).2 x hx⟩⟩, fun m ρ x e => ?_⟩⟩
      · show _ :: a.flat = _; rw [C.here]; rfl
      · show _ :: (f x).flat = _; rw [C.put]; rfl
      · show oneV y ((f x).ev m ρ) % m = oneV y (a.ev m ρ) % m; rw [C.ev m ρ x e]
  | two y a b ia ib =>
    intro p i q s h
    cases i with
    | zero => exact top _ _ _ _ h
    | succ i =>
      rcases spl (show (a.nds (p ++ [0]) ++ b.nds (p ++ [1]))[i]? = some (q, s) from h) with h2 | ⟨j, rfl, h2⟩
      · obtain ⟨u, v, f, hl, C⟩ := ia _ _ _ _ h2
        refine ⟨.str y :: u, v ++ b.flat, fun x => .two y (f x) b, by rw [List.length_cons, hl], ⟨?_, fun x => ?_, fun ys h => ⟨(C.ok ys h.2.1).1, fun x hx => ⟨h.1, (C.ok ys h.2.1).2 x hx, h.2.2⟩⟩, fun m ρ x e => ?_⟩⟩
        · show _ :: (a.flat ++ b.flat) = _; rw [C.here]; simp
        · show _ :: ((f x).flat ++ b.flat) = _; rw [C.put]; simp
        · show twoV y ((f x).ev m ρ) _ % m = twoV y (a.ev m ρ) _ % m; rw [C.ev m ρ x e]
      · obtain ⟨u, v, f, hl, C⟩ := ib _ _ _ _ h2
        refine ⟨.str y :: (a.flat ++ u), v, fun x => .two y a (f x), by rw [List.length_cons, List.length_append, hl, a.nds_len], ⟨?_, fun x => ?_, fun ys h => ⟨(C.ok ys h.2.2).1, fun x hx => ⟨h.1, h.2.1, (C.ok ys h.2.2).2 x hx⟩⟩, fun m ρ x e => ?_⟩⟩
        · show _ :: (a.flat ++ b.flat) = _; rw [C.here]; simp
        · show _ :: (a.flat ++ (f x).flat) = _; rw [C.put]; simp
        · show twoV y _ ((f x).ev m ρ) % m = twoV y _ (b.ev m ρ) % m; rw [C.ev m ρ x e]
  | thr y a b c ia ib ic =>
    intro p i q s h
    cases i with
    | zero => exact top _ _ _ _ h
    | succ i =>
      have evs : ∀ (m : Int) ρ (a' b' c' : Tm), a'.ev m ρ = a.ev m ρ → b'.ev m ρ = b.ev m ρ → c'.ev m ρ = c.ev m ρ → (Tm.thr y a' b' c').ev m ρ = (Tm.thr y a b c).ev m ρ := fun m ρ a' b' c' h1 h2 h3 => by
        show Builtin.bitOr (Builtin.bitAnd (a'.ev m ρ) (b'.ev m ρ)) (Builtin.bitAnd (Builtin.bitNot (a'.ev m ρ)) (c'.ev m ρ)) % m = _
        rw [h1, h2, h3]
        rfl
      rcases spl (show (a.nds (p ++ [0]) ++ (b.nds (p ++ [1]) ++ c.nds (p ++ [2])))[i]? = some (q, s) from h) with h2 | ⟨j, rfl, h2⟩
      · obtain ⟨u, v, f, hl, C⟩ := ia _ _ _ _ h2
        refine ⟨.str y :: u, v ++ (b.flat ++ c.flat), fun x => .thr y (f x) b c, by rw [List.length_cons, hl], ⟨?_, fun x => ?_, fun ys h => ⟨(C.ok ys h.2.1).1, fun x hx => ⟨h.1, (C.ok ys h.2.1).2 x hx, h.2.2⟩⟩, fun m ρ x e => evs m ρ _ _ _ (C.ev m ρ x e) rfl rfl⟩⟩
        · show _ :: (a.flat ++ (b.flat ++ c.flat)) = _; rw [C.here]; simp
        · show _ :: ((f x).flat ++ (b.flat ++ c.flat)) = _; rw [C.put]; simp
      rcases spl h2 with h2 | ⟨k, rfl, h3⟩
      · obtain ⟨u, v, f, hl, C⟩ := ib _ _ _ _ h2
        refine ⟨.str y :: (a.flat ++ u), v ++ c.flat, fun x => .thr y a (f x) c, by rw [List.length_cons, List.length_append, hl, a.nds_len], ⟨?_, fun x => ?_, fun ys h => ⟨(C.ok ys h.2.2.1).1, fun x hx => ⟨h.1, h.2.1, (C.ok ys h.2.2.1).2 x hx, h.2.2.2⟩⟩, fun m ρ x e => evs m ρ _ _ _ rfl (C.ev m ρ x e) rfl⟩⟩
        · show _ :: (a.flat ++ (b.flat ++ c.flat)) = _; rw [C.here]; simp
        · show _ :: (a.flat ++ ((f x).flat ++ c.flat)) = _; rw [C.put]; simp
      · obtain ⟨u, v, f, hl, C⟩ := ic _ _ _ _ h3
        refine ⟨.str y :: (a.flat ++ (b.flat ++ u)), v, fun x => .thr y a b (f x), by rw [List.length_cons, List.length_append, List.length_append, hl, a.nds_len, b.nds_len], ⟨?_, fun x => ?_, fun ys h => ⟨(C.ok ys h.2.2.2).1, fun x hx => ⟨h.1, h.2.1, h.2.2.1, (C.ok ys h.2.2.2).2 x hx⟩⟩, fun m ρ x e => evs m ρ _ _ _ rfl rfl (C.ev m ρ x e)⟩⟩
        · show _ :: (a.flat ++ (b.flat ++ c.flat)) = _; rw [C.here]; simp
        · show _ :: (a.flat ++ (b.flat ++ (f x).flat)) = _; rw [C.put]; simp
def Tm.sub (σ : Str → Tm) : Tm → Tm
  | .lf w => match w with
    | .str y => σ y
    | w => .lf w
  | .one y a => .one y (a.sub σ)
  | .two y a b => .two y (a.sub σ) (b.sub σ)
  | .thr y a b c => .thr y (a.sub σ) (b.sub σ) (c.sub σ)
def Tm.nms : Tm → List Str
  | .lf w => match w with
    | .str y => [y]
    | _ => []
  | .one _ a => a.nms
  | .two _ a b => a.nms ++ b.nms
  | .thr _ a b c => a.nms ++ (b.nms ++ c.nms)
theorem Tm.sub_congr {σ τ : Str → Tm} (t : Tm) : (∀ y ∈ t.nms, σ y = τ y) → t.sub σ = t.sub τ := by
  induction t with
  | lf w =>
    intro h
    cases w with
    | str y => exact h y (List.mem_singleton.mpr rfl)
    | _ => rfl
  | one y a ih => intro h; show Tm.one y _ = Tm.one y _; rw [ih h]
  | two y a b ia ib =>
    intro h
    show Tm.two y _ _ = Tm.two y _ _
    rw [ia fun z hz => h z (List.mem_append_left _ hz), ib fun z hz => h z (List.mem_append_right _ hz)]
  | thr y a b c ia ib ic =>
    intro h
    show Tm.thr y _ _ _ = Tm.thr y _ _ _
    rw [ia fun z hz => h z (List.mem_append_left _ hz), ib fun z hz => h z (List.mem_append_right _ (List.mem_append_left _ hz)), ic fun z hz => h z (List.mem_append_right _ (List.mem_append_right _ hz))]
theorem Tm.sub_ok {ys zs : List Str} {σ : Str → Tm} (t : Tm) : t.ok zs → (∀ y ∈ t.nms, (σ y).ok ys) → (t.sub σ).ok ys := by
  induction t with
  | lf w =>
    intro h hs
    rcases h with ⟨y, hy, rfl⟩ | ⟨z, rfl, h⟩
    · exact hs y (List.mem_singleton.mpr rfl)
    · exact .inr ⟨z, rfl, h⟩
  | one y a ih => intro h hs; exact ⟨h.1, ih h.2 hs⟩
  | two y a b ia ib => intro h hs; exact ⟨h.1, ia h.2.1 fun z hz => hs z (List.mem_append_left _ hz), ib h.2.2 fun z hz => hs z (List.mem_append_right _ hz)⟩
  | thr y a b c ia ib ic => intro h hs; exact ⟨h.1, ia h.2.1 fun z hz => hs z (List.mem_append_left _ hz), ib h.2.2.1 fun z hz => hs z (List.mem_append_right _ (List.mem_append_left _ hz)), ic h.2.2.2 fun z hz => hs z (List.mem_append_right _ (List.mem_append_right _ hz))⟩
/-- what a word of a form is put for -/
def fwd (σ : Str → Tm) : V → List V
  | .str y => if y ∈ keptS then [.str y] else (σ y).flat
  | w => [w]
theorem Tm.sub_flat {zs : List Str} (hz : ∀ y ∈ zs, y ∉ keptS) {σ : Str → Tm} (t : Tm) : t.ok zs → (t.sub σ).flat = t.flat.flatMap (fwd σ) := by
  have kw : ∀ y ∈ sumW, fwd σ (.str y) = [.str y] := fun y hy => if_pos (sum_kept y hy)
  induction t with
  | lf w =>
    intro h
    rcases h with ⟨y, hy, rfl⟩ | ⟨z, rfl, h⟩
    · show (σ y).flat = [V.str y].flatMap (fwd σ)
      rw [List.flatMap_singleton]
      exact (if_neg (hz y hy)).symm
    · rfl
  | one y a ih =>
    intro h
    show _ :: (a.sub σ).flat = (V.str y :: a.flat).flatMap _
    rw [List.flatMap_cons, kw y h.1.1, ih h.2]
    rfl
  | two y a b ia ib =>
    intro h
    show _ :: ((a.sub σ).flat ++ (b.sub σ).flat) = (V.str y :: (a.flat ++ b.flat)).flatMap _
    rw [List.flatMap_cons, List.flatMap_append, kw y h.1.1, ia h.2.1, ib h.2.2]
    rfl
  | thr y a b c ia ib ic =>
    intro h
    show _ :: ((a.sub σ).flat ++ ((b.sub σ).flat ++ (c.sub σ).flat)) = (V.str y :: (a.flat ++ (b.flat ++ c.flat))).flatMap _
    rw [List.flatMap_cons, List.flatMap_append, List.flatMap_append, kw y h.1.1, ia h.2.1, ib h.2.2.1, ic h.2.2.2]
    rfl
abbrev tx : Tm := .lf (.str "x")
abbrev ty : Tm := .lf (.str "y")
abbrev tz : Tm := .lf (.str "z")
abbrev t0 : Tm := .lf (.int 0)
abbrev t1 : Tm := .lf (.int 1)
def turns : List (Str × Tm × Tm) := [
  ("addboth", .two "add" tx ty, .two "add" ty tx),
  ("addboth", .two "and" tx ty, .two "and" ty tx),
  ("addboth", .two "or" tx ty, .two "or" ty tx),
  ("addboth", .two "odd" tx ty, .two "odd" ty tx),
  ("addthree", .two "add" (.two "add" tx ty) tz, .two "add" tx (.two "add" ty tz)),
  ("addthree", .two "and" (.two "and" tx ty) tz, .two "and" tx (.two "and" ty tz)),
  ("addthree", .two "or" (.two "or" tx ty) tz, .two "or" tx (.two "or" ty tz)),
  ("addthree", .two "odd" (.two "odd" tx ty) tz, .two "odd" tx (.two "odd" ty tz)),
  ("subneg", .two "sub" tx ty, .two "add" tx (.one "neg" ty)),
  ("negnot", .one "neg" tx, .two "add" (.one "not" tx) t1),
  ("twiceadd", .one "twice" tx, .two "add" tx tx),
  ("notnot", .one "not" (.one "not" tx), tx),
  ("notand", .one "not" (.two "and" tx ty), .two "or" (.one "not" tx) (.one "not" ty)),
  ("notor", .one "not" (.two "or" tx ty), .two "and" (.one "not" tx) (.one "not" ty)),
  ("oddor", .two "odd" tx ty, .two "and" (.two "or" tx ty) (.one "not" (.two "and" tx ty))),
  ("orsum", .two "add" tx ty, .two "add" (.two "or" tx ty) (.two "and" tx ty)),
  ("oddsum", .two "add" tx ty, .two "add" (.two "odd" tx ty) (.one "twice" (.two "and" tx ty))),
  ("lowneg", .one "low" tx, .two "and" tx (.one "neg" tx)),
  ("pickor", .thr "pick" tx ty tz, .two "or" (.two "and" tx ty) (.two "and" (.one "not" tx) tz)),
  ("selfodd", .two "odd" tx tx, t0),
  ("selfand", .two "and" tx tx, tx),
  ("selfand", .two "or" tx tx, tx),
  ("zeroadd", .two "add" tx t0, tx),
  ("zeroadd", .two "or" tx t0, tx),
  ("zeroadd", .two "odd" tx t0, tx),
  ("zeroadd", .two "sub" tx t0, tx)]
def xyz : List Str := ["x", "y", "z"]
theorem xyz_ok : ∀ y ∈ xyz, y ∉ keptS := by decide +kernel
def Tm.okB : Tm → Bool
  | .lf w => match w with
    | .str y => decide (y ∈ xyz)
    | .int z => decide (0 ≤ z ∧ z < 1000)
    | _ => false
  | .one y a => decide (y ∈ sumW ∧ partsS y = 1) && a.okB
  | .two y a b => decide (y ∈ sumW ∧ partsS y = 2) && (a.okB && b.okB)
  | .thr y a b c => decide (y ∈ sumW ∧ partsS y = 3) && (a.okB && (b.okB && c.okB))
theorem Tm.okB_ok (t : Tm) : t.okB = true → t.ok xyz := by
  induction t with
  | lf w =>
    intro h
    cases w with
    | str y => exact .inl ⟨y, of_decide_eq_true h, rfl⟩
    | int z => exact .inr ⟨z, rfl, of_decide_eq_true h⟩
    | _ => cases h
  | one y a ih =>
    intro h
    obtain ⟨h1, h2⟩ := Bool.and_eq_true_iff.mp (show (decide _ && a.okB) = true from h)
    exact ⟨of_decide_eq_true h1, ih h2⟩
  | two y a b ia ib =>
    intro h
    obtain ⟨h1, h2⟩ := Bool.and_eq_true_iff.mp (show (decide _ && (a.okB && b.okB)) = true from h)
    obtain ⟨h2, h3⟩ := Bool.and_eq_true_iff.mp h2
    exact ⟨of_decide_eq_true h1, ia h2, ib h3⟩
  | thr y a b c ia ib ic =>
    intro h
    obtain ⟨h1, h2⟩ := Bool.and_eq_true_iff.mp (show (decide _ && (a.okB && (b.okB && c.okB))) = true from h)
    obtain ⟨h2, h3⟩ := Bool.and_eq_true_iff.mp h2
    obtain ⟨h3, h4⟩ := Bool.and_eq_true_iff.mp h3
    exact ⟨of_decide_eq_true h1, ia h2, ib h3, ic h4⟩
theorem turns_okB : (turns.all fun e => e.2.1.okB && e.2.2.okB && e.2.2.nms.all fun y => decide (y ∈ e.2.1.nms)) = true := by decide +kernel
theorem turns_ok {e : Str × Tm × Tm} (h : e ∈ turns) : e.2.1.ok xyz ∧ e.2.2.ok xyz ∧ ∀ y ∈ e.2.2.nms, y ∈ e.2.1.nms := by
  have := List.all_eq_true.mp turns_okB e h
  obtain ⟨h1, h3⟩ := Bool.and_eq_true_iff.mp this
  obtain ⟨h1, h2⟩ := Bool.and_eq_true_iff.mp h1
  exact ⟨e.2.1.okB_ok h1, e.2.2.okB_ok h2, fun y hy => of_decide_eq_true (List.all_eq_true.mp h3 y hy)⟩
theorem turns_len : ∀ e ∈ turns, ∀ σ : Str → Tm, (e.2.2.sub σ).flat.length ≤ 2 * (e.2.1.sub σ).flat.length + 2 := by
  intro e he σ
  simp only [turns, List.mem_cons, List.not_mem_nil, or_false] at he
  rcases he with rfl | rfl | rfl | rfl | rfl | rfl | rfl | rfl | rfl | rfl | rfl | rfl | rfl | rfl | rfl | rfl | rfl | rfl | rfl | rfl | rfl | rfl | rfl | rfl | rfl | rfl <;>
    simp only [Tm.sub, Tm.flat, List.length_cons, List.length_append, List.length_nil] <;> lia
theorem flats_hd {Fs : List Tm} {w : V} {r : List V} (h : w :: r = flats Fs) : ∃ F Fr, Fs = F :: Fr ∧ F.hd = w ∧ r = flats (F.kids ++ Fr) := by
  match Fs with
  | [] => cases h
  | F :: Fr =>
    have e : flats (F :: Fr) = F.hd :: flats (F.kids ++ Fr) := by
      show F.flat ++ flats Fr = _
      rw [F.flat_eq, flats_app]
      rfl
    rw [e] at h
    injection h with h1 h2
    exact ⟨F, Fr, rfl, h1.symm, h2⟩
theorem sub_kids {F : Tm} (σ : Str → Tm) (hn : ∀ y, F.hd = .str y → y ∈ keptS) (ok : F.ok xyz) : (F.sub σ).hd = F.hd ∧ (F.sub σ).kids = F.kids.map (·.sub σ) ∧ ∀ y ∈ F.nms, ∃ G ∈ F.kids, y ∈ G.nms := by
  cases F with
  | lf w =>
    rcases ok with ⟨y, hy, rfl⟩ | ⟨z, rfl, _⟩
    · exact absurd (hn y rfl) (xyz_ok y hy)
    · exact ⟨rfl, rfl, fun y hy => nomatch hy⟩
  | one y a => exact ⟨rfl, rfl, fun y hy => ⟨a, List.mem_cons_self, hy⟩⟩
  | two y a b => exact ⟨rfl, rfl, fun y hy => (List.mem_append.mp hy).elim (fun h => ⟨a, List.mem_cons_self, h⟩) fun h => ⟨b, List.mem_cons_of_mem _ List.mem_cons_self, h⟩⟩
  | thr y a b c => exact ⟨rfl, rfl, fun y hy => (List.mem_append.mp hy).elim (fun h => ⟨a, List.mem_cons_self, h⟩) fun h => (List.mem_append.mp h).elim (fun h => ⟨b, List.mem_cons_of_mem _ List.mem_cons_self, h⟩) fun h => ⟨c, List.mem_cons_of_mem _ (List.mem_cons_of_mem _ List.mem_cons_self), h⟩⟩
theorem hd_var {F : Tm} {y : Str} (ok : F.ok xyz) (h : F.hd = .str y) (hy : y ∉ keptS) : F = .lf (.str y) := by
  cases F with
  | lf w => exact congrArg Tm.lf h
  | one x a => injection h with h; exact absurd (sum_kept x ok.1.1) (by rw [h]; exact hy)
  | two x a b => injection h with h; exact absurd (sum_kept x ok.1.1) (by rw [h]; exact hy)
  | thr x a b c => injection h with h; exact absurd (sum_kept x ok.1.1) (by rw [h]; exact hy)
structure Mt (ys : List Str) (F s : Tm) (fr sr : List V) (τ : List (Str × Tm)) : Prop where
  ex : ∃ Fs ts, fr = flats Fs ∧ sr = flats ts ∧ Fs.length = ts.length ∧ (∀ x ∈ Fs, x.ok xyz) ∧ (∀ x ∈ ts, x.ok ys) ∧ (∀ σ, F.sub σ = s ↔ (∀ p ∈ τ, σ p.1 = p.2) ∧ Fs.map (·.sub σ) = ts) ∧ ∀ y ∈ F.nms, y ∈ τ.map (·.1) ∨ ∃ G ∈ Fs, y ∈ G.nms
  tok : ∀ p ∈ τ, p.2.ok ys
  nd : (τ.map (·.1)).Nodup
theorem Mt.beg {ys : List Str} {F s : Tm} (hF : F.ok xyz) (hs : s.ok ys) : Mt ys F s F.flat s.flat [] := by
  refine ⟨⟨[F], [s], (List.append_nil _).symm, (List.append_nil _).symm, rfl, fun x hx => by rw [List.mem_singleton.mp hx]; exact hF, fun x hx => by rw [List.mem_singleton.mp hx]; exact hs, fun σ => ⟨fun e => ⟨(fun p hp => nomatch hp), by rw [List.map_singleton, e]⟩, fun e => ?_⟩, fun y hy => .inr ⟨F, List.mem_singleton.mpr rfl, hy⟩⟩, (fun p hp => nomatch hp), List.nodup_nil⟩
  have := e.2
  injection this
theorem Mt.var {ys : List Str} {F s : Tm} {y : Str} {fr sr : List V} {τ : List (Str × Tm)} (hy : y ∉ keptS) (M : Mt ys F s (.str y :: fr) sr τ) :
    ∃ t sr', t.ok ys ∧ sr = t.flat ++ sr' ∧ (y ∉ τ.map (·.1) → Mt ys F s fr sr' (τ ++ [(y, t)])) ∧ ∀ u, (y, u) ∈ τ → (u = t → Mt ys F s fr sr' τ) ∧ (u ≠ t → ∀ σ, F.sub σ ≠ s) := by
  obtain ⟨⟨Fs, ts, h1, h2, hl, okF, okt, hσ, hn⟩, tok, nd⟩ := M
  obtain ⟨F1, Fr, rfl, hd, hr⟩ := flats_hd h1
  have e1 := hd_var (okF F1 List.mem_cons_self) hd hy
  subst e1
  match ts, hl with
  | t :: tr, hl =>
    have hl' : Fr.length = tr.length := Nat.succ.inj hl
    have sv : ∀ σ : Str → Tm, (Tm.lf (.str y)).sub σ = σ y := fun σ => rfl
    have okF' : ∀ x ∈ Fr, x.ok xyz := fun x hx => okF x (List.mem_cons_of_mem _ hx)
    have okt' : ∀ x ∈ tr, x.ok ys := fun x hx => okt x (List.mem_cons_of_mem _ hx)
    have hn' : ∀ z ∈ F.nms, z ∈ τ.map (·.1) ∨ z = y ∨ ∃ G ∈ Fr, z ∈ G.nms := fun z hz => by
      rcases hn z hz with h | ⟨G, hG, h⟩
      · exact .inl h
      rcases List.mem_cons.mp hG with e | e
      · rw [e] at h
        exact .inr (.inl (List.mem_singleton.mp h))
      · exact .inr (.inr ⟨G, e, h⟩)
    refine ⟨t, flats tr, okt t List.mem_cons_self, h2, fun hny => ⟨⟨Fr, tr, hr, rfl, hl', okF', okt', fun σ => ?_, fun z hz => ?_⟩, fun p hp => ?_, ?_⟩, fun u hu => ⟨fun e => ⟨⟨Fr, tr, hr, rfl, hl', okF', okt', fun σ => ?_, fun z hz => ?_⟩, tok, nd⟩, fun hne σ e => ?_⟩⟩
    · rw [hσ σ]
      constructor
      · rintro ⟨a, b⟩
        rw [List.map_cons] at b
        injection b with b1 b2
        exact ⟨fun p hp => (List.mem_append.mp hp).elim (a p) fun z => by rw [List.mem_singleton.mp z]; exact b1, b2⟩
      · rintro ⟨a, b⟩
        refine ⟨fun p hp => a p (List.mem_append_left _ hp), ?_⟩
        rw [List.map_cons, sv, a (y, t) (List.mem_append_right _ (List.mem_singleton.mpr rfl)), b]
    · rcases hn' z hz with h | h | h
      · exact .inl (by rw [List.map_append]; exact List.mem_append_left _ h)
      · exact .inl (by rw [List.map_append]; exact List.mem_append_right _ (List.mem_singleton.mpr h))
      · exact .inr h
    · rcases List.mem_append.mp hp with h | h
      · exact tok p h
      · rw [List.mem_singleton.mp h]
        exact okt t List.mem_cons_self
    · rw [List.map_append]
      exact List.nodup_append.mpr ⟨nd, by simp, fun a ha b hb e => hny (by rw [List.map_singleton] at hb; have hb' : b = y := List.mem_singleton.mp hb; rw [← hb', ← e]; exact ha)⟩
    · rw [hσ σ]
      constructor
      · rintro ⟨a, b⟩
        rw [List.map_cons] at b
        injection b with b1 b2
        exact ⟨a, b2⟩
      · rintro ⟨a, b⟩
        refine ⟨a, ?_⟩
        rw [List.map_cons, sv, a (y, u) hu, b, e]
    · rcases hn' z hz with h | h | h
      · exact .inl h
      · exact .inl (List.mem_map.mpr ⟨(y, u), hu, h.symm⟩)
      · exact .inr h
    · obtain ⟨a, b⟩ := (hσ σ).mp e
      rw [List.map_cons] at b
      injection b with b1 b2
      exact hne ((a (y, u) hu).symm.trans b1)
theorem Mt.wrd {ys : List Str} (hk : ∀ y ∈ ys, y ∉ keptS) {F s : Tm} {w : V} {fr sr : List V} {τ : List (Str × Tm)} (hw : ∀ y, w = .str y → y ∈ keptS) (M : Mt ys F s (w :: fr) sr τ) :
    ∃ w' sr', sr = w' :: sr' ∧ (w' = w → Mt ys F s fr sr' τ) ∧ (w' ≠ w → ∀ σ, F.sub σ ≠ s) := by
  obtain ⟨⟨Fs, ts, h1, h2, hl, okF, okt, hσ, hn⟩, tok, nd⟩ := M
  obtain ⟨F1, Fr, rfl, hd, hr⟩ := flats_hd h1
  have o1 := okF F1 List.mem_cons_self
  have hF1 : ∀ y, F1.hd = .str y → y ∈ keptS := fun y e => hw y (hd.symm.trans e)
  match ts, hl with
  | t :: tr, hl =>
    have hl' : Fr.length = tr.length := Nat.succ.inj hl
    have ot := okt t List.mem_cons_self
    have e2 : flats (t :: tr) = t.hd :: flats (t.kids ++ tr) := by
      show t.flat ++ flats tr = _
      rw [t.flat_eq, flats_app]
      rfl
    refine ⟨t.hd, flats (t.kids ++ tr), h2.trans e2, fun e => ?_, fun hne σ e => ?_⟩
    · have lk : F1.kids.length = t.kids.length := by rw [← Tm.npw_hd xyz_ok o1, ← Tm.npw_hd hk ot, hd, e]
      refine ⟨⟨F1.kids ++ Fr, t.kids ++ tr, hr, rfl, by rw [List.length_append, List.length_append, lk, hl'], fun x hx => ?_, fun x hx => ?_, fun σ => ?_, fun z hz => ?_⟩, tok, nd⟩
      · exact (List.mem_append.mp hx).elim (Tm.ok_kids o1 x) fun h => okF x (List.mem_cons_of_mem _ h)
      · exact (List.mem_append.mp hx).elim (Tm.ok_kids ot x) fun h => okt x (List.mem_cons_of_mem _ h)
      · obtain ⟨k1, k2, _⟩ := sub_kids σ hF1 o1
        rw [hσ σ, List.map_append, List.map_cons]
        refine and_congr_right fun _ => ⟨fun b => ?_, fun b => ?_⟩
        · injection b with b1 b2
          rw [← k2, b1, b2]
        · obtain ⟨b1, b2⟩ := List.append_inj b (by rw [List.length_map, lk])
          rw [← k2] at b1
          rw [b2, kids_eq (k1.trans (hd.trans e.symm)) (by rw [b1]) b1]
      · rcases hn z hz with h | ⟨G, hG, h⟩
        · exact .inl h
        rcases List.mem_cons.mp hG with e' | e'
        · rw [e'] at h
          obtain ⟨G', hG', h'⟩ := (sub_kids (fun _ => t0) hF1 o1).2.2 z h
          exact .inr ⟨G', List.mem_append_left _ hG', h'⟩
        · exact .inr ⟨G, List.mem_append_right _ e', h⟩
    · obtain ⟨_, b⟩ := (hσ σ).mp e
      rw [List.map_cons] at b
      injection b with b1 b2
      exact hne (by rw [← b1, (sub_kids σ hF1 o1).1, hd])
theorem Mt.fin {ys : List Str} {F s : Tm} {sr : List V} {τ : List (Str × Tm)} (M : Mt ys F s [] sr τ) : (∀ σ, (∀ p ∈ τ, σ p.1 = p.2) → F.sub σ = s) ∧ ∀ y ∈ F.nms, y ∈ τ.map (·.1) := by
  obtain ⟨⟨Fs, ts, h1, h2, hl, okF, okt, hσ, hn⟩, tok, nd⟩ := M
  have e : Fs = [] := by
    match Fs, h1 with
    | [], _ => rfl
    | F :: Fr, h1 =>
      have := congrArg List.length h1
      have e1 : flats (F :: Fr) = F.flat ++ flats Fr := rfl
      rw [e1, List.length_append] at this
      have := F.flat_pos
      simp at *
      lia
  subst e
  match ts, hl with
  | [], _ =>
    refine ⟨fun σ h => (hσ σ).mpr ⟨h, rfl⟩, fun y hy => ?_⟩
    rcases hn y hy with h | ⟨G, hG, _⟩
    · exact h
    · cases hG
/-- a binding read off a row of pairs -/
def bnd (τ : List (Str × Tm)) (y : Str) : Tm := ((τ.find? fun p => decide (p.1 = y)).map (·.2)).getD t0
theorem bnd_mem {τ : List (Str × Tm)} (nd : (τ.map (·.1)).Nodup) {p : Str × Tm} (h : p ∈ τ) : bnd τ p.1 = p.2 := by
  induction τ with
  | nil => cases h
  | cons q r ih =>
    rw [List.map_cons, List.nodup_cons] at nd
    unfold bnd
    rw [List.find?_cons]
    by_cases e : q.1 = p.1
    · rw [decide_eq_true e]
      rcases List.mem_cons.mp h with h | h
      · rw [h]; rfl
      · exact absurd (List.mem_map.mpr ⟨p, h, e.symm⟩) nd.1
    · rw [decide_eq_false e]
      rcases List.mem_cons.mp h with h | h
      · exact absurd (by rw [h]) e
      · exact ih nd.2 h
/-- a rule fits a part -/
def Fit (e : Str × Tm × Tm) (s : Tm) : Prop := ∃ σ, e.2.1.sub σ = s
def tupV (K : PySem.W.Frag) : V → Option (List V)
  | .ref a => match K.lookup a with
    | some o => match o.cls, o.data with
      | .type n, .seq its _ => if n = "tuple" ∧ its.size ≤ sizeLine then its.toList.mapM absV else none
      | _, _ => none
    | none => none
  | _ => none
theorem abs_rel {u : Value} {x : V} (h : absV u = some x) : RelV x u := by
  unfold absV at h
  split at h <;> first | (injection h with h; subst h; first | rfl | exact ⟨_, rfl⟩) | cases h
theorem mapM_vals : ∀ {us : List Value} {xs : List V}, us.mapM absV = some xs → Vals xs us
  | [], xs, h => by
    rw [List.mapM_nil] at h
    cases h
    exact .nil
  | u :: us, xs, h => by
    rw [List.mapM_cons] at h
    cases e : absV u with
    | none => rw [e] at h; cases h
    | some x =>
      rw [e] at h
      cases e2 : us.mapM absV with
      | none =>
        rw [e2] at h
        cases h
      | some r =>
        rw [e2] at h
        have : xs = x :: r := (Option.some.inj h).symm
        rw [this]
        exact .cons (abs_rel e) (mapM_vals e2)
theorem tupV_sq {K : PySem.W.Frag} {v : V} {xs : List V} (h : tupV K v = some xs) : ∃ a, v = .ref a ∧ ∀ H, SqT K H a xs := by
  unfold tupV at h
  split at h
  · rename_i a
    split at h
    · rename_i o ho
      split at h
      · rename_i n its m hc hd
        split at h
        · rename_i hn
          exact ⟨a, rfl, fun H => .inr ⟨o, its, m, ho, by rw [hc, hn.1], hd, hn.2, mapM_vals h⟩⟩
        · cases h
      · cases h
    · cases h
  · cases h
def rowV (K : PySem.W.Frag) (v : V) (r : Str × Tm × Tm) : Bool := match tupV K v with
  | some [.str s, f, g] => decide (s = r.1) && (decide (tupV K f = some r.2.1.flat) && decide (tupV K g = some r.2.2.flat))
  | _ => false
def rowsV (K : PySem.W.Frag) (v : V) (l : List (Str × Tm × Tm)) : Bool := match tupV K v with
  | some es => decide (es.length = l.length) && (es.zip l).all fun p => rowV K p.1 p.2
  | none => false
/-- a rule as it lies in the module -/
structure RlAt (K : PySem.W.Frag) (v : V) (r : Str × Tm × Tm) : Prop where
  ex : ∃ a f g, v = .ref a ∧ (∀ H, SqT K H a [.str r.1, .ref f, .ref g]) ∧ (∀ H, SqT K H f r.2.1.flat) ∧ ∀ H, SqT K H g r.2.2.flat
structure RlsAt (K : PySem.W.Frag) (a : Addr) (l : List (Str × Tm × Tm)) : Prop where
  ex : ∃ es, (∀ H, SqT K H a es) ∧ es.length = l.length ∧ ∀ (i : Nat) (v : V) (r : Str × Tm × Tm), es[i]? = some v → l[i]? = some r → RlAt K v r
theorem rows_of {K : PySem.W.Frag} {a : Addr} {l : List (Str × Tm × Tm)} (h : rowsV K (.ref a) l = true) : RlsAt K a l := by
  unfold rowsV at h
  split at h
  · rename_i es he
    obtain ⟨h1, h2⟩ := Bool.and_eq_true_iff.mp h
    have hl := of_decide_eq_true h1
    obtain ⟨a', e, sq⟩ := tupV_sq he
    cases e
    refine ⟨es, sq, hl, fun i v r hv hr => ?_⟩
    have hm : (v, r) ∈ es.zip l := by
      refine List.mem_of_getElem? (i := i) ?_
      rw [List.getElem?_zip_eq_some]
      exact ⟨hv, hr⟩
    have h3 := List.all_eq_true.mp h2 _ hm
    unfold rowV at h3
    split at h3
    · rename_i s f g hs
      obtain ⟨k1, k2⟩ := Bool.and_eq_true_iff.mp h3
      obtain ⟨k2, k3⟩ := Bool.and_eq_true_iff.mp k2
      obtain ⟨a1, rfl, q1⟩ := tupV_sq hs
      obtain ⟨f1, rfl, q2⟩ := tupV_sq (of_decide_eq_true k2)
      obtain ⟨g1, rfl, q3⟩ := tupV_sq (of_decide_eq_true k3)
      rw [of_decide_eq_true k1] at q1
      exact ⟨a1, f1, g1, rfl, q1, q2, q3⟩
    · cases h3
  · cases h
structure Kr (K : PySem.W.Frag) (mg : Str → Option Value) (x : Str) (a : Addr) (l : List (Str × Tm × Tm)) : Prop where
  m : mg x = some (.ref a)
  d : RlsAt K a l
def NK (ys : List Str) : Prop := ∀ y ∈ ys, y ∉ keptS
theorem drop_hd {α : Type} {l r : List α} {n : Nat} {a : α} (h : l.drop n = a :: r) : l[n]? = some a ∧ l.drop (n + 1) = r ∧ n < l.length := by
  have h0 : n < l.length := by
    rcases Nat.lt_or_ge n l.length with z | z
    · exact z
    · rw [List.drop_eq_nil_of_le z] at h
      cases h
  rw [List.drop_eq_getElem_cons h0] at h
  injection h with h1 h2
  exact ⟨by rw [List.getElem?_eq_getElem h0, h1], h2, h0⟩
theorem flats_cons (t : Tm) (r : List Tm) : flats (t :: r) = t.hd :: flats (t.kids ++ r) := by
  show t.flat ++ flats r = _
  rw [t.flat_eq, flats_app]
  rfl
theorem hd_key {ys : List Str} {t : Tm} (h : t.ok ys) : t.hd = kV (keyOf t.hd) := by
  cases t with
  | lf w =>
    rcases h with ⟨y, _, rfl⟩ | ⟨z, rfl, _⟩
    · rfl
    · rfl
  | one y a => rfl
  | two y a b => rfl
  | thr y a b c => rfl
theorem hd_parts {ys : List Str} (hk : NK ys) {t : Tm} (h : t.ok ys) : allParts (keyOf t.hd) = (t.kids.length : Int) := by rw [npw_eq, Tm.npw_hd hk h]
theorem flats_one (t : Tm) : flats [t] = t.flat := List.append_nil _
theorem ok_one {ys : List Str} {t : Tm} (h : t.ok ys) : ∀ x ∈ [t], x.ok ys := fun x hx => by rw [List.mem_singleton.mp hx]; exact h
theorem ok_app {ys : List Str} {t : Tm} {r : List Tm} (h : ∀ x ∈ t :: r, x.ok ys) : ∀ x ∈ t.kids ++ r, x.ok ys := fun x hx => (List.mem_append.mp hx).elim (Tm.ok_kids (h t List.mem_cons_self) x) fun z => h x (List.mem_cons_of_mem _ z)
def PthAt (H : Hp) (v : V) (q : List Int) : Prop := ∃ a, v = .ref a ∧ H a = some (.tup (q.map V.int))
theorem PthAt.same {H H' : Hp} {v : V} {q : List Int} (h : PthAt H v q) (s : Same H H') : PthAt H' v q := let ⟨a, e, h⟩ := h; ⟨a, e, s _ _ h⟩
theorem PthAt.put {H : Hp} {v : V} {q : List Int} {c : Addr} {xs ys : List V} (h : PthAt H v q) (hc : H c = some (.lst xs)) : PthAt (upd H c (.lst ys)) v q := by
  obtain ⟨a, e, h⟩ := h
  exact ⟨a, e, by rw [upd_ne (ne_of h hc (fun z => nomatch z))]; exact h⟩
def PthsAt (H : Hp) (vs : List V) (qs : List (List Int)) : Prop := Paired (PthAt H) vs qs
theorem PthsAt.same {H H' : Hp} {vs : List V} {qs : List (List Int)} (h : PthsAt H vs qs) (s : Same H H') : PthsAt H' vs qs := Paired.mapP h fun _ _ z => z.same s
theorem PthsAt.put {H : Hp} {vs : List V} {qs : List (List Int)} {c : Addr} {xs ys : List V} (h : PthsAt H vs qs) (hc : H c = some (.lst xs)) : PthsAt (upd H c (.lst ys)) vs qs := Paired.mapP h fun _ _ z => z.put hc
/-- paths of trees, each with the path of its place -/
def ndz (st : List (List Int)) (ts : List Tm) : List (List Int) := (st.zip ts).flatMap fun p => (p.2.nds p.1).map (·.1)
theorem ndz_cons (q : List Int) (sr : List (List Int)) (t : Tm) (tr : List Tm) : ndz (q :: sr) (t :: tr) = (t.nds q).map (·.1) ++ ndz sr tr := rfl
theorem ndz_nil : ndz [] [] = [] := rfl
theorem zip_app' {α β : Type} : ∀ {a : List α} {b : List β} {c : List α} {d : List β}, a.length = b.length → (a ++ c).zip (b ++ d) = a.zip b ++ c.zip d
  | [], [], _, _, _ => rfl
  | x :: a, y :: b, c, d, h => by
    show (x, y) :: ((a ++ c).zip (b ++ d)) = (x, y) :: (a.zip b ++ c.zip d)
    rw [zip_app' (Nat.succ.inj h)]
theorem ndz_app {a c : List (List Int)} {b d : List Tm} (h : a.length = b.length) : ndz (a ++ c) (b ++ d) = ndz a b ++ ndz c d := by
  unfold ndz
  rw [zip_app' h, List.flatMap_append]
def kidP (q : List Int) (n : Nat) : List (List Int) := (List.range n).map fun (m : Nat) => q ++ [(m : Int)]
theorem kidP_len (q : List Int) (n : Nat) : (kidP q n).length = n := by unfold kidP; rw [List.length_map, List.length_range]
theorem kidP_mem {q z : List Int} {n : Nat} (h : z ∈ kidP q n) : z.length = q.length + 1 := by
  obtain ⟨m, _, rfl⟩ := List.mem_map.mp h
  rw [List.length_append]
  rfl
theorem nds_kids (t : Tm) (q : List Int) : (t.nds q).map (·.1) = q :: ndz (kidP q t.kids.length) t.kids := by
  cases t with
  | lf w => rfl
  | one y a => exact congrArg (q :: ·) (List.append_nil _).symm
  | two y a b =>
    show q :: (a.nds (q ++ [0]) ++ b.nds (q ++ [1])).map (·.1) = q :: ((a.nds (q ++ [0])).map (·.1) ++ ((b.nds (q ++ [1])).map (·.1) ++ []))
    rw [List.map_append, List.append_nil]
  | thr y a b c =>
    show q :: (a.nds (q ++ [0]) ++ (b.nds (q ++ [1]) ++ c.nds (q ++ [2]))).map (·.1) = q :: ((a.nds (q ++ [0])).map (·.1) ++ ((b.nds (q ++ [1])).map (·.1) ++ ((c.nds (q ++ [2])).map (·.1) ++ [])))
    rw [List.map_append, List.map_append, List.append_nil]
theorem kidP_drop (q : List Int) {n j : Nat} (h : j < n) : (kidP q n).drop (n - (j + 1)) = (q ++ [(n : Int) - 1 - j]) :: (kidP q n).drop (n - j) := by
  have hl : (kidP q n).length = n := by unfold kidP; rw [List.length_map, List.length_range]
  rw [List.drop_eq_getElem_cons (by rw [hl]; lia), show n - (j + 1) + 1 = n - j by lia]
  congr 1
  unfold kidP
  rw [List.getElem_map, List.getElem_range]
  congr 2
  lia
theorem flats_len (ts : List Tm) : ts.length ≤ (flats ts).length := by
  induction ts with
  | nil => exact Nat.le_refl _
  | cons t r ih =>
    show r.length + 1 ≤ (t.flat ++ flats r).length
    rw [List.length_append]
    have := t.flat_pos
    lia
structure BndAt (H : Hp) (d : Addr) (τ : List (Str × Tm)) : Prop where
  ex : ∃ kvs, H d = some (.dK kvs) ∧ kvs.length ≤ τ.length ∧ (∀ p ∈ τ, ∃ a, valV kvs (.inr p.1) = some (.ref a) ∧ H a = some (.tup p.2.flat)) ∧ ∀ y, y ∉ τ.map (·.1) → valV kvs (.inr y) = none
/-- a word of a form -/
theorem form_word {F : Tm} : F.ok xyz → ∀ w ∈ F.flat, (∃ y ∈ xyz, w = .str y ∧ nmB w = true ∧ y.length ≤ 100) ∨ (nmB w = false ∧ (∀ y, w = .str y → y ∈ keptS) ∧ ((∃ z, w = .int z) ∨ ∃ y, w = .str y ∧ y.length ≤ 100)) := by
  have hx : ∀ y ∈ xyz, nmB (.str y) = true ∧ y.length ≤ 100 := by decide +kernel
  have hs : ∀ y ∈ sumW, nmB (.str y) = false ∧ y.length ≤ 100 := by decide +kernel
  have wd : ∀ y ∈ sumW, (∃ z ∈ xyz, V.str y = .str z ∧ nmB (.str y) = true ∧ z.length ≤ 100) ∨ (nmB (.str y) = false ∧ (∀ z, V.str y = .str z → z ∈ keptS) ∧ ((∃ z, V.str y = .int z) ∨ ∃ z, V.str y = .str z ∧ z.length ≤ 100)) := fun y hy => .inr ⟨(hs y hy).1, fun z e => by injection e with e; rw [← e]; exact sum_kept y hy, .inr ⟨y, rfl, (hs y hy).2⟩⟩
  induction F with
  | lf w =>
    intro h x hxm
    rw [List.mem_singleton.mp hxm]
    rcases h with ⟨y, hy, rfl⟩ | ⟨z, rfl, _⟩
    · exact .inl ⟨y, hy, rfl, (hx y hy).1, (hx y hy).2⟩
    · exact .inr ⟨rfl, (fun y e => nomatch e), .inl ⟨z, rfl⟩⟩
  | one y a ih =>
    intro h x hxm
    rcases List.mem_cons.mp hxm with e | e
    · rw [e]; exact wd y h.1.1
    · exact ih h.2 x e
  | two y a b ia ib =>
    intro h x hxm
    rcases List.mem_cons.mp hxm with e | e
    · rw [e]; exact wd y h.1.1
    · exact (List.mem_append.mp e).elim (ia h.2.1 x) (ib h.2.2 x)
  | thr y a b c ia ib ic =>
    intro h x hxm
    rcases List.mem_cons.mp hxm with e | e
    · rw [e]; exact wd y h.1.1
    · exact (List.mem_append.mp e).elim (ia h.2.1 x) fun e => (List.mem_append.mp e).elim (ib h.2.2.1 x) (ic h.2.2.2 x)
/-- words are texts and whole numbers -/
def SI (w : V) : Prop := (∃ z, w = .int z) ∨ ∃ y, w = .str y
theorem SI.flat {w : V} (h : SI w) : flatV w = true := by rcases h with ⟨z, rfl⟩ | ⟨y, rfl⟩ <;> rfl
theorem si_all {xs : List V} (h : ∀ w ∈ xs, SI w) : xs.all flatV = true := List.all_eq_true.mpr fun w hw => (h w hw).flat
theorem SI.scal {w x : V} (h : SI w) (g : SI x) : scal w x = true := by rcases h with ⟨z, rfl⟩ | ⟨y, rfl⟩ <;> rcases g with ⟨z', rfl⟩ | ⟨y', rfl⟩ <;> rfl
theorem SI.eq {w x : V} (h : SI w) (g : SI x) : eqV w x = decide (w = x) := by
  rcases h with ⟨z, rfl⟩ | ⟨y, rfl⟩ <;> rcases g with ⟨z', rfl⟩ | ⟨y', rfl⟩
  · rw [Bool.eq_iff_iff]; show (z == z') = true ↔ _; simp
  · rfl
  · rfl
  · rw [Bool.eq_iff_iff]; show (y == y') = true ↔ _; simp
theorem eqvs_si : ∀ {xs ys : List V}, (∀ w ∈ xs, SI w) → (∀ w ∈ ys, SI w) → eqvs xs ys = decide (xs = ys)
  | [], [], _, _ => rfl
  | [], y :: ys, _, _ => rfl
  | x :: xs, [], _, _ => rfl
  | x :: xs, y :: ys, h, g => by
    show (eqV x y && eqvs xs ys) = _
    rw [(h x List.mem_cons_self).eq (g y List.mem_cons_self), eqvs_si (fun w hw => h w (List.mem_cons_of_mem _ hw)) fun w hw => g w (List.mem_cons_of_mem _ hw), Bool.eq_iff_iff]
    simp
theorem Tm.si {ys : List Str} (t : Tm) : t.ok ys → ∀ w ∈ t.flat, SI w := by
  induction t with
  | lf w =>
    intro h x hx
    rw [List.mem_singleton.mp hx]
    rcases h with ⟨y, _, rfl⟩ | ⟨z, rfl, _⟩
    · exact .inr ⟨y, rfl⟩
    · exact .inl ⟨z, rfl⟩
  | one y a ih => intro h x hx; exact (List.mem_cons.mp hx).elim (fun e => .inr ⟨y, e⟩) (ih h.2 x)
  | two y a b ia ib => intro h x hx; exact (List.mem_cons.mp hx).elim (fun e => .inr ⟨y, e⟩) fun e => (List.mem_append.mp e).elim (ia h.2.1 x) (ib h.2.2 x)
  | thr y a b c ia ib ic => intro h x hx; exact (List.mem_cons.mp hx).elim (fun e => .inr ⟨y, e⟩) fun e => (List.mem_append.mp e).elim (ia h.2.1 x) fun e => (List.mem_append.mp e).elim (ib h.2.2.1 x) (ic h.2.2.2 x)
theorem sl_of {K : PySem.W.Frag} {H : Hp} {a : Addr} {xs : List V} {lo hi : Option Int} {Q : VK} (h : H a = some (.tup xs)) (q : ∀ p H', H' p = some (.tup (cutV xs lo hi)) → Same H H' → Q (.ref p) H') : rSlT K (.ref a) lo hi H Q ∨ rSlW K (.ref a) lo hi H Q := by
  by_cases w : HT.sIx xs.length 0 lo = 0 ∧ HT.sIx xs.length xs.length hi = xs.length
  · refine .inr ⟨a, xs, rfl, SqT.of h, w, q a H ?_ (Same.refl H)⟩
    rw [h]
    unfold cutV
    rw [w.1, w.2, List.drop_zero, Nat.sub_zero, List.take_length]
  · exact .inl ⟨a, xs, rfl, SqT.of h, w, fun p hp => q p _ upd_same (same_upd hp)⟩
theorem cut_part {u s v : List V} {j k : Int} (hj : j = (u.length : Int)) (hk : k = ((u.length + s.length : Nat) : Int)) : cutV (u ++ (s ++ v)) (some j) (some k) = s := by
  subst hj hk
  unfold cutV
  rw [HT.sIx_nat, HT.sIx_nat, List.length_append, List.length_append, Nat.min_eq_left (by lia), Nat.min_eq_left (by lia), List.drop_left, show u.length + s.length - u.length = s.length by lia, List.take_left]
theorem cut_head {u v : List V} {k : Int} (hk : k = (u.length : Int)) : cutV (u ++ v) none (some k) = u := by
  subst hk
  unfold cutV
  rw [HT.sIx_nat, HT.sIx_none, List.length_append, Nat.min_eq_left (by lia), List.drop_zero, Nat.sub_zero, List.take_left]
theorem cut_tail {u v : List V} {k : Int} (hk : k = (u.length : Int)) : cutV (u ++ v) (some k) none = v := by
  subst hk
  unfold cutV
  rw [HT.sIx_nat, HT.sIx_none, List.length_append, Nat.min_eq_left (by lia), List.drop_left, show u.length + v.length - u.length = v.length by lia, List.take_length]
/-- the dict with one name more -/
theorem BndAt.add {H : Hp} {d : Addr} {τ : List (Str × Tm)} {kvs : List (Key × V)} {y : Str} {a : Addr} {x : Tm} (hd : H d = some (.dK kvs)) (hl : kvs.length ≤ τ.length) (h1 : ∀ p ∈ τ, ∃ a, valV kvs (.inr p.1) = some (.ref a) ∧ H a = some (.tup p.2.flat)) (h2 : ∀ y, y ∉ τ.map (·.1) → valV kvs (.inr y) = none)
    (ha : H a = some (.tup x.flat)) (hy : y ∉ τ.map (·.1)) : BndAt (upd H d (.dK (putK kvs (.inr y) (.ref a)))) d (τ ++ [(y, x)]) := by
  have ne : ∀ {b : Addr} {xs : List V}, H b = some (.tup xs) → b ≠ d := fun h => ne_of h hd (fun z => nomatch z)
  refine ⟨_, upd_same, ?_, fun p hp => ?_, fun z hz => ?_⟩
  · unfold putK
    split
    · rw [List.length_map, List.length_append]; lia
    · rw [List.length_append, List.length_append]
      show kvs.length + 1 ≤ τ.length + 1
      lia
  · rcases List.mem_append.mp hp with m | m
    · obtain ⟨b, e1, e2⟩ := h1 p m
      refine ⟨b, ?_, by rw [upd_ne (ne e2)]; exact e2⟩
      rw [valV_put, if_neg fun z => hy (by rw [← Sum.inr.inj z]; exact List.mem_map.mpr ⟨p, m, rfl⟩)]
      exact e1
    · rw [List.mem_singleton.mp m]
      exact ⟨a, by rw [valV_put, if_pos rfl], by rw [upd_ne (ne ha)]; exact ha⟩
  · rw [List.map_append] at hz
    rw [valV_put, if_neg fun e => hz (List.mem_append_right _ (List.mem_singleton.mpr (Sum.inr.inj e)))]
    exact h2 z fun m => hz (List.mem_append_left _ m)
theorem BndAt.same {H H' : Hp} {d : Addr} {τ : List (Str × Tm)} (h : BndAt H d τ) (s : Same H H') : BndAt H' d τ := by
  obtain ⟨kvs, e, hl, h1, h2⟩ := h.ex
  exact ⟨kvs, s _ _ e, hl, fun p hp => let ⟨a, e1, e2⟩ := h1 p hp; ⟨a, e1, s _ _ e2⟩, h2⟩
theorem nmsT_of {G : Tm} : G.ok xyz → ∀ y, V.str y ∈ G.flat → y ∉ keptS → y ∈ G.nms := by
  have kw : ∀ {y x : Str}, x ∈ sumW → V.str y = .str x → y ∉ keptS → False := fun {y x} hx e hy => by
    injection e with e
    exact hy (by rw [e]; exact sum_kept x hx)
  induction G with
  | lf w =>
    intro h y hy hk
    have e := List.mem_singleton.mp hy
    subst e
    exact List.mem_singleton.mpr rfl
  | one x a ih => intro h y hy hk; exact (List.mem_cons.mp hy).elim (fun e => (kw h.1.1 e hk).elim) fun e => ih h.2 y e hk
  | two x a b ia ib => intro h y hy hk; exact (List.mem_cons.mp hy).elim (fun e => (kw h.1.1 e hk).elim) fun e => (List.mem_append.mp e).elim (fun e => List.mem_append_left _ (ia h.2.1 y e hk)) fun e => List.mem_append_right _ (ib h.2.2 y e hk)
  | thr x a b c ia ib ic => intro h y hy hk; exact (List.mem_cons.mp hy).elim (fun e => (kw h.1.1 e hk).elim) fun e => (List.mem_append.mp e).elim (fun e => List.mem_append_left _ (ia h.2.1 y e hk)) fun e => (List.mem_append.mp e).elim (fun e => List.mem_append_right _ (List.mem_append_left _ (ib h.2.2.1 y e hk))) fun e => List.mem_append_right _ (List.mem_append_right _ (ic h.2.2.2 y e hk))
theorem fm_len {σ : Str → Tm} : ∀ l : List V, (∀ w ∈ l, (fwd σ w).length ≤ 300) → (l.flatMap (fwd σ)).length ≤ l.length * 300
  | [], _ => Nat.zero_le _
  | w :: l, h => by
    rw [List.flatMap_cons, List.length_append, List.length_cons]
    have := fm_len l fun x hx => h x (List.mem_cons_of_mem _ hx)
    have := h w List.mem_cons_self
    lia
open Classical in
noncomputable def stepsT (t : Tm) : List (List Int × Str) := (t.nds []).flatMap fun p => (turns.filter fun e => decide (Fit e p.2)).map fun e => (p.1, e.1)
def StpAt (H : Hp) (v : V) (x : List Int × Str) : Prop := ∃ a b, v = .ref a ∧ H a = some (.tup [.ref b, .str x.2]) ∧ H b = some (.tup (x.1.map V.int))
theorem StpAt.same {H H' : Hp} {v : V} {x : List Int × Str} (h : StpAt H v x) (s : Same H H') : StpAt H' v x := let ⟨a, b, e, h1, h2⟩ := h; ⟨a, b, e, s _ _ h1, s _ _ h2⟩
theorem StpAt.put {H : Hp} {v : V} {x : List Int × Str} {c : Addr} {xs ys : List V} (h : StpAt H v x) (hc : H c = some (.lst xs)) : StpAt (upd H c (.lst ys)) v x := by
  obtain ⟨a, b, e, h1, h2⟩ := h
  exact ⟨a, b, e, by rw [upd_ne (ne_of h1 hc (fun z => nomatch z))]; exact h1, by rw [upd_ne (ne_of h2 hc (fun z => nomatch z))]; exact h2⟩
def StpsAt (H : Hp) (vs : List V) (xs : List (List Int × Str)) : Prop := Paired (StpAt H) vs xs
theorem StpsAt.same {H H' : Hp} {vs : List V} {xs : List (List Int × Str)} (h : StpsAt H vs xs) (s : Same H H') : StpsAt H' vs xs := Paired.mapP h fun _ _ z => z.same s
theorem StpsAt.put {H : Hp} {vs : List V} {zs : List (List Int × Str)} {c : Addr} {xs ys : List V} (h : StpsAt H vs zs) (hc : H c = some (.lst xs)) : StpsAt (upd H c (.lst ys)) vs zs := Paired.mapP h fun _ _ z => z.put hc
theorem paired_app {α β : Type} {F : α → β → Prop} : ∀ {a : List α} {b : List β} {c : List α} {d : List β}, Paired F a b → Paired F c d → Paired F (a ++ c) (b ++ d)
  | _, _, _, _, .nil, h => h
  | _, _, _, _, .cons x t, h => .cons x (paired_app t h)
theorem paired_getL {α β : Type} {F : α → β → Prop} : ∀ {a : List α} {b : List β} {i : Nat} {x : α}, Paired F a b → a[i]? = some x → ∃ y, b[i]? = some y ∧ F x y
  | _, _, i, y, .nil, h => by simp at h
  | _, _, 0, y, .cons x t, h => ⟨_, rfl, by have := Option.some.inj (show some _ = some y from h); subst this; exact x⟩
  | _, _, i + 1, y, .cons x t, h => by
    obtain ⟨z, h1, h2⟩ := paired_getL (i := i) (x := y) t (by simpa using h)
    exact ⟨z, by simpa using h1, h2⟩
theorem turns_fl : ∀ e ∈ turns, e.2.1.flat.length ≤ 20 ∧ e.2.2.flat.length ≤ 20 := by
  have h : (turns.all fun e => decide (e.2.1.flat.length ≤ 20) && decide (e.2.2.flat.length ≤ 20)) = true := by decide +kernel
  intro e he
  obtain ⟨h1, h2⟩ := Bool.and_eq_true_iff.mp (List.all_eq_true.mp h e he)
  exact ⟨of_decide_eq_true h1, of_decide_eq_true h2⟩
open Classical in
noncomputable def fitsT (x : List Int × Tm) (l : List (Str × Tm × Tm)) : List (List Int × Str) := (l.filter fun e => decide (Fit e x.2)).map fun e => (x.1, e.1)
open Classical in
theorem fitsT_snoc (x : List Int × Tm) (l : List (Str × Tm × Tm)) (e : Str × Tm × Tm) : (Fit e x.2 → fitsT x (l ++ [e]) = fitsT x l ++ [(x.1, e.1)]) ∧ (¬ Fit e x.2 → fitsT x (l ++ [e]) = fitsT x l) := by
  unfold fitsT
  rw [List.filter_append, List.map_append]
  constructor
  · intro h
    rw [List.filter_cons_of_pos (by rw [decide_eq_true_iff]; exact h)]
    rfl
  · intro h
    rw [List.filter_cons_of_neg (by rw [decide_eq_true_iff]; exact h)]
    simp
theorem stepsT_eq (t : Tm) : stepsT t = (t.nds []).flatMap fun x => fitsT x turns := rfl
theorem take_snoc' {α : Type} {l : List α} {i : Nat} {x : α} (h : l[i]? = some x) : l.take (i + 1) = l.take i ++ [x] := by rw [List.take_add_one, h]; rfl
theorem sub_facts {ys : List Str} {σ : Str → Tm} (F : Tm) : ∀ y ∈ F.nms, (σ y).flat.length ≤ (F.sub σ).flat.length ∧ ((F.sub σ).ok ys → (σ y).ok ys) ∧ ∀ τ : Str → Tm, F.sub σ = F.sub τ → σ y = τ y := by
  induction F with
  | lf w =>
    intro y hy
    cases w with
    | str x =>
      have e : y = x := List.mem_singleton.mp hy
      subst e
      exact ⟨Nat.le_refl _, fun h => h, fun τ h => h⟩
    | _ => cases hy
  | one x a ih =>
    intro y hy
    obtain ⟨h1, h2, h3⟩ := ih y hy
    refine ⟨Nat.le_succ_of_le h1, fun h => h2 h.2, fun τ h => h3 τ ?_⟩
    injection h
  | two x a b ia ib =>
    intro y hy
    have el : ((Tm.two x a b).sub σ).flat.length = (a.sub σ).flat.length + (b.sub σ).flat.length + 1 := by
      show ((a.sub σ).flat ++ (b.sub σ).flat).length + 1 = _
      rw [List.length_append]
    rcases List.mem_append.mp hy with hy | hy
    · obtain ⟨h1, h2, h3⟩ := ia y hy
      refine ⟨by lia, fun h => h2 h.2.1, fun τ h => h3 τ ?_⟩
      injection h
    · obtain ⟨h1, h2, h3⟩ := ib y hy
      refine ⟨by lia, fun h => h2 h.2.2, fun τ h => h3 τ ?_⟩
      injection h
  | thr x a b c ia ib ic =>
    intro y hy
    have el : ((Tm.thr x a b c).sub σ).flat.length = (a.sub σ).flat.length + ((b.sub σ).flat.length + (c.sub σ).flat.length) + 1 := by
      show ((a.sub σ).flat ++ ((b.sub σ).flat ++ (c.sub σ).flat)).length + 1 = _
      rw [List.length_append, List.length_append]
    rcases List.mem_append.mp hy with hy | hy
    · obtain ⟨h1, h2, h3⟩ := ia y hy
      refine ⟨by lia, fun h => h2 h.2.1, fun τ h => h3 τ ?_⟩
      injection h
    rcases List.mem_append.mp hy with hy | hy
    · obtain ⟨h1, h2, h3⟩ := ib y hy
      refine ⟨by lia, fun h => h2 h.2.2.1, fun τ h => h3 τ ?_⟩
      injection h
    · obtain ⟨h1, h2, h3⟩ := ic y hy
      refine ⟨by lia, fun h => h2 h.2.2.2, fun τ h => h3 τ ?_⟩
      injection h
/-- the rules of a name -/
def rls (r : Str) (l : List (Str × Tm × Tm)) : List (Str × Tm × Tm) := l.filter fun e => decide (e.1 = r)
theorem rls_snoc (r : Str) (l : List (Str × Tm × Tm)) (e : Str × Tm × Tm) : rls r (l ++ [e]) = rls r l ++ (if e.1 = r then [e] else []) := by
  unfold rls
  rw [List.filter_append]
  congr 1
  by_cases h : e.1 = r
  · rw [if_pos h]; simp [h]
  · rw [if_neg h]; simp [h]
/-- one step: the first rule of that name that fits the part at that path -/
def Stp (tm : Tm) (q : List Int) (r : Str) (tm' : Tm) : Prop := ∃ (i : Nat) (sm : Tm) (m : Nat) (e : Str × Tm × Tm) (σ : Str → Tm) (u v : List V) (f : Tm → Tm), (tm.nds [])[i]? = some (q, sm) ∧ u.length = i ∧ Ctx tm sm u v f ∧ (rls r turns)[m]? = some e ∧ (∀ m' e', m' < m → (rls r turns)[m']? = some e' → ¬ Fit e' sm) ∧ e.2.1.sub σ = sm ∧ tm' = f (e.2.2.sub σ)
theorem rls_mem {r : Str} {m : Nat} {e : Str × Tm × Tm} (h : (rls r turns)[m]? = some e) : e ∈ turns := (List.mem_filter.mp (List.mem_of_getElem? h)).1
theorem Stp.ok {ys : List Str} {tm tm' : Tm} {q : List Int} {r : Str} (h : Stp tm q r tm') (ht : tm.ok ys) : tm'.ok ys := by
  obtain ⟨i, sm, m, e, σ, u, v, f, hn, hu, C, hm, hno, hσ, rfl⟩ := h
  have he := turns_ok (rls_mem hm)
  have hs := (C.ok ys ht).1
  rw [← hσ] at hs
  exact (C.ok ys ht).2 _ (Tm.sub_ok _ he.2.1 fun y hy => (sub_facts (ys := ys) e.2.1 y (he.2.2 y hy)).2.1 hs)
theorem Stp.len {tm tm' : Tm} {q : List Int} {r : Str} (h : Stp tm q r tm') : tm'.flat.length ≤ 2 * tm.flat.length + 2 := by
  obtain ⟨i, sm, m, e, σ, u, v, f, hn, hu, C, hm, hno, hσ, rfl⟩ := h
  have h1 := turns_len e (rls_mem hm) σ
  rw [hσ] at h1
  have h2 := congrArg List.length C.here
  rw [C.put, List.length_append, List.length_append]
  rw [List.length_append, List.length_append] at h2
  lia
theorem nodup_at {α : Type} {l : List α} (h : l.Nodup) {i j : Nat} {x : α} (hi : l[i]? = some x) (hj : l[j]? = some x) : i = j := by
  obtain ⟨hi1, hi2⟩ := List.getElem?_eq_some_iff.mp hi
  obtain ⟨hj1, hj2⟩ := List.getElem?_eq_some_iff.mp hj
  exact (List.getElem_inj h).mp (hi2.trans hj2.symm)
theorem nds_at {tm : Tm} {i : Nat} {q : List Int} {sm : Tm} (h : (tm.nds [])[i]? = some (q, sm)) : ((tm.nds []).map (·.1))[i]? = some q := by rw [List.getElem?_map, h]; rfl
theorem Stp.det {tm a b : Tm} {q : List Int} {r : Str} (h : Stp tm q r a) (g : Stp tm q r b) : a.flat = b.flat := by
  obtain ⟨i, sm, m, e, σ, u, v, f, hn, hu, C, hm, hno, hσ, rfl⟩ := h
  obtain ⟨i', sm', m', e', σ', u', v', f', hn', hu', C', hm', hno', hσ', rfl⟩ := g
  have ei := nodup_at (tm.nds_nd []) (nds_at hn) (nds_at hn')
  subst ei
  rw [hn] at hn'
  have es : sm = sm' := congrArg Prod.snd (Option.some.inj hn')
  subst es
  have em : m = m' := by
    rcases Nat.lt_trichotomy m m' with z | z | z
    · exact absurd ⟨σ, hσ⟩ (hno' m e z hm)
    · exact z
    · exact absurd ⟨σ', hσ'⟩ (hno m' e' z hm')
  subst em
  rw [hm] at hm'
  cases hm'
  have ho := turns_ok (rls_mem hm)
  have eg : e.2.2.sub σ = e.2.2.sub σ' := Tm.sub_congr _ fun y hy => (sub_facts (ys := []) e.2.1 y (ho.2.2 y hy)).2.2 σ' (hσ.trans hσ'.symm)
  have h1 := C.here
  rw [C'.here] at h1
  obtain ⟨e1, e2⟩ := List.append_inj h1 (hu'.trans hu.symm)
  have e3 := List.append_cancel_left e2
  rw [C.put, C'.put, eg, e1, e3]
open Classical in
/-- it can be done -/
theorem stp_some {tm : Tm} {q : List Int} {r : Str} (h : (q, r) ∈ stepsT tm) : ∃ (i : Nat) (sm : Tm), (tm.nds [])[i]? = some (q, sm) ∧ ∃ (m : Nat) (e : Str × Tm × Tm), (rls r turns)[m]? = some e ∧ Fit e sm := by
  rw [stepsT_eq] at h
  obtain ⟨⟨q', sm⟩, hm, h⟩ := List.mem_flatMap.mp h
  obtain ⟨e, he, hq⟩ := List.mem_map.mp h
  obtain ⟨h1, h2⟩ := List.mem_filter.mp he
  have eq1 : q' = q := congrArg Prod.fst hq
  have eq2 : e.1 = r := congrArg Prod.snd hq
  subst eq1
  obtain ⟨i, hi⟩ := List.getElem?_of_mem hm
  obtain ⟨m, hm⟩ := List.getElem?_of_mem (List.mem_filter.mpr ⟨h1, decide_eq_true eq2⟩ : e ∈ rls r turns)
  exact ⟨i, sm, hi, m, e, hm, of_decide_eq_true h2⟩
theorem map_int_inj {a b : List Int} : a.map V.int = b.map V.int ↔ a = b := by
  constructor
  · intro h
    have := congrArg (List.map fun | V.int z => z | _ => 0) h
    rw [List.map_map, List.map_map] at this
    have e : ∀ l : List Int, l.map ((fun | V.int z => z | _ => 0) ∘ V.int) = l := fun l => (List.map_congr_left fun b _ => rfl).trans (List.map_id l)
    rw [e, e] at this
    exact this
  · intro h; rw [h]
theorem eqB_pth {H : Hp} {n : Nat} {u : V} {q r : List Int} {c : Addr} (h : PthAt H u q) (hc : H c = some (.tup (r.map V.int))) : EqB H (n + 1) u (.ref c) (decide (q = r)) := by
  obtain ⟨a, rfl, ha⟩ := h
  have si : ∀ l : List Int, ∀ w ∈ l.map V.int, SI w := fun l w hw => by
    obtain ⟨z, _, rfl⟩ := List.mem_map.mp hw
    exact .inl ⟨z, rfl⟩
  refine .inr ⟨a, c, _, _, eqJ (q.map V.int) (r.map V.int), rfl, rfl, ha, hc, ?_, fun j x y hx hy => ?_⟩
  · rw [eqvs_range, eqvs_si (si q) (si r), decide_eq_decide]
    exact map_int_inj.symm
  · have f1 := (si q x (List.mem_of_getElem? hx)).flat
    have f2 := (si r y (List.mem_of_getElem? hy)).flat
    have e : eqJ (q.map V.int) (r.map V.int) j = eqV x y := by
      unfold eqJ
      rw [hx, hy]
    rw [e]
    cases n with
    | zero => exact ⟨f1, f2, rfl⟩
    | succ n => exact .inl ⟨f1, f2, rfl⟩
inductive Chn : Tm → List (List Int × Str) → Tm → Prop
  | nil {tm : Tm} : Chn tm [] tm
  | cons {tm t1 t2 : Tm} {x : List Int × Str} {c : List (List Int × Str)} : x ∈ stepsT tm → tm.flat.length ≤ 300 → Stp tm x.1 x.2 t1 → Chn t1 c t2 → Chn tm (x :: c) t2
theorem atI_mem {l : List Str} {i : Int} (h0 : 0 ≤ i) (h1 : i < (l.length : Int)) : ∃ y, y ∈ l ∧ atI (l.map V.str) i = some (.str y) := by
  obtain ⟨j, rfl⟩ : ∃ j : Nat, i = (j : Int) := ⟨i.toNat, by lia⟩
  have hj : j < l.length := by lia
  exact ⟨l[j], List.getElem_mem hj, atI_nat (by rw [List.getElem?_map, List.getElem?_eq_getElem hj]; rfl)⟩
theorem sqL_same {K : PySem.W.Frag} {H H' : Hp} {a : Addr} {xs : List V} (h : SqL K H a xs) (s : Same H H') : SqL K H' a xs := by
  rcases h with h | h
  · rcases h with h | ⟨u, h⟩
    · exact .inl (.inl (s _ _ h))
    · exact .inl (.inr ⟨u, s _ _ h⟩)
  · exact .inr h
def manyN (ns : List Int) : Nat := max 1 ns.length
def cellN (ns : List Int) (k : Nat) : Int := (ns ++ [0]).getD (k % manyN ns) 0
def iterD (z : Int) : Nat → Int
  | 0 => z
  | n + 1 => iterD z n / 1000003
def mixA (ns : List Int) (k : Nat) : Int := (cellN ns k % 2147483629 + 17 + 68209 * ((k : Int) / (manyN ns : Int))) * 47791 % 2147483629
def mixB (ns : List Int) (k : Nat) : Int := mixA ns k * mixA ns k % 2147483587
def drw (ns : List Int) (k : Nat) : Int := if cellN ns k ≥ 10 ^ 18 ∨ cellN ns k ≤ -10 ^ 18 then iterD (cellN ns k) (min (k / manyN ns) 60) % 1000003 else mixB ns k * 38839 % 2147483579
theorem drw_bd (ns : List Int) (k : Nat) : 0 ≤ drw ns k ∧ drw ns k < 2147483629 := by
  unfold drw
  split
  · have h1 := Int.emod_nonneg (iterD (cellN ns k) (min (k / manyN ns) 60)) (b := 1000003) (by decide)
    have h2 := Int.emod_lt_of_pos (iterD (cellN ns k) (min (k / manyN ns) 60)) (b := 1000003) (by decide)
    lia
  · have h1 := Int.emod_nonneg (mixB ns k * 38839) (b := 2147483579) (by decide)
    have h2 := Int.emod_lt_of_pos (mixB ns k * 38839) (b := 2147483579) (by decide)
    lia
def lowAt (z : Int) : Nat := (atI lowS.cps.toList (z % 26)).getD 0
theorem lowAt_ok (z : Int) : Low (lowAt z) ∧ atI lowS.cps.toList (z % 26) = some (lowAt z) := by
  obtain ⟨c, hc, e⟩ := low_at (i := z % 26) (Int.emod_nonneg _ (by decide)) (Int.emod_lt_of_pos _ (by decide))
  unfold lowAt
  rw [e]
  exact ⟨hc, rfl⟩
def padN (ns : List Int) : Nat := lowAt (drw ns 0)
def plcN (ns : List Int) : Nat := (drw ns 1 % 7).toNat
def talN (ns : List Int) : Nat := (drw ns 2 % (7 - drw ns 1 % 7)).toNat
def wrdL (ns : List Int) (i : Nat) : List Nat := List.replicate (plcN ns) (padN ns) ++ [lowAt ((i : Int) + drw ns 3)] ++ List.replicate (talN ns) (padN ns)
def wrdM (ns : List Int) (i : Nat) : List Nat := if i % 2 = 1 ∧ (wrdL ns i).length < 7 then wrdL ns i ++ [padN ns] else wrdL ns i
def wrdN (ns : List Int) (i : Nat) : Str := ⟨(wrdM ns i ++ [120]).toArray⟩
theorem wrdL_len (ns : List Int) (i : Nat) : (wrdL ns i).length = plcN ns + 1 + talN ns := by
  unfold wrdL
  rw [List.length_append, List.length_append, List.length_replicate, List.length_replicate]
  rfl
theorem plc_bd (ns : List Int) : plcN ns + talN ns ≤ 6 := by
  unfold plcN talN
  have h1 := Int.emod_nonneg (drw ns 1) (b := 7) (by decide)
  have h2 := Int.emod_lt_of_pos (drw ns 1) (b := 7) (by decide)
  have h3 := Int.emod_nonneg (drw ns 2) (b := 7 - drw ns 1 % 7) (by lia)
  have h4 := Int.emod_lt_of_pos (drw ns 2) (b := 7 - drw ns 1 % 7) (by lia)
  lia
theorem kept_x : ∀ y ∈ keptS, y.cps.toList.getLast? ≠ some 120 := by decide +kernel
theorem wrd_ok (ns : List Int) (i : Nat) : NmS (wrdN ns i) := by
  have hb := plc_bd ns
  have hL : ∀ c ∈ wrdL ns i, Low c := fun c hc => by
    unfold wrdL at hc
    rcases List.mem_append.mp hc with z | z
    · rcases List.mem_append.mp z with z | z
      · rw [(List.mem_replicate.mp z).2]; exact (lowAt_ok _).1
      · rw [List.mem_singleton.mp z]; exact (lowAt_ok _).1
    · rw [(List.mem_replicate.mp z).2]; exact (lowAt_ok _).1
  have hM : (∀ c ∈ wrdM ns i, Low c) ∧ (wrdM ns i).length ≤ 7 := by
    have hl := wrdL_len ns i
    unfold wrdM
    split
    · rename_i h
      refine ⟨fun c hc => (List.mem_append.mp hc).elim (hL c) fun z => by rw [List.mem_singleton.mp z]; exact (lowAt_ok _).1, ?_⟩
      rw [List.length_append]
      show _ + 1 ≤ 7
      lia
    · exact ⟨hL, by lia⟩
  have hl : (wrdN ns i).length = (wrdM ns i).length + 1 := by
    rw [len_signs]
    show ((wrdM ns i ++ [120]).toArray.toList).length = _
    rw [List.length_append]
    rfl
  refine ⟨⟨⟨by lia, by lia⟩, fun c hc => ?_⟩, fun hk => kept_x _ hk ?_⟩
  · have hc' : c ∈ wrdM ns i ++ [120] := hc
    rcases List.mem_append.mp hc' with z | z
    · exact hM.1 c z
    · rw [List.mem_singleton.mp z]; decide +kernel
  · show (wrdM ns i ++ [120]).getLast? = some 120
    rw [List.getLast?_concat]
def namesN (ns : List Int) (m : Nat) : List Str := (List.range m).map fun i => wrdN ns i
theorem parts_none {y : Str} (h : y ∉ sumW) : partsS y = 0 := by
  unfold partsS
  have e : sumT.find? (fun p => decide (p.1 = y)) = none := by
    rw [List.find?_eq_none]
    intro p hp hq
    exact h (by rw [← of_decide_eq_true hq]; exact List.mem_map_of_mem hp)
  rw [e]
  rfl
def one4 : List Str := ["not", "neg", "twice", "low"]
def two5 : List Str := ["and", "or", "odd", "add", "sub"]
theorem one4_ok : ∀ y ∈ one4, partsS y = 1 := by decide +kernel
theorem two5_ok : ∀ y ∈ two5, partsS y = 2 := by decide +kernel
theorem pick_ok : partsS "pick" = 3 := by decide +kernel
theorem sum_split : ∀ y ∈ sumW, y ∈ one4 ∨ y ∈ two5 ∨ y = "pick" := by decide +kernel
def w12 : List Str := ["and", "or", "odd", "add", "sub", "not", "neg", "twice", "low", "pick", "not", "add"]
theorem w12_ok : ∀ y ∈ w12, y ∈ sumW ∧ (y = "pick" ∨ partsS y = 1 ∨ partsS y = 2) := by decide +kernel
theorem pw4 : ∀ d, d ≤ 8 → 4 ^ d ≤ 65536 := by decide +kernel
theorem big4 {n : Nat} (h : n ≤ 400000) : n ≤ sizeLine := Nat.le_trans h (by decide)
def TrAt (H : Hp) (v : V) (t : Tm) : Prop := ∃ a, v = .ref a ∧ H a = some (.tup t.flat)
theorem TrAt.same {H H' : Hp} {v : V} {t : Tm} (h : TrAt H v t) (s : Same H H') : TrAt H' v t := let ⟨a, e, h⟩ := h; ⟨a, e, s _ _ h⟩
theorem TrAt.put {H : Hp} {v : V} {t : Tm} {c : Addr} {xs ys : List V} (h : TrAt H v t) (hc : H c = some (.lst xs)) : TrAt (upd H c (.lst ys)) v t := by
  obtain ⟨a, e, h⟩ := h
  exact ⟨a, e, by rw [upd_ne (ne_of h hc (fun z => nomatch z))]; exact h⟩
def TrsAt (H : Hp) (vs : List V) (ts : List Tm) : Prop := Paired (TrAt H) vs ts
theorem TrsAt.same {H H' : Hp} {vs : List V} {ts : List Tm} (h : TrsAt H vs ts) (s : Same H H') : TrsAt H' vs ts := Paired.mapP h fun _ _ z => z.same s
theorem TrsAt.put {H : Hp} {vs : List V} {ts : List Tm} {c : Addr} {xs ys : List V} (h : TrsAt H vs ts) (hc : H c = some (.lst xs)) : TrsAt (upd H c (.lst ys)) vs ts := Paired.mapP h fun _ _ z => z.put hc
theorem hd_partsV {ys : List Str} (hk : NK ys) {t : Tm} (h : t.ok ys) : partsV t.hd = t.kids.length := by
  cases t with
  | lf w =>
    rcases h with ⟨y, hy, rfl⟩ | ⟨z, rfl, _⟩
    · exact parts_name (hk y hy)
    · rfl
  | one y a => exact h.1.2
  | two y a b => exact h.1.2
  | thr y a b c => exact h.1.2
theorem hd_si {ys : List Str} {t : Tm} (h : t.ok ys) : SI t.hd := t.si h _ (by rw [t.flat_eq]; exact List.mem_cons_self)
theorem seq0 (a : V) (r : List V) : seqIndex? 0 (a :: r).length = some 0 := by
  unfold seqIndex?
  simp
theorem kids_lt {t k : Tm} (h : k ∈ t.kids) : k.flat.length < t.flat.length := by
  rw [t.flat_eq, List.length_cons]
  have : ∀ {l : List Tm}, k ∈ l → k.flat.length ≤ (flats l).length := fun {l} => by
    induction l with
    | nil => intro h; cases h
    | cons a r ih =>
      intro h
      show _ ≤ (a.flat ++ flats r).length
      rw [List.length_append]
      rcases List.mem_cons.mp h with e | e
      · rw [e]; lia
      · have := ih e; lia
  have := this h
  lia
theorem namesN_NK (ns : List Int) (m : Nat) : NK (namesN ns m) := fun y hy => by
  obtain ⟨i, _, rfl⟩ := List.mem_map.mp hy
  exact (wrd_ok ns i).k
theorem first_at {α : Type} {P : α → Prop} {l : List α} : ∀ (m : Nat) (e : α), l[m]? = some e → P e → ∃ (m : Nat) (e : α), l[m]? = some e ∧ P e ∧ ∀ (m' : Nat) (e' : α), m' < m → l[m']? = some e' → ¬ P e' := by
  intro m
  induction m using Nat.strongRecOn with
  | ind m ih =>
    intro e h1 h2
    by_cases h : ∃ (m' : Nat) (e' : α), m' < m ∧ l[m']? = some e' ∧ P e'
    · obtain ⟨m', e', hm, h3, h4⟩ := h
      exact ih m' hm e' h3 h4
    · exact ⟨m, e, h1, h2, fun m' e' hm h3 h4 => h ⟨m', e', hm, h3, h4⟩⟩
theorem stp_ex {tm : Tm} {q : List Int} {r : Str} (h : (q, r) ∈ stepsT tm) : ∃ t', Stp tm q r t' := by
  obtain ⟨i, sm, hn, m, e, hm, hf⟩ := stp_some h
  obtain ⟨m, e, hm, ⟨σ, hσ⟩, hno⟩ := first_at (P := fun e => Fit e sm) m e hm hf
  obtain ⟨u, v, f, hu, C⟩ := tm.ctx [] i q sm hn
  exact ⟨_, i, sm, m, e, σ, u, v, f, hn, hu, C, hm, hno, hσ, rfl⟩
def addL : List Str := ["add", "and", "or", "odd"]
def aoL : List Str := ["and", "or"]
def zerL : List Str := ["add", "or", "odd", "sub"]
def hows : List Str := ["addboth", "addthree", "subneg", "negnot", "twiceadd", "notnot", "notand", "notor", "oddor", "orsum", "oddsum", "lowneg", "pickor", "selfodd", "selfand", "zeroadd"]
def trn1 (how y : Str) (a : Tm) : Option Tm :=
  if how = "negnot" ∧ y = "neg" then some (.two "add" (.one "not" a) t1)
  else if how = "twiceadd" ∧ y = "twice" then some (.two "add" a a)
  else if how = "lowneg" ∧ y = "low" then some (.two "and" a (.one "neg" a))
  else if how = "notnot" ∧ y = "not" ∧ a.hd = .str "not" then a.kids.head?
  else if how = "notand" ∧ y = "not" ∧ a.hd = .str "and" then (a.kids.head?).bind fun c => (a.kids[1]?).map fun d => .two "or" (.one "not" c) (.one "not" d)
  else if how = "notor" ∧ y = "not" ∧ a.hd = .str "or" then (a.kids.head?).bind fun c => (a.kids[1]?).map fun d => .two "and" (.one "not" c) (.one "not" d)
  else none
def trn2 (how y : Str) (a b : Tm) : Option Tm :=
  if how = "addboth" ∧ y ∈ addL then some (.two y b a)
  else if how = "addthree" ∧ y ∈ addL ∧ a.hd = .str y then (a.kids.head?).bind fun c => (a.kids[1]?).map fun d => .two y c (.two y d b)
  else if how = "subneg" ∧ y = "sub" then some (.two "add" a (.one "neg" b))
  else if how = "oddor" ∧ y = "odd" then some (.two "and" (.two "or" a b) (.one "not" (.two "and" a b)))
  else if how = "orsum" ∧ y = "add" then some (.two "add" (.two "or" a b) (.two "and" a b))
  else if how = "oddsum" ∧ y = "add" then some (.two "add" (.two "odd" a b) (.one "twice" (.two "and" a b)))
  else if how = "selfodd" ∧ y = "odd" ∧ a.flat = b.flat then some t0
  else if how = "selfand" ∧ y ∈ aoL ∧ a.flat = b.flat then some a
  else if how = "zeroadd" ∧ y ∈ zerL ∧ b.flat = [.int 0] then some a
  else none
def trn (how : Str) : Tm → Option Tm
  | .lf _ => none
  | .one y a => trn1 how y a
  | .two y a b => trn2 how y a b
  | .thr _ a b c => if how = "pickor" then some (.two "or" (.two "and" a b) (.two "and" (.one "not" a) c)) else none
/-- where a rule fits, the law turns just so -/
theorem trn_of {e : Str × Tm × Tm} (he : e ∈ turns) (σ : Str → Tm) : trn e.1 (e.2.1.sub σ) = some (e.2.2.sub σ) := by
  simp only [turns, List.mem_cons, List.not_mem_nil, or_false] at he
  rcases he with rfl | rfl | rfl | rfl | rfl | rfl | rfl | rfl | rfl | rfl | rfl | rfl | rfl | rfl | rfl | rfl | rfl | rfl | rfl | rfl | rfl | rfl | rfl | rfl | rfl | rfl <;>
    simp only [Tm.sub, trn, trn1, trn2] <;>
    repeat (first | rfl | rw [if_neg (fun h => absurd h.1 (by decide +kernel))] | rw [if_pos ⟨rfl, by decide +kernel⟩] | rw [if_pos ⟨rfl, by decide +kernel, rfl⟩] | rw [if_pos rfl])
/-- the other way about: the law turns only where a rule fits -/
theorem two_hd {ys : List Str} (hk : NK ys) {a : Tm} (h : a.ok ys) {y : Str} (e : a.hd = .str y) (hy : y ∈ sumW) (h2 : partsS y = 2) : ∃ c d, a = .two y c d := by
  have hkp := sum_kept y hy
  cases a with
  | lf w =>
    have e : w = .str y := e
    rcases h with ⟨z, hz, rfl⟩ | ⟨z, rfl, _⟩
    · injection e with e; rw [e] at hz; exact absurd hkp (hk y hz)
    · cases e
  | one z c => injection e with e; subst e; have := h.1.2; lia
  | two z c d => injection e with e; subst e; exact ⟨c, d, rfl⟩
  | thr z c d f => injection e with e; subst e; have := h.1.2; lia
theorem one_hd {ys : List Str} (hk : NK ys) {a : Tm} (h : a.ok ys) {y : Str} (e : a.hd = .str y) (hy : y ∈ sumW) (h1 : partsS y = 1) : ∃ c, a = .one y c := by
  have hkp := sum_kept y hy
  cases a with
  | lf w =>
    have e : w = .str y := e
    rcases h with ⟨z, hz, rfl⟩ | ⟨z, rfl, _⟩
    · injection e with e; rw [e] at hz; exact absurd hkp (hk y hz)
    · cases e
  | one z c => injection e with e; subst e; exact ⟨c, rfl⟩
  | two z c d => injection e with e; subst e; have := h.1.2; lia
  | thr z c d f => injection e with e; subst e; have := h.1.2; lia
def sg3 (a b c : Tm) (s : Str) : Tm := if s = "x" then a else if s = "y" then b else c
theorem trn_fit {ys : List Str} (hk : NK ys) {t : Tm} (ht : t.ok ys) {how : Str} {x : Tm} (h : trn how t = some x) : ∃ e ∈ turns, e.1 = how ∧ Fit e t := by
  have L2 : ∀ y ∈ addL, y ∈ sumW ∧ partsS y = 2 := by decide +kernel
  have fz : ∀ {b : Tm}, b.ok ys → b.flat = [.int 0] → b = t0 := fun {b} hb e => flat_inj (u := t0) hk hb (.inr ⟨0, rfl, by decide, by decide⟩) e
  cases t with
  | lf w => cases h
  | thr y a b c =>
    have h : (if how = "pickor" then _ else none) = some x := h
    split at h
    · rename_i e
      subst e
      have hy : y = "pick" := (sum_split y ht.1.1).elim (fun z => absurd (one4_ok y z) (by have := ht.1.2; lia)) fun z => z.elim (fun z => absurd (two5_ok y z) (by have := ht.1.2; lia)) id
      subst hy
      exact ⟨_, List.mem_of_getElem? (i := 18) rfl, rfl, sg3 a b c, rfl⟩
    · cases h
  | one y a =>
    have h : trn1 how y a = some x := h
    unfold trn1 at h
    split at h
    · rename_i c; obtain ⟨rfl, rfl⟩ := c
      exact ⟨_, List.mem_of_getElem? (i := 9) rfl, rfl, sg3 a a a, rfl⟩
    split at h
    · rename_i c; obtain ⟨rfl, rfl⟩ := c
      exact ⟨_, List.mem_of_getElem? (i := 10) rfl, rfl, sg3 a a a, rfl⟩
    split at h
    · rename_i c; obtain ⟨rfl, rfl⟩ := c
      exact ⟨_, List.mem_of_getElem? (i := 17) rfl, rfl, sg3 a a a, rfl⟩
    split at h
    · rename_i c; obtain ⟨rfl, rfl, e⟩ := c
      obtain ⟨c, rfl⟩ := one_hd hk ht.2 e (by decide +kernel) (by decide +kernel)
      exact ⟨_, List.mem_of_getElem? (i := 11) rfl, rfl, sg3 c c c, rfl⟩
    split at h
    · rename_i c; obtain ⟨rfl, rfl, e⟩ := c
      obtain ⟨c, d, rfl⟩ := two_hd hk ht.2 e (by decide +kernel) (by decide +kernel)
      exact ⟨_, List.mem_of_getElem? (i := 12) rfl, rfl, sg3 c d d, rfl⟩
    split at h
    · rename_i c; obtain ⟨rfl, rfl, e⟩ := c
      obtain ⟨c, d, rfl⟩ := two_hd hk ht.2 e (by decide +kernel) (by decide +kernel)
      exact ⟨_, List.mem_of_getElem? (i := 13) rfl, rfl, sg3 c d d, rfl⟩
    · cases h
  | two y a b =>
    have h : trn2 how y a b = some x := h
    unfold trn2 at h
    split at h
    · rename_i c; obtain ⟨rfl, hy⟩ := c
      simp only [addL, List.mem_cons, List.not_mem_nil, or_false] at hy
      rcases hy with rfl | rfl | rfl | rfl
      · exact ⟨_, List.mem_of_getElem? (i := 0) rfl, rfl, sg3 a b b, rfl⟩
      · exact ⟨_, List.mem_of_getElem? (i := 1) rfl, rfl, sg3 a b b, rfl⟩
      · exact ⟨_, List.mem_of_getElem? (i := 2) rfl, rfl, sg3 a b b, rfl⟩
      · exact ⟨_, List.mem_of_getElem? (i := 3) rfl, rfl, sg3 a b b, rfl⟩
    split at h
    · rename_i c; obtain ⟨rfl, hy, e⟩ := c
      obtain ⟨c, d, rfl⟩ := two_hd hk ht.2.1 e (L2 y hy).1 (L2 y hy).2
      simp only [addL, List.mem_cons, List.not_mem_nil, or_false] at hy
      rcases hy with rfl | rfl | rfl | rfl
      · exact ⟨_, List.mem_of_getElem? (i := 4) rfl, rfl, sg3 c d b, rfl⟩
      · exact ⟨_, List.mem_of_getElem? (i := 5) rfl, rfl, sg3 c d b, rfl⟩
      · exact ⟨_, List.mem_of_getElem? (i := 6) rfl, rfl, sg3 c d b, rfl⟩
      · exact ⟨_, List.mem_of_getElem? (i := 7) rfl, rfl, sg3 c d b, rfl⟩
    split at h
    · rename_i c; obtain ⟨rfl, rfl⟩ := c
      exact ⟨_, List.mem_of_getElem? (i := 8) rfl, rfl, sg3 a b b, rfl⟩
    split at h
    · rename_i c; obtain ⟨rfl, rfl⟩ := c
      exact ⟨_, List.mem_of_getElem? (i := 14) rfl, rfl, sg3 a b b, rfl⟩
    split at h
    · rename_i c; obtain ⟨rfl, rfl⟩ := c
      exact ⟨_, List.mem_of_getElem? (i := 15) rfl, rfl, sg3 a b b, rfl⟩
    split at h
    · rename_i c; obtain ⟨rfl, rfl⟩ := c
      exact ⟨_, List.mem_of_getElem? (i := 16) rfl, rfl, sg3 a b b, rfl⟩
    split at h
    · rename_i c; obtain ⟨rfl, rfl, e⟩ := c
      have e := flat_inj hk ht.2.1 ht.2.2 e
      subst e
      exact ⟨_, List.mem_of_getElem? (i := 19) rfl, rfl, sg3 a a a, rfl⟩
    split at h
    · rename_i c; obtain ⟨rfl, hy, e⟩ := c
      have e := flat_inj hk ht.2.1 ht.2.2 e
      subst e
      simp only [aoL, List.mem_cons, List.not_mem_nil, or_false] at hy
      rcases hy with rfl | rfl
      · exact ⟨_, List.mem_of_getElem? (i := 20) rfl, rfl, sg3 a a a, rfl⟩
      · exact ⟨_, List.mem_of_getElem? (i := 21) rfl, rfl, sg3 a a a, rfl⟩
    split at h
    · rename_i c; obtain ⟨rfl, hy, e⟩ := c
      have e := fz ht.2.2 e
      subst e
      simp only [zerL, List.mem_cons, List.not_mem_nil, or_false] at hy
      rcases hy with rfl | rfl | rfl | rfl
      · exact ⟨_, List.mem_of_getElem? (i := 22) rfl, rfl, sg3 a a a, rfl⟩
      · exact ⟨_, List.mem_of_getElem? (i := 23) rfl, rfl, sg3 a a a, rfl⟩
      · exact ⟨_, List.mem_of_getElem? (i := 24) rfl, rfl, sg3 a a a, rfl⟩
      · exact ⟨_, List.mem_of_getElem? (i := 25) rfl, rfl, sg3 a a a, rfl⟩
    · cases h
def hdS (t : Tm) : Str := match t.hd with
  | .str y => y
  | _ => ""
theorem turns_hd : ∀ e ∈ turns, ∃ y, e.2.1.hd = .str y ∧ ∀ σ, (e.2.1.sub σ).hd = .str y := by
  intro e he
  simp only [turns, List.mem_cons, List.not_mem_nil, or_false] at he
  rcases he with rfl | rfl | rfl | rfl | rfl | rfl | rfl | rfl | rfl | rfl | rfl | rfl | rfl | rfl | rfl | rfl | rfl | rfl | rfl | rfl | rfl | rfl | rfl | rfl | rfl | rfl <;> exact ⟨_, rfl, fun _ => rfl⟩
theorem fit_hd {e : Str × Tm × Tm} (he : e ∈ turns) {s : Tm} (h : Fit e s) : hdS e.2.1 = hdS s := by
  obtain ⟨y, h1, h2⟩ := turns_hd e he
  obtain ⟨σ, rfl⟩ := h
  unfold hdS
  rw [h1, h2]
theorem rls_nd : ∀ h ∈ hows, ((rls h turns).map fun e => hdS e.2.1).Nodup := by decide +kernel
theorem turns_hows : turns = hows.flatMap fun h => rls h turns := by rfl
theorem filter_one {α β : Type} {F : α → Bool} {k : α → β} {c : β} : ∀ {l : List α}, (l.map k).Nodup → (∀ e ∈ l, F e = true → k e = c) → ∀ e ∈ l, F e = true → l.filter F = [e]
  | [], _, _, e, he, _ => by cases he
  | x :: l, nd, hc, e, he, hF => by
    obtain ⟨n1, n2⟩ := List.nodup_cons.mp (show (k x :: l.map k).Nodup from nd)
    have off : ∀ z ∈ l, F x = true → F z = false := fun z hz hx => by
      cases q : F z with
      | false => rfl
      | true => exact absurd (List.mem_map.mpr ⟨z, hz, (hc z (List.mem_cons_of_mem _ hz) q).trans (hc x List.mem_cons_self hx).symm⟩) n1
    by_cases hx : F x = true
    · rw [List.filter_cons_of_pos hx, List.filter_eq_nil_iff.mpr fun z hz => by rw [off z hz hx]; exact Bool.false_ne_true]
      rcases List.mem_cons.mp he with rfl | m
      · rfl
      · rw [off e m hx] at hF; cases hF
    · rw [List.filter_cons_of_neg hx]
      rcases List.mem_cons.mp he with rfl | m
      · exact absurd hF hx
      · exact filter_one n2 (fun z hz => hc z (List.mem_cons_of_mem _ hz)) e m hF
open Classical in
theorem fits_one {ys : List Str} (hk : NK ys) {s : Tm} (hs : s.ok ys) {h : Str} (hh : h ∈ hows) : ((rls h turns).filter fun e => decide (Fit e s)).map (·.1) = if (trn h s).isSome then [h] else [] := by
  by_cases c : ∃ e ∈ rls h turns, Fit e s
  · obtain ⟨e, he, hf⟩ := c
    obtain ⟨m1, m2⟩ := List.mem_filter.mp he
    have m2 : e.1 = h := of_decide_eq_true m2
    rw [filter_one (l := rls h turns) (k := fun e => hdS e.2.1) (c := hdS s) (rls_nd h hh) (fun z hz q => fit_hd (List.mem_filter.mp hz).1 (of_decide_eq_true q)) e he (decide_eq_true hf)]
    obtain ⟨σ, rfl⟩ := hf
    have := trn_of m1 σ
    rw [m2] at this
    rw [this]
    show [e.1] = [h]
    rw [m2]
  · rw [List.filter_eq_nil_iff.mpr fun e he q => c ⟨e, he, of_decide_eq_true q⟩]
    cases q : trn h s with
    | none => rfl
    | some x =>
      obtain ⟨e, h1, h2, h3⟩ := trn_fit hk hs q
      exact absurd ⟨e, List.mem_filter.mpr ⟨h1, decide_eq_true h2⟩, h3⟩ c
theorem flat_if {α : Type} {p : α → Bool} : ∀ l : List α, (l.flatMap fun h => if p h = true then [h] else []) = l.filter p
  | [] => rfl
  | x :: l => by
    rw [List.flatMap_cons, flat_if l]
    cases q : p x with
    | true => rw [if_pos rfl, List.filter_cons_of_pos q]; rfl
    | false => rw [if_neg Bool.false_ne_true, List.filter_cons_of_neg (by rw [q]; exact Bool.false_ne_true)]; rfl
theorem flatMap_congr' {α β : Type} {f g : α → List β} : ∀ {l : List α}, (∀ x ∈ l, f x = g x) → l.flatMap f = l.flatMap g
  | [], _ => rfl
  | x :: l, h => by rw [List.flatMap_cons, List.flatMap_cons, h x List.mem_cons_self, flatMap_congr' fun z hz => h z (List.mem_cons_of_mem _ hz)]
open Classical in
theorem fits_all {ys : List Str} (hk : NK ys) {s : Tm} (hs : s.ok ys) : (turns.filter fun e => decide (Fit e s)).map (·.1) = hows.filter fun h => (trn h s).isSome := by
  rw [turns_hows, List.filter_flatMap, List.map_flatMap, ← flat_if]
  exact flatMap_congr' fun h hh => fits_one hk hs hh
theorem nds_shift (t : Tm) : ∀ (p r : List Int), t.nds (p ++ r) = (t.nds r).map fun z => (p ++ z.1, z.2) := by
  induction t with
  | lf w => intro p r; rfl
  | one y a ih =>
    intro p r
    show _ :: a.nds (p ++ r ++ [0]) = _ :: (a.nds (r ++ [0])).map _
    rw [List.append_assoc, ih]
  | two y a b ia ib =>
    intro p r
    show _ :: (a.nds (p ++ r ++ [0]) ++ b.nds (p ++ r ++ [1])) = _ :: (a.nds (r ++ [0]) ++ b.nds (r ++ [1])).map _
    rw [List.append_assoc, List.append_assoc, ia, ib, List.map_append]
  | thr y a b c ia ib ic =>
    intro p r
    show _ :: (a.nds (p ++ r ++ [0]) ++ (b.nds (p ++ r ++ [1]) ++ c.nds (p ++ r ++ [2]))) = _ :: (a.nds (r ++ [0]) ++ (b.nds (r ++ [1]) ++ c.nds (r ++ [2]))).map _
    rw [List.append_assoc, List.append_assoc, List.append_assoc, ia, ib, ic, List.map_append, List.map_append]
def kn : List Tm → Nat → List (List Int × Tm)
  | [], _ => []
  | t :: r, j => ((t.nds []).map fun z => ((j : Int) :: z.1, z.2)) ++ kn r (j + 1)
theorem kn_app : ∀ (u v : List Tm) (j : Nat), kn (u ++ v) j = kn u j ++ kn v (j + u.length)
  | [], v, j => rfl
  | t :: u, v, j => by
    show _ ++ kn (u ++ v) (j + 1) = (_ ++ kn u (j + 1)) ++ kn v (j + (u.length + 1))
    rw [kn_app u v (j + 1), List.append_assoc, show j + 1 + u.length = j + (u.length + 1) by lia]
theorem nds_kn (t : Tm) : t.nds [] = ([], t) :: kn t.kids 0 := by
  have s : ∀ (a : Tm) (k : Int), a.nds ([] ++ [k]) = (a.nds []).map fun z => (k :: z.1, z.2) := fun a k => nds_shift a [k] []
  cases t with
  | lf w => rfl
  | one y a =>
    show _ :: a.nds ([] ++ [0]) = _ :: (_ ++ [])
    rw [s, List.append_nil]
    rfl
  | two y a b =>
    show _ :: (a.nds ([] ++ [0]) ++ b.nds ([] ++ [1])) = _ :: (_ ++ (_ ++ []))
    rw [s, s, List.append_nil]
    rfl
  | thr y a b c =>
    show _ :: (a.nds ([] ++ [0]) ++ (b.nds ([] ++ [1]) ++ c.nds ([] ++ [2]))) = _ :: (_ ++ (_ ++ (_ ++ [])))
    rw [s, s, s, List.append_nil]
    rfl
theorem kn_at : ∀ (ts : List Tm) (j0 i : Nat) (q : List Int) (s : Tm), (kn ts j0)[i]? = some (q, s) → ∃ j i' t' q', ts[j]? = some t' ∧ q = ((j0 + j : Nat) : Int) :: q' ∧ (t'.nds [])[i']? = some (q', s) ∧ i = (flats (ts.take j)).length + i'
  | [], j0, i, q, s, h => by cases h
  | t :: r, j0, i, q, s, h => by
    have hl : ((t.nds []).map fun z => ((j0 : Int) :: z.1, z.2)).length = t.flat.length := by rw [List.length_map, t.nds_len]
    rcases Nat.lt_or_ge i t.flat.length with c | c
    · have h : (((t.nds []).map fun z => ((j0 : Int) :: z.1, z.2)) ++ kn r (j0 + 1))[i]? = some (q, s) := h
      rw [List.getElem?_append_left (by rw [hl]; exact c), List.getElem?_map] at h
      cases e : (t.nds [])[i]? with
      | none => rw [e] at h; cases h
      | some z =>
        rw [e] at h
        have h : ((j0 : Int) :: z.1, z.2) = (q, s) := Option.some.inj h
        have hz : z.2 = s := congrArg Prod.snd h
        exact ⟨0, i, t, z.1, rfl, (congrArg Prod.fst h).symm, by rw [e, ← hz], (Nat.zero_add i).symm⟩
    · have h : (((t.nds []).map fun z => ((j0 : Int) :: z.1, z.2)) ++ kn r (j0 + 1))[i]? = some (q, s) := h
      rw [List.getElem?_append_right (by rw [hl]; exact c), hl] at h
      obtain ⟨j, i', t', q', h1, h2, h3, h4⟩ := kn_at r (j0 + 1) _ q s h
      refine ⟨j + 1, i', t', q', h1, by rw [h2, show j0 + 1 + j = j0 + (j + 1) by lia], h3, ?_⟩
      show i = (t.flat ++ flats (r.take j)).length + i'
      rw [List.length_append]
      lia
def Tm.re : Tm → List Tm → Tm
  | .one y _, [a] => .one y a
  | .two y _ _, [a, b] => .two y a b
  | .thr y _ _ _, [a, b, c] => .thr y a b c
  | t, _ => t
theorem Tm.re_flat {t : Tm} {ts : List Tm} (h : ts.length = t.kids.length) : (t.re ts).flat = t.hd :: flats ts := by
  cases t with
  | lf w =>
    have : ts = [] := List.eq_nil_of_length_eq_zero h
    subst this
    rfl
  | one y a =>
    match ts, h with
    | [b], _ => exact congrArg (V.str y :: ·) (List.append_nil _).symm
  | two y a b =>
    match ts, h with
    | [c, d], _ => exact congrArg (fun z => V.str y :: (c.flat ++ z)) (List.append_nil _).symm
  | thr y a b c =>
    match ts, h with
    | [d, e, f], _ => exact congrArg (fun z => V.str y :: (d.flat ++ (e.flat ++ z))) (List.append_nil _).symm
def putT : Tm → List Int → Tm → Tm
  | _, [], x => x
  | t, k :: q, x => t.re (t.kids.set k.toNat (putT ((t.kids[k.toNat]?).getD t) q x))
theorem flats_set {ts : List Tm} {j : Nat} {t' x : Tm} (h : ts[j]? = some t') : flats (ts.set j x) = flats (ts.take j) ++ (x.flat ++ flats (ts.drop (j + 1))) ∧ flats ts = flats (ts.take j) ++ (t'.flat ++ flats (ts.drop (j + 1))) := by
  have hj := (List.getElem?_eq_some_iff.mp h)
  have e : ts = ts.take j ++ (t' :: ts.drop (j + 1)) := by
    obtain ⟨h1, h2⟩ := hj
    rw [← h2, ← List.drop_eq_getElem_cons h1, List.take_append_drop]
  constructor
  · rw [List.set_eq_take_append_cons_drop, if_pos hj.1, flats_app]
    rfl
  · have := congrArg flats e
    rw [flats_app] at this
    exact this
theorem putT_ctx : ∀ (n : Nat) (t : Tm), t.flat.length ≤ n → ∀ i q s, (t.nds [])[i]? = some (q, s) → ∃ u v, u.length = i ∧ t.flat = u ++ (s.flat ++ v) ∧ ∀ x, (putT t q x).flat = u ++ (x.flat ++ v) := by
  intro n
  induction n with
  | zero => intro t h; have := t.flat_pos; lia
  | succ n ih =>
    intro t hn i q s h
    rw [nds_kn] at h
    cases i with
    | zero =>
      have h := Option.some.inj h
      have e1 : q = [] := (congrArg Prod.fst h).symm
      have e2 : s = t := (congrArg Prod.snd h).symm
      subst e1 e2
      exact ⟨[], [], rfl, (List.append_nil _).symm, fun x => by unfold putT; exact (List.append_nil _).symm⟩
    | succ i =>
      obtain ⟨j, i', t', q', h1, h2, h3, h4⟩ := kn_at t.kids 0 i q s h
      have hlt := kids_lt (List.mem_of_getElem? h1)
      obtain ⟨u, v, hu, hf, hp⟩ := ih t' (by lia) i' q' s h3
      rw [Nat.zero_add] at h2
      subst h2
      obtain ⟨_, g2⟩ := flats_set (x := t') h1
      refine ⟨t.hd :: (flats (t.kids.take j) ++ u), v ++ flats (t.kids.drop (j + 1)), by rw [List.length_cons, List.length_append, hu, h4], ?_, fun x => ?_⟩
      · rw [t.flat_eq, g2, hf]
        simp
      · unfold putT
        rw [Int.toNat_natCast, h1, Tm.re_flat (by rw [List.length_set]), (flats_set h1).1]
        show _ :: (_ ++ ((putT t' q' x).flat ++ _)) = _
        rw [hp]
        simp
def dueT (tm : Tm) : List (List Int × Str × Tm) := (tm.nds []).flatMap fun p => hows.filterMap fun h => (trn h p.2).map fun x => (p.1, h, putT tm p.1 x)
theorem filterMap_fst {β γ : Type} (g : Str → Option β) (f : Str → β → γ) (k : γ → Str) (hk : ∀ h x, k (f h x) = h) : ∀ l : List Str, (l.filterMap fun h => (g h).map (f h)).map k = l.filter fun h => (g h).isSome
  | [] => rfl
  | h :: l => by
    cases q : g h with
    | none => rw [List.filterMap_cons_none (by rw [q]; rfl), List.filter_cons_of_neg (by rw [q]; exact Bool.false_ne_true)]; exact filterMap_fst g f k hk l
    | some x =>
      rw [List.filterMap_cons_some (b := f h x) (by rw [q]; rfl), List.filter_cons_of_pos (by rw [q]; rfl), List.map_cons, hk, filterMap_fst g f k hk l]
theorem nds_ok {ys : List Str} {t : Tm} (h : t.ok ys) {p : List Int × Tm} (hp : p ∈ t.nds []) : p.2.ok ys := by
  obtain ⟨i, hi⟩ := List.getElem?_of_mem hp
  obtain ⟨u, v, f, _, C⟩ := t.ctx [] i p.1 p.2 hi
  exact (C.ok ys h).1
theorem steps_due {ys : List Str} (hk : NK ys) {tm : Tm} (ht : tm.ok ys) : stepsT tm = (dueT tm).map fun d => (d.1, d.2.1) := by
  unfold stepsT dueT
  rw [List.map_flatMap]
  refine flatMap_congr' fun p hp => ?_
  have e := fits_all hk (nds_ok ht hp)
  have e2 := filterMap_fst (fun h => trn h p.2) (fun h x => ((p.1, h, putT tm p.1 x) : List Int × Str × Tm)) (fun d => d.2.1) (fun _ _ => rfl) hows
  rw [← e] at e2
  have e3 := congrArg (List.map fun h => (p.1, h)) e2.symm
  rw [List.map_map, List.map_map] at e3
  refine e3.trans ?_
  refine List.map_congr_left fun d hd => ?_
  obtain ⟨h, _, hd⟩ := List.mem_filterMap.mp hd
  cases q : trn h p.2 with
  | none => rw [q] at hd; cases hd
  | some x => rw [q] at hd; rw [← Option.some.inj hd]; rfl
/-- a step leads to what the law put -/
theorem stp_put {tm tm' x : Tm} {q : List Int} {r : Str} {i : Nat} {s : Tm} (h : Stp tm q r tm') (hi : (tm.nds [])[i]? = some (q, s)) (hx : trn r s = some x) : tm'.flat = (putT tm q x).flat := by
  obtain ⟨i', sm, m, e, σ, u, v, f, hn, hu, C, hm, _, hσ, rfl⟩ := h
  have ei : i' = i := nodup_at (tm.nds_nd []) (nds_at hn) (nds_at hi)
  subst ei
  rw [hn] at hi
  have es : sm = s := congrArg Prod.snd (Option.some.inj hi)
  subst es
  obtain ⟨m1, m2⟩ := List.mem_filter.mp (List.mem_of_getElem? hm)
  have t1 := trn_of m1 σ
  rw [hσ, (of_decide_eq_true m2 : e.1 = r), hx] at t1
  have ex := Option.some.inj t1
  obtain ⟨u', v', hu', hf', hp'⟩ := putT_ctx _ tm (Nat.le_refl _) i' q sm hn
  have h1 := C.here
  rw [hf'] at h1
  obtain ⟨e1, e2⟩ := List.append_inj h1 (hu'.trans hu.symm)
  have e3 := List.append_cancel_left e2
  rw [C.put, hp', e1, e3, ex]
def PrAt (H : Hp) (v : V) (z : List Int × Tm) : Prop := ∃ a b c, v = .ref a ∧ H a = some (.tup [.ref b, .ref c]) ∧ H b = some (.tup (z.1.map V.int)) ∧ H c = some (.tup z.2.flat)
theorem PrAt.same {H H' : Hp} {v : V} {z : List Int × Tm} (h : PrAt H v z) (s : Same H H') : PrAt H' v z := let ⟨a, b, c, e, h1, h2, h3⟩ := h; ⟨a, b, c, e, s _ _ h1, s _ _ h2, s _ _ h3⟩
theorem tup_put {H : Hp} {a c : Addr} {zs xs ys : List V} (h : H a = some (.tup zs)) (hc : H c = some (.lst xs)) : upd H c (.lst ys) a = some (.tup zs) := by rw [upd_ne (ne_of h hc (fun z => nomatch z))]; exact h
theorem PrAt.put {H : Hp} {v : V} {z : List Int × Tm} {c : Addr} {xs ys : List V} (h : PrAt H v z) (hc : H c = some (.lst xs)) : PrAt (upd H c (.lst ys)) v z := let ⟨a, b, d, e, h1, h2, h3⟩ := h; ⟨a, b, d, e, tup_put h1 hc, tup_put h2 hc, tup_put h3 hc⟩
def PrsAt (H : Hp) (vs : List V) (zs : List (List Int × Tm)) : Prop := Paired (PrAt H) vs zs
theorem PrsAt.same {H H' : Hp} {vs : List V} {zs : List (List Int × Tm)} (h : PrsAt H vs zs) (s : Same H H') : PrsAt H' vs zs := Paired.mapP h fun _ _ z => z.same s
theorem PrsAt.put {H : Hp} {vs : List V} {zs : List (List Int × Tm)} {c : Addr} {xs ys : List V} (h : PrsAt H vs zs) (hc : H c = some (.lst xs)) : PrsAt (upd H c (.lst ys)) vs zs := Paired.mapP h fun _ _ z => z.put hc
def DuAt (H : Hp) (v : V) (d : List Int × Str × Tm) : Prop := ∃ a b c, v = .ref a ∧ H a = some (.tup [.ref b, .str d.2.1, .ref c]) ∧ H b = some (.tup (d.1.map V.int)) ∧ H c = some (.tup d.2.2.flat)
theorem DuAt.same {H H' : Hp} {v : V} {z : List Int × Str × Tm} (h : DuAt H v z) (s : Same H H') : DuAt H' v z := let ⟨a, b, c, e, h1, h2, h3⟩ := h; ⟨a, b, c, e, s _ _ h1, s _ _ h2, s _ _ h3⟩
theorem DuAt.put {H : Hp} {v : V} {z : List Int × Str × Tm} {c : Addr} {xs ys : List V} (h : DuAt H v z) (hc : H c = some (.lst xs)) : DuAt (upd H c (.lst ys)) v z := let ⟨a, b, d, e, h1, h2, h3⟩ := h; ⟨a, b, d, e, tup_put h1 hc, tup_put h2 hc, tup_put h3 hc⟩
def DusAt (H : Hp) (vs : List V) (zs : List (List Int × Str × Tm)) : Prop := Paired (DuAt H) vs zs
theorem DusAt.same {H H' : Hp} {vs : List V} {zs : List (List Int × Str × Tm)} (h : DusAt H vs zs) (s : Same H H') : DusAt H' vs zs := Paired.mapP h fun _ _ z => z.same s
theorem DusAt.put {H : Hp} {vs : List V} {zs : List (List Int × Str × Tm)} {c : Addr} {xs ys : List V} (h : DusAt H vs zs) (hc : H c = some (.lst xs)) : DusAt (upd H c (.lst ys)) vs zs := Paired.mapP h fun _ _ z => z.put hc
structure Gives (te : TE) (σ : St) (H0 : Hp) (ws : List V) (n : Nat) : Prop where
  l : ws.length ≤ n
  g : ∀ (H : Hp) (Q : VK), Same H0 H → (∀ p H', Same H H' → H' p = some (.tup ws) → Q (.ref p) H') → te σ H Q
theorem gv_var {i n : Nat} {σ : St} {H0 : Hp} {p : Addr} {ws : List V} (hσ : σ[i]? = some (some (.ref p))) (h : H0 p = some (.tup ws)) (hl : ws.length ≤ n) : Gives (tVar i) σ H0 ws n := ⟨hl, fun H Q s k => ⟨.ref p, hσ, k p H (Same.refl _) (s _ _ h)⟩⟩
theorem gv_lit {ta : TA} {σ : St} {H0 : Hp} {xs : List V} (n : Nat) (h : ∀ (H : Hp) (R : List V → Hp → Prop), R xs H → ta σ H R) (hl : xs.length ≤ n) (hn : n ≤ 1000) : Gives (tTup ta) σ H0 xs n := ⟨hl, fun H Q s k => h H _ ⟨Nat.le_of_lt (small1000 (by lia)), fun p hp => k p _ (same_upd hp) upd_same⟩⟩
theorem gv_cat {ta tb : TE} {σ : St} {H0 : Hp} {us vs : List V} {n m : Nat} (a : Gives ta σ H0 us n) (b : Gives tb σ H0 vs m) (h : n + m ≤ 1000 := by decide) : Gives (tOp rCatG ta tb) σ H0 (us ++ vs) (n + m) := by
  have la := a.l
  have lb := b.l
  refine ⟨by rw [List.length_append]; lia, fun H Q s k => a.g H _ s fun p H1 s1 h1 => b.g H1 _ (s.trans s1) fun q H2 s2 h2 => ⟨p, q, us, vs, rfl, rfl, s2 _ _ h1, h2, Nat.le_of_lt (small1000 (by lia)), fun t H3 h3 s3 => k t H3 (s1.trans (s2.trans s3)) h3⟩⟩
theorem gv_l1 {σ : St} {H0 : Hp} {v : V} : Gives (tTup (tCons (tC v) tNil)) σ H0 [v] 1 := gv_lit 1 (fun _ _ h => h) (Nat.le_refl _) (by decide)
theorem gv_l2 {σ : St} {H0 : Hp} {v u : V} : Gives (tTup (tCons (tC v) (tCons (tC u) tNil))) σ H0 [v, u] 2 := gv_lit 2 (fun _ _ h => h) (Nat.le_refl _) (by decide)
theorem gv_ix {K : PySem.W.Frag} {i n : Nat} {j : Int} {σ : St} {H0 : Hp} {l q : Addr} {xs ws : List V} (hσ : σ[i]? = some (some (.ref l))) (hl : H0 l = some (.lst xs)) (hx : atI xs j = some (.ref q)) (hq : H0 q = some (.tup ws)) (hn : ws.length ≤ n) : Gives (tOp (rIxL K) (tVar i) (tC (.int j))) σ H0 ws n :=
  ⟨hn, fun H Q s k => ⟨.ref l, hσ, l, xs, j, .ref q, rfl, rfl, SqL.of (s _ _ hl), hx, k q H (Same.refl _) (s _ _ hq)⟩⟩
theorem str_inj {a b : Str} [Decidable (V.str a = V.str b)] (c : decide (V.str a = V.str b) = true) : a = b := by
  have := of_decide_eq_true c
  injection this
theorem hd_at (t : Tm) : atI t.flat 0 = some t.hd := by rw [t.flat_eq]; exact atI_nat (j := 0) rfl
theorem tr_two {H : Hp} {xs : List V} {c d : Tm} (h : TrsAt H xs [c, d]) : ∃ p q, xs = [.ref p, .ref q] ∧ H p = some (.tup c.flat) ∧ H q = some (.tup d.flat) := by
  cases h with
  | cons h1 h =>
    cases h with
    | cons h2 h =>
      cases h
      obtain ⟨p, rfl, hp⟩ := h1
      obtain ⟨q, rfl, hq⟩ := h2
      exact ⟨p, q, rfl, hp, hq⟩
theorem add_two : ∀ y ∈ addL, y ∈ sumW ∧ partsS y = 2 := by decide +kernel
theorem iteT' {b : Bool} {A B : Prop} (h : b = true) (a : A) : if b = true then A else B := by rw [if_pos h]; exact a
theorem int_ne {n z : Int} [Decidable (V.int n = V.int z)] (h : n ≠ z) : ¬ (decide (V.int n = V.int z) = true) := fun c => h (by have := of_decide_eq_true c; injection this)
theorem tr_one {H : Hp} {xs : List V} {c : Tm} (h : TrsAt H xs [c]) : ∃ p, xs = [.ref p] ∧ H p = some (.tup c.flat) := by
  cases h with
  | cons h1 h =>
    cases h
    obtain ⟨p, rfl, hp⟩ := h1
    exact ⟨p, rfl, hp⟩
theorem tr_three {H : Hp} {xs : List V} {c d e : Tm} (h : TrsAt H xs [c, d, e]) : ∃ p q r, xs = [.ref p, .ref q, .ref r] ∧ H p = some (.tup c.flat) ∧ H q = some (.tup d.flat) ∧ H r = some (.tup e.flat) := by
  cases h with
  | cons h1 h =>
    obtain ⟨q, r, rfl, hq, hr⟩ := tr_two h
    obtain ⟨p, rfl, hp⟩ := h1
    exact ⟨p, q, r, rfl, hp, hq, hr⟩
theorem paired_set {α β : Type} {F : α → β → Prop} {a : List α} {b : List β} {x : α} {y : β} (h : Paired F a b) (hx : F x y) : ∀ j, Paired F (a.set j x) (b.set j y) := by
  induction h with
  | nil => intro j; exact .nil
  | cons h1 h2 ih =>
    intro j
    cases j with
    | zero => exact .cons hx h2
    | succ j => exact .cons h1 (ih j)
theorem ixN_j {n j : Nat} (h : j < n) : ixN n (j : Int) = some j := by
  unfold ixN
  rw [if_pos (by lia), if_pos (by lia), Int.toNat_natCast]
theorem si_ints (l : List Int) : ∀ w ∈ l.map V.int, SI w := fun w hw => by
  obtain ⟨z, _, rfl⟩ := List.mem_map.mp hw
  exact .inl ⟨z, rfl⟩
theorem kids3 (t : Tm) : t.kids.length ≤ 3 := by cases t <;> show _ ≤ 3 <;> simp [Tm.kids]
theorem nds_pl : ∀ (n : Nat) (t : Tm), t.flat.length ≤ n → ∀ z ∈ t.nds [], z.1.length ≤ n := by
  intro n
  induction n with
  | zero => intro t h; have := t.flat_pos; lia
  | succ n ih =>
    intro t hn z hz
    obtain ⟨i, hi⟩ := List.getElem?_of_mem hz
    rw [nds_kn] at hi
    cases i with
    | zero =>
      rw [← Option.some.inj hi]
      exact Nat.zero_le _
    | succ i =>
      obtain ⟨j, i', t', q', h1, h2, h3, h4⟩ := kn_at t.kids 0 i z.1 z.2 hi
      have hlt := kids_lt (List.mem_of_getElem? h1)
      have := ih t' (by lia) (q', z.2) (List.mem_of_getElem? h3)
      rw [h2, List.length_cons]
      exact Nat.succ_le_succ this
theorem nds_plen {t : Tm} {m : Nat} {z : List Int × Tm} (h : (t.nds [])[m]? = some z) (hl : t.flat.length ≤ 900) : z.1.length ≤ 900 := Nat.le_trans (nds_pl _ t (Nat.le_refl _) z (List.mem_of_getElem? h)) hl
theorem trn_len {ys : List Str} (hk : NK ys) {s : Tm} (hs : s.ok ys) {how : Str} {x : Tm} (h : trn how s = some x) : x.flat.length ≤ 2 * s.flat.length + 2 := by
  obtain ⟨e, h1, h2, σ, rfl⟩ := trn_fit hk hs h
  have := trn_of h1 σ
  rw [h2, h] at this
  rw [Option.some.inj this]
  exact turns_len e h1 σ
theorem nds_sl {t : Tm} {p : List Int × Tm} (hp : p ∈ t.nds []) : p.2.flat.length ≤ t.flat.length := by
  obtain ⟨i, hi⟩ := List.getElem?_of_mem hp
  obtain ⟨u, v, f, _, C⟩ := t.ctx [] i p.1 p.2 hi
  have := congrArg List.length C.here
  rw [List.length_append, List.length_append] at this
  lia
def dueP (tm : Tm) (hs : List Str) (p : List Int × Tm) : List (List Int × Str × Tm) := hs.filterMap fun h => (trn h p.2).map fun x => (p.1, h, putT tm p.1 x)
theorem dueP_none {tm : Tm} {hs : List Str} {h : Str} {p : List Int × Tm} (e : trn h p.2 = none) : dueP tm (hs ++ [h]) p = dueP tm hs p := by
  unfold dueP
  rw [List.filterMap_append, List.filterMap_cons_none (by rw [e]; rfl)]
  exact List.append_nil _
theorem dueP_some {tm x : Tm} {hs : List Str} {h : Str} {p : List Int × Tm} (e : trn h p.2 = some x) : dueP tm (hs ++ [h]) p = dueP tm hs p ++ [(p.1, h, putT tm p.1 x)] := by
  unfold dueP
  rw [List.filterMap_append, List.filterMap_cons_some (b := (p.1, h, putT tm p.1 x)) (by rw [e]; rfl)]
  rfl
theorem kit_ll {K : PySem.W.Frag} : PySem.W.kitOne K (.type "list") (.type "list") = some true := rfl
theorem eqB_stp {H : Hp} {u v : V} {d : List Int × Str} (hu : StpAt H u d) (hv : StpAt H v d) : EqB H 3 u v true := by
  obtain ⟨a, b, rfl, ha, hb⟩ := hu
  obtain ⟨a', b', rfl, ha', hb'⟩ := hv
  refine .inr ⟨a, a', _, _, fun _ => true, rfl, rfl, ha, ha', rfl, fun j x y hx hy => ?_⟩
  match j, hx, hy with
  | 0, hx, hy =>
    cases hx
    cases hy
    have := eqB_pth (H := H) (n := 1) (u := .ref b) (q := d.1) (r := d.1) ⟨b, rfl, hb⟩ hb'
    rw [decide_eq_true rfl] at this
    exact this
  | 1, hx, hy =>
    cases hx
    cases hy
    exact .inl ⟨rfl, rfl, (eqV_self rfl).symm⟩
theorem eqB_stps {H : Hp} {xs ys : List V} {ds : List (List Int × Str)} (h1 : StpsAt H xs ds) (h2 : StpsAt H ys ds) : ∀ (j : Nat) (u v : V), xs[j]? = some u → ys[j]? = some v → EqB H 3 u v true := fun j u v hu hv => by
  obtain ⟨d, hd, a⟩ := paired_getL h1 hu
  obtain ⟨d', hd', b⟩ := paired_getL h2 hv
  rw [hd] at hd'
  cases hd'
  exact eqB_stp a b
theorem comp_due {K : PySem.W.Frag} {σ : St} {H : Hp} {Q : VK} {ld : Addr} {xd : List V} {ds : List (List Int × Str × Tm)} (hσ : σ[3]? = some (some (.ref ld))) (hld : H ld = some (.lst xd)) (D : DusAt H xd ds) (hl : xd.length ≤ 900)
    (k : ∀ p ys H', H' p = some (.lst ys) → StpsAt H' ys (ds.map fun d => (d.1, d.2.1)) → Same H H' → Q (.ref p) H') : tComp3 K (iList K (tVar 3)) [] tYes (tTup (tCons (tVar 0) (tCons (tVar 1) tNil))) σ H Q := by
  refine ⟨_, hσ, ld, rfl, ⟨_, SqL.of hld⟩, comp3_list (K := K) (a := ld) (xs := xd) (fun i zs H' => StpsAt H' zs ((ds.take i).map fun d => (d.1, d.2.1)) ∧ zs.length ≤ i ∧ i ≤ xd.length ∧ Same H H') ⟨.nil, Nat.le_refl _, Nat.zero_le _, Same.refl _⟩ (fun i zs H' ⟨_, h1, h2, _⟩ => Nat.le_of_lt (small1000 (by lia))) (fun i zs H' ⟨_, _, _, s⟩ => SqL.of (s _ _ hld)) ?_ ?_⟩
  · rintro i x zs H' R hR hx ⟨S, hz, hi, s⟩
    have hi' := (List.getElem?_eq_some_iff.mp hx).1
    obtain ⟨d, hd, a, b, c, rfl, ha, hb, hc⟩ := paired_getL D hx
    refine ⟨a, _, _, _, rfl, SqT.of (s _ _ ha), ?_⟩
    unfold tYes
    try dsimp only
    rw [if_pos rfl]
    refine ⟨_, rfl, _, rfl, by show 2 ≤ sizeLine; decide, fun p hp => hR _ _ ⟨?_, by rw [List.length_append]; show _ + 1 ≤ _; lia, hi', s.trans (same_upd hp)⟩⟩
    rw [take_snoc' hd, List.map_append]
    exact (S.same (same_upd hp)).snoc (b := (d.1, d.2.1)) ⟨p, b, rfl, upd_same, (s.trans (same_upd hp)) _ _ hb⟩
  · rintro zs H' ⟨S, hz, hi, s⟩ p hp
    rw [D.length, List.take_length] at S
    exact k p zs _ upd_same (S.same (same_upd hp)) (s.trans (same_upd hp))
theorem due_len (tm : Tm) : (dueT tm).length ≤ 16 * tm.flat.length := by
  have : ∀ l : List (List Int × Tm), (l.flatMap (dueP tm hows)).length ≤ 16 * l.length := fun l => by
    induction l with
    | nil => exact Nat.le_refl _
    | cons p l ih =>
      rw [List.flatMap_cons, List.length_append, List.length_cons]
      have h : (dueP tm hows p).length ≤ 16 := List.length_filterMap_le _ hows
      lia
  have h := this (tm.nds [])
  rw [tm.nds_len] at h
  exact h
theorem due_mem {tm : Tm} {d : List Int × Str × Tm} (h : d ∈ dueT tm) : ∃ (i : Nat) (s x : Tm), (tm.nds [])[i]? = some (d.1, s) ∧ trn d.2.1 s = some x ∧ d.2.2 = putT tm d.1 x := by
  obtain ⟨p, hp, h⟩ := List.mem_flatMap.mp h
  obtain ⟨h', _, h⟩ := List.mem_filterMap.mp h
  obtain ⟨i, hi⟩ := List.getElem?_of_mem hp
  cases e : trn h' p.2 with
  | none => rw [e] at h; cases h
  | some x =>
    rw [e] at h
    have h := Option.some.inj h
    subst h
    exact ⟨i, p.2, x, hi, e, rfl⟩
set_option genInjectivity false in
set_option genSizeOfSpec false in
structure Adr where
  a_is_sum_word : Addr
  f_is_sum_word : FuncData
  a_is_claim_word : Addr
  f_is_claim_word : FuncData
  a_sums_behind : Addr
  f_sums_behind : FuncData
  a_claims_behind : Addr
  f_claims_behind : FuncData
  a_is_made_of : Addr
  f_is_made_of : FuncData
  a_law_draw : Addr
  f_law_draw : FuncData
  a_law_arity : Addr
  f_law_arity : FuncData
  a_law_carries : Addr
  f_law_carries : FuncData
  a_law_joined : Addr
  f_law_joined : FuncData
  a_parts_of : Addr
  f_parts_of : FuncData
  a_is_name : Addr
  f_is_name : FuncData
  a_law_word : Addr
  f_law_word : FuncData
  a_law_parts : Addr
  f_law_parts : FuncData
  a_part_end : Addr
  f_part_end : FuncData
  a_paths_of : Addr
  f_paths_of : FuncData
  a_is_part_name : Addr
  f_is_part_name : FuncData
  a_law_leaf : Addr
  f_law_leaf : FuncData
  a_law_turned_two : Addr
  f_law_turned_two : FuncData
  a_law_turned_one : Addr
  f_law_turned_one : FuncData
  a_parts_bound : Addr
  f_parts_bound : FuncData
  a_filled : Addr
  f_filled : FuncData
  a_law_turned : Addr
  f_law_turned : FuncData
  a_stepped_once : Addr
  f_stepped_once : FuncData
  a_steps : Addr
  f_steps : FuncData
  a_led : Addr
  f_led : FuncData
  a_law_two : Addr
  f_law_two : FuncData
  a_law_sum : Addr
  f_law_sum : FuncData
  a_law_fit : Addr
  f_law_fit : FuncData
  a_law_paths : Addr
  f_law_paths : FuncData
  a_law_put : Addr
  f_law_put : FuncData
  a_law_steps : Addr
  f_law_steps : FuncData
  a_law : Addr
  f_law : FuncData
  g_SUM_PARTS : Addr
  g_SUMS_IN_CLAIM : Addr
  g_CLAIMS_IN_CLAIM : Addr
  k_LETTERS : Tok
  k_LONGEST_NAME : Tok
  g_TURNINGS : Addr
structure Kg (K : PySem.W.Frag) (w : World) (mg : Str → Option Value) (x : Str) (a : Addr) (l : List (Str × Int)) : Prop where
  m : mg x = some (.ref a)
  d : KD K w a l
structure Df (K : PySem.W.Frag) (mg : Str → Option Value) (x : Str) (st : Stmt) (ps : List Str) (f : Addr) (fd : FuncData) : Prop where
  F : Fun K x x st f fd
  m : mg x = some (.ref f)
  b : Binds K fd ps []
set_option genInjectivity false in
set_option genSizeOfSpec false in
structure Txt (K : PySem.W.Frag) (w : World) (mg : Str → Option Value) (t : Adr) : Prop where
  g_SUM_PARTS : Kg K w mg "SUM_PARTS" t.g_SUM_PARTS [("not", 1), ("neg", 1), ("twice", 1), ("low", 1), ("and", 2), ("or", 2), ("odd", 2), ("add", 2), ("sub", 2), ("pick", 3)]
  g_SUMS_IN_CLAIM : Kg K w mg "SUMS_IN_CLAIM" t.g_SUMS_IN_CLAIM [("same", 2), ("under", 2), ("beneath", 2), ("sign", 1), ("nought", 1)]
  g_CLAIMS_IN_CLAIM : Kg K w mg "CLAIMS_IN_CLAIM" t.g_CLAIMS_IN_CLAIM [("both", 2), ("either", 2), ("so", 2), ("never", 1), ("yes", 0)]
  g_LETTERS : mg "LETTERS" = some (.str "abcdefghijklmnopqrstuvwxyz" t.k_LETTERS)
  g_LONGEST_NAME : mg "LONGEST_NAME" = some (.int 8 t.k_LONGEST_NAME)
  g_TURNINGS : Kr K mg "TURNINGS" t.g_TURNINGS turns
  d_is_sum_word : Df K mg "is_sum_word" s_is_sum_word ["text"] t.a_is_sum_word t.f_is_sum_word
  d_is_claim_word : Df K mg "is_claim_word" s_is_claim_word ["text"] t.a_is_claim_word t.f_is_claim_word
  d_sums_behind : Df K mg "sums_behind" s_sums_behind ["word"] t.a_sums_behind t.f_sums_behind
  d_claims_behind : Df K mg "claims_behind" s_claims_behind ["word"] t.a_claims_behind t.f_claims_behind
  d_is_made_of : Df K mg "is_made_of" s_is_made_of ["text", "signs"] t.a_is_made_of t.f_is_made_of
  d_law_draw : Df K mg "_law_draw" s_law_draw ["script", "k"] t.a_law_draw t.f_law_draw
  d_law_arity : Df K mg "_law_arity" s_law_arity ["word"] t.a_law_arity t.f_law_arity
  d_law_carries : Df K mg "_law_carries" s_law_carries ["words"] t.a_law_carries t.f_law_carries
  d_law_joined : Df K mg "_law_joined" s_law_joined ["word", "shares"] t.a_law_joined t.f_law_joined
  d_parts_of : Df K mg "parts_of" s_parts_of ["word"] t.a_parts_of t.f_parts_of
  d_is_name : Df K mg "is_name" s_is_name ["text"] t.a_is_name t.f_is_name
  d_law_word : Df K mg "_law_word" s_law_word ["script", "i"] t.a_law_word t.f_law_word
  d_law_parts : Df K mg "_law_parts" s_law_parts ["words"] t.a_law_parts t.f_law_parts
  d_part_end : Df K mg "part_end" s_part_end ["words", "begin"] t.a_part_end t.f_part_end
  d_paths_of : Df K mg "paths_of" s_paths_of ["words"] t.a_paths_of t.f_paths_of
  d_is_part_name : Df K mg "is_part_name" s_is_part_name ["word"] t.a_is_part_name t.f_is_part_name
  d_law_leaf : Df K mg "_law_leaf" s_law_leaf ["script", "draw", "many"] t.a_law_leaf t.f_law_leaf
  d_law_turned_two : Df K mg "_law_turned_two" s_law_turned_two ["how", "word", "shares"] t.a_law_turned_two t.f_law_turned_two
  d_law_turned_one : Df K mg "_law_turned_one" s_law_turned_one ["how", "word", "one"] t.a_law_turned_one t.f_law_turned_one
  d_parts_bound : Df K mg "parts_bound" s_parts_bound ["form", "words"] t.a_parts_bound t.f_parts_bound
  d_filled : Df K mg "filled" s_filled ["form", "bound"] t.a_filled t.f_filled
  d_law_turned : Df K mg "_law_turned" s_law_turned ["how", "words"] t.a_law_turned t.f_law_turned
  d_stepped_once : Df K mg "stepped_once" s_stepped_once ["words", "path", "rule"] t.a_stepped_once t.f_stepped_once
  d_steps : Df K mg "steps" s_steps ["words"] t.a_steps t.f_steps
  d_led : Df K mg "led" s_led ["words", "chain"] t.a_led t.f_led
  d_law_two : Df K mg "_law_two" s_law_two ["script", "at", "many", "fuel"] t.a_law_two t.f_law_two
  d_law_sum : Df K mg "_law_sum" s_law_sum ["script", "at", "many", "fuel"] t.a_law_sum t.f_law_sum
  d_law_fit : Df K mg "_law_fit" s_law_fit ["script", "at", "many", "most"] t.a_law_fit t.f_law_fit
  d_law_paths : Df K mg "_law_paths" s_law_paths ["words"] t.a_law_paths t.f_law_paths
  d_law_put : Df K mg "_law_put" s_law_put ["words", "path", "part"] t.a_law_put t.f_law_put
  d_law_steps : Df K mg "_law_steps" s_law_steps ["words"] t.a_law_steps t.f_law_steps
  d_law : Df K mg "law" s_law ["script"] t.a_law t.f_law
  z_all : mg "all" = none
  z_enumerate : mg "enumerate" = none
  z_int : mg "int" = none
  z_isinstance : mg "isinstance" = none
  z_len : mg "len" = none
  z_list : mg "list" = none
  z_max : mg "max" = none
  z_min : mg "min" = none
  z_range : mg "range" = none
  z_str : mg "str" = none
  z_tuple : mg "tuple" = none
theorem sc_is_sum_word : FnScope ["text"] ["text"] (defScope s_is_sum_word) := ⟨rfl, rfl, rfl, by decide +kernel, rfl, by decide +kernel, by decide +kernel⟩
theorem sc_is_claim_word : FnScope ["text"] ["text"] (defScope s_is_claim_word) := ⟨rfl, rfl, rfl, by decide +kernel, rfl, by decide +kernel, by decide +kernel⟩
theorem sc_sums_behind : FnScope ["word"] ["word"] (defScope s_sums_behind) := ⟨rfl, rfl, rfl, by decide +kernel, rfl, by decide +kernel, by decide +kernel⟩
theorem sc_claims_behind : FnScope ["word"] ["word"] (defScope s_claims_behind) := ⟨rfl, rfl, rfl, by decide +kernel, rfl, by decide +kernel, by decide +kernel⟩
theorem sc_is_made_of : FnScope ["text", "signs"] ["text", "signs"] (defScope s_is_made_of) := ⟨rfl, rfl, rfl, by decide +kernel, rfl, by decide +kernel, by decide +kernel⟩
theorem sc_law_draw : FnScope ["script", "k", "many", "cell", "turn", "mixed"] ["script", "k"] (defScope s_law_draw) := ⟨rfl, rfl, rfl, by decide +kernel, rfl, by decide +kernel, by decide +kernel⟩
theorem sc_law_arity : FnScope ["word"] ["word"] (defScope s_law_arity) := ⟨rfl, rfl, rfl, by decide +kernel, rfl, by decide +kernel, by decide +kernel⟩
theorem sc_law_carries : FnScope ["words"] ["words"] (defScope s_law_carries) := ⟨rfl, rfl, rfl, by decide +kernel, rfl, by decide +kernel, by decide +kernel⟩
theorem sc_law_joined : FnScope ["word", "shares", "found", "part"] ["word", "shares"] (defScope s_law_joined) := ⟨rfl, rfl, rfl, by decide +kernel, rfl, by decide +kernel, by decide +kernel⟩
theorem sc_parts_of : FnScope ["word"] ["word"] (defScope s_parts_of) := ⟨rfl, rfl, rfl, by decide +kernel, rfl, by decide +kernel, by decide +kernel⟩
theorem sc_is_name : FnScope ["text"] ["text"] (defScope s_is_name) := ⟨rfl, rfl, rfl, by decide +kernel, rfl, by decide +kernel, by decide +kernel⟩
theorem sc_law_word : FnScope ["script", "i", "letters", "pad", "place", "tail", "word"] ["script", "i"] (defScope s_law_word) := ⟨rfl, rfl, rfl, by decide +kernel, rfl, by decide +kernel, by decide +kernel⟩
theorem sc_law_parts : FnScope ["words", "shares", "left", "part", "wanted", "found", "word"] ["words"] (defScope s_law_parts) := ⟨rfl, rfl, rfl, by decide +kernel, rfl, by decide +kernel, by decide +kernel⟩
theorem sc_part_end : FnScope ["words", "begin", "place", "lacking"] ["words", "begin"] (defScope s_part_end) := ⟨rfl, rfl, rfl, by decide +kernel, rfl, by decide +kernel, by decide +kernel⟩
theorem sc_paths_of : FnScope ["words", "paths", "coming", "word", "path", "number"] ["words"] (defScope s_paths_of) := ⟨rfl, rfl, rfl, by decide +kernel, rfl, by decide +kernel, by decide +kernel⟩
theorem sc_is_part_name : FnScope ["word"] ["word"] (defScope s_is_part_name) := ⟨rfl, rfl, rfl, by decide +kernel, rfl, by decide +kernel, by decide +kernel⟩
theorem sc_law_leaf : FnScope ["script", "draw", "many"] ["script", "draw", "many"] (defScope s_law_leaf) := ⟨rfl, rfl, rfl, by decide +kernel, rfl, by decide +kernel, by decide +kernel⟩
theorem sc_law_turned_two : FnScope ["how", "word", "shares", "one", "other", "both", "some"] ["how", "word", "shares"] (defScope s_law_turned_two) := ⟨rfl, rfl, rfl, by decide +kernel, rfl, by decide +kernel, by decide +kernel⟩
theorem sc_law_turned_one : FnScope ["how", "word", "one", "some"] ["how", "word", "one"] (defScope s_law_turned_one) := ⟨rfl, rfl, rfl, by decide +kernel, rfl, by decide +kernel, by decide +kernel⟩
theorem sc_parts_bound : FnScope ["form", "words", "bound", "place", "word", "end"] ["form", "words"] (defScope s_parts_bound) := ⟨rfl, rfl, rfl, by decide +kernel, rfl, by decide +kernel, by decide +kernel⟩
theorem sc_filled : FnScope ["form", "bound", "words", "word"] ["form", "bound"] (defScope s_filled) := ⟨rfl, rfl, rfl, by decide +kernel, rfl, by decide +kernel, by decide +kernel⟩
theorem sc_law_turned : FnScope ["how", "words", "shares"] ["how", "words"] (defScope s_law_turned) := ⟨rfl, rfl, rfl, by decide +kernel, rfl, by decide +kernel, by decide +kernel⟩
theorem sc_stepped_once : FnScope ["words", "path", "rule", "paths", "begin", "end", "turning", "bound"] ["words", "path", "rule"] (defScope s_stepped_once) := ⟨rfl, rfl, rfl, by decide +kernel, rfl, by decide +kernel, by decide +kernel⟩
theorem sc_steps : FnScope ["words", "told", "begin", "path", "part"] ["words"] (defScope s_steps) := ⟨rfl, rfl, rfl, by decide +kernel, rfl, by decide +kernel, by decide +kernel⟩
theorem sc_led : FnScope ["words", "chain", "step"] ["words", "chain"] (defScope s_led) := ⟨rfl, rfl, rfl, by decide +kernel, rfl, by decide +kernel, by decide +kernel⟩
theorem sc_law_two : FnScope ["script", "at", "many", "fuel", "draw", "one"] ["script", "at", "many", "fuel"] (defScope s_law_two) := ⟨rfl, rfl, rfl, by decide +kernel, rfl, by decide +kernel, by decide +kernel⟩
theorem sc_law_sum : FnScope ["script", "at", "many", "fuel", "draw", "words", "word", "one"] ["script", "at", "many", "fuel"] (defScope s_law_sum) := ⟨rfl, rfl, rfl, by decide +kernel, rfl, by decide +kernel, by decide +kernel⟩
theorem sc_law_fit : FnScope ["script", "at", "many", "most", "fuel", "found"] ["script", "at", "many", "most"] (defScope s_law_fit) := ⟨rfl, rfl, rfl, by decide +kernel, rfl, by decide +kernel, by decide +kernel⟩
theorem sc_law_paths : FnScope ["words", "found", "k", "part", "path", "below"] ["words"] (defScope s_law_paths) := ⟨rfl, rfl, rfl, by decide +kernel, rfl, by decide +kernel, by decide +kernel⟩
theorem sc_law_put : FnScope ["words", "path", "part", "shares"] ["words", "path", "part"] (defScope s_law_put) := ⟨rfl, rfl, rfl, by decide +kernel, rfl, by decide +kernel, by decide +kernel⟩
theorem sc_law_steps : FnScope ["words", "hows", "found", "path", "below", "how", "spun"] ["words"] (defScope s_law_steps) := ⟨rfl, rfl, rfl, by decide +kernel, rfl, by decide +kernel, by decide +kernel⟩
theorem sc_law : FnScope ["script", "many", "words", "due", "found", "path", "how", "spun"] ["script"] (defScope s_law) := ⟨rfl, rfl, rfl, by decide +kernel, rfl, by decide +kernel, by decide +kernel⟩
section
variable {P : Program} {w : World} {K : PySem.W.Frag} {mg : Str → Option Value} {base : Heap} {t : Adr}
inductive sp_is_sum_word_i (vs : List V) (H : Hp) (Q : VK) : Prop
  | mk (y : Str) : (vs = [.str y]) → (Q (.bl (decide (y ∈ sumW))) H) → sp_is_sum_word_i vs H Q
def sp_is_sum_word (K : PySem.W.Frag) : Sp := fun vs H Q _ => sp_is_sum_word_i vs H Q
theorem ok_is_sum_word (T : Txt K w mg t) : FnOk P w K mg base CX0 1 t.a_is_sum_word t.f_is_sum_word ["text"] (sp_is_sum_word K) := by
  refine T.d_is_sum_word.F.ok sc_is_sum_word (fun vs H Q E h => ?_) (fun cdv A outer s H vs Q E hr h => ?_)
  · obtain ⟨y, rfl, k⟩ := h
    rfl
  · obtain ⟨y, rfl, k⟩ := h
    have hu := hu_of hr
    refine ⟨_, @QSs.out _ _ _ (qss_one (qs_ret (qe_cmpR op_in_K (qv 0) (qe_glob (v := .ref t.g_SUM_PARTS) rfl T.g_SUM_PARTS.m rfl) (by with_unfolding_all rfl)))), ?_⟩
    clear hu hr
    try dsimp only [L2.cxK, L2.cxK2]
    refine ⟨_, rfl, t.g_SUM_PARTS, T1, .inr y, rfl, T.g_SUM_PARTS.d, rfl, ?_⟩
    rw [kv_has, tw1]
    exact k
inductive sp_is_claim_word_i (vs : List V) (H : Hp) (Q : VK) : Prop
  | mk (k : Key) : (vs = [kV k]) → (Q (.bl (clK k)) H) → sp_is_claim_word_i vs H Q
def sp_is_claim_word (K : PySem.W.Frag) : Sp := fun vs H Q _ => sp_is_claim_word_i vs H Q
theorem kv_hasK (l : List (Str × Int)) (k : Key) : (valV (kvsOf l) k).isSome = (match k with | .inr y => decide (y ∈ l.map (·.1)) | .inl _ => false) := by
  cases k with
  | inr y => exact kv_has l y
  | inl z =>
    induction l with
    | nil => rfl
    | cons p r ih =>
      have e : valV (kvsOf (p :: r)) (.inl z) = valV (kvsOf r) (.inl z) := valV_neg (p := ((Sum.inr p.1 : Key), V.int p.2)) (fun z => nomatch z)
      rw [e, ih]
theorem claim_or (k : Key) : clK k = ((valV (kvsOf T2) k).isSome || (valV (kvsOf T3) k).isSome) := by
  rw [kv_hasK, kv_hasK]
  cases k with
  | inl z => rfl
  | inr y =>
    show decide (y ∈ claimW) = (decide (y ∈ T2.map (·.1)) || decide (y ∈ T3.map (·.1)))
    have e : claimW = T2.map (·.1) ++ T3.map (·.1) := by decide +kernel
    rw [e]
    by_cases h1 : y ∈ T2.map (·.1)
    · rw [decide_eq_true h1, decide_eq_true (List.mem_append_left _ h1)]
      rfl
    · by_cases h2 : y ∈ T3.map (·.1)
      · rw [decide_eq_true h2, decide_eq_true (List.mem_append_right _ h2), Bool.or_true]
      · rw [decide_eq_false h1, decide_eq_false h2, decide_eq_false (fun z => (List.mem_append.mp z).elim h1 h2)]
        rfl
theorem ok_is_claim_word (T : Txt K w mg t) : FnOk P w K mg base CX0 1 t.a_is_claim_word t.f_is_claim_word ["text"] (sp_is_claim_word K) := by
  refine T.d_is_claim_word.F.ok sc_is_claim_word (fun vs H Q E h => ?_) (fun cdv A outer s H vs Q E hr h => ?_)
  · obtain ⟨kk, rfl, k⟩ := h
    rfl
  · obtain ⟨kk, rfl, k⟩ := h
    have hu := hu_of hr
    refine ⟨_, @QSs.out _ _ _ (qss_one (qs_ret (qe_or (qe_cmpR op_in_K (qv 0) (qe_glob (v := .ref t.g_SUMS_IN_CLAIM) rfl T.g_SUMS_IN_CLAIM.m rfl) (by with_unfolding_all rfl)) (qe_one (qe_cmpR op_in_K (qv 0) (qe_glob (v := .ref t.g_CLAIMS_IN_CLAIM) rfl T.g_CLAIMS_IN_CLAIM.m rfl) (by with_unfolding_all rfl)))))), ?_⟩
    clear hu hr
    try dsimp only [L2.cxK, L2.cxK2]
    rw [claim_or] at k
    refine ⟨_, rfl, t.g_SUMS_IN_CLAIM, T2, kk, rfl, T.g_SUMS_IN_CLAIM.d, rfl, _, rfl, ?_⟩
    cases h : (valV (kvsOf T2) kk).isSome with
    | true =>
      rw [h] at k
      exact iteT k
    | false =>
      rw [h] at k
      exact iteF ⟨_, rfl, t.g_CLAIMS_IN_CLAIM, T3, kk, rfl, T.g_CLAIMS_IN_CLAIM.d, rfl, k⟩
inductive sp_sums_behind_i (vs : List V) (H : Hp) (Q : VK) : Prop
  | mk (k : Key) : (vs = [kV k]) → (Q (.int (getN T1 k + getN T2 k)) H) → sp_sums_behind_i vs H Q
def sp_sums_behind (K : PySem.W.Frag) : Sp := fun vs H Q _ => sp_sums_behind_i vs H Q
theorem ok_sums_behind (T : Txt K w mg t) : FnOk P w K mg base CX0 1 t.a_sums_behind t.f_sums_behind ["word"] (sp_sums_behind K) := by
  refine T.d_sums_behind.F.ok sc_sums_behind (fun vs H Q E h => ?_) (fun cdv A outer s H vs Q E hr h => ?_)
  · obtain ⟨kk, rfl, k⟩ := h
    rfl
  · obtain ⟨kk, rfl, k⟩ := h
    have hu := hu_of hr
    refine ⟨_, @QSs.out _ _ _ (qss_one (qs_ret (qe_op op_add (qe_kget (qe_glob (v := .ref t.g_SUM_PARTS) rfl T.g_SUM_PARTS.m rfl) (qv 0) qe_int) (qe_kget (qe_glob (v := .ref t.g_SUMS_IN_CLAIM) rfl T.g_SUMS_IN_CLAIM.m rfl) (qv 0) qe_int)))), ?_⟩
    clear hu hr
    try dsimp only [L2.cxK, L2.cxK2]
    refine ⟨t.g_SUM_PARTS, T1, rfl, T.g_SUM_PARTS.d, _, rfl, kk, rfl, t.g_SUMS_IN_CLAIM, T2, rfl, T.g_SUMS_IN_CLAIM.d, _, rfl, kk, rfl, ?_⟩
    rw [kget, kget]
    exact ⟨_, _, rfl, rfl, k⟩
inductive sp_claims_behind_i (vs : List V) (H : Hp) (Q : VK) : Prop
  | mk (k : Key) : (vs = [kV k]) → (Q (.int (getN T3 k)) H) → sp_claims_behind_i vs H Q
def sp_claims_behind (K : PySem.W.Frag) : Sp := fun vs H Q _ => sp_claims_behind_i vs H Q
theorem ok_claims_behind (T : Txt K w mg t) : FnOk P w K mg base CX0 1 t.a_claims_behind t.f_claims_behind ["word"] (sp_claims_behind K) := by
  refine T.d_claims_behind.F.ok sc_claims_behind (fun vs H Q E h => ?_) (fun cdv A outer s H vs Q E hr h => ?_)
  · obtain ⟨kk, rfl, k⟩ := h
    rfl
  · obtain ⟨kk, rfl, k⟩ := h
    have hu := hu_of hr
    refine ⟨_, @QSs.out _ _ _ (qss_one (qs_ret (qe_kget (qe_glob (v := .ref t.g_CLAIMS_IN_CLAIM) rfl T.g_CLAIMS_IN_CLAIM.m rfl) (qv 0) qe_int))), ?_⟩
    clear hu hr
    try dsimp only [L2.cxK, L2.cxK2]
    refine ⟨t.g_CLAIMS_IN_CLAIM, T3, rfl, T.g_CLAIMS_IN_CLAIM.d, _, rfl, kk, rfl, ?_⟩
    rw [kget]
    exact k
inductive sp_is_made_of_i (vs : List V) (H : Hp) (Q : VK) : Prop
  | mk (y sg : Str) : (vs = [.str y, .str sg]) → (y.length ≤ 100000) → (∀ H', Same H H' → Q (.bl (decide (MadeOf y sg))) H') → sp_is_made_of_i vs H Q
def sp_is_made_of (K : PySem.W.Frag) : Sp := fun vs H Q _ => sp_is_made_of_i vs H Q
theorem ok_is_made_of (T : Txt K w mg t) : FnOk P w K mg base CX0 1 t.a_is_made_of t.f_is_made_of ["text", "signs"] (sp_is_made_of K) := by
  refine T.d_is_made_of.F.ok sc_is_made_of (fun vs H Q E h => ?_) (fun cdv A outer s H vs Q E hr h => ?_)
  · obtain ⟨y, sg, rfl, hl, k⟩ := h
    rfl
  · obtain ⟨y, sg, rfl, hl, k⟩ := h
    have hu := hu_of hr
    refine ⟨_, @QSs.out _ _ _ (qss_one (qs_ret (qe_and (qe_cmpR op_ne (qv 0) qe_str (nomark _)) (qe_one (qe_callBF (call_allL rfl) (by rfl) T.z_all bt_all (qa_c (qe_comp (⟨by rfl, by decide +kernel, by decide +kernel, by rfl, by decide +kernel, by decide +kernel, by rfl, by decide +kernel⟩ : CompSc (defScope s_is_made_of) _ ["text", "signs"] "sign" ["signs"] [1]) (qi_str (qv 0)) (fun _ _ _ _ => qf_nil) (fun _ _ _ _ => (qe_cmpR op_in_str (qv 0) (qv 1) (by with_unfolding_all rfl)))) qa_nil)))))), ?_⟩
    clear hu hr
    try dsimp only [L2.cxK, L2.cxK2]
    refine ⟨_, rfl, rfl, _, rfl, ?_⟩
    by_cases hy : y.cps.toList = []
    · have e := nil_signs.mp hy
      subst e
      rw [decide_eq_true (rfl : V.str ("" : Str) = V.str ("" : Str))]
      refine iteF ?_
      have e2 : decide (MadeOf ("" : Str) sg) = false := decide_eq_false fun z => z.1 (nil_signs.mpr rfl)
      have := k H (Same.refl H)
      rw [e2] at this
      exact this
    have hne : ¬ V.str y = V.str ("" : Str) := fun z => hy (nil_signs.mpr (by injection z))
    rw [decide_eq_false hne]
    refine iteT ?_
    refine ⟨_, rfl, y, rfl, comp_str (fun c => .bl (decide (c ∈ sg.cps.toList))) (Nat.le_trans (show y.length ≤ 100000 from hl) (by decide)) (fun c _ R hR => ?_) (fun l hl2 => ?_)⟩
    · refine ⟨_, rfl, _, rfl, _, _, rfl, rfl, ?_⟩
      rw [occ_mem]
      exact hR
    have e1 : (y.cps.toList.map fun c => V.bl (decide (c ∈ sg.cps.toList))) = (y.cps.toList.map fun c => decide (c ∈ sg.cps.toList)).map V.bl := by rw [List.map_map]; rfl
    rw [e1]
    refine ⟨l, _, rfl, SqL.of upd_same, ?_⟩
    rw [all_bs]
    have e2 : decide (MadeOf y sg) = decide (∀ c ∈ y.cps.toList, decide (c ∈ sg.cps.toList) = true) := by
      rw [Bool.eq_iff_iff, decide_eq_true_iff, decide_eq_true_iff]
      constructor
      · intro z c hc
        exact decide_eq_true (z.2 c hc)
      · intro z
        exact ⟨hy, fun c hc => of_decide_eq_true (z c hc)⟩
    rw [← e2]
    exact k _ (same_upd hl2)
inductive sp_law_draw_i (K : PySem.W.Frag) (vs : List V) (H : Hp) (Q : VK) : Prop
  | mk (a : Addr) (ns : List Int) (k : Nat) : (vs = [.ref a, .int (k : Int)]) → (SqL K H a (ns.map V.int)) → (ns.length ≤ 63) → (k ≤ 10000) → (∀ H', Same H H' → Q (.int (drw ns k)) H') → sp_law_draw_i K vs H Q
def sp_law_draw (K : PySem.W.Frag) : Sp := fun vs H Q _ => sp_law_draw_i K vs H Q
theorem ok_law_draw (T : Txt K w mg t) : FnOk P w K mg base CX0 1 t.a_law_draw t.f_law_draw ["script", "k"] (sp_law_draw K) := by
  refine T.d_law_draw.F.ok sc_law_draw (fun vs H Q E h => ?_) (fun cdv A outer s H vs Q E hr h => ?_)
  · obtain ⟨a, ns, kk, rfl, ha, hl, hkk, k⟩ := h
    rfl
  · obtain ⟨a, ns, kk, rfl, ha, hl, hkk, k⟩ := h
    have hu := hu_of hr
    refine ⟨_, @QSs.out _ _ _ (qss_cons (qs_set (i := 2) sc_law_draw.nd rfl (Or.inl rfl) (qe_callBF (call_max2 rfl) (by rfl) T.z_max bt_max (qa_c qe_int (qa_c (qe_callBF call_len_seq (by rfl) T.z_len bt_len (qa_c (qv 0) qa_nil)) qa_nil))))
        (qss_cons (qs_set (i := 3) sc_law_draw.nd rfl (Or.inl rfl) (qe_ix ix_list (qe_op op_cat (qe_callTF call_list_of (by rfl) T.z_list bt_list (qa_c (qv 0) qa_nil)) (qe_lst (qa_c qe_int qa_nil))) (qe_op op_mod (qv 1) (qv 2)) (fun _ _ => rfl)))
        (qss_cons (qs_if (qw_pt (qw_or (qt_cmpR op_ge (qv 3) (qe_op op_pow qe_int qe_int) (nomark _)) (qw_or1 (qt_cmpR op_le (qv 3) (qe_un un_neg (qe_op op_pow qe_int qe_int)) (nomark _)))))
        (qss_cons (qs_for PassesOwn.never rfl (qi_rangeF rfl T.z_range (qa_c (qe_callBF (call_min2 rfl) (by rfl) T.z_min bt_min (qa_c (qe_op op_fdivB (qv 1) (qv 2)) (qa_c qe_int qa_nil))) qa_nil)) (qg_name (i := 4) sc_law_draw.nd rfl (Or.inl rfl))
        (qss_one (qs_set (i := 3) sc_law_draw.nd rfl (Or.inl rfl) (qe_op op_fdivB (qv 3) qe_int))))
        (qss_one (qs_ret (qe_op op_mod (qv 3) qe_int)))) qss_nil)
        (qss_cons (qs_set (i := 5) sc_law_draw.nd rfl (Or.inl rfl) (qe_op op_mod (qe_op op_mulB (qe_op op_add (qe_op op_add (qe_op op_mod (qv 3) qe_int) qe_int) (qe_op op_mulB qe_int (qe_op op_fdivB (qv 1) (qv 2)))) qe_int) qe_int))
        (qss_cons (qs_set (i := 5) sc_law_draw.nd rfl (Or.inl rfl) (qe_op op_mod (qe_op op_mulB (qv 5) (qv 5)) qe_int))
        (qss_one (qs_ret (qe_op op_mod (qe_op op_mulB (qv 5) qe_int) qe_int)))))))), ?_⟩
    clear hu hr
    try dsimp only [L2.cxK, L2.cxK2]
    refine L2.let6 ?_
    intro U5 U4 U3 U2 U1
    have hmn : (if ((ns.map V.int).length : Int) > 1 then ((ns.map V.int).length : Int) else 1) = (manyN ns : Int) := by
      unfold manyN
      rw [List.length_map]
      split <;> lia
    refine ⟨_, rfl, a, _, rfl, .inl ha, 1, _, rfl, gName_go ?_⟩
    try dsimp only
    rw [hmn]
    have m1 : 1 ≤ manyN ns := by unfold manyN; lia
    have m2 : manyN ns ≤ ns.length + 1 := by unfold manyN; lia
    refine ⟨_, rfl, a, _, rfl, .inl ha, fun c1 hc1 => ⟨by show 1 ≤ sizeLine; decide, fun c2 hc2 => ⟨c1, c2, _, _, rfl, rfl, same_upd hc2 _ _ upd_same, upd_same, ?_, fun c3 hc3 => ?_⟩⟩⟩
    · rw [List.length_map]
      exact Nat.le_of_lt (small1000 (by show ns.length + 1 ≤ 1000; lia))
    have s1 := (same_upd (o := .lst (ns.map V.int)) hc1).trans ((same_upd (o := .lst [V.int 0]) hc2).trans (same_upd (o := .lst (ns.map V.int ++ [V.int 0])) hc3))
    have h3 := upd_same (H := upd (upd H c1 (.lst (ns.map V.int))) c2 (.lst [V.int 0])) (a := c3) (o := .lst (ns.map V.int ++ [V.int 0]))
    generalize upd (upd (upd H c1 (.lst (ns.map V.int))) c2 (.lst [V.int 0])) c3 (.lst (ns.map V.int ++ [V.int 0])) = H1 at *
    have ec : atI (ns.map V.int ++ [V.int 0]) ((kk : Int) % (manyN ns : Int)) = some (.int (cellN ns kk)) := by
      have hlt := Nat.mod_lt kk m1
      rw [← Int.natCast_emod, show ns.map V.int ++ [V.int 0] = (ns ++ [0]).map V.int by rw [List.map_append]; rfl]
      have hl : kk % manyN ns < (ns ++ [0]).length := by rw [List.length_append]; show _ < ns.length + 1; lia
      refine atI_nat ?_
      unfold cellN
      rw [List.getElem?_map, List.getElem?_eq_getElem hl, List.getD_eq_getElem?_getD, List.getElem?_eq_getElem hl]
      rfl
    refine ⟨_, rfl, _, rfl, _, _, rfl, rfl, (by show (0 : Int) < (manyN ns : Int); lia), c3, _, _, _, rfl, rfl, SqL.of h3, ec, gName_go ?_⟩
    have hdv : (kk : Int) / (manyN ns : Int) = ((kk / manyN ns : Nat) : Int) := by rw [Int.natCast_ediv]
    have hd2 : kk / manyN ns ≤ 10000 := Nat.le_trans (Nat.div_le_self _ _) hkk
    obtain ⟨nn, hnn, hn60⟩ : ∃ n : Nat, n = min (kk / manyN ns) 60 ∧ n ≤ 60 := ⟨_, rfl, Nat.min_le_right _ _⟩
    have hmin : (if (60 : Int) < (kk : Int) / (manyN ns : Int) then (60 : Int) else (kk : Int) / (manyN ns : Int)) = (nn : Int) := by
      rw [hdv]
      split <;> lia
    refine ⟨_, rfl, _, _, rfl, rfl, ⟨by decide, by decide, by decide⟩, _, _, rfl, rfl, _, rfl, ite2 (fun c1 => ?_) (fun c1 => ?_)⟩
    · refine iteT ?_
      have hb : cellN ns kk ≥ 10 ^ 18 ∨ cellN ns kk ≤ -10 ^ 18 := .inl (of_decide_eq_true c1)
      refine ⟨_, rfl, _, rfl, _, _, rfl, rfl, .of (by lia) (by lia), _, _, rfl, (nn : Int), (by rw [hmin]), by lia, by lia, for_range (fun i σ H' => ∃ (u4 : Option V), σ = [some (.ref a), some (.int (kk : Int)), some (.int (manyN ns : Int)), some (.int (iterD (cellN ns kk) i)), u4, none] ∧ H' = H1) ⟨none, rfl, rfl⟩ ?_ ?_⟩
      · rintro i σ H' hi hz_
        refine hideG fun Gz hGz => ?_
        obtain ⟨u4, rfl, rfl⟩ := hz_
        refine hGz ?_
        clear hGz Gz
        exact ⟨_, rfl, _, _, rfl, rfl, .of (by decide) (by decide), gName_go ⟨_, rfl, rfl⟩⟩
      · rintro σ H' hz_
        refine hideG fun Gz hGz => ?_
        obtain ⟨u4, rfl, rfl⟩ := hz_
        refine hGz ?_
        clear hGz Gz
        refine ⟨_, rfl, _, _, rfl, rfl, (by show (0 : Int) < 1000003; decide), ?_⟩
        have e := k _ s1
        unfold drw at e
        rw [if_pos hb, ← hnn] at e
        exact e
    refine ⟨_, rfl, _, _, rfl, rfl, ⟨by decide, by decide, by decide⟩, _, rfl, _, _, rfl, rfl, _, rfl, ite2 (fun c2 => ?_) (fun c2 => ?_)⟩
    · have hb : cellN ns kk ≥ 10 ^ 18 ∨ cellN ns kk ≤ -10 ^ 18 := .inr (of_decide_eq_true c2)
      refine ⟨_, rfl, _, rfl, _, _, rfl, rfl, .of (by lia) (by lia), _, _, rfl, (nn : Int), (by rw [hmin]), by lia, by lia, for_range (fun i σ H' => ∃ (u4 : Option V), σ = [some (.ref a), some (.int (kk : Int)), some (.int (manyN ns : Int)), some (.int (iterD (cellN ns kk) i)), u4, none] ∧ H' = H1) ⟨none, rfl, rfl⟩ ?_ ?_⟩
      · rintro i σ H' hi hz_
        refine hideG fun Gz hGz => ?_
        obtain ⟨u4, rfl, rfl⟩ := hz_
        refine hGz ?_
        clear hGz Gz
        exact ⟨_, rfl, _, _, rfl, rfl, .of (by decide) (by decide), gName_go ⟨_, rfl, rfl⟩⟩
      · rintro σ H' hz_
        refine hideG fun Gz hGz => ?_
        obtain ⟨u4, rfl, rfl⟩ := hz_
        refine hGz ?_
        clear hGz Gz
        refine ⟨_, rfl, _, _, rfl, rfl, (by show (0 : Int) < 1000003; decide), ?_⟩
        have e := k _ s1
        unfold drw at e
        rw [if_pos hb, ← hnn] at e
        exact e
    have hb : ¬ (cellN ns kk ≥ 10 ^ 18 ∨ cellN ns kk ≤ -10 ^ 18) := fun z => z.elim (fun z => c1 (decide_eq_true z)) (fun z => c2 (decide_eq_true z))
    have e := k _ s1
    unfold drw at e
    rw [if_neg hb] at e
    have ma : 0 ≤ mixA ns kk ∧ mixA ns kk < 2147483629 := ⟨Int.emod_nonneg _ (by decide), Int.emod_lt_of_pos _ (by decide)⟩
    refine ⟨_, rfl, _, _, rfl, rfl, (by show (0 : Int) < 2147483629; decide), _, _, rfl, rfl, _, rfl, _, rfl, _, _, rfl, rfl, .of (by lia) (by lia), _, _, rfl, rfl, .inr (.inl ⟨by decide, by decide⟩), _, _, rfl, rfl, _, _, rfl, rfl, .inr (.inr ⟨by decide, by decide⟩), _, _, rfl, rfl, (by show (0 : Int) < 2147483629; decide), gName_go ?_⟩
    refine ⟨_, rfl, _, rfl, _, _, rfl, rfl, .inr (.inl ⟨?_, ?_⟩), _, _, rfl, rfl, (by show (0 : Int) < 2147483587; decide), gName_go ?_⟩
    · show -2 ^ 64 < mixA ns kk
      lia
    · show mixA ns kk < 2 ^ 64
      lia
    exact ⟨_, rfl, _, _, rfl, rfl, .inr (.inr ⟨by decide, by decide⟩), _, _, rfl, rfl, (by show (0 : Int) < 2147483579; decide), e⟩
inductive sp_law_arity_i (vs : List V) (H : Hp) (Q : VK) : Prop
  | mk (x : V) : (vs = [x]) → (SI x) → (∀ H', Same H H' → Q (.int (partsV x : Int)) H') → sp_law_arity_i vs H Q
def sp_law_arity (K : PySem.W.Frag) : Sp := fun vs H Q _ => sp_law_arity_i vs H Q
theorem ok_law_arity (T : Txt K w mg t) : FnOk P w K mg base CX0 1 t.a_law_arity t.f_law_arity ["word"] (sp_law_arity K) := by
  refine T.d_law_arity.F.ok sc_law_arity (fun vs H Q E h => ?_) (fun cdv A outer s H vs Q E hr h => ?_)
  · obtain ⟨x, rfl, hx, k⟩ := h
    rfl
  · obtain ⟨x, rfl, hx, k⟩ := h
    have hu := hu_of hr
    refine ⟨_, @QSs.out _ _ _ (qss_cons (qs_if (qt_cmpR op_in_seq (qv 0) (qe_tup (qa_c qe_str (qa_c qe_str (qa_c qe_str (qa_c qe_str qa_nil))))) (by with_unfolding_all rfl))
        (qss_one (qs_ret qe_int)) qss_nil)
        (qss_cons (qs_if (qt_cmpR op_in_seq (qv 0) (qe_tup (qa_c qe_str (qa_c qe_str (qa_c qe_str (qa_c qe_str (qa_c qe_str qa_nil)))))) (by with_unfolding_all rfl))
        (qss_one (qs_ret qe_int)) qss_nil)
        (qss_one (qs_ret (qe_op op_mulB qe_int (qe_callTF call_int1 (by rfl) T.z_int bt_int (qa_c (qe_cmpR op_eq (qv 0) qe_str (nomark _)) qa_nil))))))), ?_⟩
    clear hu hr
    try dsimp only [L2.cxK, L2.cxK2]
    refine L2.let3 ?_
    intro U2 U1
    refine ⟨_, rfl, by show 4 ≤ sizeLine; decide, fun z1 hz1 => ?_⟩
    have u1 := same_upd (o := .tup [V.str "not", V.str "neg", V.str "twice", V.str "low"]) hz1
    refine ⟨z1, one4.map V.str, rfl, .inr (SqT.of upd_same), hx.flat, rfl, _, rfl, ?_⟩
    rcases hx with ⟨z, rfl⟩ | ⟨y, rfl⟩
    · rw [inV_int]
      refine iteF ⟨_, rfl, by show 5 ≤ sizeLine; decide, fun z2 hz2 => ?_⟩
      have u2 := same_upd (o := .tup [V.str "and", V.str "or", V.str "odd", V.str "add", V.str "sub"]) hz2
      refine ⟨z2, two5.map V.str, rfl, .inr (SqT.of upd_same), rfl, rfl, _, rfl, ?_⟩
      rw [inV_int]
      refine iteF ⟨_, rfl, rfl, .inr ⟨_, rfl, _, _, rfl, rfl, .inr (.inl ⟨by decide, by decide⟩), k _ (u1.trans u2)⟩⟩
    · rw [inV_strs]
      by_cases h1 : y ∈ one4
      · rw [decide_eq_true h1]
        have e := k _ u1
        rw [show partsV (.str y) = 1 from one4_ok y h1] at e
        exact iteT e
      rw [decide_eq_false h1]
      refine iteF ⟨_, rfl, by show 5 ≤ sizeLine; decide, fun z2 hz2 => ?_⟩
      have u2 := same_upd (o := .tup [V.str "and", V.str "or", V.str "odd", V.str "add", V.str "sub"]) hz2
      refine ⟨z2, two5.map V.str, rfl, .inr (SqT.of upd_same), rfl, rfl, _, rfl, ?_⟩
      rw [inV_strs]
      have e := k _ (u1.trans u2)
      by_cases h2 : y ∈ two5
      · rw [decide_eq_true h2]
        rw [show partsV (.str y) = 2 from two5_ok y h2] at e
        exact iteT e
      rw [decide_eq_false h2]
      refine iteF ⟨_, rfl, rfl, .inr ⟨_, rfl, _, _, rfl, rfl, .inr (.inl ⟨by decide, by decide⟩), ?_⟩⟩
      by_cases h3 : y = "pick"
      · rw [h3, show partsV (.str "pick") = 3 from pick_ok] at e
        rw [decide_eq_true (congrArg V.str h3)]
        exact e
      · rw [show partsV (.str y) = 0 from parts_none fun z => (sum_split y z).elim h1 fun z => z.elim h2 h3] at e
        rw [decide_eq_false (fun z => h3 (by injection z))]
        exact e
inductive sp_law_carries_i (vs : List V) (H : Hp) (Q : VK) : Prop
  | mk (p : Addr) (ws : List V) : (vs = [.ref p]) → ((H p = some (.lst ws) ∨ H p = some (.tup ws))) → ((∀ w ∈ ws, (∃ y, w = .str y) ∨ ∃ z, w = .int z)) → (ws.length ≤ 100) → (∀ H', Same H H' → Q (.int (ws.filter remB).length) H') → sp_law_carries_i vs H Q
def sp_law_carries (K : PySem.W.Frag) : Sp := fun vs H Q _ => sp_law_carries_i vs H Q
theorem ok_law_carries (T : Txt K w mg t) : FnOk P w K mg base CX0 1 t.a_law_carries t.f_law_carries ["words"] (sp_law_carries K) := by
  refine T.d_law_carries.F.ok sc_law_carries (fun vs H Q E h => ?_) (fun cdv A outer s H vs Q E hr h => ?_)
  · obtain ⟨p, ws, rfl, hp, hw, hl, k⟩ := h
    rfl
  · obtain ⟨p, ws, rfl, hp, hw, hl, k⟩ := h
    have hu := hu_of hr
    refine ⟨_, @QSs.out _ _ _ (qss_one (qs_ret (qe_callBF call_len_seq (by rfl) T.z_len bt_len (qa_c (qe_comp (⟨by rfl, by decide +kernel, by decide +kernel, by rfl, by decide +kernel, by decide +kernel, by rfl, by decide +kernel⟩ : CompSc (defScope s_law_carries) _ ["words"] "word" [] []) (QI.or (qi_list (qv 0)) (qi_tup (qv 0))) (fun _ _ _ _ => (qf_one (qt_cmpR (show OpR _ (compareOp .In) (rIn K false) from op_in_seq) (qv 0) (qe_tup (qa_c qe_str (qa_c qe_str (qa_c qe_str (qa_c qe_str (qa_c qe_str qa_nil)))))) (by with_unfolding_all rfl)))) (fun _ _ _ _ => (qv 0))) qa_nil)))), ?_⟩
    clear hu
    try dsimp only [L2.cxK, L2.cxK2]
    have hin : ∀ x ∈ ws, flatV x = true ∧ inV x ((["add", "sub", "neg", "twice", "low"] : List Str).map V.str) = remB x := fun x hx => by
      rcases hw x hx with ⟨y, rfl⟩ | ⟨z, rfl⟩
      · refine ⟨rfl, ?_⟩
        rw [inV_strs]
        show decide _ = decide _
        refine decide_eq_decide.mpr ?_
        unfold remW
        simp only [List.mem_cons, List.not_mem_nil, or_false]
        constructor
        · rintro (h | h | h | h | h) <;> simp [h]
        · rintro (h | h | h | h | h) <;> simp [h]
      · exact ⟨rfl, inV_int z _⟩
    have fin : ∀ (zs : List V) (H1 : Hp), zs = (ws.take ws.length).filter remB ∧ Same H H1 → ∀ q, H1 q = none → (tCB (fun xs H Q => ∃ p ys, xs = [V.ref p] ∧ (SqL K H p ys ∨ SqT K H p ys) ∧ Q (V.int ys.length) H) (fun _ H Q => Q [.ref q] H)) [] (upd H1 q (.lst zs)) Q := by
      rintro zs H1 hz_ q hq
      refine hideG fun Gz hGz => ?_
      obtain ⟨rfl, s1⟩ := hz_
      refine hGz ?_
      clear hGz Gz
      refine ⟨q, _, rfl, .inl (SqL.of upd_same), ?_⟩
      rw [List.take_length]
      exact k _ (s1.trans (same_upd hq))
    have long : ∀ i, ((ws.take i).filter remB).length ≤ sizeLine := fun i => Nat.le_of_lt (small1000 (Nat.le_trans (List.length_filter_le _ _) (by rw [List.length_take]; lia)))
    have grow : ∀ (i : Nat) (x : V), ws[i]? = some x → ((ws.take (i + 1)).filter remB) = if remB x = true then (ws.take i).filter remB ++ [x] else (ws.take i).filter remB := fun i x hx => by
      rw [take_snoc hx, List.filter_append, List.filter_cons]
      split
      · rfl
      · rw [List.filter_nil, List.append_nil]
    rcases hp with hp | hp
    · refine .inl ⟨_, rfl, p, rfl, ⟨_, SqL.of hp⟩, comp_list (K := K) (a := p) (xs := ws) (fun i zs H' => zs = (ws.take i).filter remB ∧ Same H H') ⟨rfl, Same.refl _⟩ (fun i zs H' h => by rw [h.1]; exact long i) (fun i zs H' h => SqL.of (h.2 _ _ hp)) (fun i x zs H1 R hR hx h => ?_) (fun zs H1 h q hq => fin zs H1 h q hq)⟩
      obtain ⟨rfl, s1⟩ := h
      obtain ⟨f1, f2⟩ := hin x (List.mem_of_getElem? hx)
      refine ⟨_, rfl, by show 5 ≤ sizeLine; decide, fun q hq => ⟨q, _, rfl, .inr (SqT.of upd_same), f1, rfl, _, rfl, ?_⟩⟩
      show if inV x ((["add", "sub", "neg", "twice", "low"] : List Str).map V.str) = true then _ else _
      rw [f2]
      have s2 := s1.trans (same_upd (o := .tup [.str "add", .str "sub", .str "neg", .str "twice", .str "low"]) hq)
      have g := grow i x hx
      by_cases hr : remB x = true
      · rw [if_pos hr] at g ⊢
        exact ⟨_, rfl, hR _ _ ⟨g.symm, s2⟩⟩
      · rw [if_neg hr] at g ⊢
        exact hR _ _ ⟨g.symm, s2⟩
    · refine .inr ⟨_, rfl, p, rfl, ⟨_, SqT.of hp⟩, comp_tup (K := K) (a := p) (xs := ws) (fun i zs H' => zs = (ws.take i).filter remB ∧ Same H H') ⟨rfl, Same.refl _⟩ (fun i zs H' h => by rw [h.1]; exact long i) (fun i zs H' h => SqT.of (h.2 _ _ hp)) (fun i x zs H1 R hR hx h => ?_) (fun zs H1 h q hq => fin zs H1 h q hq)⟩
      obtain ⟨rfl, s1⟩ := h
      obtain ⟨f1, f2⟩ := hin x (List.mem_of_getElem? hx)
      refine ⟨_, rfl, by show 5 ≤ sizeLine; decide, fun q hq => ⟨q, _, rfl, .inr (SqT.of upd_same), f1, rfl, _, rfl, ?_⟩⟩
      show if inV x ((["add", "sub", "neg", "twice", "low"] : List Str).map V.str) = true then _ else _
      rw [f2]
      have s2 := s1.trans (same_upd (o := .tup [.str "add", .str "sub", .str "neg", .str "twice", .str "low"]) hq)
      have g := grow i x hx
      by_cases hr : remB x = true
      · rw [if_pos hr] at g ⊢
        exact ⟨_, rfl, hR _ _ ⟨g.symm, s2⟩⟩
      · rw [if_neg hr] at g ⊢
        exact hR _ _ ⟨g.symm, s2⟩
inductive sp_law_joined_i (vs : List V) (H : Hp) (Q : VK) : Prop
  | mk (w : V) (l : Addr) (xs : List V) (ts : List Tm) : (vs = [w, .ref l]) → (H l = some (.lst xs)) → (TrsAt H xs ts) → ((flats ts).length ≤ 900) → (∀ z H', H' z = some (.tup (w :: flats ts)) → Same H H' → Q (.ref z) H') → sp_law_joined_i vs H Q
def sp_law_joined (K : PySem.W.Frag) : Sp := fun vs H Q _ => sp_law_joined_i vs H Q
theorem ok_law_joined (T : Txt K w mg t) : FnOk P w K mg base CX0 1 t.a_law_joined t.f_law_joined ["word", "shares"] (sp_law_joined K) := by
  refine T.d_law_joined.F.ok sc_law_joined (fun vs H Q E h => ?_) (fun cdv A outer s H vs Q E hr h => ?_)
  · obtain ⟨w, l, xs, ts, rfl, hl, hT, hlen, k⟩ := h
    rfl
  · obtain ⟨w, l, xs, ts, rfl, hl, hT, hlen, k⟩ := h
    have hu := hu_of hr
    refine ⟨_, @QSs.out _ _ _ (qss_cons (qs_set (i := 2) sc_law_joined.nd rfl (Or.inl rfl) (qe_tup (qa_c (qv 0) qa_nil)))
        (qss_cons (qs_for PassesOwn.never rfl (qi_list (qv 1)) (qg_name (i := 3) sc_law_joined.nd rfl (Or.inl rfl))
        (qss_one (qs_set (i := 2) sc_law_joined.nd rfl (Or.inl rfl) (qe_op op_catG (qv 2) (qv 3)))))
        (qss_one (qs_ret (qv 2))))), ?_⟩
    clear hu hr
    try dsimp only [L2.cxK, L2.cxK2]
    refine L2.let3 ?_
    intro U2 U1
    refine ⟨_, rfl, by show 1 ≤ sizeLine; decide, fun f0 hf0 => gName_go ?_⟩
    have w0 := same_upd (o := .tup [w]) hf0
    have g0 := upd_same (H := H) (a := f0) (o := .tup [w])
    generalize upd H f0 (.tup [w]) = H0 at *
    refine ⟨_, rfl, l, rfl, ⟨_, SqL.of (w0 _ _ hl)⟩, for_list (K := K) (a := l) (xs := xs) (fun i σ H' => ∃ (z : Addr) (v3 : Option V), σ = [some w, some (.ref l), some (.ref z), v3] ∧ H' z = some (.tup (w :: flats (ts.take i))) ∧ Same H0 H') ⟨f0, none, rfl, g0, Same.refl _⟩ (fun i σ H' _ ⟨_, _, _, _, s⟩ => SqL.of (s _ _ (w0 _ _ hl))) ?_ ?_⟩
    · rintro i x σ H2 hx hz_
      refine hideG fun Gz hGz => ?_
      obtain ⟨z, v3, rfl, hz, s⟩ := hz_
      refine hGz ?_
      clear hGz Gz
      refine gName_go ?_
      refine hideG fun Gz hGz => ?_
      obtain ⟨ti, hti, a, rfl, ha⟩ := paired_getL hT hx
      refine hGz ?_
      clear hGz Gz
      have e : flats (ts.take (i + 1)) = flats (ts.take i) ++ ti.flat := by rw [take_snoc' hti, flats_app, flats_one]
      have hln : (flats (ts.take (i + 1))).length ≤ (flats ts).length := by
        have : flats ts = flats (ts.take (i + 1)) ++ flats (ts.drop (i + 1)) := by rw [← flats_app, List.take_append_drop]
        rw [this, List.length_append]
        lia
      rw [e, List.length_append] at hln
      refine ⟨_, rfl, _, rfl, z, a, _, _, rfl, rfl, hz, s _ _ (w0 _ _ ha), Nat.le_of_lt (small1000 (by rw [List.length_cons]; lia)), fun p H3 hp s3 => gName_go ?_⟩
      exact ⟨p, _, rfl, by rw [hp, e]; rfl, s.trans s3⟩
    · rintro σ H2 hz_
      refine hideG fun Gz hGz => ?_
      obtain ⟨z, v3, rfl, hz, s⟩ := hz_
      refine hGz ?_
      clear hGz Gz
      rw [hT.length, List.take_length] at hz
      exact ⟨_, rfl, k z H2 hz (w0.trans s)⟩
inductive sp_parts_of_i (vs : List V) (H : Hp) (Q : VK) : Prop
  | mk (k : Key) : (vs = [kV k]) → (Q (.int (allParts k)) H) → sp_parts_of_i vs H Q
def sp_parts_of (K : PySem.W.Frag) : Sp := fun vs H Q _ => sp_parts_of_i vs H Q
theorem ok_parts_of (T : Txt K w mg t) : FnOk P w K mg base CX0 2 t.a_parts_of t.f_parts_of ["word"] (sp_parts_of K) := by
  have G_sums_behind : FnOk P w K mg base CX0 1 t.a_sums_behind t.f_sums_behind ["word"] (sp_sums_behind K) := ok_sums_behind T
  have G_claims_behind : FnOk P w K mg base CX0 1 t.a_claims_behind t.f_claims_behind ["word"] (sp_claims_behind K) := ok_claims_behind T
  refine T.d_parts_of.F.ok sc_parts_of (fun vs H Q E h => ?_) (fun cdv A outer s H vs Q E hr h => ?_)
  · obtain ⟨kk, rfl, k⟩ := h
    rfl
  · obtain ⟨kk, rfl, k⟩ := h
    have hu := hu_of hr
    refine ⟨_, @QSs.out _ _ _ (qss_one (qs_ret (qe_op op_add (qe_callF G_sums_behind (hr.mono (by decide)) rfl T.d_sums_behind.m T.d_sums_behind.F.kp T.d_sums_behind.b .nil pass0 (qa_c (qv 0) qa_nil)) (qe_callF G_claims_behind (hr.mono (by decide)) rfl T.d_claims_behind.m T.d_claims_behind.F.kp T.d_claims_behind.b .nil pass0 (qa_c (qv 0) qa_nil))))), ?_⟩
    clear hu hr
    try dsimp only [L2.cxK, L2.cxK2]
    exact ⟨_, rfl, kk, rfl, _, rfl, kk, rfl, _, _, rfl, rfl, k⟩
inductive sp_is_name_i (vs : List V) (H : Hp) (Q : VK) : Prop
  | mk (y : Str) : (vs = [.str y]) → (y.length ≤ 100000) → (∀ H', Same H H' → Q (.bl (decide (y ∉ keptS ∧ NmL y))) H') → sp_is_name_i vs H Q
def sp_is_name (K : PySem.W.Frag) : Sp := fun vs H Q _ => sp_is_name_i vs H Q
theorem nml_made {y : Str} : NmL y ↔ y.length ≤ 8 ∧ MadeOf y lowS := by
  constructor
  · intro h
    refine ⟨h.1.2, fun z => ?_, h.2⟩
    have h1 := h.1.1
    rw [len_signs, z] at h1
    exact absurd h1 (by decide)
  · intro h
    refine ⟨⟨?_, h.1⟩, h.2.2⟩
    rw [len_signs]
    cases e : y.cps.toList with
    | nil => exact absurd e h.2.1
    | cons a r => exact Nat.succ_le_succ (Nat.zero_le _)
theorem ok_is_name (T : Txt K w mg t) : FnOk P w K mg base CX0 2 t.a_is_name t.f_is_name ["text"] (sp_is_name K) := by
  have G_is_made_of : FnOk P w K mg base CX0 1 t.a_is_made_of t.f_is_made_of ["text", "signs"] (sp_is_made_of K) := ok_is_made_of T
  have G_is_claim_word : FnOk P w K mg base CX0 1 t.a_is_claim_word t.f_is_claim_word ["text"] (sp_is_claim_word K) := ok_is_claim_word T
  have G_is_sum_word : FnOk P w K mg base CX0 1 t.a_is_sum_word t.f_is_sum_word ["text"] (sp_is_sum_word K) := ok_is_sum_word T
  refine T.d_is_name.F.ok sc_is_name (fun vs H Q E h => ?_) (fun cdv A outer s H vs Q E hr h => ?_)
  · obtain ⟨y, rfl, hl, k⟩ := h
    rfl
  · obtain ⟨y, rfl, hl, k⟩ := h
    have hu := hu_of hr
    refine ⟨_, @QSs.out _ _ _ (qss_cons (qs_if (qw_pt (qw_or (qt_val (qe_callF G_is_sum_word (hr.mono (by decide)) rfl T.d_is_sum_word.m T.d_is_sum_word.F.kp T.d_is_sum_word.b .nil pass0 (qa_c (qv 0) qa_nil))) (qw_or1 (qt_val (qe_callF G_is_claim_word (hr.mono (by decide)) rfl T.d_is_claim_word.m T.d_is_claim_word.F.kp T.d_is_claim_word.b .nil pass0 (qa_c (qv 0) qa_nil))))))
        (qss_one (qs_ret qe_bl)) qss_nil)
        (qss_one (qs_ret (qe_and (qe_cmpR op_le (qe_callBF call_len_str (by rfl) T.z_len bt_len (qa_c (qv 0) qa_nil)) (qe_glob (v := .int 8) rfl T.g_LONGEST_NAME ⟨_, rfl⟩) (nomark _)) (qe_one (qe_callF G_is_made_of (hr.mono (by decide)) rfl T.d_is_made_of.m T.d_is_made_of.F.kp T.d_is_made_of.b .nil pass0 (qa_c (qv 0) (qa_c (qe_glob (v := .str "abcdefghijklmnopqrstuvwxyz") rfl T.g_LETTERS ⟨_, rfl⟩) qa_nil)))))))), ?_⟩
    clear hu hr
    try dsimp only [L2.cxK, L2.cxK2]
    refine L2.let2 ?_
    intro U1
    by_cases h1 : y ∈ keptS
    · have e : decide (y ∉ keptS ∧ NmL y) = false := decide_eq_false fun z => z.1 h1
      rw [e] at k
      refine ⟨_, rfl, y, rfl, _, rfl, ?_⟩
      by_cases h2 : y ∈ sumW
      · rw [decide_eq_true h2]
        exact iteT (iteT (k H (Same.refl H)))
      · rw [decide_eq_false h2]
        have h3 : y ∈ claimW := ((kept_of y).mp h1).resolve_left h2
        refine iteF ⟨_, rfl, .inr y, rfl, _, rfl, ?_⟩
        rw [show clK (.inr y) = true from decide_eq_true h3]
        exact iteT (k H (Same.refl H))
    · have h2 : y ∉ sumW := fun z => h1 ((kept_of y).mpr (.inl z))
      have h3 : y ∉ claimW := fun z => h1 ((kept_of y).mpr (.inr z))
      refine ⟨_, rfl, y, rfl, _, rfl, ?_⟩
      rw [decide_eq_false h2]
      refine iteF ⟨_, rfl, .inr y, rfl, _, rfl, ?_⟩
      rw [show clK (.inr y) = false from decide_eq_false h3]
      refine iteF ?_
      refine ⟨_, rfl, y, rfl, Nat.le_trans hl (by decide), _, _, rfl, rfl, _, rfl, ?_⟩
      by_cases h8 : y.length ≤ 8
      · rw [decide_eq_true (show (y.length : Int) ≤ 8 by lia)]
        refine iteT ⟨_, rfl, y, lowS, rfl, hl, fun H' s' => ?_⟩
        have e : decide (MadeOf y lowS) = decide (y ∉ keptS ∧ NmL y) := by
          rw [Bool.eq_iff_iff, decide_eq_true_iff, decide_eq_true_iff, nml_made]
          exact ⟨fun z => ⟨h1, h8, z⟩, fun z => z.2.2⟩
        rw [e]
        exact k H' s'
      · rw [decide_eq_false (show ¬ (y.length : Int) ≤ 8 by lia)]
        have e : decide (y ∉ keptS ∧ NmL y) = false := decide_eq_false fun z => h8 z.2.1.2
        rw [e] at k
        exact iteF (k H (Same.refl H))
inductive sp_law_word_i (K : PySem.W.Frag) (vs : List V) (H : Hp) (Q : VK) : Prop
  | mk (a : Addr) (ns : List Int) (i : Nat) : (vs = [.ref a, .int (i : Int)]) → (SqL K H a (ns.map V.int)) → (ns.length ≤ 63) → (i ≤ 100) → (∀ H', Same H H' → Q (.str (wrdN ns i)) H') → sp_law_word_i K vs H Q
def sp_law_word (K : PySem.W.Frag) : Sp := fun vs H Q _ => sp_law_word_i K vs H Q
theorem ok_law_word (T : Txt K w mg t) : FnOk P w K mg base CX0 2 t.a_law_word t.f_law_word ["script", "i"] (sp_law_word K) := by
  have G_law_draw : FnOk P w K mg base CX0 1 t.a_law_draw t.f_law_draw ["script", "k"] (sp_law_draw K) := ok_law_draw T
  refine T.d_law_word.F.ok sc_law_word (fun vs H Q E h => ?_) (fun cdv A outer s H vs Q E hr h => ?_)
  · obtain ⟨a, ns, i, rfl, ha, hl, hi, k⟩ := h
    rfl
  · obtain ⟨a, ns, i, rfl, ha, hl, hi, k⟩ := h
    have hu := hu_of hr
    refine ⟨_, @QSs.out _ _ _ (qss_cons (qs_set (i := 2) sc_law_word.nd rfl (Or.inl rfl) qe_str)
        (qss_cons (qs_set (i := 3) sc_law_word.nd rfl (Or.inl rfl) (qe_ix ix_str (qv 2) (qe_op op_mod (qe_callF G_law_draw (hr.mono (by decide)) rfl T.d_law_draw.m T.d_law_draw.F.kp T.d_law_draw.b .nil pass0 (qa_c (qv 0) (qa_c qe_int qa_nil))) qe_int) (fun _ _ => rfl)))
        (qss_cons (qs_set (i := 4) sc_law_word.nd rfl (Or.inl rfl) (qe_op op_mod (qe_callF G_law_draw (hr.mono (by decide)) rfl T.d_law_draw.m T.d_law_draw.F.kp T.d_law_draw.b .nil pass0 (qa_c (qv 0) (qa_c qe_int qa_nil))) qe_int))
        (qss_cons (qs_set (i := 5) sc_law_word.nd rfl (Or.inl rfl) (qe_op op_mod (qe_callF G_law_draw (hr.mono (by decide)) rfl T.d_law_draw.m T.d_law_draw.F.kp T.d_law_draw.b .nil pass0 (qa_c (qv 0) (qa_c qe_int qa_nil))) (qe_op op_sub qe_int (qv 4))))
        (qss_cons (qs_set (i := 6) sc_law_word.nd rfl (Or.inl rfl) (qe_op op_add_str (qe_op op_add_str (qe_op op_mulS (qv 3) (qv 4)) (qe_ix ix_str (qv 2) (qe_op op_mod (qe_op op_add (qv 1) (qe_callF G_law_draw (hr.mono (by decide)) rfl T.d_law_draw.m T.d_law_draw.F.kp T.d_law_draw.b .nil pass0 (qa_c (qv 0) (qa_c qe_int qa_nil)))) qe_int) (fun _ _ => rfl))) (qe_op op_mulS (qv 3) (qv 5))))
        (qss_cons (qs_if (qw_pt (qw_and (qt_cmpR op_eq (qe_op op_mod (qv 1) qe_int) qe_int (nomark _)) (qw_and1 (qt_cmpR op_lt (qe_callBF call_len_str (by rfl) T.z_len bt_len (qa_c (qv 6) qa_nil)) qe_int (nomark _)))))
        (qss_one (qs_set (i := 6) sc_law_word.nd rfl (Or.inl rfl) (qe_op op_add_str (qv 6) (qv 3)))) qss_nil)
        (qss_one (qs_ret (qe_op op_add_str (qv 6) qe_str))))))))), ?_⟩
    clear hu hr
    try dsimp only [L2.cxK, L2.cxK2]
    refine L2.let7 ?_
    intro U6 U5 U4 U3 U2 U1
    refine gName_go ?_
    have ld := drw_bd ns
    refine ⟨_, rfl, _, rfl, a, ns, 0, rfl, ha, hl, by decide, fun H1 s1 => ?_⟩
    have ha1 := sqL_same ha s1
    refine ⟨_, _, rfl, rfl, (by show (0 : Int) < 26; decide), _, _, padN ns, rfl, rfl, low_size, (lowAt_ok _).2, gName_go ?_⟩
    refine ⟨_, rfl, a, ns, 1, rfl, ha1, hl, by decide, fun H2 s2 => ⟨_, _, rfl, rfl, (by show (0 : Int) < 7; decide), gName_go ?_⟩⟩
    have ha2 := sqL_same ha1 s2
    have p1 := Int.emod_nonneg (drw ns 1) (b := 7) (by decide)
    have p2 := Int.emod_lt_of_pos (drw ns 1) (b := 7) (by decide)
    refine ⟨_, rfl, a, ns, 2, rfl, ha2, hl, by decide, fun H3 s3 => ⟨_, rfl, _, _, rfl, rfl, _, _, rfl, rfl, ?_, gName_go ?_⟩⟩
    · show (0 : Int) < 7 - drw ns 1 % 7
      lia
    have ha3 := sqL_same ha2 s3
    have q1 := Int.emod_nonneg (drw ns 2) (b := 7 - drw ns 1 % 7) (by lia)
    have q2 := Int.emod_lt_of_pos (drw ns 2) (b := 7 - drw ns 1 % 7) (by lia)
    have hb := plc_bd ns
    refine ⟨_, rfl, _, rfl, padN ns, _, rfl, rfl, p1, ?_, fun z1 hz1 => ?_⟩
    · show drw ns 1 % 7 ≤ 1000
      lia
    refine ⟨_, rfl, _, rfl, _, rfl, a, ns, 3, rfl, ha3, hl, by decide, fun H4 s4 => ?_⟩
    have l1 : z1.length = plcN ns := by rw [len_signs, hz1, List.length_replicate]; rfl
    refine ⟨_, _, rfl, rfl, _, _, rfl, rfl, (by show (0 : Int) < 26; decide), _, _, lowAt ((i : Int) + drw ns 3), rfl, rfl, low_size, (lowAt_ok _).2, _, _, rfl, rfl, ?_, ?_⟩
    · rw [one_len, l1]
      exact Nat.le_of_lt (small1000 (by lia))
    refine ⟨_, rfl, _, rfl, padN ns, _, rfl, rfl, q1, ?_, fun z2 hz2 => ?_⟩
    · show drw ns 2 % (7 - drw ns 1 % 7) ≤ 1000
      lia
    have l2 : z2.length = talN ns := by rw [len_signs, hz2, List.length_replicate]; rfl
    refine ⟨_, _, rfl, rfl, ?_, gName_go ?_⟩
    · rw [Str.length_append, one_len, l1, l2]
      exact Nat.le_of_lt (small1000 (by lia))
    have hw : (z1 ++ (⟨#[lowAt ((i : Int) + drw ns 3)]⟩ : Str) ++ z2).cps.toList = wrdL ns i := by
      rw [app_signs, app_signs, hz1, hz2]
      rfl
    have hwl : (z1 ++ (⟨#[lowAt ((i : Int) + drw ns 3)]⟩ : Str) ++ z2).length = (wrdL ns i).length := by rw [len_signs, hw]
    generalize z1 ++ (⟨#[lowAt ((i : Int) + drw ns 3)]⟩ : Str) ++ z2 = wd at *
    have hll := wrdL_len ns i
    have sall := s1.trans (s2.trans (s3.trans s4))
    refine nx_join (fun σ' H' => ∃ wd' : Str, σ' = [some (.ref a), some (.int (i : Int)), some (.str lowS), some (.str ⟨#[padN ns]⟩), some (.int (drw ns 1 % 7)), some (.int (drw ns 2 % (7 - drw ns 1 % 7))), some (.str wd')] ∧ wd'.cps.toList = wrdM ns i ∧ H' = H4) (fun N hN => ?_) ?_
    · refine ⟨_, rfl, _, _, rfl, rfl, (by show (0 : Int) < 2; decide), rfl, _, rfl, ?_⟩
      by_cases h1 : i % 2 = 1
      · rw [decide_eq_true (by show V.int ((i : Int) % 2) = V.int 1; rw [show (i : Int) % 2 = 1 by lia])]
        refine iteT ⟨_, rfl, wd, rfl, by rw [hwl]; exact Nat.le_of_lt (small1000 (by lia)), _, _, rfl, rfl, _, rfl, ?_⟩
        by_cases h2 : (wrdL ns i).length < 7
        · rw [decide_eq_true (by rw [hwl]; lia)]
          refine iteT ⟨_, rfl, _, rfl, _, _, rfl, rfl, ?_, gName_go (hN _ _ ⟨_, rfl, ?_, rfl⟩)⟩
          · rw [one_len, hwl]
            exact Nat.le_of_lt (small1000 (by lia))
          · unfold wrdM
            rw [if_pos ⟨h1, h2⟩, app_signs, hw]
        · rw [decide_eq_false (by rw [hwl]; lia)]
          refine iteF (hN _ _ ⟨wd, rfl, ?_, rfl⟩)
          unfold wrdM
          rw [if_neg fun z => h2 z.2, hw]
      · rw [decide_eq_false (fun z => h1 (by have z' : V.int ((i : Int) % 2) = V.int 1 := z; injection z' with z'; lia))]
        refine iteF (iteF (hN _ _ ⟨wd, rfl, ?_, rfl⟩))
        unfold wrdM
        rw [if_neg fun z => h1 z.1, hw]
    · rintro σ' H' hz_
      refine hideG fun Gz hGz => ?_
      obtain ⟨wd', rfl, hw', rfl⟩ := hz_
      refine hGz ?_
      clear hGz Gz
      have hM : (wrdM ns i).length ≤ 7 := by
        unfold wrdM
        split
        · rw [List.length_append]
          show _ + 1 ≤ 7
          lia
        · lia
      refine ⟨_, rfl, _, _, rfl, rfl, ?_, ?_⟩
      · rw [len_signs, hw']
        exact Nat.le_of_lt (small1000 (by show _ + 1 ≤ _; lia))
      · have e : wd' ++ ("x" : Str) = wrdN ns i := str_ext (by rw [app_signs, hw']; rfl)
        rw [e]
        exact k _ sall
inductive sp_law_parts_i (vs : List V) (H : Hp) (Q : VK) : Prop
  | mk (p : Addr) (ys : List Str) (tm : Tm) : (vs = [.ref p]) → (H p = some (.tup tm.flat)) → (NK ys) → (tm.ok ys) → (tm.flat.length ≤ 300) → (∀ l xs H', H l = none → H' l = some (.lst xs) → TrsAt H' xs tm.kids → Same H H' → Q (.ref l) H') → sp_law_parts_i vs H Q
def sp_law_parts (K : PySem.W.Frag) : Sp := fun vs H Q _ => sp_law_parts_i vs H Q
theorem ok_law_parts (T : Txt K w mg t) : FnOk P w K mg base CX0 2 t.a_law_parts t.f_law_parts ["words"] (sp_law_parts K) := by
  have G_law_arity : FnOk P w K mg base CX0 1 t.a_law_arity t.f_law_arity ["word"] (sp_law_arity K) := ok_law_arity T
  refine T.d_law_parts.F.ok sc_law_parts (fun vs H Q E h => ?_) (fun cdv A outer s H vs Q E hr h => ?_)
  · obtain ⟨p, ys, tm, rfl, hp, hk, ht, hlen, k⟩ := h
    rfl
  · obtain ⟨p, ys, tm, rfl, hp, hk, ht, hlen, k⟩ := h
    have hu := hu_of hr
    refine ⟨_, @QSs.out _ _ _ (qss_cons (qs_set (i := 1) sc_law_parts.nd rfl (Or.inl rfl) (qe_lst qa_nil))
        (qss_cons (qs_set (i := 2) sc_law_parts.nd rfl (Or.inl rfl) (qe_callTF call_list_of (by rfl) T.z_list bt_list (qa_c (qe_slice (SlR.or sl_tup sl_tupW) (qv 0) (qo_some qe_int) qo_none) qa_nil)))
        (qss_cons (qs_for PassesOwn.never rfl (qi_rangeF rfl T.z_range (qa_c (qe_callF G_law_arity (hr.mono (by decide)) rfl T.d_law_arity.m T.d_law_arity.F.kp T.d_law_arity.b .nil pass0 (qa_c (qe_ix ix_tup (qv 0) qe_int (fun _ _ => rfl)) qa_nil)) qa_nil)) (qg_name (i := 3) sc_law_parts.nd rfl (Or.inl rfl))
        (qss_cons (qs_set (i := 4) sc_law_parts.nd rfl (Or.inl rfl) qe_int)
        (qss_cons (qs_set (i := 5) sc_law_parts.nd rfl (Or.inl rfl) (qe_lst qa_nil))
        (qss_cons (qs_while PassesOwn.never (qt_cmpR op_gt (qv 4) qe_int (nomark _))
        (qss_cons (qs_set (i := 6) sc_law_parts.nd rfl (Or.inl rfl) (qe_bmF PySem.F.plainAttrs_list PySem.F.slot_list_pop PySem.F.type_list_pop mt_popAt (qv 2) (qa_c qe_int qa_nil)))
        (qss_cons (qs_expr (qe_bmF PySem.F.plainAttrs_list PySem.F.slot_list_append PySem.F.type_list_append mt_append (qv 5) (qa_c (qv 6) qa_nil)))
        (qss_one (qs_set (i := 4) sc_law_parts.nd rfl (Or.inl rfl) (qe_op op_add (qe_op op_sub (qv 4) qe_int) (qe_callF G_law_arity (hr.mono (by decide)) rfl T.d_law_arity.m T.d_law_arity.F.kp T.d_law_arity.b .nil pass0 (qa_c (qv 6) qa_nil))))))))
        (qss_one (qs_expr (qe_bmF PySem.F.plainAttrs_list PySem.F.slot_list_append PySem.F.type_list_append mt_append (qv 1) (qa_c (qe_callTF call_tuple_of (by rfl) T.z_tuple bt_tuple (qa_c (qv 5) qa_nil)) qa_nil))))))))
        (qss_one (qs_ret (qv 1)))))), ?_⟩
    clear hu hr
    try dsimp only [L2.cxK, L2.cxK2]
    refine L2.let4 ?_
    intro U3 U2 U1
    refine ⟨by show 0 ≤ sizeLine; decide, fun l hl => gName_go ?_⟩
    have u1 := same_upd (o := .lst []) hl
    have g1 := upd_same (H := H) (a := l) (o := .lst [])
    generalize upd H l (.lst []) = H0 at *
    refine ⟨_, rfl, _, rfl, sl_of (u1 _ _ hp) fun ps H1 hps s1 => ?_⟩
    have hcut : cutV tm.flat (some 1) none = flats tm.kids := by
      rw [tm.flat_eq]
      exact cut_tail (u := [tm.hd]) (v := flats tm.kids) rfl
    rw [hcut] at hps
    refine ⟨ps, _, rfl, .inr (SqT.of hps), fun lf hlf => gName_go ?_⟩
    have w1 := same_upd (o := .lst (flats tm.kids)) hlf
    have hll : lf ≠ l := fun z => by rw [z, s1 _ _ g1] at hlf; cases hlf
    have hlfn : H lf = none := by
      cases q : H lf with
      | none => rfl
      | some o => rw [s1 _ _ (u1 _ _ q)] at hlf; cases hlf
    have g2 := upd_same (H := H1) (a := lf) (o := .lst (flats tm.kids))
    have g1' := w1 _ _ (s1 _ _ g1)
    have s2 := u1.trans (s1.trans w1)
    generalize upd H1 lf (.lst (flats tm.kids)) = H2 at *
    have hp2 := s2 _ _ hp
    have hfl : tm.flat.length = (flats tm.kids).length + 1 := by rw [tm.flat_eq, List.length_cons]
    have hkf := flats_len tm.kids
    have hat : atI tm.flat 0 = some tm.hd := by rw [tm.flat_eq]; exact atI_nat (j := 0) rfl
    have hpv := hd_partsV hk ht
    refine ⟨_, rfl, p, _, 0, _, rfl, rfl, SqT.of hp2, hat, tm.hd, rfl, hd_si ht, fun H3 s3 => ⟨(tm.kids.length : Int), by rw [hpv], by lia, by lia, for_range (fun i σ H' => ∃ (xs : List V) (v3 v4 v5 v6 : Option V), σ = [some (.ref p), some (.ref l), some (.ref lf), v3, v4, v5, v6] ∧ i ≤ tm.kids.length ∧ H' l = some (.lst xs) ∧ xs.length = i ∧ TrsAt H' xs (tm.kids.take i) ∧ H' lf = some (.lst (flats (tm.kids.drop i))) ∧ Same H H') ⟨[], none, none, none, none, rfl, Nat.zero_le _, s3 _ _ g1', rfl, .nil, s3 _ _ g2, s2.trans s3⟩ ?_ ?_⟩⟩
    · rintro i σ H4 hi hz_
      refine hideG fun Gz hGz => ?_
      obtain ⟨xs, v3, v4, v5, v6, rfl, _, h1, hxl, hT, h2, s4⟩ := hz_
      refine hGz ?_
      clear hGz Gz
      rw [Int.toNat_natCast] at hi
      obtain ⟨ti, hti⟩ : ∃ ti, tm.kids[i]? = some ti := ⟨_, List.getElem?_eq_getElem hi⟩
      have hdk : tm.kids.drop i = ti :: tm.kids.drop (i + 1) := by
        obtain ⟨h1, h2⟩ := List.getElem?_eq_some_iff.mp hti
        rw [List.drop_eq_getElem_cons h1, h2]
      have oti := Tm.ok_kids ht ti (List.mem_of_getElem? hti)
      refine gName_go ?_
      refine gName_go ?_
      refine ⟨by show 0 ≤ sizeLine; decide, fun fo hfo => gName_go ?_⟩
      have w5 := same_upd (o := .lst []) hfo
      have f5 := upd_same (H := H4) (a := fo) (o := .lst [])
      have h1' := w5 _ _ h1
      have h2' := w5 _ _ h2
      have hT' := hT.same w5
      have s5 := s4.trans w5
      have hfl1 : fo ≠ l := fun z => by rw [z, h1] at hfo; cases hfo
      have hfl2 : fo ≠ lf := fun z => by rw [z, h2] at hfo; cases hfo
      have hfon : H fo = none := by
        cases q : H fo with
        | none => rfl
        | some o => rw [s4 _ _ q] at hfo; cases hfo
      generalize upd H4 fo (.lst []) = H5 at *
      have hml : ti.flat.length ≤ (flats tm.kids).length := by
        have e : flats tm.kids = flats (tm.kids.take i) ++ flats (tm.kids.drop i) := by rw [← flats_app, List.take_append_drop]
        have e2 : flats (tm.kids.drop i) = ti.flat ++ flats (tm.kids.drop (i + 1)) := by rw [hdk]; rfl
        rw [e, List.length_append, e2, List.length_append]
        lia
      refine nx_join (fun σ' H' => ∃ (v4 v6 : Option V), σ' = [some (.ref p), some (.ref l), some (.ref lf), some (.int (0 + (i : Int))), v4, some (.ref fo), v6] ∧ H' l = some (.lst xs) ∧ TrsAt H' xs (tm.kids.take i) ∧ H' lf = some (.lst (flats (tm.kids.drop (i + 1)))) ∧ H' fo = some (.lst ti.flat) ∧ Same H H') (fun N hN => ?_) ?_
      · refine while_w (fun σ H' => ∃ (ts : List Tm) (pre : List V) (v6 : Option V), σ = [some (.ref p), some (.ref l), some (.ref lf), some (.int (0 + (i : Int))), some (.int (ts.length : Int)), some (.ref fo), v6] ∧ (∀ x ∈ ts, x.ok ys) ∧ pre ++ flats ts = ti.flat ∧ H' fo = some (.lst pre) ∧ H' lf = some (.lst (flats ts ++ flats (tm.kids.drop (i + 1)))) ∧ H' l = some (.lst xs) ∧ TrsAt H' xs (tm.kids.take i) ∧ Same H H') (fun _ H' => match H' lf with | some (.lst q) => q.length | _ => 0) ⟨[ti], [], v6, rfl, ok_one oti, flats_one ti, f5, by rw [h2', hdk, flats_one]; rfl, h1', hT', s5⟩ ?_
        rintro σ H6 hz_
        refine hideG fun Gz hGz => ?_
        obtain ⟨ts, pre, v6, rfl, hok, hpre, q1, q2, q3, q4, s6⟩ := hz_
        refine hGz ?_
        clear hGz Gz
        refine ⟨_, rfl, _, _, rfl, rfl, _, rfl, ite2 (fun c => ?_) (fun c => ?_)⟩
        · have c := of_decide_eq_true c
          match ts, c, hok, hpre, q2 with
          | t1 :: tr, _, hok, hpre, q2 =>
            rw [flats_cons] at hpre q2
            have o1 := hok t1 List.mem_cons_self
            have hq2 : upd H6 lf (.lst (flats (t1.kids ++ tr) ++ flats (tm.kids.drop (i + 1)))) lf = some (.lst (flats (t1.kids ++ tr) ++ flats (tm.kids.drop (i + 1)))) := upd_same
            have hq1 : upd H6 lf (.lst (flats (t1.kids ++ tr) ++ flats (tm.kids.drop (i + 1)))) fo = some (.lst pre) := by rw [upd_ne hfl2]; exact q1
            have hq3 : upd H6 lf (.lst (flats (t1.kids ++ tr) ++ flats (tm.kids.drop (i + 1)))) l = some (.lst xs) := by rw [upd_ne hll.symm]; exact q3
            have hq4 := TrsAt.put (ys := flats (t1.kids ++ tr) ++ flats (tm.kids.drop (i + 1))) q4 q2
            have s7 : Same H (upd H6 lf (.lst (flats (t1.kids ++ tr) ++ flats (tm.kids.drop (i + 1))))) := same_put s6 hlfn
            have hpl := congrArg List.length hpre
            rw [List.length_append] at hpl
            have hmu : (match H6 lf with | some (.lst q) => q.length | _ => 0) = (flats (t1.kids ++ tr) ++ flats (tm.kids.drop (i + 1))).length + 1 := by rw [q2]; rfl
            rw [hmu]
            refine ⟨fun σ' H' => ∃ v6, σ' = [some (.ref p), some (.ref l), some (.ref lf), some (.int (0 + (i : Int))), some (.int (((tr.length + 1 : Nat) : Int) - 1 + (t1.kids.length : Int))), some (.ref fo), v6] ∧ H' fo = some (.lst (pre ++ [t1.hd])) ∧ H' lf = some (.lst (flats (t1.kids ++ tr) ++ flats (tm.kids.drop (i + 1)))) ∧ H' l = some (.lst xs) ∧ TrsAt H' xs (tm.kids.take i) ∧ Same H H', ?_, ?_⟩
            · rintro σ' H' hz_
              refine hideG fun Gz hGz => ?_
              obtain ⟨v6, rfl, r1, r2, r3, r4, r5⟩ := hz_
              refine hGz ?_
              clear hGz Gz
              refine ⟨_, Nat.lt_succ_self _, by rw [r2], t1.kids ++ tr, pre ++ [t1.hd], v6, ?_, ok_app hok, ?_, r1, r2, r3, r4, r5⟩
              · rw [List.length_append, show ((tr.length + 1 : Nat) : Int) - 1 + (t1.kids.length : Int) = ((t1.kids.length + tr.length : Nat) : Int) by lia]
              · rw [← hpre, List.append_assoc]
                rfl
            · refine ⟨_, rfl, .inl ⟨rfl, _, SqL.of q2⟩, lf, _, 0, 0, t1.hd, rfl, rfl, q2, by decide, by decide, seq0 _ _, rfl, gName_go ?_⟩
              refine ⟨_, rfl, .inl ⟨rfl, _, SqL.of hq1⟩, _, rfl, fo, _, _, rfl, rfl, hq1, small1000 (by lia), ?_⟩
              refine ⟨_, rfl, _, _, rfl, rfl, _, rfl, t1.hd, rfl, hd_si o1, fun H8 s8 => ⟨_, _, rfl, rfl, gName_go ?_⟩⟩
              have e2 : upd (upd H6 lf (.lst (flats (t1.kids ++ tr) ++ flats (tm.kids.drop (i + 1))))) fo (.lst (pre ++ [t1.hd])) lf = some (.lst (flats (t1.kids ++ tr) ++ flats (tm.kids.drop (i + 1)))) := by rw [upd_ne hfl2.symm]; exact hq2
              have e3 : upd (upd H6 lf (.lst (flats (t1.kids ++ tr) ++ flats (tm.kids.drop (i + 1))))) fo (.lst (pre ++ [t1.hd])) l = some (.lst xs) := by rw [upd_ne hfl1.symm]; exact hq3
              refine ⟨some t1.hd, by rw [hd_partsV hk o1]; rfl, s8 _ _ upd_same, s8 _ _ e2, s8 _ _ e3, (hq4.put hq1).same s8, (same_put s7 hfon).trans s8⟩
        · have c : ts = [] := by
            cases ts with
            | nil => rfl
            | cons a r => exact absurd (decide_eq_true (show (0 : Int) < ((r.length + 1 : Nat) : Int) by lia)) c
          subst c
          have hpre' : pre = ti.flat := (List.append_nil pre).symm.trans hpre
          rw [hpre'] at q1
          exact hN _ _ ⟨_, v6, rfl, q3, q4, q2, q1, s6⟩
      · rintro σ' H6 hz_
        refine hideG fun Gz hGz => ?_
        obtain ⟨v4, v6, rfl, r1, r2, r3, r4, s6⟩ := hz_
        refine hGz ?_
        clear hGz Gz
        refine ⟨_, rfl, .inl ⟨rfl, _, SqL.of r1⟩, _, rfl, fo, _, rfl, .inl ⟨SqL.of r4, fun z hz => ?_⟩⟩
        have w7 := same_upd (o := .tup ti.flat) hz
        have r1' := w7 _ _ r1
        refine ⟨l, _, _, rfl, rfl, r1', small1000 (by lia), xs ++ [.ref z], _, _, _, _, rfl, hi, upd_same, by rw [List.length_append, hxl]; rfl, ?_, ?_, same_put (s6.trans w7) hl⟩
        · rw [take_snoc' hti]
          exact ((r2.same w7).put r1').snoc (TrAt.put (H := upd H6 z (.tup ti.flat)) ⟨z, rfl, upd_same⟩ r1')
        · rw [upd_ne hll]
          exact w7 _ _ r3
    · rintro σ H4 hz_
      refine hideG fun Gz hGz => ?_
      obtain ⟨xs, v3, v4, v5, v6, rfl, _, h1, hxl, hT, h2, s4⟩ := hz_
      refine hGz ?_
      clear hGz Gz
      rw [Int.toNat_natCast, List.take_length] at hT
      exact ⟨_, rfl, k l xs H4 hl h1 hT s4⟩
inductive sp_part_end_i (vs : List V) (H : Hp) (Q : VK) : Prop
  | mk (p : Addr) (ys : List Str) (u v : List V) (tm : Tm) : (vs = [.ref p, .int (u.length : Int)]) → (H p = some (.tup (u ++ (tm.flat ++ v)))) → (NK ys) → (tm.ok ys) → (Q (.int ((u.length + tm.flat.length : Nat) : Int)) H) → sp_part_end_i vs H Q
def sp_part_end (K : PySem.W.Frag) : Sp := fun vs H Q _ => sp_part_end_i vs H Q
theorem ok_part_end (T : Txt K w mg t) : FnOk P w K mg base CX0 3 t.a_part_end t.f_part_end ["words", "begin"] (sp_part_end K) := by
  have G_parts_of : FnOk P w K mg base CX0 2 t.a_parts_of t.f_parts_of ["word"] (sp_parts_of K) := ok_parts_of T
  refine T.d_part_end.F.ok sc_part_end (fun vs H Q E h => ?_) (fun cdv A outer s H vs Q E hr h => ?_)
  · obtain ⟨p, ys, u, v, tm, rfl, hp, hk, ht, k⟩ := h
    rfl
  · obtain ⟨p, ys, u, v, tm, rfl, hp, hk, ht, k⟩ := h
    have hu := hu_of hr
    refine ⟨_, @QSs.out _ _ _ (qss_cons (qs_set (i := 2) sc_part_end.nd rfl (Or.inl rfl) (qv 1))
        (qss_cons (qs_set (i := 3) sc_part_end.nd rfl (Or.inl rfl) qe_int)
        (qss_cons (qs_while PassesOwn.never (qt_cmpR op_gt (qv 3) qe_int (nomark _))
        (qss_cons (qs_aug (i := 3) sc_part_end.nd rfl (Or.inl rfl) (qe_op op_sub (qe_callF G_parts_of (hr.mono (by decide)) rfl T.d_parts_of.m T.d_parts_of.F.kp T.d_parts_of.b .nil pass0 (qa_c (qe_ix ix_tup (qv 0) (qv 2) (fun _ _ => rfl)) qa_nil)) qe_int) ip_add)
        (qss_one (qs_aug (i := 2) sc_part_end.nd rfl (Or.inl rfl) qe_int ip_add))))
        (qss_one (qs_ret (qv 2)))))), ?_⟩
    clear hu hr
    try dsimp only [L2.cxK, L2.cxK2]
    refine L2.let4 ?_
    intro U3 U2 U1
    refine ⟨_, rfl, gName_go ?_⟩
    refine gName_go ?_
    refine while_w (fun σ H' => ∃ (pl : Nat) (ts : List Tm), σ = [some (.ref p), some (.int (u.length : Int)), some (.int (pl : Int)), some (.int (ts.length : Int))] ∧ (u ++ (tm.flat ++ v)).drop pl = flats ts ++ v ∧ (∀ x ∈ ts, x.ok ys) ∧ pl + (flats ts).length = u.length + tm.flat.length ∧ H' = H) (fun σ _ => match σ with | [_, _, some (.int m), _] => ((u.length + tm.flat.length : Nat) - m).toNat | _ => 0) ⟨u.length, [tm], rfl, by rw [flats_one, List.drop_left], ok_one ht, by rw [flats_one], rfl⟩ ?_
    rintro σ H1 hz_
    refine hideG fun Gz hGz => ?_
    obtain ⟨pl, ts, rfl, hd, hok, hle, rfl⟩ := hz_
    refine hGz ?_
    clear hGz Gz
    refine ⟨_, rfl, _, _, rfl, rfl, _, rfl, ite2 (fun c => ?_) (fun c => ?_)⟩
    · have c := of_decide_eq_true c
      match ts, c, hd, hok, hle with
      | t1 :: tr, _, hd, hok, hle =>
        rw [flats_cons] at hd hle
        obtain ⟨h1, h2, h3⟩ := drop_hd hd
        have o1 := hok t1 List.mem_cons_self
        rw [List.length_cons] at hle
        refine ⟨fun σ' H' => σ' = [some (.ref p), some (.int (u.length : Int)), some (.int ((pl : Int) + 1)), some (.int (((tr.length + 1 : Nat) : Int) + ((t1.kids.length : Int) - 1)))] ∧ H' = H1, ?_, ?_⟩
        · rintro σ' H' hz_
          refine hideG fun Gz hGz => ?_
          obtain ⟨rfl, rfl⟩ := hz_
          refine hGz ?_
          clear hGz Gz
          refine ⟨((u.length + tm.flat.length : Nat) - ((pl : Int) + 1)).toNat, ?_, rfl, pl + 1, t1.kids ++ tr, ?_, h2, ok_app hok, by lia, rfl⟩
          · show _ < ((u.length + tm.flat.length : Nat) - (pl : Int)).toNat
            lia
          · rw [List.length_append]
            have e : ((tr.length + 1 : Nat) : Int) + ((t1.kids.length : Int) - 1) = ((t1.kids.length + tr.length : Nat) : Int) := by lia
            rw [e]
            rfl
        · refine ⟨_, rfl, _, rfl, _, rfl, p, _, _, _, rfl, rfl, SqT.of hp, atI_nat h1, keyOf t1.hd, congrArg (fun z => [z]) (hd_key o1), _, _, rfl, rfl, _, _, rfl, rfl, ?_⟩
          rw [hd_parts hk o1]
          exact ⟨_, rfl, _, _, rfl, rfl, rfl, rfl⟩
    · have c : ts = [] := by
        cases ts with
        | nil => rfl
        | cons a r => exact absurd (decide_eq_true (show (0 : Int) < ((r.length + 1 : Nat) : Int) by lia)) c
      subst c
      have e : pl = u.length + tm.flat.length := hle
      subst e
      exact ⟨_, rfl, k⟩
inductive sp_paths_of_i (vs : List V) (H : Hp) (Q : VK) : Prop
  | mk (p : Addr) (ys : List Str) (tm : Tm) : (vs = [.ref p]) → (H p = some (.tup tm.flat)) → (NK ys) → (tm.ok ys) → (tm.flat.length ≤ 300) → (∀ l xs H', H l = none → H' l = some (.lst xs) → PthsAt H' xs ((tm.nds []).map (·.1)) → Same H H' → Q (.ref l) H') → sp_paths_of_i vs H Q
def sp_paths_of (K : PySem.W.Frag) : Sp := fun vs H Q _ => sp_paths_of_i vs H Q
theorem ok_paths_of (T : Txt K w mg t) : FnOk P w K mg base CX0 3 t.a_paths_of t.f_paths_of ["words"] (sp_paths_of K) := by
  have G_parts_of : FnOk P w K mg base CX0 2 t.a_parts_of t.f_parts_of ["word"] (sp_parts_of K) := ok_parts_of T
  refine T.d_paths_of.F.ok sc_paths_of (fun vs H Q E h => ?_) (fun cdv A outer s H vs Q E hr h => ?_)
  · obtain ⟨p, ys, tm, rfl, hp, hk, ht, hlen, k⟩ := h
    rfl
  · obtain ⟨p, ys, tm, rfl, hp, hk, ht, hlen, k⟩ := h
    have hu := hu_of hr
    refine ⟨_, @QSs.out _ _ _ (qss_cons (qs_set (i := 1) sc_paths_of.nd rfl (Or.inl rfl) (qe_lst qa_nil))
        (qss_cons (qs_set (i := 2) sc_paths_of.nd rfl (Or.inl rfl) (qe_lst (qa_c (qe_tup qa_nil) qa_nil)))
        (qss_cons (qs_for PassesOwn.never rfl (qi_tup (qv 0)) (qg_name (i := 3) sc_paths_of.nd rfl (Or.inl rfl))
        (qss_cons (qs_set (i := 4) sc_paths_of.nd rfl (Or.inl rfl) (qe_bm0 PySem.F.plainAttrs_list PySem.F.slot_list_pop PySem.F.type_list_pop mt_pop (qv 2)))
        (qss_cons (qs_expr (qe_bmF PySem.F.plainAttrs_list PySem.F.slot_list_append PySem.F.type_list_append mt_append (qv 1) (qa_c (qv 4) qa_nil)))
        (qss_one (qs_for PassesOwn.never rfl (qi_down rfl T.z_range (qa_c (qe_op op_sub (qe_callF G_parts_of (hr.mono (by decide)) rfl T.d_parts_of.m T.d_parts_of.F.kp T.d_parts_of.b .nil pass0 (qa_c (qv 3) qa_nil)) qe_int) (qa_c (qe_un un_neg qe_int) (qa_c (qe_un un_neg qe_int) qa_nil)))) (qg_name (i := 5) sc_paths_of.nd rfl (Or.inl rfl))
        (qss_one (qs_expr (qe_bmF PySem.F.plainAttrs_list PySem.F.slot_list_append PySem.F.type_list_append mt_append (qv 2) (qa_c (qe_op op_catG (qv 4) (qe_tup (qa_c (qv 5) qa_nil))) qa_nil)))))))))
        (qss_one (qs_ret (qv 1)))))), ?_⟩
    clear hu hr
    try dsimp only [L2.cxK, L2.cxK2]
    refine L2.let4 ?_
    intro U3 U2 U1
    refine ⟨by show 0 ≤ sizeLine; decide, fun l hl => ?_⟩
    refine gName_go ?_
    refine ⟨by show 0 ≤ sizeLine; decide, fun e0 he0 => ⟨by show 1 ≤ sizeLine; decide, fun c hc => gName_go ?_⟩⟩
    have u1 := same_upd (o := .lst []) hl
    have u2 := same_upd (o := .tup []) he0
    have u3 := same_upd (o := .lst [.ref e0]) hc
    have g1 := u3 _ _ (u2 _ _ (upd_same (H := H) (a := l) (o := .lst [])))
    have g2 := u3 _ _ (upd_same (H := upd H l (.lst [])) (a := e0) (o := .tup []))
    have g3 := upd_same (H := upd (upd H l (.lst [])) e0 (.tup [])) (a := c) (o := .lst [.ref e0])
    have s3 := u1.trans (u2.trans u3)
    have hcl : c ≠ l := fun z => by rw [z, u2 _ _ (upd_same (H := H) (a := l) (o := .lst []))] at hc; cases hc
    have hcn : H c = none := by
      cases q : H c with
      | none => rfl
      | some o => rw [u2 _ _ (u1 _ _ q)] at hc; cases hc
    generalize upd (upd (upd H l (.lst [])) e0 (.tup [])) c (.lst [.ref e0]) = H0 at *
    refine ⟨_, rfl, p, rfl, ⟨_, SqT.of (s3 _ _ hp)⟩, for_tup (K := K) (a := p) (xs := tm.flat) (fun i σ H2 => ∃ (xs cs : List V) (dn st : List (List Int)) (ts : List Tm) (u3 u4 u5 : Option V), σ = [some (.ref p), some (.ref l), some (.ref c), u3, u4, u5] ∧ H2 l = some (.lst xs) ∧ H2 c = some (.lst cs.reverse) ∧ PthsAt H2 xs dn ∧ PthsAt H2 cs st ∧ tm.flat.drop i = flats ts ∧ st.length = ts.length ∧ (∀ x ∈ ts, x.ok ys) ∧ dn ++ ndz st ts = (tm.nds []).map (·.1) ∧ xs.length = i ∧ i ≤ tm.flat.length ∧ (∀ z ∈ st, z.length ≤ i) ∧ Same H H2) ⟨[], [.ref e0], [], [[]], [tm], none, none, none, rfl, g1, g3, .nil, .cons ⟨e0, rfl, g2⟩ .nil, by rw [flats_one, List.drop_zero], rfl, ok_one ht, List.append_nil _, rfl, Nat.zero_le _, (fun z hz => by rw [List.mem_singleton.mp hz]; exact Nat.le_refl 0), s3⟩ (fun i σ H2 _ ⟨_, _, _, _, _, _, _, _, _, _, _, _, _, _, _, _, _, _, _, _, s⟩ => SqT.of (s _ _ hp)) ?_ ?_⟩
    · rintro i x σ H2 hx hz_
      refine hideG fun Gz hGz => ?_
      obtain ⟨xs, cs, dn, st, ts, v3, v4, v5, rfl, h1, h2, p1, p2, hd, hsl, hok, hall, hxl, hi, hql, s⟩ := hz_
      refine hGz ?_
      clear hGz Gz
      have hi' : i < tm.flat.length := (List.getElem?_eq_some_iff.mp hx).1
      match ts, st, cs, hsl, p2, hd, hok, hall, hql with
      | [], [], _, _, p2, hd, hok, hall, hql =>
        rw [List.drop_eq_getElem_cons hi'] at hd
        cases hd
      | t1 :: tr, q :: sr, _, hsl, .cons (a := av) (l₁ := cr) ha p2, hd, hok, hall, hql =>
        have hsz := flats_len (t1 :: tr)
        rw [← hd, List.length_drop, List.length_cons] at hsz
        have hcl2 := p2.length
        have hs1 : sr.length = tr.length := Nat.succ.inj hsl
        have hq1 := hql q List.mem_cons_self
        rw [flats_cons] at hd
        obtain ⟨d1, d2, _⟩ := drop_hd hd
        rw [hx] at d1
        have e1 := Option.some.inj d1
        subst e1
        have o1 := hok t1 List.mem_cons_self
        rw [List.reverse_cons] at h2
        refine ⟨_, rfl, .inl ⟨rfl, _, SqL.of h2⟩, c, _, av, rfl, rfl, h2, last_snoc _ _, gName_go ?_⟩
        rw [List.dropLast_concat]
        have f1 : upd H2 c (.lst cr.reverse) l = some (.lst xs) := by rw [upd_ne hcl.symm]; exact h1
        have f2 : upd H2 c (.lst cr.reverse) c = some (.lst cr.reverse) := upd_same
        have q1 := p1.put (ys := cr.reverse) h2
        have q2 := PthsAt.put (ys := cr.reverse) p2 h2
        have qa := PthAt.put (ys := cr.reverse) ha h2
        have s4 : Same H (upd H2 c (.lst cr.reverse)) := same_put s hcn
        generalize upd H2 c (.lst cr.reverse) = H3 at *
        refine ⟨_, rfl, .inl ⟨rfl, _, SqL.of f1⟩, _, rfl, l, _, av, rfl, rfl, f1, small1000 (by lia), ?_⟩
        have f3 : upd H3 l (.lst (xs ++ [av])) l = some (.lst (xs ++ [av])) := upd_same
        have f4 : upd H3 l (.lst (xs ++ [av])) c = some (.lst cr.reverse) := by rw [upd_ne hcl]; exact f2
        have r1 := (PthsAt.put (ys := xs ++ [av]) q1 f1).snoc (PthAt.put (ys := xs ++ [av]) qa f1)
        have r2 := PthsAt.put (ys := xs ++ [av]) q2 f1
        have ra := PthAt.put (ys := xs ++ [av]) qa f1
        have s5 : Same H (upd H3 l (.lst (xs ++ [av]))) := same_put s4 hl
        generalize upd H3 l (.lst (xs ++ [av])) = H4 at *
        obtain ⟨a, rfl, ha4⟩ := ra
        have hkl := hd_parts hk o1
        have hk9 := allParts_bd (keyOf t1.hd)
        refine ⟨_, rfl, keyOf t1.hd, congrArg (fun z => [z]) (hd_key o1), _, _, rfl, rfl, _, rfl, _, rfl, t1.kids.length, by rw [hkl], by lia, for_down (fun j σ H5 => ∃ (cs : List V) (u5 : Option V), σ = [some (.ref p), some (.ref l), some (.ref c), some t1.hd, some (.ref a), u5] ∧ j ≤ t1.kids.length ∧ H5 l = some (.lst (xs ++ [V.ref a])) ∧ H5 c = some (.lst cs.reverse) ∧ cs.length = j + cr.length ∧ PthsAt H5 (xs ++ [V.ref a]) (dn ++ [q]) ∧ PthsAt H5 cs ((kidP q t1.kids.length).drop (t1.kids.length - j) ++ sr) ∧ H5 a = some (.tup (q.map V.int)) ∧ Same H H5) ⟨cr, v5, rfl, Nat.zero_le _, f3, f4, by lia, r1, ?_, ha4, s5⟩ ?_ ?_⟩
        · rw [Nat.sub_zero, List.drop_eq_nil_of_le (Nat.le_of_eq (kidP_len _ _))]
          exact r2
        · rintro j σ H5 hj hz_
          refine hideG fun Gz hGz => ?_
          obtain ⟨cs, u5, rfl, _, b1, b2, bl, b3, b4, b5, b6⟩ := hz_
          refine hGz ?_
          clear hGz Gz
          refine gName_go ?_
          refine ⟨_, rfl, .inl ⟨rfl, _, SqL.of b2⟩, _, rfl, _, rfl, by show 1 ≤ sizeLine; decide, fun z hz => ?_⟩
          have w1 := same_upd (o := .tup [V.int ((t1.kids.length : Int) - 1 - j)]) hz
          refine ⟨a, z, _, _, rfl, rfl, w1 _ _ b5, upd_same, ?_, fun pr H6 hpr w2 => ?_⟩
          · rw [List.length_map]
            exact Nat.le_of_lt (small1000 (show q.length + 1 ≤ 1000 by lia))
          have w3 := w1.trans w2
          refine ⟨c, _, _, rfl, rfl, w3 _ _ b2, ?_, .ref pr :: cs, some (.int ((t1.kids.length : Int) - 1 - j)), rfl, hj, ?_, ?_, ?_, ?_, ?_, ?_, same_put (b6.trans w3) hcn⟩
          · rw [List.length_reverse]
            exact small1000 (by lia)
          · rw [upd_ne hcl.symm]
            exact w3 _ _ b1
          · rw [upd_same, List.reverse_cons]
          · rw [List.length_cons]
            lia
          · exact (b3.same w3).put (w3 _ _ b2)
          · rw [kidP_drop q hj]
            exact .cons ⟨pr, rfl, by rw [upd_ne (ne_of hpr (w3 _ _ b2) (fun z => nomatch z)), hpr, List.map_append]; rfl⟩ ((b4.same w3).put (w3 _ _ b2))
          · rw [upd_ne (ne_of (w3 _ _ b5) (w3 _ _ b2) (fun z => nomatch z))]
            exact w3 _ _ b5
        · rintro σ H5 hz_
          refine hideG fun Gz hGz => ?_
          obtain ⟨cs, u5, rfl, _, b1, b2, bl, b3, b4, b5, b6⟩ := hz_
          refine hGz ?_
          clear hGz Gz
          rw [Nat.sub_self, List.drop_zero] at b4
          refine ⟨xs ++ [V.ref a], cs, dn ++ [q], kidP q t1.kids.length ++ sr, t1.kids ++ tr, _, _, _, rfl, b1, b2, b3, b4, d2, ?_, ok_app hok, ?_, ?_, hi', ?_, b6⟩
          · rw [List.length_append, List.length_append]
            rw [kidP_len, hs1]
          · rw [← hall, ndz_cons, nds_kids, ndz_app (kidP_len _ _)]
            simp
          · rw [List.length_append, hxl]
            rfl
          · intro z hz
            rcases List.mem_append.mp hz with m | m
            · have := kidP_mem m
              lia
            · exact Nat.le_succ_of_le (hql z (List.mem_cons_of_mem _ m))
    · rintro σ H2 hz_
      refine hideG fun Gz hGz => ?_
      obtain ⟨xs, cs, dn, st, ts, v3, v4, v5, rfl, h1, h2, p1, p2, hd, hsl, hok, hall, hxl, hi, hql, s⟩ := hz_
      refine hGz ?_
      clear hGz Gz
      rw [List.drop_length] at hd
      have e : ts = [] := by
        have := flats_len ts
        rw [← hd] at this
        exact List.eq_nil_of_length_eq_zero (by simpa using this)
      subst e
      have e : st = [] := List.eq_nil_of_length_eq_zero hsl
      subst e
      rw [ndz_nil, List.append_nil] at hall
      rw [hall] at p1
      exact ⟨_, rfl, k l xs H2 hl h1 p1 s⟩
inductive sp_is_part_name_i (vs : List V) (H : Hp) (Q : VK) : Prop
  | mk (x : V) : (vs = [x]) → (((∃ z, x = .int z) ∨ ∃ y, x = .str y ∧ y.length ≤ 100)) → (∀ H', Same H H' → Q (.bl (nmB x)) H') → sp_is_part_name_i vs H Q
def sp_is_part_name (K : PySem.W.Frag) : Sp := fun vs H Q _ => sp_is_part_name_i vs H Q
theorem ok_is_part_name (T : Txt K w mg t) : FnOk P w K mg base CX0 3 t.a_is_part_name t.f_is_part_name ["word"] (sp_is_part_name K) := by
  have G_is_name : FnOk P w K mg base CX0 2 t.a_is_name t.f_is_name ["text"] (sp_is_name K) := ok_is_name T
  refine T.d_is_part_name.F.ok sc_is_part_name (fun vs H Q E h => ?_) (fun cdv A outer s H vs Q E hr h => ?_)
  · obtain ⟨x, rfl, hx, k⟩ := h
    rfl
  · obtain ⟨x, rfl, hx, k⟩ := h
    have hu := hu_of hr
    refine ⟨_, @QSs.out _ _ _ (qss_one (qs_ret (qe_and (qe_callBF call_isi (by rfl) T.z_isinstance bt_isinstance (qa_c (qv 0) (qa_c (qe_bltn (v := .ty "str") (by rfl) T.z_str bt_str rfl) qa_nil))) (qe_one (qe_callF G_is_name (hr.mono (by decide)) rfl T.d_is_name.m T.d_is_name.F.kp T.d_is_name.b .nil pass0 (qa_c (qv 0) qa_nil)))))), ?_⟩
    clear hu hr
    try dsimp only [L2.cxK, L2.cxK2]
    rcases hx with ⟨z, rfl⟩ | ⟨y, rfl, hy⟩
    · exact ⟨_, rfl, _, _, _, _, rfl, .int z, kit_int_str, _, rfl, k _ (Same.refl _)⟩
    · exact ⟨_, rfl, _, _, _, _, rfl, .str y, kit_str_str, _, rfl, _, rfl, y, rfl, Nat.le_trans hy (by decide), k⟩
inductive sp_law_leaf_i (K : PySem.W.Frag) (vs : List V) (H : Hp) (Q : VK) : Prop
  | mk (a : Addr) (ns : List Int) (d : Int) (m : Nat) : (vs = [.ref a, .int d, .int (m : Int)]) → (SqL K H a (ns.map V.int)) → (ns.length ≤ 63) → (0 ≤ d) → (1 ≤ m) → (m ≤ 3) → (∀ x z H', LeafOk (namesN ns m) x → H' z = some (.tup [x]) → Same H H' → Q (.ref z) H') → sp_law_leaf_i K vs H Q
def sp_law_leaf (K : PySem.W.Frag) : Sp := fun vs H Q _ => sp_law_leaf_i K vs H Q
theorem ok_law_leaf (T : Txt K w mg t) : FnOk P w K mg base CX0 3 t.a_law_leaf t.f_law_leaf ["script", "draw", "many"] (sp_law_leaf K) := by
  have G_law_word : FnOk P w K mg base CX0 2 t.a_law_word t.f_law_word ["script", "i"] (sp_law_word K) := ok_law_word T
  refine T.d_law_leaf.F.ok sc_law_leaf (fun vs H Q E h => ?_) (fun cdv A outer s H vs Q E hr h => ?_)
  · obtain ⟨a, ns, d, m, rfl, ha, hl, hd, hm, hm3, k⟩ := h
    rfl
  · obtain ⟨a, ns, d, m, rfl, ha, hl, hd, hm, hm3, k⟩ := h
    have hu := hu_of hr
    refine ⟨_, @QSs.out _ _ _ (qss_cons (qs_if (qt_cmpR op_gt (qe_op op_mod (qv 1) qe_int) qe_int (nomark _))
        (qss_one (qs_ret (qe_tup (qa_c (qe_ix ix_list (qe_lst (qa_c qe_int (qa_c qe_int (qa_c qe_int (qa_c qe_int (qa_c qe_int (qa_c (qe_op op_mod (qe_op op_fdivB (qv 1) qe_int) qe_int) qa_nil))))))) (qe_op op_mod (qe_op op_fdivB (qv 1) qe_int) qe_int) (fun _ _ => rfl)) qa_nil)))) qss_nil)
        (qss_one (qs_ret (qe_tup (qa_c (qe_callF G_law_word (hr.mono (by decide)) rfl T.d_law_word.m T.d_law_word.F.kp T.d_law_word.b .nil pass0 (qa_c (qv 0) (qa_c (qe_op op_mod (qe_op op_fdivB (qv 1) qe_int) (qv 2)) qa_nil))) qa_nil))))), ?_⟩
    clear hu hr
    try dsimp only [L2.cxK, L2.cxK2]
    refine L2.let2 ?_
    intro U1
    have d8 : 0 ≤ d / 8 := Int.ediv_nonneg hd (by decide)
    refine ⟨_, rfl, _, _, rfl, rfl, (by show (0 : Int) < 8; decide), _, _, rfl, rfl, _, rfl, ite2 (fun c => ?_) (fun c => ?_)⟩
    · refine ⟨_, rfl, _, _, rfl, rfl, .of (by decide) (by decide), _, _, rfl, rfl, (by show (0 : Int) < 1000; decide), by show 6 ≤ sizeLine; decide, fun l hl' => ?_⟩
      obtain ⟨j, hj, hj6⟩ : ∃ j : Nat, d / 8 % 6 = (j : Int) ∧ j < 6 := ⟨(d / 8 % 6).toNat, by lia, by lia⟩
      have h1 := Int.emod_nonneg (d / 64) (b := 1000) (by decide)
      have h2 := Int.emod_lt_of_pos (d / 64) (b := 1000) (by decide)
      obtain ⟨z, hz, hz0, hz1⟩ : ∃ z : Int, atI [V.int 0, V.int 1, V.int 2, V.int 5, V.int 999, V.int (d / 64 % 1000)] (d / 8 % 6) = some (.int z) ∧ 0 ≤ z ∧ z < 1000 := by
        rw [hj]
        match j, hj6 with
        | 0, _ => exact ⟨0, rfl, by decide, by decide⟩
        | 1, _ => exact ⟨1, rfl, by decide, by decide⟩
        | 2, _ => exact ⟨2, rfl, by decide, by decide⟩
        | 3, _ => exact ⟨5, rfl, by decide, by decide⟩
        | 4, _ => exact ⟨999, rfl, by decide, by decide⟩
        | 5, _ => exact ⟨_, rfl, h1, h2⟩
      refine ⟨_, rfl, _, _, rfl, rfl, .of (by decide) (by decide), _, _, rfl, rfl, (by show (0 : Int) < 6; decide), l, _, _, _, rfl, rfl, SqL.of upd_same, hz, by show 1 ≤ sizeLine; decide, fun p hp => ?_⟩
      exact k (.int z) p _ (.inr ⟨z, rfl, hz0, hz1⟩) upd_same ((same_upd hl').trans (same_upd hp))
    · obtain ⟨j, hj, hjm⟩ : ∃ j : Nat, d / 8 % (m : Int) = (j : Int) ∧ j < m := by
        have h1 := Int.emod_nonneg (d / 8) (b := (m : Int)) (by lia)
        have h2 := Int.emod_lt_of_pos (d / 8) (b := (m : Int)) (by lia)
        exact ⟨(d / 8 % (m : Int)).toNat, by lia, by lia⟩
      refine ⟨_, rfl, _, rfl, _, _, rfl, rfl, .of (by decide) (by decide), _, rfl, _, _, rfl, rfl, (by show (0 : Int) < (m : Int); lia), a, ns, j, by show [V.ref a, V.int (d / 8 % (m : Int))] = _; rw [hj], ha, hl, by lia, fun H1 s1 => ⟨by show 1 ≤ sizeLine; decide, fun p hp => ?_⟩⟩
      exact k _ p _ (.inl ⟨wrdN ns j, List.mem_map.mpr ⟨j, List.mem_range.mpr hjm, rfl⟩, rfl⟩) upd_same (s1.trans (same_upd hp))
inductive sp_law_turned_two_i (vs : List V) (H : Hp) (Q : VK) : Prop
  | mk (how y : Str) (l pa pb : Addr) (ys : List Str) (a b : Tm) : (vs = [.str how, .str y, .ref l]) → (H l = some (.lst [.ref pa, .ref pb])) → (H pa = some (.tup a.flat)) → (H pb = some (.tup b.flat)) → (NK ys) → (a.ok ys) → (b.ok ys) → (a.flat.length + b.flat.length ≤ 300) → ((trn2 how y a b = none → ∀ H', Same H H' → Q .non H')) → (∀ x z H', trn2 how y a b = some x → H' z = some (.tup x.flat) → Same H H' → Q (.ref z) H') → sp_law_turned_two_i vs H Q
def sp_law_turned_two (K : PySem.W.Frag) : Sp := fun vs H Q _ => sp_law_turned_two_i vs H Q
theorem ok_law_turned_two (T : Txt K w mg t) : FnOk P w K mg base CX0 3 t.a_law_turned_two t.f_law_turned_two ["how", "word", "shares"] (sp_law_turned_two K) := by
  have G_law_parts : FnOk P w K mg base CX0 2 t.a_law_parts t.f_law_parts ["words"] (sp_law_parts K) := ok_law_parts T
  refine T.d_law_turned_two.F.ok sc_law_turned_two (fun vs H Q E h => ?_) (fun cdv A outer s H vs Q E hr h => ?_)
  · obtain ⟨how, y, l, pa, pb, ys, a, b, rfl, hl, ha, hb, hk, oka, okb, hlen, k0, k⟩ := h
    rfl
  · obtain ⟨how, y, l, pa, pb, ys, a, b, rfl, hl, ha, hb, hk, oka, okb, hlen, k0, k⟩ := h
    have hu := hu_of hr
    refine ⟨_, @QSs.out _ _ _ (qss_cons (qs_asg (qv 2) (qg_pairL rfl (qg_name (i := 3) sc_law_turned_two.nd rfl (Or.inl rfl)) (qg_name (i := 4) sc_law_turned_two.nd rfl (Or.inl rfl))))
        (qss_cons (qs_set (i := 5) sc_law_turned_two.nd rfl (Or.inl rfl) (qe_op op_catG (qe_op op_catG (qe_tup (qa_c qe_str qa_nil)) (qv 3)) (qv 4)))
        (qss_cons (qs_if (qw_pt (qw_and (qt_cmpR op_eq (qv 0) qe_str (nomark _)) (qw_and1 (qt_cmpR op_in_seq (qv 1) (qe_tup (qa_c qe_str (qa_c qe_str (qa_c qe_str (qa_c qe_str qa_nil))))) (by with_unfolding_all rfl)))))
        (qss_one (qs_ret (qe_op op_catG (qe_op op_catG (qe_tup (qa_c (qv 1) qa_nil)) (qv 4)) (qv 3)))) qss_nil)
        (qss_cons (qs_if (qw_pt (qw_and (qt_cmpR op_eq (qv 0) qe_str (nomark _)) (qw_and (qt_cmpR op_in_seq (qv 1) (qe_tup (qa_c qe_str (qa_c qe_str (qa_c qe_str (qa_c qe_str qa_nil))))) (by with_unfolding_all rfl)) (qw_and1 (qt_cmpR op_eq (qe_ix ix_tup (qv 3) qe_int (fun _ _ => rfl)) (qv 1) (nomark _))))))
        (qss_cons (qs_set (i := 6) sc_law_turned_two.nd rfl (Or.inl rfl) (qe_callF G_law_parts (hr.mono (by decide)) rfl T.d_law_parts.m T.d_law_parts.F.kp T.d_law_parts.b .nil pass0 (qa_c (qv 3) qa_nil)))
        (qss_one (qs_ret (qe_op op_catG (qe_op op_catG (qe_op op_catG (qe_op op_catG (qe_tup (qa_c (qv 1) qa_nil)) (qe_ix ix_list (qv 6) qe_int (fun _ _ => rfl))) (qe_tup (qa_c (qv 1) qa_nil))) (qe_ix ix_list (qv 6) qe_int (fun _ _ => rfl))) (qv 4))))) qss_nil)
        (qss_cons (qs_if (qw_pt (qw_and (qt_cmpR op_eq (qv 0) qe_str (nomark _)) (qw_and1 (qt_cmpR op_eq (qv 1) qe_str (nomark _)))))
        (qss_one (qs_ret (qe_op op_catG (qe_op op_catG (qe_op op_catG (qe_tup (qa_c qe_str qa_nil)) (qv 3)) (qe_tup (qa_c qe_str qa_nil))) (qv 4)))) qss_nil)
        (qss_cons (qs_if (qw_pt (qw_and (qt_cmpR op_eq (qv 0) qe_str (nomark _)) (qw_and1 (qt_cmpR op_eq (qv 1) qe_str (nomark _)))))
        (qss_one (qs_ret (qe_op op_catG (qe_op op_catG (qe_op op_catG (qe_op op_catG (qe_tup (qa_c qe_str (qa_c qe_str qa_nil))) (qv 3)) (qv 4)) (qe_tup (qa_c qe_str qa_nil))) (qv 5)))) qss_nil)
        (qss_cons (qs_if (qw_pt (qw_and (qt_cmpR op_eq (qv 0) qe_str (nomark _)) (qw_and1 (qt_cmpR op_eq (qv 1) qe_str (nomark _)))))
        (qss_one (qs_ret (qe_op op_catG (qe_op op_catG (qe_op op_catG (qe_tup (qa_c qe_str (qa_c qe_str qa_nil))) (qv 3)) (qv 4)) (qv 5)))) qss_nil)
        (qss_cons (qs_if (qw_pt (qw_and (qt_cmpR op_eq (qv 0) qe_str (nomark _)) (qw_and1 (qt_cmpR op_eq (qv 1) qe_str (nomark _)))))
        (qss_one (qs_ret (qe_op op_catG (qe_op op_catG (qe_op op_catG (qe_op op_catG (qe_tup (qa_c qe_str (qa_c qe_str qa_nil))) (qv 3)) (qv 4)) (qe_tup (qa_c qe_str qa_nil))) (qv 5)))) qss_nil)
        (qss_cons (qs_if (qw_pt (qw_and (qt_cmpR op_eq (qv 0) qe_str (nomark _)) (qw_and (qt_cmpR op_eq (qv 1) qe_str (nomark _)) (qw_and1 (qt_cmpR (op_eqTT (units_of hr)) (qv 3) (qv 4) (nomark _))))))
        (qss_one (qs_ret (qe_tup (qa_c qe_int qa_nil)))) qss_nil)
        (qss_cons (qs_if (qw_pt (qw_and (qt_cmpR op_eq (qv 0) qe_str (nomark _)) (qw_and (qt_cmpR op_in_seq (qv 1) (qe_tup (qa_c qe_str (qa_c qe_str qa_nil))) (by with_unfolding_all rfl)) (qw_and1 (qt_cmpR (op_eqTT (units_of hr)) (qv 3) (qv 4) (nomark _))))))
        (qss_one (qs_ret (qv 3))) qss_nil)
        (qss_cons (qs_if (qw_pt (qw_and (qt_cmpR op_eq (qv 0) qe_str (nomark _)) (qw_and (qt_cmpR op_in_seq (qv 1) (qe_tup (qa_c qe_str (qa_c qe_str (qa_c qe_str (qa_c qe_str qa_nil))))) (by with_unfolding_all rfl)) (qw_and1 (qt_cmpR (op_eqTT (units_of hr)) (qv 4) (qe_tup (qa_c qe_int qa_nil)) (nomark _))))))
        (qss_one (qs_ret (qv 3))) qss_nil)
        (qss_one (qs_ret qe_non))))))))))))), ?_⟩
    clear hu hr
    try dsimp only [L2.cxK, L2.cxK2]
    refine L2.let12 ?_
    intro U11 U10 U9 U8 U7 U6 U5 U4 U3 U2 U1
    have hat := hd_at a
    have si := hd_si oka
    have sc : ∀ c : Str, scal a.hd (.str c) = true := fun c => si.scal (.inr ⟨c, rfl⟩)
    have sia := a.si oka
    have sib := b.si okb
    unfold trn2 at k0 k
    refine ⟨_, rfl, l, _, rfl, SqL.of hl, rfl, _, _, rfl, _, _, rfl, rfl, ?_⟩
    refine (gv_cat (gv_cat gv_l1 (gv_var (n := 300) rfl ha (by lia))) (gv_var (n := 300) rfl hb (by lia))).g H _ (Same.refl H) fun po H1 s1 hpo => gName_go ?_
    replace ha := s1 _ _ ha
    replace hb := s1 _ _ hb
    replace k0 := fun e H' (s : Same H1 H') => k0 e H' (s1.trans s)
    replace k := fun x z H' e h (s : Same H1 H') => k x z H' e h (s1.trans s)
    clear s1 hl
    have one : Gives (tVar 3) [some (.str how), some (.str y), some (.ref l), some (.ref pa), some (.ref pb), some (.ref po), none] H1 a.flat 300 := gv_var rfl ha (by lia)
    have oth : Gives (tVar 4) [some (.str how), some (.str y), some (.ref l), some (.ref pa), some (.ref pb), some (.ref po), none] H1 b.flat 300 := gv_var rfl hb (by lia)
    have bot : Gives (tVar 5) [some (.str how), some (.str y), some (.ref l), some (.ref pa), some (.ref pb), some (.ref po), none] H1 (V.str "and" :: (a.flat ++ b.flat)) 301 := gv_var rfl (by rw [hpo]; simp) (by rw [List.length_cons, List.length_append]; lia)
    have wrd : Gives (tTup (tCons (tVar 1) tNil)) [some (.str how), some (.str y), some (.ref l), some (.ref pa), some (.ref pb), some (.ref po), none] H1 [.str y] 1 := gv_lit 1 (fun _ _ h => ⟨_, rfl, h⟩) (Nat.le_refl _) (by decide)
    suffices g : ∀ H2, Same H1 H2 → U2 { nx := fun _ H' => Q .non H', rt := Q } [some (.str how), some (.str y), some (.ref l), some (.ref pa), some (.ref pb), some (.ref po), none] H2 from g H1 (Same.refl H1)
    intro H2 s2
    have si0 : ∀ w ∈ [V.int 0], SI w := fun w hw => by rw [List.mem_singleton.mp hw]; exact .inl ⟨0, rfl⟩
    by_cases c : how = "addboth" ∧ y ∈ addL
    · refine ⟨_, rfl, rfl, _, rfl, ?_⟩
      rw [decide_eq_true (congrArg V.str c.1)]
      refine iteT ⟨_, rfl, by show 4 ≤ sizeLine; decide, fun z1 hz1 => ?_⟩
      have s3 := s2.trans (same_upd (o := .tup [V.str "add", V.str "and", V.str "or", V.str "odd"]) hz1)
      refine ⟨z1, addL.map V.str, rfl, .inr (SqT.of upd_same), rfl, rfl, _, rfl, ?_⟩
      generalize upd H2 z1 (.tup [V.str "add", V.str "and", V.str "or", V.str "odd"]) = H3 at *
      rw [inV_strs, decide_eq_true c.2]
      rw [if_pos c] at k
      exact iteT ((gv_cat (gv_cat wrd oth) one).g H3 _ s3 fun p H' s h => k _ p H' rfl (by rw [h]; simp [Tm.flat]) (s3.trans s))
    rw [if_neg c] at k0 k
    suffices r : ∀ H3, Same H1 H3 → U3 { nx := fun _ H' => Q .non H', rt := Q } [some (.str how), some (.str y), some (.ref l), some (.ref pa), some (.ref pb), some (.ref po), none] H3 by
      exact ⟨_, rfl, rfl, _, rfl, ite2 (fun c1 => ⟨_, rfl, by show 4 ≤ sizeLine; decide, fun z1 hz1 => ⟨z1, addL.map V.str, rfl, .inr (SqT.of upd_same), rfl, rfl, _, rfl, ite2 (fun c2 => absurd ⟨str_inj c1, of_decide_eq_true ((inV_strs _ _).symm.trans c2)⟩ c) (fun _ => r _ (s2.trans (same_upd hz1)))⟩⟩) (fun _ => iteF (r H2 s2))⟩
    clear c s2 H2
    intro H2 s2
    by_cases c : how = "addthree" ∧ y ∈ addL ∧ a.hd = .str y
    · refine ⟨_, rfl, rfl, _, rfl, ?_⟩
      rw [decide_eq_true (congrArg V.str c.1)]
      refine iteT ⟨_, rfl, by show 4 ≤ sizeLine; decide, fun z1 hz1 => ?_⟩
      have s3 := s2.trans (same_upd (o := .tup [V.str "add", V.str "and", V.str "or", V.str "odd"]) hz1)
      refine ⟨z1, addL.map V.str, rfl, .inr (SqT.of upd_same), rfl, rfl, _, rfl, ?_⟩
      generalize upd H2 z1 (.tup [V.str "add", V.str "and", V.str "or", V.str "odd"]) = H3 at *
      rw [inV_strs, decide_eq_true c.2.1]
      refine iteT ⟨_, rfl, pa, _, 0, _, rfl, rfl, SqT.of (s3 _ _ ha), hat, _, rfl, sc _, _, rfl, ?_⟩
      rw [decide_eq_true c.2.2]
      rw [if_pos c] at k
      obtain ⟨d, e, rfl⟩ := two_hd hk oka c.2.2 (add_two y c.2.1).1 (add_two y c.2.1).2
      have hfl : (Tm.two y d e).flat.length = d.flat.length + e.flat.length + 1 := by show (V.str y :: (d.flat ++ e.flat)).length = _; rw [List.length_cons, List.length_append]
      refine iteT ⟨_, rfl, pa, ys, _, rfl, s3 _ _ ha, hk, oka, (by lia), fun l3 xs H4 _ hl4 hT s4 => gName_go ?_⟩
      refine hideG fun Gz hGz => ?_
      obtain ⟨p, q, rfl, hp, hq⟩ := tr_two hT
      refine hGz ?_
      clear hGz Gz
      have s5 := s3.trans s4
      have w4 : Gives (tTup (tCons (tVar 1) tNil)) [some (.str how), some (.str y), some (.ref l), some (.ref pa), some (.ref pb), some (.ref po), some (.ref l3)] H4 [.str y] 1 := gv_lit 1 (fun _ _ h => ⟨_, rfl, h⟩) (Nat.le_refl _) (by decide)
      have o4 : Gives (tVar 4) [some (.str how), some (.str y), some (.ref l), some (.ref pa), some (.ref pb), some (.ref po), some (.ref l3)] H4 b.flat 300 := gv_var rfl (s5 _ _ hb) (by lia)
      refine (gv_cat (gv_cat (gv_cat (gv_cat w4 (gv_ix (n := 300) rfl hl4 rfl hp (by lia))) w4) (gv_ix (n := 300) rfl hl4 rfl hq (by lia))) o4 (by decide)).g H4 _ (Same.refl H4) fun z H' s h => k _ z H' rfl ?_ (s5.trans s)
      rw [h]
      simp [Tm.flat]
    rw [if_neg c] at k0 k
    suffices r : ∀ H3, Same H1 H3 → U4 { nx := fun _ H' => Q .non H', rt := Q } [some (.str how), some (.str y), some (.ref l), some (.ref pa), some (.ref pb), some (.ref po), none] H3 by
      exact ⟨_, rfl, rfl, _, rfl, ite2 (fun c1 => ⟨_, rfl, by show 4 ≤ sizeLine; decide, fun z1 hz1 => ⟨z1, addL.map V.str, rfl, .inr (SqT.of upd_same), rfl, rfl, _, rfl, ite2 (fun c2 => ⟨_, rfl, pa, _, 0, _, rfl, rfl, SqT.of ((s2.trans (same_upd hz1)) _ _ ha), hat, _, rfl, sc _, _, rfl, ite2 (fun c3 => absurd ⟨str_inj c1, of_decide_eq_true ((inV_strs _ _).symm.trans c2), of_decide_eq_true c3⟩ c) (fun _ => r _ (s2.trans (same_upd hz1)))⟩) (fun _ => iteF (r _ (s2.trans (same_upd hz1))))⟩⟩) (fun _ => iteF (r H2 s2))⟩
    clear c s2 H2
    intro H2 s2
    by_cases c : how = "subneg" ∧ y = "sub"
    · refine ⟨_, rfl, rfl, _, rfl, ?_⟩
      rw [decide_eq_true (congrArg V.str c.1)]
      refine iteT ⟨_, rfl, rfl, _, rfl, ?_⟩
      rw [decide_eq_true (congrArg V.str c.2)]
      rw [if_pos c] at k
      exact iteT ((gv_cat (gv_cat (gv_cat gv_l1 one) gv_l1) oth).g H2 _ s2 fun p H' s h => k _ p H' rfl (by rw [h]; simp [Tm.flat]) (s2.trans s))
    rw [if_neg c] at k0 k
    suffices r : ∀ H3, Same H1 H3 → U5 { nx := fun _ H' => Q .non H', rt := Q } [some (.str how), some (.str y), some (.ref l), some (.ref pa), some (.ref pb), some (.ref po), none] H3 by
      exact ⟨_, rfl, rfl, _, rfl, ite2 (fun c1 => ⟨_, rfl, rfl, _, rfl, ite2 (fun c2 => absurd ⟨str_inj c1, str_inj c2⟩ c) (fun _ => r H2 s2)⟩) (fun _ => iteF (r H2 s2))⟩
    clear c s2 H2
    intro H2 s2
    by_cases c : how = "oddor" ∧ y = "odd"
    · refine ⟨_, rfl, rfl, _, rfl, ?_⟩
      rw [decide_eq_true (congrArg V.str c.1)]
      refine iteT ⟨_, rfl, rfl, _, rfl, ?_⟩
      rw [decide_eq_true (congrArg V.str c.2)]
      rw [if_pos c] at k
      exact iteT ((gv_cat (gv_cat (gv_cat (gv_cat gv_l2 one) oth) gv_l1) bot).g H2 _ s2 fun p H' s h => k _ p H' rfl (by rw [h]; simp [Tm.flat]) (s2.trans s))
    rw [if_neg c] at k0 k
    suffices r : ∀ H3, Same H1 H3 → U6 { nx := fun _ H' => Q .non H', rt := Q } [some (.str how), some (.str y), some (.ref l), some (.ref pa), some (.ref pb), some (.ref po), none] H3 by
      exact ⟨_, rfl, rfl, _, rfl, ite2 (fun c1 => ⟨_, rfl, rfl, _, rfl, ite2 (fun c2 => absurd ⟨str_inj c1, str_inj c2⟩ c) (fun _ => r H2 s2)⟩) (fun _ => iteF (r H2 s2))⟩
    clear c s2 H2
    intro H2 s2
    by_cases c : how = "orsum" ∧ y = "add"
    · refine ⟨_, rfl, rfl, _, rfl, ?_⟩
      rw [decide_eq_true (congrArg V.str c.1)]
      refine iteT ⟨_, rfl, rfl, _, rfl, ?_⟩
      rw [decide_eq_true (congrArg V.str c.2)]
      rw [if_pos c] at k
      exact iteT ((gv_cat (gv_cat (gv_cat gv_l2 one) oth) bot).g H2 _ s2 fun p H' s h => k _ p H' rfl (by rw [h]; simp [Tm.flat]) (s2.trans s))
    rw [if_neg c] at k0 k
    suffices r : ∀ H3, Same H1 H3 → U7 { nx := fun _ H' => Q .non H', rt := Q } [some (.str how), some (.str y), some (.ref l), some (.ref pa), some (.ref pb), some (.ref po), none] H3 by
      exact ⟨_, rfl, rfl, _, rfl, ite2 (fun c1 => ⟨_, rfl, rfl, _, rfl, ite2 (fun c2 => absurd ⟨str_inj c1, str_inj c2⟩ c) (fun _ => r H2 s2)⟩) (fun _ => iteF (r H2 s2))⟩
    clear c s2 H2
    intro H2 s2
    by_cases c : how = "oddsum" ∧ y = "add"
    · refine ⟨_, rfl, rfl, _, rfl, ?_⟩
      rw [decide_eq_true (congrArg V.str c.1)]
      refine iteT ⟨_, rfl, rfl, _, rfl, ?_⟩
      rw [decide_eq_true (congrArg V.str c.2)]
      rw [if_pos c] at k
      exact iteT ((gv_cat (gv_cat (gv_cat (gv_cat gv_l2 one) oth) gv_l1) bot).g H2 _ s2 fun p H' s h => k _ p H' rfl (by rw [h]; simp [Tm.flat]) (s2.trans s))
    rw [if_neg c] at k0 k
    suffices r : ∀ H3, Same H1 H3 → U8 { nx := fun _ H' => Q .non H', rt := Q } [some (.str how), some (.str y), some (.ref l), some (.ref pa), some (.ref pb), some (.ref po), none] H3 by
      exact ⟨_, rfl, rfl, _, rfl, ite2 (fun c1 => ⟨_, rfl, rfl, _, rfl, ite2 (fun c2 => absurd ⟨str_inj c1, str_inj c2⟩ c) (fun _ => r H2 s2)⟩) (fun _ => iteF (r H2 s2))⟩
    clear c s2 H2
    intro H2 s2
    by_cases c : how = "selfodd" ∧ y = "odd" ∧ a.flat = b.flat
    · refine ⟨_, rfl, rfl, _, rfl, ?_⟩
      rw [decide_eq_true (congrArg V.str c.1)]
      refine iteT ⟨_, rfl, rfl, _, rfl, ?_⟩
      rw [decide_eq_true (congrArg V.str c.2.1)]
      refine iteT ⟨_, rfl, _, rfl, pa, pb, _, _, rfl, rfl, SqT.of (s2 _ _ ha), SqT.of (s2 _ _ hb), si_all sia, si_all sib, _, rfl, ?_⟩
      rw [eqvs_si sia sib]
      refine iteT' (decide_eq_true c.2.2) ?_
      rw [if_pos c] at k
      exact ((gv_l1).g H2 _ s2 fun p H' s h => k _ p H' rfl (by rw [h]; rfl) (s2.trans s))
    rw [if_neg c] at k0 k
    suffices r : ∀ H3, Same H1 H3 → U9 { nx := fun _ H' => Q .non H', rt := Q } [some (.str how), some (.str y), some (.ref l), some (.ref pa), some (.ref pb), some (.ref po), none] H3 by
      exact ⟨_, rfl, rfl, _, rfl, ite2 (fun c1 => ⟨_, rfl, rfl, _, rfl, ite2 (fun c2 => ⟨_, rfl, _, rfl, pa, pb, _, _, rfl, rfl, SqT.of (s2 _ _ ha), SqT.of (s2 _ _ hb), si_all sia, si_all sib, _, rfl, ite2 (fun c3 => absurd ⟨str_inj c1, str_inj c2, of_decide_eq_true ((eqvs_si sia sib).symm.trans c3)⟩ c) (fun _ => r _ s2)⟩) (fun _ => iteF (r H2 s2))⟩) (fun _ => iteF (r H2 s2))⟩
    clear c s2 H2
    intro H2 s2
    by_cases c : how = "selfand" ∧ y ∈ aoL ∧ a.flat = b.flat
    · refine ⟨_, rfl, rfl, _, rfl, ?_⟩
      rw [decide_eq_true (congrArg V.str c.1)]
      refine iteT ⟨_, rfl, by show 2 ≤ sizeLine; decide, fun z1 hz1 => ?_⟩
      have s3 := s2.trans (same_upd (o := .tup [V.str "and", V.str "or"]) hz1)
      refine ⟨z1, aoL.map V.str, rfl, .inr (SqT.of upd_same), rfl, rfl, _, rfl, ?_⟩
      generalize upd H2 z1 (.tup [V.str "and", V.str "or"]) = H3 at *
      rw [inV_strs, decide_eq_true c.2.1]
      refine iteT ⟨_, rfl, _, rfl, pa, pb, _, _, rfl, rfl, SqT.of (s3 _ _ ha), SqT.of (s3 _ _ hb), si_all sia, si_all sib, _, rfl, ?_⟩
      rw [eqvs_si sia sib]
      refine iteT' (decide_eq_true c.2.2) ?_
      rw [if_pos c] at k
      exact (⟨_, rfl, k _ pa H3 rfl (s3 _ _ ha) s3⟩)
    rw [if_neg c] at k0 k
    suffices r : ∀ H3, Same H1 H3 → U10 { nx := fun _ H' => Q .non H', rt := Q } [some (.str how), some (.str y), some (.ref l), some (.ref pa), some (.ref pb), some (.ref po), none] H3 by
      exact ⟨_, rfl, rfl, _, rfl, ite2 (fun c1 => ⟨_, rfl, by show 2 ≤ sizeLine; decide, fun z1 hz1 => ⟨z1, aoL.map V.str, rfl, .inr (SqT.of upd_same), rfl, rfl, _, rfl, ite2 (fun c2 => ⟨_, rfl, _, rfl, pa, pb, _, _, rfl, rfl, SqT.of ((s2.trans (same_upd hz1)) _ _ ha), SqT.of ((s2.trans (same_upd hz1)) _ _ hb), si_all sia, si_all sib, _, rfl, ite2 (fun c3 => absurd ⟨str_inj c1, of_decide_eq_true ((inV_strs _ _).symm.trans c2), of_decide_eq_true ((eqvs_si sia sib).symm.trans c3)⟩ c) (fun _ => r _ (s2.trans (same_upd hz1)))⟩) (fun _ => iteF (r _ (s2.trans (same_upd hz1))))⟩⟩) (fun _ => iteF (r H2 s2))⟩
    clear c s2 H2
    intro H2 s2
    by_cases c : how = "zeroadd" ∧ y ∈ zerL ∧ b.flat = [.int 0]
    · refine ⟨_, rfl, rfl, _, rfl, ?_⟩
      rw [decide_eq_true (congrArg V.str c.1)]
      refine iteT ⟨_, rfl, by show 4 ≤ sizeLine; decide, fun z1 hz1 => ?_⟩
      have s3 := s2.trans (same_upd (o := .tup [V.str "add", V.str "or", V.str "odd", V.str "sub"]) hz1)
      refine ⟨z1, zerL.map V.str, rfl, .inr (SqT.of upd_same), rfl, rfl, _, rfl, ?_⟩
      generalize upd H2 z1 (.tup [V.str "add", V.str "or", V.str "odd", V.str "sub"]) = H3 at *
      rw [inV_strs, decide_eq_true c.2.1]
      refine iteT ⟨_, rfl, by show 1 ≤ sizeLine; decide, fun z2 hz2 => ?_⟩
      have s4 := s3.trans (same_upd (o := .tup [V.int 0]) hz2)
      refine ⟨pb, z2, _, _, rfl, rfl, SqT.of (s4 _ _ hb), SqT.of upd_same, si_all sib, rfl, _, rfl, ?_⟩
      rw [eqvs_si sib si0]
      refine iteT' (decide_eq_true c.2.2) ?_
      generalize upd H3 z2 (.tup [V.int 0]) = H4 at *
      rw [if_pos c] at k
      exact (⟨_, rfl, k _ pa H4 rfl (s4 _ _ ha) s4⟩)
    rw [if_neg c] at k0 k
    have r : ∀ H3, Same H1 H3 → U11 { nx := fun _ H' => Q .non H', rt := Q } [some (.str how), some (.str y), some (.ref l), some (.ref pa), some (.ref pb), some (.ref po), none] H3 := fun H3 s3 => k0 rfl H3 s3
    exact ⟨_, rfl, rfl, _, rfl, ite2 (fun c1 => ⟨_, rfl, by show 4 ≤ sizeLine; decide, fun z1 hz1 => ⟨z1, zerL.map V.str, rfl, .inr (SqT.of upd_same), rfl, rfl, _, rfl, ite2 (fun c2 => ⟨_, rfl, by show 1 ≤ sizeLine; decide, fun z2 hz2 => ⟨pb, z2, _, _, rfl, rfl, SqT.of (((s2.trans (same_upd hz1)).trans (same_upd hz2)) _ _ hb), SqT.of upd_same, si_all sib, rfl, _, rfl, ite2 (fun c3 => absurd ⟨str_inj c1, of_decide_eq_true ((inV_strs _ _).symm.trans c2), of_decide_eq_true ((eqvs_si sib si0).symm.trans c3)⟩ c) (fun _ => r _ ((s2.trans (same_upd hz1)).trans (same_upd hz2)))⟩⟩) (fun _ => iteF (r _ (s2.trans (same_upd hz1))))⟩⟩) (fun _ => iteF (r H2 s2))⟩
inductive sp_law_turned_one_i (vs : List V) (H : Hp) (Q : VK) : Prop
  | mk (how y : Str) (pa : Addr) (ys : List Str) (a : Tm) : (vs = [.str how, .str y, .ref pa]) → (H pa = some (.tup a.flat)) → (NK ys) → (a.ok ys) → (a.flat.length ≤ 300) → ((trn1 how y a = none → ∀ H', Same H H' → Q .non H')) → (∀ x z H', trn1 how y a = some x → H' z = some (.tup x.flat) → Same H H' → Q (.ref z) H') → sp_law_turned_one_i vs H Q
def sp_law_turned_one (K : PySem.W.Frag) : Sp := fun vs H Q _ => sp_law_turned_one_i vs H Q
theorem ok_law_turned_one (T : Txt K w mg t) : FnOk P w K mg base CX0 3 t.a_law_turned_one t.f_law_turned_one ["how", "word", "one"] (sp_law_turned_one K) := by
  have G_law_parts : FnOk P w K mg base CX0 2 t.a_law_parts t.f_law_parts ["words"] (sp_law_parts K) := ok_law_parts T
  refine T.d_law_turned_one.F.ok sc_law_turned_one (fun vs H Q E h => ?_) (fun cdv A outer s H vs Q E hr h => ?_)
  · obtain ⟨how, y, pa, ys, a, rfl, ha, hk, ok, hlen, k0, k⟩ := h
    rfl
  · obtain ⟨how, y, pa, ys, a, rfl, ha, hk, ok, hlen, k0, k⟩ := h
    have hu := hu_of hr
    refine ⟨_, @QSs.out _ _ _ (qss_cons (qs_if (qw_pt (qw_and (qt_cmpR op_eq (qv 0) qe_str (nomark _)) (qw_and1 (qt_cmpR op_eq (qv 1) qe_str (nomark _)))))
        (qss_one (qs_ret (qe_op op_catG (qe_op op_catG (qe_tup (qa_c qe_str (qa_c qe_str qa_nil))) (qv 2)) (qe_tup (qa_c qe_int qa_nil))))) qss_nil)
        (qss_cons (qs_if (qw_pt (qw_and (qt_cmpR op_eq (qv 0) qe_str (nomark _)) (qw_and1 (qt_cmpR op_eq (qv 1) qe_str (nomark _)))))
        (qss_one (qs_ret (qe_op op_catG (qe_op op_catG (qe_tup (qa_c qe_str qa_nil)) (qv 2)) (qv 2)))) qss_nil)
        (qss_cons (qs_if (qw_pt (qw_and (qt_cmpR op_eq (qv 0) qe_str (nomark _)) (qw_and1 (qt_cmpR op_eq (qv 1) qe_str (nomark _)))))
        (qss_one (qs_ret (qe_op op_catG (qe_op op_catG (qe_op op_catG (qe_tup (qa_c qe_str qa_nil)) (qv 2)) (qe_tup (qa_c qe_str qa_nil))) (qv 2)))) qss_nil)
        (qss_cons (qs_if (qw_pt (qw_and (qt_cmpR op_eq (qv 0) qe_str (nomark _)) (qw_and (qt_cmpR op_eq (qv 1) qe_str (nomark _)) (qw_and1 (qt_cmpR op_eq (qe_ix ix_tup (qv 2) qe_int (fun _ _ => rfl)) qe_str (nomark _))))))
        (qss_one (qs_ret (qe_slice (SlR.or sl_tup sl_tupW) (qv 2) (qo_some qe_int) qo_none))) qss_nil)
        (qss_cons (qs_if (qw_pt (qw_and (qt_cmpR op_eq (qv 0) qe_str (nomark _)) (qw_and (qt_cmpR op_eq (qv 1) qe_str (nomark _)) (qw_and1 (qt_cmpR op_eq (qe_ix ix_tup (qv 2) qe_int (fun _ _ => rfl)) qe_str (nomark _))))))
        (qss_cons (qs_set (i := 3) sc_law_turned_one.nd rfl (Or.inl rfl) (qe_callF G_law_parts (hr.mono (by decide)) rfl T.d_law_parts.m T.d_law_parts.F.kp T.d_law_parts.b .nil pass0 (qa_c (qv 2) qa_nil)))
        (qss_one (qs_ret (qe_op op_catG (qe_op op_catG (qe_op op_catG (qe_tup (qa_c qe_str (qa_c qe_str qa_nil))) (qe_ix ix_list (qv 3) qe_int (fun _ _ => rfl))) (qe_tup (qa_c qe_str qa_nil))) (qe_ix ix_list (qv 3) qe_int (fun _ _ => rfl)))))) qss_nil)
        (qss_cons (qs_if (qw_pt (qw_and (qt_cmpR op_eq (qv 0) qe_str (nomark _)) (qw_and (qt_cmpR op_eq (qv 1) qe_str (nomark _)) (qw_and1 (qt_cmpR op_eq (qe_ix ix_tup (qv 2) qe_int (fun _ _ => rfl)) qe_str (nomark _))))))
        (qss_cons (qs_set (i := 3) sc_law_turned_one.nd rfl (Or.inl rfl) (qe_callF G_law_parts (hr.mono (by decide)) rfl T.d_law_parts.m T.d_law_parts.F.kp T.d_law_parts.b .nil pass0 (qa_c (qv 2) qa_nil)))
        (qss_one (qs_ret (qe_op op_catG (qe_op op_catG (qe_op op_catG (qe_tup (qa_c qe_str (qa_c qe_str qa_nil))) (qe_ix ix_list (qv 3) qe_int (fun _ _ => rfl))) (qe_tup (qa_c qe_str qa_nil))) (qe_ix ix_list (qv 3) qe_int (fun _ _ => rfl)))))) qss_nil)
        (qss_one (qs_ret qe_non)))))))), ?_⟩
    clear hu hr
    try dsimp only [L2.cxK, L2.cxK2]
    refine L2.let7 ?_
    intro U6 U5 U4 U3 U2 U1
    have hat := hd_at a
    have si := hd_si ok
    have sc : ∀ c : Str, scal a.hd (.str c) = true := fun c => si.scal (.inr ⟨c, rfl⟩)
    unfold trn1 at k0 k
    have one : Gives (tVar 2) [some (.str how), some (.str y), some (.ref pa), none] H a.flat 300 := gv_var rfl ha hlen
    by_cases c : how = "negnot" ∧ y = "neg"
    · refine ⟨_, rfl, rfl, _, rfl, ?_⟩
      rw [decide_eq_true (congrArg V.str c.1)]
      refine iteT ⟨_, rfl, rfl, _, rfl, ?_⟩
      rw [decide_eq_true (congrArg V.str c.2)]
      rw [if_pos c] at k
      exact iteT ((gv_cat (gv_cat gv_l2 one) gv_l1).g H _ (Same.refl H) fun p H' s h => k _ p H' rfl (by rw [h]; rfl) s)
    rw [if_neg c] at k0 k
    suffices r : U1 { nx := fun _ H' => Q .non H', rt := Q } [some (.str how), some (.str y), some (.ref pa), none] H from ⟨_, rfl, rfl, _, rfl, ite2 (fun c1 => ⟨_, rfl, rfl, _, rfl, ite2 (fun c2 => absurd ⟨str_inj c1, str_inj c2⟩ c) (fun _ => r)⟩) (fun _ => iteF r)⟩
    clear c
    by_cases c : how = "twiceadd" ∧ y = "twice"
    · refine ⟨_, rfl, rfl, _, rfl, ?_⟩
      rw [decide_eq_true (congrArg V.str c.1)]
      refine iteT ⟨_, rfl, rfl, _, rfl, ?_⟩
      rw [decide_eq_true (congrArg V.str c.2)]
      rw [if_pos c] at k
      exact iteT ((gv_cat (gv_cat gv_l1 one) one).g H _ (Same.refl H) fun p H' s h => k _ p H' rfl (by rw [h]; rfl) s)
    rw [if_neg c] at k0 k
    suffices r : U2 { nx := fun _ H' => Q .non H', rt := Q } [some (.str how), some (.str y), some (.ref pa), none] H from ⟨_, rfl, rfl, _, rfl, ite2 (fun c1 => ⟨_, rfl, rfl, _, rfl, ite2 (fun c2 => absurd ⟨str_inj c1, str_inj c2⟩ c) (fun _ => r)⟩) (fun _ => iteF r)⟩
    clear c
    by_cases c : how = "lowneg" ∧ y = "low"
    · refine ⟨_, rfl, rfl, _, rfl, ?_⟩
      rw [decide_eq_true (congrArg V.str c.1)]
      refine iteT ⟨_, rfl, rfl, _, rfl, ?_⟩
      rw [decide_eq_true (congrArg V.str c.2)]
      rw [if_pos c] at k
      exact iteT ((gv_cat (gv_cat (gv_cat gv_l1 one) gv_l1) one).g H _ (Same.refl H) fun p H' s h => k _ p H' rfl (by rw [h]; simp [Tm.flat]) s)
    rw [if_neg c] at k0 k
    suffices r : U3 { nx := fun _ H' => Q .non H', rt := Q } [some (.str how), some (.str y), some (.ref pa), none] H from ⟨_, rfl, rfl, _, rfl, ite2 (fun c1 => ⟨_, rfl, rfl, _, rfl, ite2 (fun c2 => absurd ⟨str_inj c1, str_inj c2⟩ c) (fun _ => r)⟩) (fun _ => iteF r)⟩
    clear c
    by_cases c : how = "notnot" ∧ y = "not" ∧ a.hd = .str "not"
    · refine ⟨_, rfl, rfl, _, rfl, ?_⟩
      rw [decide_eq_true (congrArg V.str c.1)]
      refine iteT ⟨_, rfl, rfl, _, rfl, ?_⟩
      rw [decide_eq_true (congrArg V.str c.2.1)]
      refine iteT ⟨_, rfl, pa, _, 0, _, rfl, rfl, SqT.of ha, hat, sc _, _, rfl, ?_⟩
      rw [decide_eq_true c.2.2]
      rw [if_pos c] at k
      obtain ⟨d, rfl⟩ := one_hd hk ok c.2.2 (by decide +kernel) (by decide +kernel)
      refine iteT ⟨_, rfl, _, rfl, sl_of ha fun z H' hz s => k d z H' rfl ?_ s⟩
      rw [hz]
      exact congrArg (fun z => some (HO.tup z)) (cut_tail (u := [V.str "not"]) (v := d.flat) rfl)
    rw [if_neg c] at k0 k
    suffices r : U4 { nx := fun _ H' => Q .non H', rt := Q } [some (.str how), some (.str y), some (.ref pa), none] H from ⟨_, rfl, rfl, _, rfl, ite2 (fun c1 => ⟨_, rfl, rfl, _, rfl, ite2 (fun c2 => ⟨_, rfl, pa, _, 0, _, rfl, rfl, SqT.of ha, hat, sc _, _, rfl, ite2 (fun c3 => absurd ⟨str_inj c1, str_inj c2, of_decide_eq_true c3⟩ c) (fun _ => r)⟩) (fun _ => iteF r)⟩) (fun _ => iteF r)⟩
    clear c
    by_cases c : how = "notand" ∧ y = "not" ∧ a.hd = .str "and"
    · refine ⟨_, rfl, rfl, _, rfl, ?_⟩
      rw [decide_eq_true (congrArg V.str c.1)]
      refine iteT ⟨_, rfl, rfl, _, rfl, ?_⟩
      rw [decide_eq_true (congrArg V.str c.2.1)]
      refine iteT ⟨_, rfl, pa, _, 0, _, rfl, rfl, SqT.of ha, hat, sc _, _, rfl, ?_⟩
      rw [decide_eq_true c.2.2]
      rw [if_pos c] at k
      obtain ⟨d, e, rfl⟩ := two_hd hk ok c.2.2 (by decide +kernel) (by decide +kernel)
      refine iteT ⟨_, rfl, pa, ys, _, rfl, ha, hk, ok, hlen, fun l xs H1 _ hl1 hT s1 => gName_go ?_⟩
      refine hideG fun Gz hGz => ?_
      obtain ⟨p, q, rfl, hp, hq⟩ := tr_two hT
      refine hGz ?_
      clear hGz Gz
      have hle : d.flat.length + e.flat.length + 1 ≤ 300 := by have : (V.str "and" :: (d.flat ++ e.flat)).length ≤ 300 := hlen; rw [List.length_cons, List.length_append] at this; lia
      refine (gv_cat (gv_cat (gv_cat gv_l2 (gv_ix (n := 300) rfl hl1 rfl hp (by lia))) gv_l1) (gv_ix (n := 300) rfl hl1 rfl hq (by lia))).g H1 _ (Same.refl H1) fun z H' s h => k _ z H' rfl ?_ (s1.trans s)
      rw [h]
      simp [Tm.flat]
    rw [if_neg c] at k0 k
    suffices r : U5 { nx := fun _ H' => Q .non H', rt := Q } [some (.str how), some (.str y), some (.ref pa), none] H from ⟨_, rfl, rfl, _, rfl, ite2 (fun c1 => ⟨_, rfl, rfl, _, rfl, ite2 (fun c2 => ⟨_, rfl, pa, _, 0, _, rfl, rfl, SqT.of ha, hat, sc _, _, rfl, ite2 (fun c3 => absurd ⟨str_inj c1, str_inj c2, of_decide_eq_true c3⟩ c) (fun _ => r)⟩) (fun _ => iteF r)⟩) (fun _ => iteF r)⟩
    clear c
    by_cases c : how = "notor" ∧ y = "not" ∧ a.hd = .str "or"
    · refine ⟨_, rfl, rfl, _, rfl, ?_⟩
      rw [decide_eq_true (congrArg V.str c.1)]
      refine iteT ⟨_, rfl, rfl, _, rfl, ?_⟩
      rw [decide_eq_true (congrArg V.str c.2.1)]
      refine iteT ⟨_, rfl, pa, _, 0, _, rfl, rfl, SqT.of ha, hat, sc _, _, rfl, ?_⟩
      rw [decide_eq_true c.2.2]
      rw [if_pos c] at k
      obtain ⟨d, e, rfl⟩ := two_hd hk ok c.2.2 (by decide +kernel) (by decide +kernel)
      refine iteT ⟨_, rfl, pa, ys, _, rfl, ha, hk, ok, hlen, fun l xs H1 _ hl1 hT s1 => gName_go ?_⟩
      refine hideG fun Gz hGz => ?_
      obtain ⟨p, q, rfl, hp, hq⟩ := tr_two hT
      refine hGz ?_
      clear hGz Gz
      have hle : d.flat.length + e.flat.length + 1 ≤ 300 := by have : (V.str "or" :: (d.flat ++ e.flat)).length ≤ 300 := hlen; rw [List.length_cons, List.length_append] at this; lia
      refine (gv_cat (gv_cat (gv_cat gv_l2 (gv_ix (n := 300) rfl hl1 rfl hp (by lia))) gv_l1) (gv_ix (n := 300) rfl hl1 rfl hq (by lia))).g H1 _ (Same.refl H1) fun z H' s h => k _ z H' rfl ?_ (s1.trans s)
      rw [h]
      simp [Tm.flat]
    rw [if_neg c] at k0 k
    have r := k0 rfl H (Same.refl H)
    exact ⟨_, rfl, rfl, _, rfl, ite2 (fun c1 => ⟨_, rfl, rfl, _, rfl, ite2 (fun c2 => ⟨_, rfl, pa, _, 0, _, rfl, rfl, SqT.of ha, hat, sc _, _, rfl, ite2 (fun c3 => absurd ⟨str_inj c1, str_inj c2, of_decide_eq_true c3⟩ c) (fun _ => r)⟩) (fun _ => iteF r)⟩) (fun _ => iteF r)⟩
inductive sp_parts_bound_i (K : PySem.W.Frag) (vs : List V) (H : Hp) (Q : VK) : Prop
  | mk (fa pa : Addr) (ys : List Str) (F sm : Tm) : (vs = [.ref fa, .ref pa]) → ((∀ H, SqT K H fa F.flat)) → (F.ok xyz) → (F.flat.length ≤ 20) → (H pa = some (.tup sm.flat)) → (NK ys) → (sm.ok ys) → (sm.flat.length ≤ 300) → ((∀ H', ¬ (∃ σ, F.sub σ = sm) → Same H H' → Q .non H')) → (∀ d τ H', H d = none → BndAt H' d τ → F.sub (bnd τ) = sm → (∀ y ∈ F.nms, y ∈ τ.map (·.1)) → (∀ p ∈ τ, p.2.ok ys ∧ bnd τ p.1 = p.2) → Same H H' → Q (.ref d) H') → sp_parts_bound_i K vs H Q
def sp_parts_bound (K : PySem.W.Frag) : Sp := fun vs H Q _ => sp_parts_bound_i K vs H Q
theorem ok_parts_bound (T : Txt K w mg t) : FnOk P w K mg base CX0 4 t.a_parts_bound t.f_parts_bound ["form", "words"] (sp_parts_bound K) := by
  have G_is_part_name : FnOk P w K mg base CX0 3 t.a_is_part_name t.f_is_part_name ["word"] (sp_is_part_name K) := ok_is_part_name T
  have G_part_end : FnOk P w K mg base CX0 3 t.a_part_end t.f_part_end ["words", "begin"] (sp_part_end K) := ok_part_end T
  refine T.d_parts_bound.F.ok sc_parts_bound (fun vs H Q E h => ?_) (fun cdv A outer s H vs Q E hr h => ?_)
  · obtain ⟨fa, pa, ys, F, sm, rfl, hf, hF, hFl, hp, hk, hs, hsl, k1, k2⟩ := h
    rfl
  · obtain ⟨fa, pa, ys, F, sm, rfl, hf, hF, hFl, hp, hk, hs, hsl, k1, k2⟩ := h
    have hu := hu_of hr
    refine ⟨_, @QSs.out _ _ _ (qss_cons (qs_set (i := 2) sc_parts_bound.nd rfl (Or.inl rfl) qe_dnew)
        (qss_cons (qs_set (i := 3) sc_parts_bound.nd rfl (Or.inl rfl) qe_int)
        (qss_cons (qs_for PassesOwn.never rfl (qi_tup (qv 0)) (qg_name (i := 4) sc_parts_bound.nd rfl (Or.inl rfl))
        (qss_cons (qs_set (i := 5) sc_parts_bound.nd rfl (Or.inl rfl) (qe_op op_add (qv 3) qe_int))
        (qss_cons (qs_if (qt_val (qe_callF G_is_part_name (hr.mono (by decide)) rfl T.d_is_part_name.m T.d_is_part_name.F.kp T.d_is_part_name.b .nil pass0 (qa_c (qv 4) qa_nil)))
        (qss_cons (qs_set (i := 5) sc_parts_bound.nd rfl (Or.inl rfl) (qe_callF G_part_end (hr.mono (by decide)) rfl T.d_part_end.m T.d_part_end.F.kp T.d_part_end.b .nil pass0 (qa_c (qv 1) (qa_c (qv 3) qa_nil))))
        (qss_one (qs_if (qt_cmpR (op_neTT (units_of hr)) (qe_bmF PySem.F.plainAttrs_dict PySem.F.slot_dict_setdefault PySem.F.type_dict_setdefault mt_setD (qv 2) (qa_c (qv 4) (qa_c (qe_slice (SlR.or sl_tup sl_tupW) (qv 1) (qo_some (qv 3)) (qo_some (qv 5))) qa_nil))) (qe_slice (SlR.or sl_tup sl_tupW) (qv 1) (qo_some (qv 3)) (qo_some (qv 5))) (nomark _))
        (qss_one (qs_ret qe_non)) qss_nil))) (qss_one (qs_if (qt_cmpR op_ne (qe_ix ix_tup (qv 1) (qv 3) (fun _ _ => rfl)) (qv 4) (nomark _))
        (qss_one (qs_ret qe_non)) qss_nil)))
        (qss_one (qs_set (i := 3) sc_parts_bound.nd rfl (Or.inl rfl) (qv 5))))))
        (qss_one (qs_ret (qv 2)))))), ?_⟩
    clear hu hr
    try dsimp only [L2.cxK, L2.cxK2]
    refine L2.let4 ?_
    intro U3 U2 U1
    intro d hd
    refine gName_go ?_
    refine gName_go ?_
    have u0 := same_upd (o := .dK []) hd
    have g0 := upd_same (H := H) (a := d) (o := .dK [])
    generalize upd H d (.dK []) = H0 at *
    refine ⟨_, rfl, fa, rfl, ⟨_, hf _⟩, for_tup (K := K) (a := fa) (xs := F.flat) (fun i σ H2 => ∃ (τ : List (Str × Tm)) (j : Nat) (v4 v5 : Option V), σ = [some (.ref fa), some (.ref pa), some (.ref d), some (.int (j : Int)), v4, v5] ∧ BndAt H2 d τ ∧ Mt ys F sm (F.flat.drop i) (sm.flat.drop j) τ ∧ j ≤ sm.flat.length ∧ τ.length ≤ i ∧ Same H H2) ⟨[], 0, none, none, rfl, ⟨[], g0, Nat.le_refl _, (fun p hp => nomatch hp), fun _ _ => rfl⟩, Mt.beg hF hs, Nat.zero_le _, Nat.le_refl _, u0⟩ (fun i σ H2 _ _ => hf _) ?_ ?_⟩
    · rintro i w σ H2 hw hz_
      refine hideG fun Gz hGz => ?_
      obtain ⟨τ, j, v4, v5, rfl, B, M, hj, hxy, s2⟩ := hz_
      refine hGz ?_
      clear hGz Gz
      refine gName_go ?_
      refine ⟨_, rfl, _, _, rfl, rfl, gName_go ?_⟩
      have hwm := List.mem_of_getElem? hw
      have hfd : F.flat.drop i = w :: F.flat.drop (i + 1) := by
        obtain ⟨h1, h2⟩ := List.getElem?_eq_some_iff.mp hw
        rw [List.drop_eq_getElem_cons h1, h2]
      rw [hfd] at M
      have hp2 := s2 _ _ hp
      have hsi := sm.si hs
      rcases form_word hF w hwm with ⟨y, hy, rfl, hnm, hyl⟩ | ⟨hnm, hkp, hsc⟩
      · refine nx_join (fun σ' H' => ∃ (τ : List (Str × Tm)) (j' : Nat), σ' = [some (.ref fa), some (.ref pa), some (.ref d), some (.int (j : Int)), some (.str y), some (.int (j' : Int))] ∧ BndAt H' d τ ∧ Mt ys F sm (F.flat.drop (i + 1)) (sm.flat.drop j') τ ∧ j' ≤ sm.flat.length ∧ τ.length ≤ i + 1 ∧ Same H H') (fun N hN => ?_) ?_
        · refine ⟨_, rfl, .str y, rfl, .inr ⟨y, rfl, hyl⟩, fun H3 s3 => ?_⟩
          rw [hnm]
          refine ⟨_, rfl, iteT ?_⟩
          refine hideG fun Gz hGz => ?_
          obtain ⟨t1, sr, ht1, hsr, mv1, mv2⟩ := M.var (xyz_ok y hy)
          refine hGz ?_
          clear hGz Gz
          have hsp : sm.flat = sm.flat.take j ++ (t1.flat ++ sr) := by rw [← hsr, List.take_append_drop]
          have hjl : (sm.flat.take j).length = j := by rw [List.length_take]; lia
          have hp3 := s3 _ _ hp2
          have hlen := congrArg List.length hsp
          rw [List.length_append, List.length_append, hjl] at hlen
          refine ⟨_, rfl, _, rfl, pa, ys, sm.flat.take j, sr, t1, by rw [hjl]; rfl, by rw [← hsp]; exact hp3, hk, ht1, gName_go ?_⟩
          rw [hjl]
          have hcut : cutV sm.flat (some (j : Int)) (some ((j + t1.flat.length : Nat) : Int)) = t1.flat := by rw [hsp]; exact cut_part (by rw [hjl]) (by rw [hjl])
          have hdr : sm.flat.drop (j + t1.flat.length) = sr := by rw [← List.drop_drop, hsr, List.drop_left]
          refine hideG fun Gz hGz => ?_
          obtain ⟨kvs, hdk, hkl, hb1, hb2⟩ := (B.same s3).ex
          refine hGz ?_
          clear hGz Gz
          have hML := M.tok
          have h1si : ∀ w ∈ t1.flat, SI w := t1.si ht1
          refine ⟨_, rfl, .inr (.inr (.inl ⟨rfl, .inl ⟨_, hdk⟩⟩)), _, rfl, _, rfl, _, rfl, _, rfl, _, rfl, _, rfl, sl_of hp3 fun p1 H4 hp4 s4 => ?_⟩
          rw [hcut] at hp4
          refine ⟨d, .inr y, .ref p1, kvs, rfl, rfl, s4 _ _ hdk, small1000 (by have := (List.getElem?_eq_some_iff.mp hw).1; lia), fun v hv => ?_, fun hv => ?_⟩
          · have hmem : y ∈ τ.map (·.1) := by
              refine Classical.byContradiction fun z => ?_
              rw [hb2 y z] at hv
              cases hv
            obtain ⟨⟨y', x⟩, hpx, rfl⟩ := List.mem_map.mp hmem
            obtain ⟨b, e1, e2⟩ := hb1 _ hpx
            have e1' : valV kvs (.inr y') = some (.ref b) := e1
            rw [e1'] at hv
            cases hv
            refine ⟨_, rfl, _, rfl, _, rfl, _, rfl, _, rfl, sl_of (s4 _ _ hp3) fun p2 H5 hp5 s5 => ?_⟩
            rw [hcut] at hp5
            have hxok := hML _ hpx
            refine ⟨b, p2, _, _, rfl, rfl, SqT.of (s5 _ _ (s4 _ _ e2)), SqT.of hp5, si_all (x.si hxok), si_all h1si, _, rfl, ?_⟩
            rw [eqvs_si (x.si hxok) h1si]
            have s25 := s2.trans (s3.trans (s4.trans s5))
            by_cases e : x.flat = t1.flat
            · have ex := flat_inj hk hxok ht1 e
              rw [decide_eq_true e]
              exact iteF (hN _ _ ⟨τ, j + t1.flat.length, rfl, (B.same s3).same (s4.trans s5), by rw [hdr]; exact (mv2 x hpx).1 ex, by lia, by lia, s25⟩)
            · rw [decide_eq_false e]
              exact iteT (k1 _ (fun ⟨σ, hσ⟩ => (mv2 x hpx).2 (fun z => e (by rw [z])) σ hσ) s25)
          · have hny : y ∉ τ.map (·.1) := fun z => by
              obtain ⟨q, hq, rfl⟩ := List.mem_map.mp z
              obtain ⟨b, e1, _⟩ := hb1 q hq
              rw [e1] at hv
              cases hv
            have B4 := BndAt.add (s4 _ _ hdk) hkl (fun q hq => let ⟨b, e1, e2⟩ := hb1 q hq; ⟨b, e1, s4 _ _ e2⟩) hb2 hp4 hny
            have s14 : Same H (upd H4 d (.dK (putK kvs (.inr y) (.ref p1)))) := same_put (s2.trans (s3.trans s4)) hd
            have n1 : p1 ≠ d := ne_of hp4 (s4 _ _ hdk) (fun z => nomatch z)
            have hp14 : upd H4 d (.dK (putK kvs (.inr y) (.ref p1))) p1 = some (.tup t1.flat) := by rw [upd_ne n1]; exact hp4
            have hpa : upd H4 d (.dK (putK kvs (.inr y) (.ref p1))) pa = some (.tup sm.flat) := s14 _ _ hp
            generalize upd H4 d (.dK (putK kvs (.inr y) (.ref p1))) = H5 at *
            refine ⟨_, rfl, _, rfl, _, rfl, _, rfl, _, rfl, sl_of hpa fun p2 H6 hp6 s6 => ?_⟩
            rw [hcut] at hp6
            refine ⟨p1, p2, _, _, rfl, rfl, SqT.of (s6 _ _ hp14), SqT.of hp6, si_all h1si, si_all h1si, _, rfl, ?_⟩
            rw [eqvs_si h1si h1si, decide_eq_true rfl]
            exact iteF (hN _ _ ⟨τ ++ [(y, t1)], j + t1.flat.length, rfl, B4.same s6, by rw [hdr]; exact mv1 hny, by lia, by rw [List.length_append]; show τ.length + 1 ≤ _; lia, s14.trans s6⟩)
        · rintro σ' H' hz_
          refine hideG fun Gz hGz => ?_
          obtain ⟨τ, j', rfl, B, M, hj, hl, s⟩ := hz_
          refine hGz ?_
          clear hGz Gz
          exact ⟨_, rfl, τ, j', _, _, rfl, B, M, hj, hl, s⟩
      · refine nx_join (fun σ' H' => σ' = [some (.ref fa), some (.ref pa), some (.ref d), some (.int (j : Int)), some w, some (.int ((j : Int) + 1))] ∧ BndAt H' d τ ∧ Mt ys F sm (F.flat.drop (i + 1)) (sm.flat.drop (j + 1)) τ ∧ j + 1 ≤ sm.flat.length ∧ Same H H') (fun N hN => ?_) ?_
        · refine ⟨_, rfl, w, rfl, hsc, fun H3 s3 => ?_⟩
          rw [hnm]
          refine ⟨_, rfl, iteF ?_⟩
          refine hideG fun Gz hGz => ?_
          obtain ⟨w', sr, hsr, mw1, mw2⟩ := M.wrd hk hkp
          refine hGz ?_
          clear hGz Gz
          obtain ⟨d1, d2, d3⟩ := drop_hd hsr
          have w1 := hsi w' (List.mem_of_getElem? d1)
          have w2 : SI w := hsc.elim .inl fun ⟨y, e, _⟩ => .inr ⟨y, e⟩
          refine ⟨_, rfl, _, rfl, pa, _, _, _, rfl, rfl, SqT.of (s3 _ _ hp2), atI_nat d1, _, rfl, w1.scal w2, _, rfl, ?_⟩
          by_cases e : w' = w
          · rw [decide_eq_true e]
            exact iteF (hN _ _ ⟨rfl, B.same s3, by rw [d2]; exact mw1 e, by lia, s2.trans s3⟩)
          · rw [decide_eq_false e]
            exact iteT (k1 _ (fun ⟨σ, hσ⟩ => mw2 e σ hσ) (s2.trans s3))
        · rintro σ' H' hz_
          refine hideG fun Gz hGz => ?_
          obtain ⟨rfl, B, M, hj, s⟩ := hz_
          refine hGz ?_
          clear hGz Gz
          exact ⟨_, rfl, τ, j + 1, _, _, rfl, B, M, hj, by lia, s⟩
    · rintro σ H2 hz_
      refine hideG fun Gz hGz => ?_
      obtain ⟨τ, j, v4, v5, rfl, B, M, hj, hxy, s2⟩ := hz_
      refine hGz ?_
      clear hGz Gz
      rw [List.drop_length] at M
      obtain ⟨f1, f2⟩ := M.fin
      exact ⟨_, rfl, k2 d τ H2 hd B (f1 _ fun p hp => bnd_mem M.nd hp) f2 (fun p hp => ⟨M.tok p hp, bnd_mem M.nd hp⟩) s2⟩
inductive sp_filled_i (K : PySem.W.Frag) (vs : List V) (H : Hp) (Q : VK) : Prop
  | mk (ga d : Addr) (τ : List (Str × Tm)) (G : Tm) : (vs = [.ref ga, .ref d]) → ((∀ H, SqT K H ga G.flat)) → (G.ok xyz) → (G.flat.length ≤ 20) → (BndAt H d τ) → ((∀ y ∈ G.nms, y ∈ τ.map (·.1))) → ((∀ p ∈ τ, bnd τ p.1 = p.2)) → ((∀ y ∈ G.nms, (bnd τ y).flat.length ≤ 300)) → (∀ p H', H' p = some (.tup (G.sub (bnd τ)).flat) → Same H H' → Q (.ref p) H') → sp_filled_i K vs H Q
def sp_filled (K : PySem.W.Frag) : Sp := fun vs H Q _ => sp_filled_i K vs H Q
theorem ok_filled (T : Txt K w mg t) : FnOk P w K mg base CX0 4 t.a_filled t.f_filled ["form", "bound"] (sp_filled K) := by
  have G_is_part_name : FnOk P w K mg base CX0 3 t.a_is_part_name t.f_is_part_name ["word"] (sp_is_part_name K) := ok_is_part_name T
  refine T.d_filled.F.ok sc_filled (fun vs H Q E h => ?_) (fun cdv A outer s H vs Q E hr h => ?_)
  · obtain ⟨ga, d, τ, G, rfl, hg, hG, hGl, B, hn, hb, hbl, k⟩ := h
    rfl
  · obtain ⟨ga, d, τ, G, rfl, hg, hG, hGl, B, hn, hb, hbl, k⟩ := h
    have hu := hu_of hr
    refine ⟨_, @QSs.out _ _ _ (qss_cons (qs_set (i := 2) sc_filled.nd rfl (Or.inl rfl) (qe_tup qa_nil))
        (qss_cons (qs_for PassesOwn.never rfl (qi_tup (qv 0)) (qg_name (i := 3) sc_filled.nd rfl (Or.inl rfl))
        (qss_one (qs_aug (i := 2) sc_filled.nd rfl (Or.inl rfl) (qe_ifExp (qt_val (qe_callF G_is_part_name (hr.mono (by decide)) rfl T.d_is_part_name.m T.d_is_part_name.F.kp T.d_is_part_name.b .nil pass0 (qa_c (qv 3) qa_nil))) (qe_dget hu (qv 1) (qv 3) (fun _ _ => rfl)) (qe_tup (qa_c (qv 3) qa_nil))) ip_catG)))
        (qss_one (qs_ret (qv 2))))), ?_⟩
    clear hu hr
    try dsimp only [L2.cxK, L2.cxK2]
    refine L2.let3 ?_
    intro U2 U1
    refine ⟨by show 0 ≤ sizeLine; decide, fun z hz => gName_go ?_⟩
    have u0 := same_upd (o := .tup []) hz
    have g0 := upd_same (H := H) (a := z) (o := .tup [])
    generalize upd H z (.tup []) = H0 at *
    have fl : ∀ w ∈ G.flat, (fwd (bnd τ) w).length ≤ 300 := fun w hw => by
      unfold fwd
      split
      · split
        · show 1 ≤ 300; decide
        · rename_i y hy
          exact hbl _ (nmsT_of hG y hw hy)
      · show 1 ≤ 300; decide
    refine ⟨_, rfl, ga, rfl, ⟨_, hg _⟩, for_tup (K := K) (a := ga) (xs := G.flat) (fun i σ H2 => ∃ (z : Addr) (v3 : Option V), σ = [some (.ref ga), some (.ref d), some (.ref z), v3] ∧ H2 z = some (.tup ((G.flat.take i).flatMap (fwd (bnd τ)))) ∧ Same H H2) ⟨z, none, rfl, g0, u0⟩ (fun i σ H2 _ _ => hg _) ?_ ?_⟩
    · rintro i w σ H2 hw hz_
      refine hideG fun Gz hGz => ?_
      obtain ⟨z, v3, rfl, hz2, s2⟩ := hz_
      refine hGz ?_
      clear hGz Gz
      refine gName_go ?_
      have hwm := List.mem_of_getElem? hw
      have hil := (List.getElem?_eq_some_iff.mp hw).1
      have htk : (G.flat.take (i + 1)).flatMap (fwd (bnd τ)) = (G.flat.take i).flatMap (fwd (bnd τ)) ++ fwd (bnd τ) w := by
        rw [List.take_add_one, hw, List.flatMap_append]
        simp
      have hsz : ((G.flat.take i).flatMap (fwd (bnd τ))).length + (fwd (bnd τ) w).length ≤ sizeLine := by
        have h1 := fm_len (G.flat.take i) fun x hx => fl x (List.mem_of_mem_take hx)
        have h2 := fl w hwm
        rw [List.length_take] at h1
        exact Nat.le_of_lt (Nat.lt_of_le_of_lt (show _ ≤ 10000 by lia) (by decide))
      rcases form_word hG w hwm with ⟨y, hy, rfl, hnm, hyl⟩ | ⟨hnm, hkp, hsc⟩
      · have hky := xyz_ok y hy
        obtain ⟨q, hq, hqy⟩ := List.mem_map.mp (hn y (nmsT_of hG y hwm hky))
        subst hqy
        refine ⟨_, rfl, _, rfl, .str q.1, rfl, .inr ⟨q.1, rfl, hyl⟩, fun H3 s3 => ?_⟩
        rw [hnm]
        refine hideG fun Gz hGz => ?_
        obtain ⟨kvs, e, _, h1, _⟩ := ((B.same s2).same s3).ex
        refine hGz ?_
        clear hGz Gz
        obtain ⟨b, e1, e2⟩ := h1 q hq
        refine ⟨_, rfl, iteT ⟨_, rfl, _, rfl, d, _, rfl, .inl ⟨kvs, .inr q.1, .inl e, rfl, e1.symm⟩, z, b, _, _, rfl, rfl, s3 _ _ hz2, e2, ?_, fun p H4 hp s4 => ⟨p, _, rfl, ?_, s2.trans (s3.trans s4)⟩⟩⟩
        · have : fwd (bnd τ) (.str q.1) = q.2.flat := by
            show (if q.1 ∈ keptS then _ else _) = _
            rw [if_neg hky, hb q hq]
          rw [this] at hsz
          exact hsz
        · rw [htk, hp]
          show some (HO.tup (_ ++ q.2.flat)) = some (HO.tup (_ ++ if q.1 ∈ keptS then _ else _))
          rw [if_neg hky, hb q hq]
      · have hfw : fwd (bnd τ) w = [w] := by
          rcases hsc with ⟨n, rfl⟩ | ⟨y, rfl, _⟩
          · rfl
          · exact if_pos (hkp y rfl)
        rw [hfw] at htk hsz
        refine ⟨_, rfl, _, rfl, w, rfl, hsc, fun H3 s3 => ?_⟩
        rw [hnm]
        refine ⟨_, rfl, iteF ⟨_, rfl, by show 1 ≤ sizeLine; decide, fun o ho => ?_⟩⟩
        have s4 := same_upd (o := .tup [w]) ho
        exact ⟨z, o, _, _, rfl, rfl, s4 _ _ (s3 _ _ hz2), upd_same, hsz, fun p H4 hp s5 => ⟨p, _, rfl, by rw [htk, hp], s2.trans (s3.trans (s4.trans s5))⟩⟩
    · rintro σ H2 hz_
      refine hideG fun Gz hGz => ?_
      obtain ⟨z, v3, rfl, hz2, s2⟩ := hz_
      refine hGz ?_
      clear hGz Gz
      rw [List.take_length, ← G.sub_flat xyz_ok hG] at hz2
      exact ⟨_, rfl, k z H2 hz2 s2⟩
inductive sp_law_turned_i (vs : List V) (H : Hp) (Q : VK) : Prop
  | mk (how : Str) (p : Addr) (ys : List Str) (tm : Tm) : (vs = [.str how, .ref p]) → (H p = some (.tup tm.flat)) → (NK ys) → (tm.ok ys) → (tm.flat.length ≤ 200) → ((trn how tm = none → ∀ H', Same H H' → Q .non H')) → (∀ x z H', trn how tm = some x → H' z = some (.tup x.flat) → Same H H' → Q (.ref z) H') → sp_law_turned_i vs H Q
def sp_law_turned (K : PySem.W.Frag) : Sp := fun vs H Q _ => sp_law_turned_i vs H Q
theorem ok_law_turned (T : Txt K w mg t) : FnOk P w K mg base CX0 4 t.a_law_turned t.f_law_turned ["how", "words"] (sp_law_turned K) := by
  have G_law_turned_two : FnOk P w K mg base CX0 3 t.a_law_turned_two t.f_law_turned_two ["how", "word", "shares"] (sp_law_turned_two K) := ok_law_turned_two T
  have G_law_turned_one : FnOk P w K mg base CX0 3 t.a_law_turned_one t.f_law_turned_one ["how", "word", "one"] (sp_law_turned_one K) := ok_law_turned_one T
  have G_law_parts : FnOk P w K mg base CX0 2 t.a_law_parts t.f_law_parts ["words"] (sp_law_parts K) := ok_law_parts T
  refine T.d_law_turned.F.ok sc_law_turned (fun vs H Q E h => ?_) (fun cdv A outer s H vs Q E hr h => ?_)
  · obtain ⟨how, p, ys, tm, rfl, hp, hk, ok, hlen, k0, k⟩ := h
    rfl
  · obtain ⟨how, p, ys, tm, rfl, hp, hk, ok, hlen, k0, k⟩ := h
    have hu := hu_of hr
    refine ⟨_, @QSs.out _ _ _ (qss_cons (qs_set (i := 2) sc_law_turned.nd rfl (Or.inl rfl) (qe_callF G_law_parts (hr.mono (by decide)) rfl T.d_law_parts.m T.d_law_parts.F.kp T.d_law_parts.b .nil pass0 (qa_c (qv 1) qa_nil)))
        (qss_cons (qs_if (qt_cmpR op_eq (qe_callBF call_len_seq (by rfl) T.z_len bt_len (qa_c (qv 2) qa_nil)) qe_int (nomark _))
        (qss_one (qs_ret (qe_callF G_law_turned_one (hr.mono (by decide)) rfl T.d_law_turned_one.m T.d_law_turned_one.F.kp T.d_law_turned_one.b .nil pass0 (qa_c (qv 0) (qa_c (qe_ix ix_tup (qv 1) qe_int (fun _ _ => rfl)) (qa_c (qe_ix ix_list (qv 2) qe_int (fun _ _ => rfl)) qa_nil)))))) qss_nil)
        (qss_cons (qs_if (qt_cmpR op_eq (qe_callBF call_len_seq (by rfl) T.z_len bt_len (qa_c (qv 2) qa_nil)) qe_int (nomark _))
        (qss_one (qs_ret (qe_callF G_law_turned_two (hr.mono (by decide)) rfl T.d_law_turned_two.m T.d_law_turned_two.F.kp T.d_law_turned_two.b .nil pass0 (qa_c (qv 0) (qa_c (qe_ix ix_tup (qv 1) qe_int (fun _ _ => rfl)) (qa_c (qv 2) qa_nil)))))) qss_nil)
        (qss_cons (qs_if (qw_pt (qw_and (qt_cmpR op_eq (qe_callBF call_len_seq (by rfl) T.z_len bt_len (qa_c (qv 2) qa_nil)) qe_int (nomark _)) (qw_and1 (qt_cmpR op_eq (qv 0) qe_str (nomark _)))))
        (qss_one (qs_ret (qe_op op_catG (qe_op op_catG (qe_op op_catG (qe_op op_catG (qe_op op_catG (qe_tup (qa_c qe_str (qa_c qe_str qa_nil))) (qe_ix ix_list (qv 2) qe_int (fun _ _ => rfl))) (qe_ix ix_list (qv 2) qe_int (fun _ _ => rfl))) (qe_tup (qa_c qe_str (qa_c qe_str qa_nil)))) (qe_ix ix_list (qv 2) qe_int (fun _ _ => rfl))) (qe_ix ix_list (qv 2) qe_int (fun _ _ => rfl))))) qss_nil)
        (qss_one (qs_ret qe_non)))))), ?_⟩
    clear hu hr
    try dsimp only [L2.cxK, L2.cxK2]
    refine L2.let5 ?_
    intro U4 U3 U2 U1
    have hat := hd_at tm
    refine ⟨_, rfl, p, ys, tm, rfl, hp, hk, ok, (Nat.le_trans hlen (by decide)), fun l xs H1 _ hl1 hT s1 => gName_go ?_⟩
    replace hp := s1 _ _ hp
    replace k0 := fun e H' (s : Same H1 H') => k0 e H' (s1.trans s)
    replace k := fun x z H' e h (s : Same H1 H') => k x z H' e h (s1.trans s)
    clear s1
    cases tm with
    | lf w =>
      cases hT
      refine ⟨_, rfl, l, _, rfl, .inl (SqL.of hl1), rfl, _, rfl, ite2 (fun c => absurd c (int_ne (by simp))) (fun _ => ?_)⟩
      refine ⟨_, rfl, l, _, rfl, .inl (SqL.of hl1), rfl, _, rfl, ite2 (fun c => absurd c (int_ne (by simp))) (fun _ => ?_)⟩
      refine ⟨_, rfl, l, _, rfl, .inl (SqL.of hl1), rfl, _, rfl, ite2 (fun c => absurd c (int_ne (by simp))) (fun _ => iteF ?_)⟩
      exact k0 rfl H1 (Same.refl H1)
    | one y a =>
      obtain ⟨pa, rfl, ha⟩ := tr_one hT
      have hla : a.flat.length + 1 ≤ 200 := hlen
      refine ⟨_, rfl, l, _, rfl, .inl (SqL.of hl1), rfl, _, rfl, iteT' rfl ⟨_, rfl, _, rfl, p, _, 0, _, rfl, rfl, SqT.of hp, hat, _, rfl, l, _, 0, _, rfl, rfl, SqL.of hl1, rfl, how, y, pa, ys, a, rfl, ha, hk, ok.2, by lia, k0, k⟩⟩
    | two y a b =>
      refine hideG fun Gz hGz => ?_
      obtain ⟨pa, pb, rfl, ha, hb⟩ := tr_two hT
      refine hGz ?_
      clear hGz Gz
      have hla : a.flat.length + b.flat.length + 1 ≤ 200 := by have : (V.str y :: (a.flat ++ b.flat)).length ≤ 200 := hlen; rw [List.length_cons, List.length_append] at this; exact this
      refine ⟨_, rfl, l, _, rfl, .inl (SqL.of hl1), rfl, _, rfl, ite2 (fun c => absurd c (int_ne (by simp))) (fun _ => ?_)⟩
      refine ⟨_, rfl, l, _, rfl, .inl (SqL.of hl1), rfl, _, rfl, iteT' rfl ⟨_, rfl, _, rfl, p, _, 0, _, rfl, rfl, SqT.of hp, hat, _, rfl, how, y, l, pa, pb, ys, a, b, rfl, hl1, ha, hb, hk, ok.2.1, ok.2.2, by lia, k0, k⟩⟩
    | thr y a b c =>
      refine hideG fun Gz hGz => ?_
      obtain ⟨pa, pb, pc, rfl, ha, hb, hc⟩ := tr_three hT
      refine hGz ?_
      clear hGz Gz
      have hla : a.flat.length + b.flat.length + c.flat.length + 1 ≤ 200 := by have : (V.str y :: (a.flat ++ (b.flat ++ c.flat))).length ≤ 200 := hlen; rw [List.length_cons, List.length_append, List.length_append] at this; lia
      refine ⟨_, rfl, l, _, rfl, .inl (SqL.of hl1), rfl, _, rfl, ite2 (fun c => absurd c (int_ne (by simp))) (fun _ => ?_)⟩
      refine ⟨_, rfl, l, _, rfl, .inl (SqL.of hl1), rfl, _, rfl, ite2 (fun c => absurd c (int_ne (by simp))) (fun _ => ?_)⟩
      refine ⟨_, rfl, l, _, rfl, .inl (SqL.of hl1), rfl, _, rfl, iteT' rfl ⟨_, rfl, rfl, _, rfl, ?_⟩⟩
      by_cases c1 : how = "pickor"
      · rw [decide_eq_true (congrArg V.str c1)]
        have a0 := fun (n : Nat) (h : a.flat.length ≤ n) => gv_ix (K := K) (i := 2) (σ := [some (.str how), some (.ref p), some (.ref l)]) (n := n) rfl hl1 (j := 0) rfl ha h
        have b0 := fun (n : Nat) (h : b.flat.length ≤ n) => gv_ix (K := K) (i := 2) (σ := [some (.str how), some (.ref p), some (.ref l)]) (n := n) rfl hl1 (j := 1) rfl hb h
        have c0 := fun (n : Nat) (h : c.flat.length ≤ n) => gv_ix (K := K) (i := 2) (σ := [some (.str how), some (.ref p), some (.ref l)]) (n := n) rfl hl1 (j := 2) rfl hc h
        refine iteT ((gv_cat (gv_cat (gv_cat (gv_cat (gv_cat gv_l2 (a0 200 ?_)) (b0 200 ?_)) gv_l2) (a0 200 ?_)) (c0 200 ?_)).g H1 _ (Same.refl H1) fun z H' s h => k _ z H' (if_pos c1) ?_ s)
        all_goals first | lia | (rw [h]; simp [Tm.flat])
      · rw [decide_eq_false (fun z => c1 (by injection z))]
        exact iteF (k0 (if_neg c1) H1 (Same.refl H1))
inductive sp_stepped_once_i (vs : List V) (H : Hp) (Q : VK) : Prop
  | mk (p pq : Addr) (ys : List Str) (tm : Tm) (q : List Int) (r : Str) : (vs = [.ref p, .ref pq, .str r]) → (H p = some (.tup tm.flat)) → (H pq = some (.tup (q.map V.int))) → (NK ys) → (tm.ok ys) → (tm.flat.length ≤ 300) → ((q, r) ∈ stepsT tm) → (∀ tm' z H', Stp tm q r tm' → H' z = some (.tup tm'.flat) → Same H H' → Q (.ref z) H') → sp_stepped_once_i vs H Q
def sp_stepped_once (K : PySem.W.Frag) : Sp := fun vs H Q _ => sp_stepped_once_i vs H Q
theorem ok_stepped_once (T : Txt K w mg t) : FnOk P w K mg base CX0 5 t.a_stepped_once t.f_stepped_once ["words", "path", "rule"] (sp_stepped_once K) := by
  have G_filled : FnOk P w K mg base CX0 4 t.a_filled t.f_filled ["form", "bound"] (sp_filled K) := ok_filled T
  have G_parts_bound : FnOk P w K mg base CX0 4 t.a_parts_bound t.f_parts_bound ["form", "words"] (sp_parts_bound K) := ok_parts_bound T
  have G_part_end : FnOk P w K mg base CX0 3 t.a_part_end t.f_part_end ["words", "begin"] (sp_part_end K) := ok_part_end T
  have G_paths_of : FnOk P w K mg base CX0 3 t.a_paths_of t.f_paths_of ["words"] (sp_paths_of K) := ok_paths_of T
  refine T.d_stepped_once.F.ok sc_stepped_once (fun vs H Q E h => ?_) (fun cdv A outer s H vs Q E hr h => ?_)
  · obtain ⟨p, pq, ys, tm, q, r, rfl, hp, hpq, hk, ht, hlen, hin, k⟩ := h
    rfl
  · obtain ⟨p, pq, ys, tm, q, r, rfl, hp, hpq, hk, ht, hlen, hin, k⟩ := h
    have hu := hu_of hr
    refine ⟨_, @QSs.out _ _ _ (qss_cons (qs_set (i := 3) sc_stepped_once.nd rfl (Or.inl rfl) (qe_callF G_paths_of (hr.mono (by decide)) rfl T.d_paths_of.m T.d_paths_of.F.kp T.d_paths_of.b .nil pass0 (qa_c (qv 0) qa_nil)))
        (qss_cons (qs_if (qt_cmpR (op_notInB (units4_of hr)) (qv 1) (qv 3) (by with_unfolding_all rfl))
        (qss_one qs_never) qss_nil)
        (qss_cons (qs_set (i := 4) sc_stepped_once.nd rfl (Or.inl rfl) (qe_bmF PySem.F.plainAttrs_list PySem.F.slot_list_index PySem.F.type_list_index (mt_lindexB (units4_of hr)) (qv 3) (qa_c (qv 1) qa_nil)))
        (qss_cons (qs_set (i := 5) sc_stepped_once.nd rfl (Or.inl rfl) (qe_callF G_part_end (hr.mono (by decide)) rfl T.d_part_end.m T.d_part_end.F.kp T.d_part_end.b .nil pass0 (qa_c (qv 0) (qa_c (qv 4) qa_nil))))
        (qss_cons (qs_for PassesOwn.never rfl (qi_list (qe_comp (⟨by rfl, by decide +kernel, by decide +kernel, by rfl, by decide +kernel, by decide +kernel, by rfl, by decide +kernel⟩ : CompSc (defScope s_stepped_once) _ ["words", "path", "rule", "paths", "begin", "end", "turning", "bound"] "turning" ["rule"] [2]) (qi_tup (qe_glob (v := .ref t.g_TURNINGS) rfl T.g_TURNINGS.m rfl)) (fun _ _ _ _ => (qf_one (qt_cmpR op_eq (qe_ix (show IxR _ (rIxT K) from ix_tup) (qv 0) qe_int (fun _ _ => rfl)) (qv 1) (nomark _)))) (fun _ _ _ _ => (qv 0)))) (qg_name (i := 6) sc_stepped_once.nd rfl (Or.inl rfl))
        (qss_cons (qs_set (i := 7) sc_stepped_once.nd rfl (Or.inl rfl) (qe_callF G_parts_bound (hr.mono (by decide)) rfl T.d_parts_bound.m T.d_parts_bound.F.kp T.d_parts_bound.b .nil pass0 (qa_c (qe_ix ix_tup (qv 6) qe_int (fun _ _ => rfl)) (qa_c (qe_slice (SlR.or sl_tup sl_tupW) (qv 0) (qo_some (qv 4)) (qo_some (qv 5))) qa_nil))))
        (qss_one (qs_if (qt_cmpR op_notN (qv 7) qe_non (by with_unfolding_all rfl))
        (qss_one (qs_ret (qe_op op_catG (qe_op op_catG (qe_slice (SlR.or sl_tup sl_tupW) (qv 0) qo_none (qo_some (qv 4))) (qe_callF G_filled (hr.mono (by decide)) rfl T.d_filled.m T.d_filled.F.kp T.d_filled.b .nil pass0 (qa_c (qe_ix ix_tup (qv 6) qe_int (fun _ _ => rfl)) (qa_c (qv 7) qa_nil)))) (qe_slice (SlR.or sl_tup sl_tupW) (qv 0) (qo_some (qv 5)) qo_none)))) qss_nil))))
        (qss_one qs_never)))))), ?_⟩
    clear hu
    try dsimp only [L2.cxK, L2.cxK2]
    refine L2.let6 ?_
    intro U5 U4 U3 U2 U1
    refine ⟨_, rfl, p, ys, tm, rfl, hp, hk, ht, hlen, fun lp xp H1 hlp hxp P s1 => gName_go ?_⟩
    refine hideG fun Gz hGz => ?_
    obtain ⟨i, sm, hnd, m0, e0, hm0, hfit⟩ := stp_some hin
    refine hGz ?_
    clear hGz Gz
    have hxl : xp.length = (tm.nds []).length := by rw [P.length, List.length_map]
    have hil : i < (tm.nds []).length := (List.getElem?_eq_some_iff.mp hnd).1
    have hpq1 := s1 _ _ hpq
    have hqs : ∀ (j : Nat) (x : V), xp[j]? = some x → ∃ z, ((tm.nds []).map (·.1))[j]? = some z ∧ PthAt H1 x z := fun j x hx => paired_getL P hx
    have heq : ∀ (j : Nat) (x : V), xp[j]? = some x → EqB H1 3 x (.ref pq) (decide (((tm.nds []).map (·.1))[j]? = some q)) := fun j x hx => by
      obtain ⟨z, h1, h2⟩ := hqs j x hx
      have := eqB_pth (n := 2) h2 hpq1
      rw [h1, show decide (some z = some q) = decide (z = q) by rw [decide_eq_decide]; exact ⟨fun e => Option.some.inj e, fun e => by rw [e]⟩]
      exact this
    have hat := nds_at hnd
    refine ⟨_, rfl, _, rfl, lp, xp, _, rfl, SqL.of hxp, heq, _, rfl, ?_⟩
    rw [show (List.range xp.length).any (fun j => decide (((tm.nds []).map (·.1))[j]? = some q)) = true from List.any_eq_true.mpr ⟨i, List.mem_range.mpr (by lia), decide_eq_true hat⟩]
    refine iteF ?_
    refine ⟨_, rfl, .inl ⟨rfl, _, SqL.of hxp⟩, _, rfl, lp, xp, .ref pq, _, i, rfl, rfl, hxp, by rw [tm.nds_len] at hxl; lia, by lia, heq, decide_eq_true hat, fun j hj => decide_eq_false fun z => ?_, gName_go ?_⟩
    · have := nodup_at (tm.nds_nd []) z hat
      lia
    refine hideG fun Gz hGz => ?_
    obtain ⟨u, v, f, hul, C⟩ := tm.ctx [] i q sm hnd
    refine hGz ?_
    clear hGz Gz
    have hsm := (C.ok ys ht).1
    have hp1 := s1 _ _ hp
    have hp1' := hp1
    rw [C.here] at hp1'
    have hsml : sm.flat.length ≤ 300 := by
      have := congrArg List.length C.here
      rw [List.length_append, List.length_append] at this
      lia
    refine ⟨_, rfl, _, rfl, p, ys, u, v, sm, by rw [hul]; rfl, hp1', hk, hsm, gName_go ?_⟩
    obtain ⟨es, sq, hel, rows⟩ := T.g_TURNINGS.d.ex
    have e26 : turns.length = 26 := rfl
    refine ⟨t.g_TURNINGS, rfl, ⟨_, sq _⟩, comp_tup (K := K) (a := t.g_TURNINGS) (xs := es) (fun k zs H' => Paired (RlAt K) zs (rls r (turns.take k)) ∧ zs.length ≤ k ∧ k ≤ es.length ∧ H' = H1) ⟨.nil, Nat.le_refl _, Nat.zero_le _, rfl⟩ (fun k zs H' ⟨_, h, h', _⟩ => Nat.le_of_lt (small1000 (by lia))) (fun _ _ H' _ => sq H') ?_ ?_⟩
    · rintro k y zs H5 R hR hy hz_
      refine hideG fun Gz hGz => ?_
      obtain ⟨S5, hzl, hkl, rfl⟩ := hz_
      refine hGz ?_
      clear hGz Gz
      have hky := (List.getElem?_eq_some_iff.mp hy).1
      obtain ⟨e, he⟩ : ∃ e, turns[k]? = some e := ⟨_, List.getElem?_eq_getElem (by lia)⟩
      have RA := rows k y e hy he
      refine hideG fun Gz hGz => ?_
      obtain ⟨a1, f1, g1, rfl, q1, q2, q3⟩ := RA.ex
      refine hGz ?_
      clear hGz Gz
      refine ⟨_, rfl, a1, _, 0, _, rfl, rfl, q1 _, rfl, _, rfl, rfl, _, rfl, ?_⟩
      by_cases hr : e.1 = r
      · rw [decide_eq_true (congrArg V.str hr)]
        refine iteT ⟨_, rfl, hR _ _ ⟨?_, by rw [List.length_append]; show _ + 1 ≤ _; lia, hky, rfl⟩⟩
        rw [take_snoc' he, rls_snoc, if_pos hr]
        exact S5.snoc RA
      · rw [decide_eq_false (fun z => hr (by injection z))]
        refine iteF (hR _ _ ⟨?_, by lia, hky, rfl⟩)
        rw [take_snoc' he, rls_snoc, if_neg hr, List.append_nil]
        exact S5
    · rintro zs H5 hz_ pc hpc
      refine hideG fun Gz hGz => ?_
      obtain ⟨S5, hzl, _, rfl⟩ := hz_
      refine hGz ?_
      clear hGz Gz
      rw [hel, List.take_length] at S5
      have w1 := same_upd (o := .lst zs) hpc
      have g1 := upd_same (H := H5) (a := pc) (o := .lst zs)
      have hp2 := w1 _ _ hp1
      have s2 := s1.trans w1
      generalize upd H5 pc (.lst zs) = H2 at *
      refine ⟨pc, rfl, ⟨_, SqL.of g1⟩, for_list (K := K) (a := pc) (xs := zs) (fun m σ H' => ∃ (v6 v7 : Option V), σ = [some (.ref p), some (.ref pq), some (.str r), some (.ref lp), some (.int (i : Int)), some (.int ((u.length + sm.flat.length : Nat) : Int)), v6, v7] ∧ (∀ m' e', m' < m → (rls r turns)[m']? = some e' → ¬ Fit e' sm) ∧ Same H2 H') ⟨none, none, rfl, (fun m' e' h => absurd h (Nat.not_lt_zero _)), Same.refl _⟩ (fun m σ H' _ ⟨_, _, _, _, s⟩ => SqL.of (s _ _ g1)) ?_ ?_⟩
      · rintro m y σ H3 hy hz_
        refine hideG fun Gz hGz => ?_
        obtain ⟨v6, v7, rfl, hno, s3⟩ := hz_
        refine hGz ?_
        clear hGz Gz
        refine gName_go ?_
        obtain ⟨e, he, RA⟩ := paired_getL S5 hy
        refine hideG fun Gz hGz => ?_
        obtain ⟨a1, f1, g1, rfl, q1, q2, q3⟩ := RA.ex
        refine hGz ?_
        clear hGz Gz
        have hem := rls_mem he
        obtain ⟨o1, o2, o3⟩ := turns_ok hem
        have fl := turns_fl e hem
        have hp3 := s3 _ _ hp2
        refine ⟨_, rfl, a1, _, 1, _, rfl, rfl, q1 _, rfl, _, rfl, _, rfl, _, rfl, _, rfl, _, rfl, sl_of hp3 fun pa H4 hpa s4 => ?_⟩
        rw [C.here, cut_part (by rw [hul]) rfl] at hpa
        refine ⟨f1, pa, ys, e.2.1, sm, rfl, q2, o1, fl.1, hpa, hk, hsm, hsml, fun H5 hn5 s5 => gName_go ?_, fun d τ H5 hd B hσ hn hτ s5 => gName_go ?_⟩
        · refine ⟨_, rfl, rfl, _, rfl, iteF ⟨_, _, rfl, fun m' e' hm' he' => ?_, s3.trans (s4.trans s5)⟩⟩
          by_cases z : m' = m
          · subst z
            rw [he] at he'
            cases he'
            exact hn5
          · exact hno m' e' (by lia) he'
        · have s35 := s3.trans (s4.trans s5)
          have hp5 := s35 _ _ hp2
          refine ⟨_, rfl, rfl, _, rfl, iteT ⟨_, rfl, _, rfl, _, rfl, sl_of hp5 fun pb H6 hpb s6 => ?_⟩⟩
          rw [C.here, cut_head (by rw [hul])] at hpb
          have hbl : ∀ y ∈ e.2.2.nms, (bnd τ y).flat.length ≤ 300 := fun y hy => by
            have := (sub_facts (ys := ys) (σ := bnd τ) e.2.1 y (o3 y hy)).1
            rw [hσ] at this
            lia
          refine ⟨_, rfl, a1, _, 2, _, rfl, rfl, q1 _, rfl, _, rfl, g1, d, τ, e.2.2, rfl, q3, o2, fl.2, B.same s6, (fun y hy => hn y (o3 y hy)), (fun p hp => (hτ p hp).2), hbl, fun pf H7 hpf s7 => ?_⟩
          have hStp : Stp tm q r (f (e.2.2.sub (bnd τ))) := ⟨i, sm, m, e, bnd τ, u, v, f, hnd, hul, C, he, hno, hσ, rfl⟩
          have hSl := hStp.len
          have hput := C.put (e.2.2.sub (bnd τ))
          have hpl := congrArg List.length hput
          rw [List.length_append, List.length_append] at hpl
          have sz : ∀ n, n ≤ 1000 → n ≤ sizeLine := fun n hn => Nat.le_of_lt (small1000 hn)
          refine ⟨pb, pf, _, _, rfl, rfl, s7 _ _ hpb, hpf, sz _ (by lia), fun pc2 H8 hpc2 s8 => ?_⟩
          have hp8 := s8 _ _ (s7 _ _ (s6 _ _ hp5))
          refine ⟨_, rfl, _, rfl, _, rfl, sl_of hp8 fun pd H9 hpd s9 => ?_⟩
          have hct : cutV tm.flat (some ((u.length + sm.flat.length : Nat) : Int)) none = v := by
            rw [C.here, ← List.append_assoc]
            exact cut_tail (by rw [List.length_append])
          rw [hct] at hpd
          refine ⟨pc2, pd, _, _, rfl, rfl, s9 _ _ hpc2, hpd, sz _ (by rw [List.length_append]; lia), fun z Hz hz sz' => ?_⟩
          refine k _ z Hz hStp ?_ (s2.trans (s35.trans (s6.trans (s7.trans (s8.trans (s9.trans sz'))))))
          rw [hz, hput, List.append_assoc]
      · rintro σ H3 hz_
        refine hideG fun Gz hGz => ?_
        obtain ⟨v6, v7, rfl, hno, s3⟩ := hz_
        refine hGz ?_
        clear hGz Gz
        refine absurd hfit (hno m0 e0 ?_ hm0)
        rw [S5.length]
        exact (List.getElem?_eq_some_iff.mp hm0).1
inductive sp_steps_i (vs : List V) (H : Hp) (Q : VK) : Prop
  | mk (p : Addr) (ys : List Str) (tm : Tm) : (vs = [.ref p]) → (H p = some (.tup tm.flat)) → (NK ys) → (tm.ok ys) → (tm.flat.length ≤ 300) → (∀ l xs H', H l = none → H' l = some (.lst xs) → StpsAt H' xs (stepsT tm) → Same H H' → Q (.ref l) H') → sp_steps_i vs H Q
def sp_steps (K : PySem.W.Frag) : Sp := fun vs H Q _ => sp_steps_i vs H Q
theorem ok_steps (T : Txt K w mg t) : FnOk P w K mg base CX0 5 t.a_steps t.f_steps ["words"] (sp_steps K) := by
  have G_paths_of : FnOk P w K mg base CX0 3 t.a_paths_of t.f_paths_of ["words"] (sp_paths_of K) := ok_paths_of T
  have G_parts_bound : FnOk P w K mg base CX0 4 t.a_parts_bound t.f_parts_bound ["form", "words"] (sp_parts_bound K) := ok_parts_bound T
  have G_part_end : FnOk P w K mg base CX0 3 t.a_part_end t.f_part_end ["words", "begin"] (sp_part_end K) := ok_part_end T
  refine T.d_steps.F.ok sc_steps (fun vs H Q E h => ?_) (fun cdv A outer s H vs Q E hr h => ?_)
  · obtain ⟨p, ys, tm, rfl, hp, hk, ht, hlen, k⟩ := h
    rfl
  · obtain ⟨p, ys, tm, rfl, hp, hk, ht, hlen, k⟩ := h
    have hu := hu_of hr
    refine ⟨_, @QSs.out _ _ _ (qss_cons (qs_set (i := 1) sc_steps.nd rfl (Or.inl rfl) (qe_lst qa_nil))
        (qss_cons (qs_for PassesOwn.never rfl (qi_enumL rfl T.z_enumerate (qe_callF G_paths_of (hr.mono (by decide)) rfl T.d_paths_of.m T.d_paths_of.F.kp T.d_paths_of.b .nil pass0 (qa_c (qv 0) qa_nil))) (qg_pair rfl (qg_name (i := 2) sc_steps.nd rfl (Or.inl rfl)) (qg_name (i := 3) sc_steps.nd rfl (Or.inr rfl)))
        (qss_cons (qs_set (i := 4) sc_steps.nd rfl (Or.inr rfl) (qe_slice (SlR.or sl_tup sl_tupW) (qv 0) (qo_some (qv 2)) (qo_some (qe_callF G_part_end (hr.mono (by decide)) rfl T.d_part_end.m T.d_part_end.F.kp T.d_part_end.b .nil pass0 (qa_c (qv 0) (qa_c (qv 2) qa_nil))))))
        (qss_one (qs_expr (qe_bmF PySem.F.plainAttrs_list PySem.F.slot_list_extend PySem.F.type_list_extend mt_extend (qv 1) (qa_c (qe_comp (⟨by rfl, by decide +kernel, by decide +kernel, by rfl, by decide +kernel, by decide +kernel, by rfl, by decide +kernel⟩ : CompSc (defScope s_steps) _ ["words", "told", "begin", "path", "part"] "turning" ["path", "part"] [3, 4]) (qi_tup (qe_glob (v := .ref t.g_TURNINGS) rfl T.g_TURNINGS.m rfl)) (fun _ _ _ _ => (qf_one (qt_cmpR op_notN (qe_callF G_parts_bound (hr.mono (by decide)) rfl T.d_parts_bound.m T.d_parts_bound.F.kp T.d_parts_bound.b .nil pass0 (qa_c (qe_ix (show IxR _ (rIxT K) from ix_tup) (qv 0) qe_int (fun _ _ => rfl)) (qa_c (qv 2) qa_nil))) qe_non (by with_unfolding_all rfl)))) (fun _ _ _ _ => (qe_tup (qa_c (qv 1) (qa_c (qe_ix (show IxR _ (rIxT K) from ix_tup) (qv 0) qe_int (fun _ _ => rfl)) qa_nil))))) qa_nil))))))
        (qss_one (qs_ret (qv 1))))), ?_⟩
    clear hu hr
    try dsimp only [L2.cxK, L2.cxK2]
    refine L2.let3 ?_
    intro U2 U1
    refine ⟨by show 0 ≤ sizeLine; decide, fun l hl => ?_⟩
    refine gName_go ?_
    have u0 := same_upd (o := .lst []) hl
    have g0 := upd_same (H := H) (a := l) (o := .lst [])
    generalize upd H l (.lst []) = H0 at *
    refine ⟨_, rfl, p, ys, tm, rfl, u0 _ _ hp, hk, ht, hlen, fun lp xp H1 hlp hxp P s1 => ?_⟩
    have s01 := u0.trans s1
    have hxl : xp.length = tm.flat.length := by rw [P.length, List.length_map, tm.nds_len]
    have hlpn : l ≠ lp := fun z => by rw [z, hlp] at g0; cases g0
    obtain ⟨es, sq, hel, rows⟩ := T.g_TURNINGS.d.ex
    refine ⟨lp, _, rfl, SqL.of hxp, for_enumL (K := K) (a := lp) (xs := xp) (fun i σ H' => ∃ (xs : List V) (v2 v3 v4 : Option V), σ = [some (.ref p), some (.ref l), v2, v3, v4] ∧ H' l = some (.lst xs) ∧ H' lp = some (.lst xp) ∧ StpsAt H' xs (((tm.nds []).take i).flatMap fun x => fitsT x turns) ∧ PthsAt H' xp ((tm.nds []).map (·.1)) ∧ xs.length ≤ 26 * i ∧ i ≤ xp.length ∧ Same H H') ⟨[], none, none, none, rfl, s1 _ _ g0, hxp, .nil, P, Nat.zero_le _, Nat.zero_le _, s01⟩ (fun i σ H' _ ⟨_, _, _, _, _, _, h, _⟩ => SqL.of h) ?_ ?_⟩
    · rintro i x σ H2 pt hx hpt hz_
      refine hideG fun Gz hGz => ?_
      obtain ⟨xs, v2, v3, v4, rfl, h1, h2, S, P2, hxsl, hil, s2⟩ := hz_
      refine hGz ?_
      clear hGz Gz
      have hi' := (List.getElem?_eq_some_iff.mp hx).1
      have w0 := same_upd (o := .tup [.int (i : Int), x]) hpt
      have h1' := w0 _ _ h1
      have h2' := w0 _ _ h2
      have S' := S.same w0
      have P' := P2.same w0
      have s3 := s2.trans w0
      generalize upd H2 pt (.tup [.int (i : Int), x]) = H3 at *
      obtain ⟨q, hq, hxq⟩ := paired_getL P' hx
      obtain ⟨⟨q', sm⟩, hnd, rfl⟩ : ∃ z, (tm.nds [])[i]? = some z ∧ z.1 = q := by
        rw [List.getElem?_map] at hq
        cases e : (tm.nds [])[i]? with
        | none => rw [e] at hq; cases hq
        | some z => rw [e] at hq; exact ⟨z, rfl, Option.some.inj hq⟩
      refine hideG fun Gz hGz => ?_
      obtain ⟨u, v, f, hul, C⟩ := tm.ctx [] i q' sm hnd
      refine hGz ?_
      clear hGz Gz
      have hsm := (C.ok ys ht).1
      have hp3 := s3 _ _ hp
      have hp3' := hp3
      rw [C.here] at hp3'
      have hsml : sm.flat.length ≤ 300 := by
        have := congrArg List.length C.here
        rw [List.length_append, List.length_append] at this
        lia
      refine ⟨_, rfl, _, rfl, _, rfl, _, rfl, _, rfl, p, ys, u, v, sm, by rw [hul]; rfl, hp3', hk, hsm, _, rfl, sl_of hp3 fun pa H4 hpa s4 => gName_go ?_⟩
      rw [C.here, cut_part (by rw [hul]) rfl] at hpa
      refine ⟨_, rfl, .inl ⟨rfl, _, SqL.of (s4 _ _ h1')⟩, t.g_TURNINGS, rfl, ⟨_, sq _⟩, comp_tup (K := K) (a := t.g_TURNINGS) (xs := es) (fun k zs H' => StpsAt H' zs (fitsT (q', sm) (turns.take k)) ∧ zs.length ≤ k ∧ k ≤ es.length ∧ Same H4 H') ⟨.nil, Nat.le_refl _, Nat.zero_le _, Same.refl _⟩ (fun k zs H' ⟨_, h, h', _⟩ => Nat.le_of_lt (small1000 (by have : turns.length = 26 := rfl; lia))) (fun _ _ H' _ => sq H') ?_ ?_⟩
      · rintro k y zs H5 R hR hy ⟨S5, hzl, hkl, s5⟩
        have hky := (List.getElem?_eq_some_iff.mp hy).1
        obtain ⟨e, he⟩ : ∃ e, turns[k]? = some e := ⟨_, List.getElem?_eq_getElem (by lia)⟩
        have hem := List.mem_of_getElem? he
        refine hideG fun Gz hGz => ?_
        obtain ⟨a1, f1, g1, rfl, q1, q2, q3⟩ := (rows k y e hy he).ex
        refine hGz ?_
        clear hGz Gz
        obtain ⟨o1, o2, o3⟩ := turns_ok hem
        have fl := turns_fl e hem
        obtain ⟨n1, n2⟩ := fitsT_snoc (q', sm) (turns.take k) e
        refine ⟨_, rfl, a1, _, 1, _, rfl, rfl, q1 _, rfl, _, rfl, f1, pa, ys, e.2.1, sm, rfl, q2, o1, fl.1, s5 _ _ hpa, hk, hsm, hsml, fun H6 hno s6 => ?_, fun d τ H6 hd B hσ _ _ s6 => ?_⟩
        · refine ⟨rfl, _, rfl, iteF (hR _ _ ⟨?_, by lia, hky, s5.trans s6⟩)⟩
          rw [take_snoc' he, n2 hno]
          exact S5.same s6
        · obtain ⟨ax, rfl, hax⟩ := hxq
          refine ⟨rfl, _, rfl, iteT ⟨_, rfl, _, rfl, a1, _, 0, _, rfl, rfl, q1 _, rfl, by show 2 ≤ sizeLine; decide, fun z hz => hR _ _ ⟨?_, ?_, hky, ?_⟩⟩⟩
          · rw [take_snoc' he, n1 ⟨_, hσ⟩]
            have w1 := same_upd (o := .tup [V.ref ax, V.str e.1]) hz
            exact ((S5.same s6).same w1).snoc ⟨z, ax, rfl, upd_same, w1 _ _ (s6 _ _ (s5 _ _ (s4 _ _ hax)))⟩
          · rw [List.length_append]
            show _ + 1 ≤ _
            lia
          · exact s5.trans (s6.trans (same_upd hz))
      · rintro zs H5 ⟨S5, hzl, _, s5⟩ pc hpc
        have w1 := same_upd (o := .lst zs) hpc
        have e26 : turns.length = 26 := rfl
        have hl5 := w1 _ _ (s5 _ _ (s4 _ _ h1'))
        have s35 : Same H3 (upd H5 pc (.lst zs)) := s4.trans (s5.trans w1)
        have hpcl : lp ≠ l := hlpn.symm
        rw [hel, List.take_length] at S5
        refine ⟨l, pc, _, _, rfl, rfl, hl5, upd_same, Nat.le_of_lt (Nat.lt_of_le_of_lt (show _ ≤ 10000 by lia) (by decide)), xs ++ zs, _, _, _, rfl, upd_same, ?_, ?_, ?_, ?_, hi', same_put (s3.trans s35) hl⟩
        · rw [upd_ne hpcl]
          exact s35 _ _ h2'
        · rw [take_snoc' hnd, List.flatMap_append]
          refine paired_app ((S'.same s35).put hl5) ?_
          simp only [List.flatMap_cons, List.flatMap_nil, List.append_nil]
          exact (S5.same w1).put hl5
        · exact (P'.same s35).put hl5
        · rw [List.length_append]
          lia
    · rintro σ H2 hz_
      refine hideG fun Gz hGz => ?_
      obtain ⟨xs, v2, v3, v4, rfl, h1, h2, S, P2, hxsl, hil, s2⟩ := hz_
      refine hGz ?_
      clear hGz Gz
      rw [hxl, ← tm.nds_len [], List.take_length] at S
      exact ⟨_, rfl, k l xs H2 hl h1 S s2⟩
inductive sp_led_i (vs : List V) (H : Hp) (Q : VK) : Prop
  | mk (p pc : Addr) (ys : List Str) (tm tn : Tm) (xs : List V) (c : List (List Int × Str)) : (vs = [.ref p, .ref pc]) → (H p = some (.tup tm.flat)) → (H pc = some (.tup xs)) → (StpsAt H xs c) → (NK ys) → (tm.ok ys) → (Chn tm c tn) → (∀ z H', H' z = some (.tup tn.flat) → Same H H' → Q (.ref z) H') → sp_led_i vs H Q
def sp_led (K : PySem.W.Frag) : Sp := fun vs H Q _ => sp_led_i vs H Q
theorem ok_led (T : Txt K w mg t) : FnOk P w K mg base CX0 6 t.a_led t.f_led ["words", "chain"] (sp_led K) := by
  have G_stepped_once : FnOk P w K mg base CX0 5 t.a_stepped_once t.f_stepped_once ["words", "path", "rule"] (sp_stepped_once K) := ok_stepped_once T
  refine T.d_led.F.ok sc_led (fun vs H Q E h => ?_) (fun cdv A outer s H vs Q E hr h => ?_)
  · obtain ⟨p, pc, ys, tm, tn, xs, c, rfl, hp, hpc, S, hk, ht, hC, k⟩ := h
    rfl
  · obtain ⟨p, pc, ys, tm, tn, xs, c, rfl, hp, hpc, S, hk, ht, hC, k⟩ := h
    have hu := hu_of hr
    refine ⟨_, @QSs.out _ _ _ (qss_cons (qs_for PassesOwn.never rfl (qi_tup (qv 1)) (qg_name (i := 2) sc_led.nd rfl (Or.inl rfl))
        (qss_one (qs_set (i := 0) sc_led.nd rfl (Or.inl rfl) (qe_callF G_stepped_once (hr.mono (by decide)) rfl T.d_stepped_once.m T.d_stepped_once.F.kp T.d_stepped_once.b .nil pass0 (qa_c (qv 0) (qa_c (qe_ix ix_tup (qv 2) qe_int (fun _ _ => rfl)) (qa_c (qe_ix ix_tup (qv 2) qe_int (fun _ _ => rfl)) qa_nil)))))))
        (qss_one (qs_ret (qv 0)))), ?_⟩
    clear hu hr
    try dsimp only [L2.cxK, L2.cxK2]
    refine L2.let2 ?_
    intro U1
    refine ⟨_, rfl, pc, rfl, ⟨_, SqT.of hpc⟩, for_tup (K := K) (a := pc) (xs := xs) (fun i σ H2 => ∃ (z : Addr) (ti : Tm) (v2 : Option V), σ = [some (.ref z), some (.ref pc), v2] ∧ H2 z = some (.tup ti.flat) ∧ ti.ok ys ∧ Chn ti (c.drop i) tn ∧ Same H H2) ⟨p, tm, none, rfl, hp, ht, hC, Same.refl _⟩ (fun i σ H2 _ ⟨_, _, _, _, _, _, _, s⟩ => SqT.of (s _ _ hpc)) ?_ ?_⟩
    · rintro i x σ H2 hx hz_
      refine hideG fun Gz hGz => ?_
      obtain ⟨z, ti, v2, rfl, hz, hti, hCi, s2⟩ := hz_
      refine hGz ?_
      clear hGz Gz
      refine gName_go ?_
      refine hideG fun Gz hGz => ?_
      obtain ⟨⟨q, r⟩, hy, a, b, rfl, ha, hb⟩ := paired_getL S hx
      refine hGz ?_
      clear hGz Gz
      have hcd : c.drop i = (q, r) :: c.drop (i + 1) := by
        obtain ⟨h1, h2⟩ := List.getElem?_eq_some_iff.mp hy
        rw [List.drop_eq_getElem_cons h1, h2]
      rw [hcd] at hCi
      cases hCi with
      | @cons _ t1 _ _ _ hin hlen hst hrest =>
        have hb2 := s2 _ _ hb
        have ha2 := s2 _ _ ha
        refine ⟨_, rfl, _, rfl, a, _, 0, _, rfl, rfl, SqT.of ha2, rfl, _, rfl, a, _, 1, _, rfl, rfl, SqT.of ha2, rfl, z, b, ys, ti, q, r, rfl, hz, hb2, hk, hti, hlen, hin, fun t' z' H3 hst' hz' s3 => gName_go ?_⟩
        exact ⟨z', t1, _, rfl, by rw [hz', hst'.det hst], hst.ok hti, hrest, s2.trans s3⟩
    · rintro σ H2 hz_
      refine hideG fun Gz hGz => ?_
      obtain ⟨z, ti, v2, rfl, hz, hti, hCi, s2⟩ := hz_
      refine hGz ?_
      clear hGz Gz
      rw [S.length, List.drop_length] at hCi
      cases hCi
      exact ⟨_, rfl, k z H2 hz s2⟩
inductive sp_law_sum_i (K : PySem.W.Frag) (d : Nat) (vs : List V) (H : Hp) (Q : VK) : Prop
  | mk (a : Addr) (ns : List Int) (e m : Nat) (fuel : Int) : (vs = [.ref a, .int (e : Int), .int (m : Int), .int fuel]) → (SqL K H a (ns.map V.int)) → (ns.length ≤ 63) → (1 ≤ m) → (m ≤ 3) → (-1 ≤ fuel) → (fuel + 2 ≤ (d : Int)) → (d ≤ 8) → ((e + 2) * 2 ^ d ≤ 512) → (∀ (x : Tm) z H', x.ok (namesN ns m) → x.flat.length ≤ 4 ^ fuel.toNat → H' z = some (.tup x.flat) → Same H H' → Q (.ref z) H') → sp_law_sum_i K d vs H Q
def sp_law_sum (K : PySem.W.Frag) (d : Nat) : Sp := fun vs H Q _ => sp_law_sum_i K d vs H Q
inductive sp_law_two_i (K : PySem.W.Frag) (d : Nat) (vs : List V) (H : Hp) (Q : VK) : Prop
  | mk (a : Addr) (ns : List Int) (e m : Nat) (fuel : Int) : (vs = [.ref a, .int (e : Int), .int (m : Int), .int fuel]) → (SqL K H a (ns.map V.int)) → (ns.length ≤ 63) → (1 ≤ m) → (m ≤ 3) → (0 ≤ fuel) → (fuel + 1 ≤ (d : Int)) → (d ≤ 8) → ((2 * e + 4) * 2 ^ d ≤ 512) → (∀ (x y : Tm) z H', x.ok (namesN ns m) → y.ok (namesN ns m) → x.flat.length ≤ 4 ^ (fuel - 1).toNat → y.flat.length ≤ 4 ^ (fuel - 1).toNat → H' z = some (.tup (x.flat ++ y.flat)) → Same H H' → Q (.ref z) H') → sp_law_two_i K d vs H Q
def sp_law_two (K : PySem.W.Frag) (d : Nat) : Sp := fun vs H Q _ => sp_law_two_i K d vs H Q
theorem ok_law_two_of (T : Txt K w mg t) {d : Nat} (G_law_sum : FnOk P w K mg base CX0 (3 + 2 * d + 1) t.a_law_sum t.f_law_sum ["script", "at", "many", "fuel"] (sp_law_sum K d)) : FnOk P w K mg base CX0 (3 + 2 * d + 2) t.a_law_two t.f_law_two ["script", "at", "many", "fuel"] (sp_law_two K d) := by
  have G_law_draw : FnOk P w K mg base CX0 1 t.a_law_draw t.f_law_draw ["script", "k"] (sp_law_draw K) := ok_law_draw T
  refine T.d_law_two.F.ok sc_law_two (fun vs H Q E h => ?_) (fun cdv A outer s H vs Q E hr h => ?_)
  · obtain ⟨a, ns, e, m, fuel, rfl, ha, hl, hm, hm3, hf0, hf, hd, he, k⟩ := h
    rfl
  · obtain ⟨a, ns, e, m, fuel, rfl, ha, hl, hm, hm3, hf0, hf, hd, he, k⟩ := h
    have hu := hu_of hr
    refine ⟨_, @QSs.out _ _ _ (qss_cons (qs_set (i := 4) sc_law_two.nd rfl (Or.inl rfl) (qe_callF G_law_draw (hr.mono (by lia)) rfl T.d_law_draw.m T.d_law_draw.F.kp T.d_law_draw.b .nil pass0 (qa_c (qv 0) (qa_c (qe_op op_add qe_int (qv 1)) qa_nil))))
        (qss_cons (qs_set (i := 5) sc_law_two.nd rfl (Or.inl rfl) (qe_callF G_law_sum (hr.mono (by lia)) rfl T.d_law_sum.m T.d_law_sum.F.kp T.d_law_sum.b .nil pass0 (qa_c (qv 0) (qa_c (qe_op op_add (qe_op op_mulB qe_int (qv 1)) qe_int) (qa_c (qv 2) (qa_c (qe_op op_sub (qv 3) qe_int) qa_nil))))))
        (qss_cons (qs_if (qt_cmpR op_eq (qe_op op_mod (qv 4) qe_int) qe_int (nomark _))
        (qss_one (qs_ret (qe_op op_catG (qv 5) (qv 5)))) qss_nil)
        (qss_cons (qs_if (qt_cmpR op_eq (qe_op op_mod (qv 4) qe_int) qe_int (nomark _))
        (qss_one (qs_ret (qe_op op_catG (qv 5) (qe_tup (qa_c qe_int qa_nil))))) qss_nil)
        (qss_one (qs_ret (qe_op op_catG (qv 5) (qe_callF G_law_sum (hr.mono (by lia)) rfl T.d_law_sum.m T.d_law_sum.F.kp T.d_law_sum.b .nil pass0 (qa_c (qv 0) (qa_c (qe_op op_add (qe_op op_mulB qe_int (qv 1)) qe_int) (qa_c (qv 2) (qa_c (qe_op op_sub (qv 3) qe_int) qa_nil)))))))))))), ?_⟩
    clear hu hr
    try dsimp only [L2.cxK, L2.cxK2]
    refine L2.let5 ?_
    intro U4 U3 U2 U1
    have h1d : 1 ≤ 2 ^ d := Nat.one_le_two_pow
    have he5 : 2 * e + 4 ≤ 512 := Nat.le_trans (Nat.le_mul_of_pos_right _ h1d) he
    have p4 := pw4 (fuel - 1).toNat (by lia)
    have p1 : 1 ≤ 4 ^ (fuel - 1).toNat := Nat.one_le_pow _ _ (by decide)
    refine ⟨_, rfl, _, rfl, _, _, rfl, rfl, a, ns, 500 + e, rfl, ha, hl, by lia, fun H1 s1 => gName_go ?_⟩
    have ha1 := sqL_same ha s1
    refine ⟨_, rfl, _, rfl, _, _, rfl, rfl, .inr (.inl ⟨by lia, by lia⟩), _, _, rfl, rfl, _, rfl, _, rfl, _, _, rfl, rfl, a, ns, 2 * e + 1, m, fuel - 1, rfl, ha1, hl, hm, hm3, by lia, by lia, hd, Nat.le_trans (Nat.mul_le_mul_right _ (by lia)) he, fun x z1 H2 okx hx hz1 s2 => gName_go ?_⟩
    have s12 := s1.trans s2
    have hlen2 : ∀ n1 n2 : Nat, n1 ≤ 4 ^ (fuel - 1).toNat → n2 ≤ 4 ^ (fuel - 1).toNat → n1 + n2 ≤ sizeLine := fun n1 n2 h1 h2 => big4 (by lia)
    refine ⟨_, rfl, _, _, rfl, rfl, (by show (0 : Int) < 4; decide), rfl, _, rfl, ite2 (fun _ => ?_) (fun _ => ?_)⟩
    · exact ⟨_, rfl, _, rfl, z1, z1, _, _, rfl, rfl, hz1, hz1, hlen2 _ _ hx hx, fun p H3 hp s3 => k x x p H3 okx okx hx hx hp (s12.trans s3)⟩
    refine ⟨_, rfl, _, _, rfl, rfl, (by show (0 : Int) < 4; decide), rfl, _, rfl, ite2 (fun _ => ?_) (fun _ => ?_)⟩
    · refine ⟨_, rfl, by show 1 ≤ sizeLine; decide, fun o ho => ?_⟩
      have w := same_upd (o := .tup [V.int 0]) ho
      exact ⟨z1, o, _, _, rfl, rfl, w _ _ hz1, upd_same, hlen2 _ 1 hx p1, fun p H3 hp s3 => k x (.lf (.int 0)) p H3 okx (.inr ⟨0, rfl, by decide, by decide⟩) hx p1 hp (s12.trans (w.trans s3))⟩
    · have ha2 := sqL_same ha1 s2
      refine ⟨_, rfl, _, rfl, _, rfl, _, _, rfl, rfl, .inr (.inl ⟨by lia, by lia⟩), _, _, rfl, rfl, _, rfl, _, rfl, _, _, rfl, rfl, a, ns, 2 * e + 2, m, fuel - 1, rfl, ha2, hl, hm, hm3, by lia, by lia, hd, he, fun y z2 H3 oky hy hz2 s3 => ?_⟩
      exact ⟨z1, z2, _, _, rfl, rfl, s3 _ _ hz1, hz2, hlen2 _ _ hx hy, fun p H4 hp s4 => k x y p H4 okx oky hx hy hp (s12.trans (s3.trans s4))⟩
theorem ok_law_sum (T : Txt K w mg t) (d : Nat) : FnOk P w K mg base CX0 (3 + 2 * d + 1) t.a_law_sum t.f_law_sum ["script", "at", "many", "fuel"] (sp_law_sum K d) := by
  induction d with
  | zero => exact T.d_law_sum.F.ok sc_law_sum (fun vs H Q E h => by obtain ⟨a, ns, e, m, fuel, rfl, ha, hl, hm, hm3, hf0, hf, hd, he, k⟩ := h; exfalso; lia) (fun cdv A outer s H vs Q E hr h => by obtain ⟨a, ns, e, m, fuel, rfl, ha, hl, hm, hm3, hf0, hf, hd, he, k⟩ := h; exfalso; lia)
  | succ d ih =>
  have G_law_sum : FnOk P w K mg base CX0 (3 + 2 * d + 1) t.a_law_sum t.f_law_sum ["script", "at", "many", "fuel"] (sp_law_sum K d) := ih
  have G_law_two := ok_law_two_of T G_law_sum
  have G_law_arity : FnOk P w K mg base CX0 1 t.a_law_arity t.f_law_arity ["word"] (sp_law_arity K) := ok_law_arity T
  have G_law_leaf : FnOk P w K mg base CX0 3 t.a_law_leaf t.f_law_leaf ["script", "draw", "many"] (sp_law_leaf K) := ok_law_leaf T
  have G_law_draw : FnOk P w K mg base CX0 1 t.a_law_draw t.f_law_draw ["script", "k"] (sp_law_draw K) := ok_law_draw T
  refine T.d_law_sum.F.ok sc_law_sum (fun vs H Q E h => ?_) (fun cdv A outer s H vs Q E hr h => ?_)
  · obtain ⟨a, ns, e, m, fuel, rfl, ha, hl, hm, hm3, hf0, hf, hd, he, k⟩ := h
    rfl
  · obtain ⟨a, ns, e, m, fuel, rfl, ha, hl, hm, hm3, hf0, hf, hd, he, k⟩ := h
    have hu := hu_of hr
    refine ⟨_, @QSs.out _ _ _ (qss_cons (qs_set (i := 4) sc_law_sum.nd rfl (Or.inl rfl) (qe_callF G_law_draw (hr.mono (by lia)) rfl T.d_law_draw.m T.d_law_draw.F.kp T.d_law_draw.b .nil pass0 (qa_c (qv 0) (qa_c (qe_op op_add qe_int (qv 1)) qa_nil))))
        (qss_cons (qs_set (i := 5) sc_law_sum.nd rfl (Or.inl rfl) (qe_tup (qa_c qe_str (qa_c qe_str (qa_c qe_str (qa_c qe_str (qa_c qe_str (qa_c qe_str (qa_c qe_str (qa_c qe_str (qa_c qe_str (qa_c qe_str (qa_c qe_str (qa_c qe_str qa_nil))))))))))))))
        (qss_cons (qs_set (i := 6) sc_law_sum.nd rfl (Or.inl rfl) (qe_ix ix_tup (qv 5) (qe_op op_mod (qe_op op_fdivB (qv 4) qe_int) qe_int) (fun _ _ => rfl)))
        (qss_cons (qs_if (qw_pt (qw_or (qt_cmpR op_lt (qv 3) qe_int (nomark _)) (qw_or1 (qt_cmpR op_eq (qe_op op_mod (qv 4) qe_int) qe_int (nomark _)))))
        (qss_one (qs_ret (qe_callF G_law_leaf (hr.mono (by lia)) rfl T.d_law_leaf.m T.d_law_leaf.F.kp T.d_law_leaf.b .nil pass0 (qa_c (qv 0) (qa_c (qe_op op_fdivB (qv 4) qe_int) (qa_c (qv 2) qa_nil)))))) qss_nil)
        (qss_cons (qs_if (qt_cmpR op_eq (qv 6) qe_str (nomark _))
        (qss_cons (qs_set (i := 7) sc_law_sum.nd rfl (Or.inl rfl) (qe_callF G_law_sum (hr.mono (by lia)) rfl T.d_law_sum.m T.d_law_sum.F.kp T.d_law_sum.b .nil pass0 (qa_c (qv 0) (qa_c (qe_op op_add (qe_op op_mulB qe_int (qv 1)) qe_int) (qa_c (qv 2) (qa_c (qe_op op_sub (qv 3) qe_int) qa_nil))))))
        (qss_one (qs_ret (qe_op op_catG (qe_op op_catG (qe_tup (qa_c (qv 6) qa_nil)) (qv 7)) (qe_callF G_law_two (hr.mono (by lia)) rfl T.d_law_two.m T.d_law_two.F.kp T.d_law_two.b .nil pass0 (qa_c (qv 0) (qa_c (qv 1) (qa_c (qv 2) (qa_c (qv 3) qa_nil))))))))) qss_nil)
        (qss_cons (qs_if (qt_cmpR op_eq (qe_callF G_law_arity (hr.mono (by lia)) rfl T.d_law_arity.m T.d_law_arity.F.kp T.d_law_arity.b .nil pass0 (qa_c (qv 6) qa_nil)) qe_int (nomark _))
        (qss_one (qs_ret (qe_op op_catG (qe_tup (qa_c (qv 6) qa_nil)) (qe_callF G_law_sum (hr.mono (by lia)) rfl T.d_law_sum.m T.d_law_sum.F.kp T.d_law_sum.b .nil pass0 (qa_c (qv 0) (qa_c (qe_op op_add (qe_op op_mulB qe_int (qv 1)) qe_int) (qa_c (qv 2) (qa_c (qe_op op_sub (qv 3) qe_int) qa_nil)))))))) qss_nil)
        (qss_one (qs_ret (qe_op op_catG (qe_tup (qa_c (qv 6) qa_nil)) (qe_callF G_law_two (hr.mono (by lia)) rfl T.d_law_two.m T.d_law_two.F.kp T.d_law_two.b .nil pass0 (qa_c (qv 0) (qa_c (qv 1) (qa_c (qv 2) (qa_c (qv 3) qa_nil)))))))))))))), ?_⟩
    try dsimp only [L2.cxK, L2.cxK2]
    refine L2.let7 ?_
    intro U6 U5 U4 U3 U2 U1
    have h1d : 1 ≤ 2 ^ d := Nat.one_le_two_pow
    have he2 : (2 * e + 4) * 2 ^ d ≤ 512 := by
      have h := he
      rw [Nat.pow_succ] at h
      rw [show 2 * e + 4 = (e + 2) * 2 by lia, Nat.mul_assoc, Nat.mul_comm 2]
      exact h
    have he5 : 2 * e + 4 ≤ 512 := Nat.le_trans (Nat.le_mul_of_pos_right _ h1d) he2
    refine ⟨_, rfl, _, rfl, _, _, rfl, rfl, a, ns, 300 + e, rfl, ha, hl, by lia, fun H1 s1 => gName_go ?_⟩
    have db := drw_bd ns (300 + e)
    generalize drw ns (300 + e) = dw at *
    have d8 : 0 ≤ dw / 8 := Int.ediv_nonneg db.1 (by decide)
    refine ⟨by show 12 ≤ sizeLine; decide, fun tw htw => gName_go ?_⟩
    have s2 := s1.trans (same_upd (o := .tup (w12.map V.str)) htw)
    have g2 := upd_same (H := H1) (a := tw) (o := .tup (w12.map V.str))
    obtain ⟨y, hy, ey⟩ := atI_mem (l := w12) (i := dw / 8 % 12) (Int.emod_nonneg _ (by decide)) (Int.emod_lt_of_pos _ (by decide))
    refine ⟨_, rfl, _, rfl, _, _, rfl, rfl, .of (by decide) (by decide), _, _, rfl, rfl, (by show (0 : Int) < 12; decide), tw, _, _, _, rfl, rfl, SqT.of g2, ey, gName_go ?_⟩
    have s3 : Same H (upd H1 tw (.tup [V.str "and", V.str "or", V.str "odd", V.str "add", V.str "sub", V.str "not", V.str "neg", V.str "twice", V.str "low", V.str "pick", V.str "not", V.str "add"])) := s2
    clear s2 g2
    generalize upd H1 tw (.tup [V.str "and", V.str "or", V.str "odd", V.str "add", V.str "sub", V.str "not", V.str "neg", V.str "twice", V.str "low", V.str "pick", V.str "not", V.str "add"]) = H2 at *
    have ha2 := sqL_same ha s3
    obtain ⟨yw, yk⟩ := w12_ok y hy
    have leaf : ∀ x z H', LeafOk (namesN ns m) x → H' z = some (.tup [x]) → Same H2 H' → Q (.ref z) H' := fun x z H' lo hz s => k (.lf x) z H' lo (Nat.one_le_pow _ _ (by decide)) hz (s3.trans s)
    refine ⟨_, rfl, _, _, rfl, rfl, _, rfl, ite2 (fun c1 => ?_) (fun c1 => ?_)⟩
    · exact iteT ⟨_, rfl, _, rfl, _, _, rfl, rfl, .of (by decide) (by decide), _, rfl, a, ns, dw / 128, m, rfl, ha2, hl, Int.ediv_nonneg db.1 (by decide), hm, hm3, leaf⟩
    have c1 : ¬ fuel < 1 := fun z => c1 (decide_eq_true z)
    have p4 := pw4 (fuel - 1).toNat (by lia)
    rw [show fuel.toNat = (fuel - 1).toNat + 1 by lia, Nat.pow_succ] at k
    have p1 : 1 ≤ 4 ^ (fuel - 1).toNat := Nat.one_le_pow _ _ (by decide)
    refine ⟨_, rfl, _, _, rfl, rfl, (by show (0 : Int) < 8; decide), rfl, _, rfl, ite2 (fun c2 => ?_) (fun c2 => ?_)⟩
    · exact ⟨_, rfl, _, rfl, _, _, rfl, rfl, .of (by decide) (by decide), _, rfl, a, ns, dw / 128, m, rfl, ha2, hl, Int.ediv_nonneg db.1 (by decide), hm, hm3, leaf⟩
    refine ⟨_, rfl, rfl, _, rfl, ?_⟩
    by_cases hp : y = "pick"
    · rw [decide_eq_true (congrArg V.str hp)]
      refine iteT ⟨_, rfl, _, rfl, _, _, rfl, rfl, .inr (.inl ⟨by lia, by lia⟩), _, _, rfl, rfl, _, rfl, _, rfl, _, _, rfl, rfl, a, ns, 2 * e + 2, m, fuel - 2, rfl, ha2, hl, hm, hm3, by lia, by lia, by lia, he2, fun x z1 H3 okx hx0 hz1 s4 => gName_go ?_⟩
      have hx := Nat.le_trans hx0 (Nat.pow_le_pow_right (n := 4) (by decide) (show (fuel - 2).toNat ≤ (fuel - 1).toNat by lia))
      refine ⟨_, rfl, by show 1 ≤ sizeLine; decide, fun o ho => ⟨_, rfl, ?_⟩⟩
      have w := same_upd (o := .tup [V.str y]) ho
      refine ⟨o, z1, _, _, rfl, rfl, upd_same, w _ _ hz1, big4 (by show 1 + _ ≤ _; lia), fun p1 H4 hp1 s5 => ?_⟩
      have ha4 := sqL_same ha2 (s4.trans (w.trans s5))
      refine ⟨_, rfl, _, rfl, _, rfl, _, rfl, a, ns, e, m, fuel, rfl, ha4, hl, hm, hm3, by lia, by lia, by lia, he2, fun u v z2 H5 oku okv hu hv hz2 s6 => ?_⟩
      refine ⟨p1, z2, _, _, rfl, rfl, s6 _ _ hp1, hz2, big4 (by rw [List.length_append, List.length_append]; show (1 + _) + _ ≤ _; lia), fun z H6 hz s7 => k (.thr y x u v) z H6 ⟨⟨yw, by rw [hp]; exact pick_ok⟩, okx, oku, okv⟩ ?_ ?_ (s3.trans (s4.trans (w.trans (s5.trans (s6.trans s7)))))⟩
      · show (x.flat ++ (u.flat ++ v.flat)).length + 1 ≤ _
        rw [List.length_append, List.length_append]
        lia
      · rw [hz]
        show some (HO.tup (([V.str y] ++ x.flat) ++ (u.flat ++ v.flat))) = some (HO.tup (V.str y :: (x.flat ++ (u.flat ++ v.flat))))
        simp
    rw [decide_eq_false (fun z => hp (by injection z))]
    refine iteF ⟨_, rfl, .str y, rfl, .inr ⟨y, rfl⟩, fun H3 s4 => ⟨rfl, _, rfl, ?_⟩⟩
    have ha3 := sqL_same ha2 s4
    by_cases h1 : partsS y = 1
    · rw [decide_eq_true (by show V.int (partsS y : Int) = V.int 1; rw [h1]; rfl)]
      refine iteT ⟨_, rfl, by show 1 ≤ sizeLine; decide, fun o ho => ?_⟩
      have w := same_upd (o := .tup [V.str y]) ho
      refine ⟨_, rfl, _, rfl, _, _, rfl, rfl, .inr (.inl ⟨by lia, by lia⟩), _, _, rfl, rfl, _, rfl, _, rfl, _, _, rfl, rfl, a, ns, 2 * e + 1, m, fuel - 1, rfl, sqL_same ha3 w, hl, hm, hm3, by lia, by lia, by lia, Nat.le_trans (Nat.mul_le_mul_right _ (by lia)) he2, fun x z1 H4 okx hx hz1 s5 => ?_⟩
      refine ⟨o, z1, _, _, rfl, rfl, s5 _ _ upd_same, hz1, big4 (by show 1 + _ ≤ _; lia), fun z H5 hz s6 => k (.one y x) z H5 ⟨⟨yw, h1⟩, okx⟩ ?_ ?_ (s3.trans (s4.trans (w.trans (s5.trans s6))))⟩
      · show x.flat.length + 1 ≤ _
        lia
      · rw [hz]
        rfl
    · have h2 : partsS y = 2 := yk.elim (fun z => absurd z hp) fun z => z.elim (fun z => absurd z h1) fun z => z
      rw [decide_eq_false (by show ¬ (V.int (partsS y : Int) = V.int 1); rw [h2]; intro z; injection z with z; lia)]
      refine iteF ⟨_, rfl, by show 1 ≤ sizeLine; decide, fun o ho => ?_⟩
      have w := same_upd (o := .tup [V.str y]) ho
      refine ⟨_, rfl, _, rfl, _, rfl, _, rfl, a, ns, e, m, fuel, rfl, sqL_same ha3 w, hl, hm, hm3, by lia, by lia, by lia, he2, fun u v z1 H4 oku okv hu hv hz1 s5 => ?_⟩
      refine ⟨o, z1, _, _, rfl, rfl, s5 _ _ upd_same, hz1, big4 (by rw [List.length_append]; show 1 + _ ≤ _; lia), fun z H5 hz s6 => k (.two y u v) z H5 ⟨⟨yw, h2⟩, oku, okv⟩ ?_ ?_ (s3.trans (s4.trans (w.trans (s5.trans s6))))⟩
      · show (u.flat ++ v.flat).length + 1 ≤ _
        rw [List.length_append]
        lia
      · rw [hz]
        rfl
inductive sp_law_fit_i (K : PySem.W.Frag) (vs : List V) (H : Hp) (Q : VK) : Prop
  | mk (a : Addr) (ns : List Int) (m mo : Nat) : (vs = [.ref a, .int 0, .int (m : Int), .int (mo : Int)]) → (SqL K H a (ns.map V.int)) → (ns.length ≤ 63) → (1 ≤ m) → (m ≤ 3) → (1 ≤ mo) → (mo ≤ 100) → (∀ (x : Tm) z H', x.ok (namesN ns m) → x.flat.length ≤ mo → H' z = some (.tup x.flat) → Same H H' → Q (.ref z) H') → sp_law_fit_i K vs H Q
def sp_law_fit (K : PySem.W.Frag) : Sp := fun vs H Q _ => sp_law_fit_i K vs H Q
theorem ok_law_fit (T : Txt K w mg t) : FnOk P w K mg base CX0 21 t.a_law_fit t.f_law_fit ["script", "at", "many", "most"] (sp_law_fit K) := by
  have G_law_sum : FnOk P w K mg base CX0 20 t.a_law_sum t.f_law_sum ["script", "at", "many", "fuel"] (sp_law_sum K 8) := ok_law_sum T 8
  have G_law_draw : FnOk P w K mg base CX0 1 t.a_law_draw t.f_law_draw ["script", "k"] (sp_law_draw K) := ok_law_draw T
  have G_law_carries : FnOk P w K mg base CX0 1 t.a_law_carries t.f_law_carries ["words"] (sp_law_carries K) := ok_law_carries T
  refine T.d_law_fit.F.ok sc_law_fit (fun vs H Q E h => ?_) (fun cdv A outer s H vs Q E hr h => ?_)
  · obtain ⟨a, ns, m, mo, rfl, ha, hl, hm, hm3, hmo, hmo2, k⟩ := h
    rfl
  · obtain ⟨a, ns, m, mo, rfl, ha, hl, hm, hm3, hmo, hmo2, k⟩ := h
    have hu := hu_of hr
    refine ⟨_, @QSs.out _ _ _ (qss_cons (qs_for PassesOwn.never rfl (qi_tup (qe_slice (SlR.or sl_tup sl_tupW) (qe_tup (qa_c qe_int (qa_c qe_int (qa_c qe_int (qa_c qe_int (qa_c qe_int (qa_c qe_int qa_nil))))))) (qo_some (qe_op op_mod (qe_callF G_law_draw (hr.mono (by decide)) rfl T.d_law_draw.m T.d_law_draw.F.kp T.d_law_draw.b .nil pass0 (qa_c (qv 0) (qa_c (qe_op op_add qe_int (qv 1)) qa_nil))) qe_int)) qo_none)) (qg_name (i := 4) sc_law_fit.nd rfl (Or.inl rfl))
        (qss_cons (qs_set (i := 5) sc_law_fit.nd rfl (Or.inl rfl) (qe_callF G_law_sum (hr.mono (by decide)) rfl T.d_law_sum.m T.d_law_sum.F.kp T.d_law_sum.b .nil pass0 (qa_c (qv 0) (qa_c (qv 1) (qa_c (qv 2) (qa_c (qv 4) qa_nil))))))
        (qss_one (qs_if (qw_pt (qw_and (qt_cmpR op_le (qe_callBF call_len_seq (by rfl) T.z_len bt_len (qa_c (qv 5) qa_nil)) (qv 3) (nomark _)) (qw_and1 (qt_cmpR op_lt (qe_callF G_law_carries (hr.mono (by decide)) rfl T.d_law_carries.m T.d_law_carries.F.kp T.d_law_carries.b .nil pass0 (qa_c (qv 5) qa_nil)) qe_int (nomark _)))))
        (qss_one (qs_ret (qv 5))) qss_nil))))
        (qss_one (qs_ret (qe_callF G_law_sum (hr.mono (by decide)) rfl T.d_law_sum.m T.d_law_sum.F.kp T.d_law_sum.b .nil pass0 (qa_c (qv 0) (qa_c (qv 1) (qa_c (qv 2) (qa_c qe_int qa_nil)))))))), ?_⟩
    clear hu hr
    try dsimp only [L2.cxK, L2.cxK2]
    refine L2.let2 ?_
    intro U1
    refine ⟨by show 6 ≤ sizeLine; decide, fun t6 ht6 => ?_⟩
    have w6 := same_upd (o := .tup [V.int 6, V.int 5, V.int 4, V.int 3, V.int 2, V.int 1]) ht6
    have g6 := upd_same (H := H) (a := t6) (o := .tup [V.int 6, V.int 5, V.int 4, V.int 3, V.int 2, V.int 1])
    generalize upd H t6 (.tup [V.int 6, V.int 5, V.int 4, V.int 3, V.int 2, V.int 1]) = H0 at *
    refine ⟨_, rfl, _, rfl, _, _, rfl, rfl, a, ns, 900, rfl, sqL_same ha w6, hl, by decide, fun H1 s1 => ⟨_, _, rfl, rfl, (by show (0 : Int) < 4; decide), _, rfl, sl_of (s1 _ _ g6) fun pl H2 hpl s2 => ?_⟩⟩
    have s02 := w6.trans (s1.trans s2)
    generalize hxs : cutV [V.int 6, V.int 5, V.int 4, V.int 3, V.int 2, V.int 1] (some (drw ns 900 % 4)) none = xs at *
    have hin : ∀ x ∈ xs, ∃ f : Int, x = .int f ∧ 1 ≤ f ∧ f ≤ 6 := fun x hx => by
      rw [← hxs] at hx
      have hx := List.mem_of_mem_drop (List.mem_of_mem_take hx)
      simp only [List.mem_cons, List.not_mem_nil, or_false] at hx
      rcases hx with rfl | rfl | rfl | rfl | rfl | rfl <;> exact ⟨_, rfl, by decide, by decide⟩
    refine ⟨pl, rfl, ⟨_, SqT.of hpl⟩, for_tup (K := K) (a := pl) (xs := xs) (fun i σ H' => ∃ (v4 v5 : Option V), σ = [some (.ref a), some (.int 0), some (.int (m : Int)), some (.int (mo : Int)), v4, v5] ∧ Same H2 H') ⟨none, none, rfl, Same.refl _⟩ (fun i σ H' _ ⟨_, _, _, s⟩ => SqT.of (s _ _ hpl)) ?_ ?_⟩
    · rintro i x σ H3 hx hz_
      refine hideG fun Gz hGz => ?_
      obtain ⟨v4, v5, rfl, s3⟩ := hz_
      refine hGz ?_
      clear hGz Gz
      refine gName_go ?_
      obtain ⟨f, rfl, f1, f2⟩ := hin x (List.mem_of_getElem? hx)
      have s03 := s02.trans s3
      refine ⟨_, rfl, _, rfl, _, rfl, _, rfl, a, ns, 0, m, f, rfl, sqL_same ha s03, hl, hm, hm3, by lia, by show f + 2 ≤ 8; lia, by decide, by decide, fun x z H4 okx hx4 hz s4 => gName_go ?_⟩
      have si := x.si okx
      refine ⟨_, rfl, z, _, rfl, .inr (SqT.of hz), _, rfl, _, _, rfl, rfl, _, rfl, ite2 (fun c => ?_) (fun c => ?_)⟩
      · have c := of_decide_eq_true c
        refine ⟨_, rfl, z, x.flat, rfl, .inr hz, fun w hw => (si w hw).symm, by lia, fun H5 s5 => ⟨_, _, rfl, rfl, _, rfl, ite2 (fun _ => ?_) (fun _ => ?_)⟩⟩
        · exact ⟨_, rfl, k x z H5 okx (by lia) (s5 _ _ hz) (s03.trans (s4.trans s5))⟩
        · exact ⟨_, _, rfl, s3.trans (s4.trans s5)⟩
      · exact iteF ⟨_, _, rfl, s3.trans s4⟩
    · rintro σ H3 hz_
      refine hideG fun Gz hGz => ?_
      obtain ⟨v4, v5, rfl, s3⟩ := hz_
      refine hGz ?_
      clear hGz Gz
      have s03 := s02.trans s3
      exact ⟨_, rfl, _, rfl, _, rfl, a, ns, 0, m, 0, rfl, sqL_same ha s03, hl, hm, hm3, by decide, by decide, by decide, by decide, fun x z H4 okx hx4 hz s4 => k x z H4 okx (Nat.le_trans hx4 hmo) hz (s03.trans s4)⟩
inductive sp_law_paths_i (d : Nat) (vs : List V) (H : Hp) (Q : VK) : Prop
  | mk (p : Addr) (ys : List Str) (tm : Tm) : (vs = [.ref p]) → (H p = some (.tup tm.flat)) → (NK ys) → (tm.ok ys) → (tm.flat.length ≤ 40) → (tm.flat.length ≤ d) → (∀ l xs H', H l = none → H' l = some (.lst xs) → PrsAt H' xs (tm.nds []) → Same H H' → Q (.ref l) H') → sp_law_paths_i d vs H Q
def sp_law_paths (K : PySem.W.Frag) (d : Nat) : Sp := fun vs H Q _ => sp_law_paths_i d vs H Q
theorem ok_law_paths (T : Txt K w mg t) (d : Nat) : FnOk P w K mg base CX0 (2 + 1 * d + 1) t.a_law_paths t.f_law_paths ["words"] (sp_law_paths K d) := by
  induction d with
  | zero => exact T.d_law_paths.F.ok sc_law_paths (fun vs H Q E h => by obtain ⟨p, ys, tm, rfl, hp, hk, ht, hlen, hd, k⟩ := h; exfalso; (have := tm.flat_pos; lia)) (fun cdv A outer s H vs Q E hr h => by obtain ⟨p, ys, tm, rfl, hp, hk, ht, hlen, hd, k⟩ := h; exfalso; (have := tm.flat_pos; lia))
  | succ d ih =>
  have G_law_paths : FnOk P w K mg base CX0 (2 + 1 * d + 1) t.a_law_paths t.f_law_paths ["words"] (sp_law_paths K d) := ih
  have G_law_parts : FnOk P w K mg base CX0 2 t.a_law_parts t.f_law_parts ["words"] (sp_law_parts K) := ok_law_parts T
  refine T.d_law_paths.F.ok sc_law_paths (fun vs H Q E h => ?_) (fun cdv A outer s H vs Q E hr h => ?_)
  · obtain ⟨p, ys, tm, rfl, hp, hk, ht, hlen, hd, k⟩ := h
    rfl
  · obtain ⟨p, ys, tm, rfl, hp, hk, ht, hlen, hd, k⟩ := h
    have hu := hu_of hr
    refine ⟨_, @QSs.out _ _ _ (qss_cons (qs_set (i := 1) sc_law_paths.nd rfl (Or.inl rfl) (qe_lst (qa_c (qe_tup (qa_c (qe_tup qa_nil) (qa_c (qv 0) qa_nil))) qa_nil)))
        (qss_cons (qs_for PassesOwn.never rfl (qi_enumL rfl T.z_enumerate (qe_callF G_law_parts (hr.mono (by lia)) rfl T.d_law_parts.m T.d_law_parts.F.kp T.d_law_parts.b .nil pass0 (qa_c (qv 0) qa_nil))) (qg_pair rfl (qg_name (i := 2) sc_law_paths.nd rfl (Or.inl rfl)) (qg_name (i := 3) sc_law_paths.nd rfl (Or.inl rfl)))
        (qss_one (qs_for PassesOwn.never rfl (qi_list (qe_callF G_law_paths (hr.mono (by lia)) rfl T.d_law_paths.m T.d_law_paths.F.kp T.d_law_paths.b .nil pass0 (qa_c (qv 3) qa_nil))) (qg_pair rfl (qg_name (i := 4) sc_law_paths.nd rfl (Or.inl rfl)) (qg_name (i := 5) sc_law_paths.nd rfl (Or.inl rfl)))
        (qss_one (qs_expr (qe_bmF PySem.F.plainAttrs_list PySem.F.slot_list_append PySem.F.type_list_append mt_append (qv 1) (qa_c (qe_tup (qa_c (qe_op op_catG (qe_tup (qa_c (qv 2) qa_nil)) (qv 4)) (qa_c (qv 5) qa_nil))) qa_nil)))))))
        (qss_one (qs_ret (qv 1))))), ?_⟩
    clear hu hr
    try dsimp only [L2.cxK, L2.cxK2]
    refine L2.let3 ?_
    intro U2 U1
    refine ⟨by show 0 ≤ sizeLine; decide, fun e0 he0 => ⟨_, rfl, by show 2 ≤ sizeLine; decide, fun t0 ht0 => ⟨by show 1 ≤ sizeLine; decide, fun l hl => gName_go ?_⟩⟩⟩
    have u1 := same_upd (o := .tup []) he0
    have u2 := same_upd (o := .tup [.ref e0, .ref p]) ht0
    have u3 := same_upd (o := .lst [.ref t0]) hl
    have g1 := u3 _ _ (u2 _ _ (upd_same (H := H) (a := e0) (o := .tup [])))
    have g2 := u3 _ _ (upd_same (H := upd H e0 (.tup [])) (a := t0) (o := .tup [.ref e0, .ref p]))
    have g3 := upd_same (H := upd (upd H e0 (.tup [])) t0 (.tup [.ref e0, .ref p])) (a := l) (o := .lst [.ref t0])
    have s0 := u1.trans (u2.trans u3)
    have hln : H l = none := by
      cases q : H l with
      | none => rfl
      | some o => rw [u2 _ _ (u1 _ _ q)] at hl; cases hl
    generalize upd (upd (upd H e0 (.tup [])) t0 (.tup [.ref e0, .ref p])) l (.lst [.ref t0]) = H0 at *
    clear u1 u2 u3 he0 ht0 hl
    refine ⟨_, rfl, p, ys, tm, rfl, s0 _ _ hp, hk, ht, Nat.le_trans hlen (by decide), fun lp xp H1 hlp hxp P s1 => ?_⟩
    have s01 := s0.trans s1
    have hlpn : l ≠ lp := fun z => by rw [z, hlp] at g3; cases g3
    have hk3 := kids3 tm
    have hxl : xp.length = tm.kids.length := P.length
    refine ⟨lp, _, rfl, SqL.of hxp, for_enumL (K := K) (a := lp) (xs := xp) (fun i σ H' => ∃ (fs : List V) (v2 v3 v4 v5 : Option V), σ = [some (.ref p), some (.ref l), v2, v3, v4, v5] ∧ H' l = some (.lst fs) ∧ H' lp = some (.lst xp) ∧ PrsAt H' fs (([], tm) :: kn (tm.kids.take i) 0) ∧ TrsAt H' xp tm.kids ∧ fs.length ≤ 1 + 40 * i ∧ i ≤ xp.length ∧ Same H H') ⟨[.ref t0], none, none, none, none, rfl, s1 _ _ g3, hxp, .cons ⟨t0, e0, p, rfl, s1 _ _ g2, s1 _ _ g1, s01 _ _ hp⟩ .nil, P, Nat.le_refl _, Nat.zero_le _, s01⟩ (fun i σ H' _ ⟨_, _, _, _, _, _, _, h, _⟩ => SqL.of h) ?_ ?_⟩
    · rintro i x σ H2 pt hx hpt hz_
      refine hideG fun Gz hGz => ?_
      obtain ⟨fs, v2, v3, v4, v5, rfl, h1, h2, F, P2, hfl, hil, s2⟩ := hz_
      refine hGz ?_
      clear hGz Gz
      have hi' := (List.getElem?_eq_some_iff.mp hx).1
      have w0 := same_upd (o := .tup [.int (i : Int), x]) hpt
      replace h1 := w0 _ _ h1
      replace h2 := w0 _ _ h2
      replace F := F.same w0
      replace P2 := P2.same w0
      have s3 := s2.trans w0
      clear s2
      generalize upd H2 pt (.tup [.int (i : Int), x]) = H3 at *
      refine hideG fun Gz hGz => ?_
      obtain ⟨ti, hti, pk, rfl, hpk⟩ := paired_getL P2 hx
      refine hGz ?_
      clear hGz Gz
      have hlt := kids_lt (List.mem_of_getElem? hti)
      have okt := Tm.ok_kids ht ti (List.mem_of_getElem? hti)
      refine ⟨_, rfl, pk, ys, ti, rfl, hpk, hk, okt, by lia, by lia, fun l2 xs2 H4 hl2n hl2 P4 s4 => ?_⟩
      have hll2 : l ≠ l2 := fun z => by rw [z, hl2n] at h1; cases h1
      have hnl : (ti.nds []).length = ti.flat.length := ti.nds_len []
      have hxl2 : xs2.length = ti.flat.length := by rw [P4.length, hnl]
      have key : kn (tm.kids.take (i + 1)) 0 = kn (tm.kids.take i) 0 ++ (ti.nds []).map fun z => ((i : Int) :: z.1, z.2) := by
        rw [take_snoc' hti, kn_app, List.length_take, Nat.min_eq_left (by lia), Nat.zero_add]
        exact congrArg _ (List.append_nil _)
      refine ⟨l2, rfl, ⟨_, SqL.of hl2⟩, for_list (K := K) (a := l2) (xs := xs2) (fun m σ H' => ∃ (fs : List V) (v4 v5 : Option V), σ = [some (.ref p), some (.ref l), some (.int (i : Int)), some (.ref pk), v4, v5] ∧ H' l = some (.lst fs) ∧ H' l2 = some (.lst xs2) ∧ H' lp = some (.lst xp) ∧ PrsAt H' fs (([], tm) :: (kn (tm.kids.take i) 0 ++ ((ti.nds []).take m).map fun z => ((i : Int) :: z.1, z.2))) ∧ PrsAt H' xs2 (ti.nds []) ∧ TrsAt H' xp tm.kids ∧ fs.length ≤ 1 + 40 * i + m ∧ m ≤ xs2.length ∧ Same H H') ⟨fs, v4, v5, rfl, s4 _ _ h1, hl2, s4 _ _ h2, by rw [List.take_zero, List.map_nil, List.append_nil]; exact F.same s4, P4, P2.same s4, by lia, Nat.zero_le _, s3.trans s4⟩ (fun m σ H' _ ⟨_, _, _, _, _, h, _⟩ => SqL.of h) ?_ ?_⟩
      · rintro m y σ H5 hy hz_
        refine hideG fun Gz hGz => ?_
        obtain ⟨fs, v4, v5, rfl, f1, f2, f3, F5, P5, T5, hfl5, hml, s5⟩ := hz_
        refine hGz ?_
        clear hGz Gz
        have hm' := (List.getElem?_eq_some_iff.mp hy).1
        refine hideG fun Gz hGz => ?_
        obtain ⟨z, hz, a, b, c, rfl, ha, hb, hc⟩ := paired_getL P5 hy
        refine hGz ?_
        clear hGz Gz
        refine ⟨a, _, rfl, SqT.of ha, rfl, _, _, rfl, _, _, rfl, rfl, ?_⟩
        refine ⟨_, rfl, .inl ⟨rfl, _, SqL.of f1⟩, _, rfl, by show 1 ≤ sizeLine; decide, fun o ho => ⟨_, rfl, ?_⟩⟩
        have w6 := same_upd (o := .tup [V.int (i : Int)]) ho
        have hzl : z.1.length ≤ 900 := nds_plen hz (by lia)
        refine ⟨o, b, _, _, rfl, rfl, upd_same, w6 _ _ hb, Nat.le_of_lt (small1000 (by rw [List.length_map]; show 1 + _ ≤ 1000; lia)), fun pr H7 hpr s7 => ⟨_, rfl, by show 2 ≤ sizeLine; decide, fun pp hpp => ?_⟩⟩
        have w8 := same_upd (o := .tup [.ref pr, .ref c]) hpp
        have s58 := w6.trans (s7.trans w8)
        have f1' := s58 _ _ f1
        refine ⟨l, _, _, rfl, rfl, f1', small1000 (by lia), fs ++ [.ref pp], _, _, rfl, upd_same, ?_, ?_, ?_, (P5.same s58).put f1', (T5.same s58).put f1', by rw [List.length_append]; show _ + 1 ≤ _; lia, hm', same_put (s5.trans s58) hln⟩
        · rw [upd_ne hll2.symm]; exact s58 _ _ f2
        · rw [upd_ne hlpn.symm]; exact s58 _ _ f3
        · rw [take_snoc' hz, List.map_append, ← List.append_assoc]
          refine ((F5.same s58).put f1').snoc (b := ((i : Int) :: z.1, z.2)) ⟨pp, pr, c, rfl, tup_put upd_same f1', tup_put (w8 _ _ ?_) f1', tup_put (s58 _ _ hc) f1'⟩
          rw [hpr]
          rfl
      · rintro σ H5 hz_
        refine hideG fun Gz hGz => ?_
        obtain ⟨fs, v4, v5, rfl, f1, f2, f3, F5, P5, T5, hfl5, hml, s5⟩ := hz_
        refine hGz ?_
        clear hGz Gz
        rw [hxl2, ← hnl, List.take_length, ← key] at F5
        exact ⟨fs, _, _, _, _, rfl, f1, f3, F5, T5, by lia, hi', s5⟩
    · rintro σ H2 hz_
      refine hideG fun Gz hGz => ?_
      obtain ⟨fs, v2, v3, v4, v5, rfl, h1, h2, F, P2, hfl, hil, s2⟩ := hz_
      refine hGz ?_
      clear hGz Gz
      rw [hxl, List.take_length, ← nds_kn] at F
      exact ⟨_, rfl, k l fs H2 hln h1 F s2⟩
inductive sp_law_put_i (d : Nat) (vs : List V) (H : Hp) (Q : VK) : Prop
  | mk (p pq px : Addr) (ys : List Str) (tm x s : Tm) (q : List Int) : (vs = [.ref p, .ref pq, .ref px]) → (H p = some (.tup tm.flat)) → (H pq = some (.tup (q.map V.int))) → (H px = some (.tup x.flat)) → (NK ys) → (tm.ok ys) → (tm.flat.length ≤ 40) → (tm.flat.length ≤ d) → (x.flat.length ≤ 200) → ((q, s) ∈ tm.nds []) → (∀ z H', H' z = some (.tup (putT tm q x).flat) → Same H H' → Q (.ref z) H') → sp_law_put_i d vs H Q
def sp_law_put (K : PySem.W.Frag) (d : Nat) : Sp := fun vs H Q _ => sp_law_put_i d vs H Q
theorem ok_law_put (T : Txt K w mg t) (d : Nat) : FnOk P w K mg base CX0 (2 + 1 * d + 1) t.a_law_put t.f_law_put ["words", "path", "part"] (sp_law_put K d) := by
  induction d with
  | zero => exact T.d_law_put.F.ok sc_law_put (fun vs H Q E h => by obtain ⟨p, pq, px, ys, tm, x, s, q, rfl, hp, hpq, hpx, hk, ht, hlen, hd, hxl, hin, k⟩ := h; exfalso; (have := tm.flat_pos; lia)) (fun cdv A outer s H vs Q E hr h => by obtain ⟨p, pq, px, ys, tm, x, s, q, rfl, hp, hpq, hpx, hk, ht, hlen, hd, hxl, hin, k⟩ := h; exfalso; (have := tm.flat_pos; lia))
  | succ d ih =>
  have G_law_put : FnOk P w K mg base CX0 (2 + 1 * d + 1) t.a_law_put t.f_law_put ["words", "path", "part"] (sp_law_put K d) := ih
  have G_law_joined : FnOk P w K mg base CX0 1 t.a_law_joined t.f_law_joined ["word", "shares"] (sp_law_joined K) := ok_law_joined T
  have G_law_parts : FnOk P w K mg base CX0 2 t.a_law_parts t.f_law_parts ["words"] (sp_law_parts K) := ok_law_parts T
  refine T.d_law_put.F.ok sc_law_put (fun vs H Q E h => ?_) (fun cdv A outer s H vs Q E hr h => ?_)
  · obtain ⟨p, pq, px, ys, tm, x, s, q, rfl, hp, hpq, hpx, hk, ht, hlen, hd, hxl, hin, k⟩ := h
    rfl
  · obtain ⟨p, pq, px, ys, tm, x, s, q, rfl, hp, hpq, hpx, hk, ht, hlen, hd, hxl, hin, k⟩ := h
    have hu := hu_of hr
    refine ⟨_, @QSs.out _ _ _ (qss_cons (qs_if (qt_cmpR (op_eqTT (units_of hr)) (qv 1) (qe_tup qa_nil) (nomark _))
        (qss_one (qs_ret (qv 2))) qss_nil)
        (qss_cons (qs_set (i := 3) sc_law_put.nd rfl (Or.inl rfl) (qe_callF G_law_parts (hr.mono (by lia)) rfl T.d_law_parts.m T.d_law_parts.F.kp T.d_law_parts.b .nil pass0 (qa_c (qv 0) qa_nil)))
        (qss_cons (qs_asg (qe_callF G_law_put (hr.mono (by lia)) rfl T.d_law_put.m T.d_law_put.F.kp T.d_law_put.b .nil pass0 (qa_c (qe_ix ix_list (qv 3) (qe_ix ix_tup (qv 1) qe_int (fun _ _ => rfl)) (fun _ _ => rfl)) (qa_c (qe_slice (SlR.or sl_tup sl_tupW) (qv 1) (qo_some qe_int) qo_none) (qa_c (qv 2) qa_nil)))) (qg_sub (qv 3) (qe_ix ix_tup (qv 1) qe_int (fun _ _ => rfl)) set_list))
        (qss_one (qs_ret (qe_callF G_law_joined (hr.mono (by lia)) rfl T.d_law_joined.m T.d_law_joined.F.kp T.d_law_joined.b .nil pass0 (qa_c (qe_ix ix_tup (qv 0) qe_int (fun _ _ => rfl)) (qa_c (qv 3) qa_nil)))))))), ?_⟩
    try dsimp only [L2.cxK, L2.cxK2]
    refine L2.let4 ?_
    intro U3 U2 U1
    refine ⟨_, rfl, by show 0 ≤ sizeLine; decide, fun z0 hz0 => ?_⟩
    have u0 := same_upd (o := .tup []) hz0
    refine ⟨pq, z0, _, _, rfl, rfl, SqT.of (u0 _ _ hpq), SqT.of upd_same, si_all (si_ints q), rfl, _, rfl, ?_⟩
    generalize upd H z0 (.tup []) = H1 at *
    cases q with
    | nil =>
      refine iteT' rfl ⟨_, rfl, k px H1 ?_ u0⟩
      unfold putT
      exact u0 _ _ hpx
    | cons kk q' =>
      refine iteF ?_
      obtain ⟨i, hi⟩ := List.getElem?_of_mem hin
      rw [nds_kn] at hi
      cases i with
      | zero =>
        have := congrArg Prod.fst (Option.some.inj hi)
        cases this
      | succ i =>
        refine hideG fun Gz hGz => ?_
        obtain ⟨j, i', t', q2, h1, h2, h3, h4⟩ := kn_at tm.kids 0 i _ _ hi
        refine hGz ?_
        clear hGz Gz
        rw [Nat.zero_add] at h2
        injection h2 with e1 e2
        subst e1 e2
        have hj := (List.getElem?_eq_some_iff.mp h1).1
        have hlt := kids_lt (List.mem_of_getElem? h1)
        have okt := Tm.ok_kids ht t' (List.mem_of_getElem? h1)
        refine ⟨_, rfl, p, ys, tm, rfl, u0 _ _ hp, hk, ht, Nat.le_trans hlen (by decide), fun l xs H2 hln hl2 hT s2 => gName_go ?_⟩
        have s02 := u0.trans s2
        have hln0 : H l = none := by
          cases q : H l with
          | none => rfl
          | some o => rw [u0 _ _ q] at hln; cases hln
        obtain ⟨v, hv⟩ : ∃ v, xs[j]? = some v := ⟨_, List.getElem?_eq_getElem (by rw [hT.length]; exact hj)⟩
        refine hideG fun Gz hGz => ?_
        obtain ⟨t2, ht2, pt, rfl, hpt⟩ := paired_getL hT hv
        refine hGz ?_
        clear hGz Gz
        rw [h1] at ht2
        cases ht2
        refine ⟨_, rfl, _, rfl, pq, _, 0, _, rfl, rfl, SqT.of (s02 _ _ hpq), atI_nat (j := 0) rfl, l, xs, (j : Int), _, rfl, rfl, SqL.of hl2, atI_nat hv, _, rfl, _, rfl, sl_of (s02 _ _ hpq) fun pq' H3 hq' s3 => ?_⟩
        rw [show cutV (((j : Int) :: q').map V.int) (some 1) none = q'.map V.int from cut_tail (u := [V.int (j : Int)]) rfl] at hq'
        have s03 := s02.trans s3
        refine ⟨_, rfl, pt, pq', px, ys, t', x, s, q', rfl, s3 _ _ hpt, hq', s03 _ _ hpx, hk, okt, by lia, by lia, hxl, List.mem_of_getElem? h3, fun z H4 hz s4 => ?_⟩
        have s04 := s03.trans s4
        have s24 := s3.trans s4
        have hl4 := s24 _ _ hl2
        refine hideG fun Gz hGz => ?_
        obtain ⟨u, v, hu, hf, hpu⟩ := putT_ctx _ t' (Nat.le_refl _) i' q' s h3
        refine hGz ?_
        clear hGz Gz
        have hpl := congrArg List.length (hpu x)
        have hfl := congrArg List.length hf
        rw [List.length_append, List.length_append] at hpl hfl
        obtain ⟨g1, g2⟩ := flats_set (x := putT t' q' x) h1
        have gl1 := congrArg List.length g1
        have gl2 := congrArg List.length g2
        rw [List.length_append, List.length_append] at gl1 gl2
        have hfk : tm.flat.length = (flats tm.kids).length + 1 := by rw [tm.flat_eq, List.length_cons]
        refine ⟨_, rfl, _, rfl, pq, _, 0, _, rfl, rfl, SqT.of (s04 _ _ hpq), atI_nat (j := 0) rfl, l, xs, (j : Int), j, rfl, rfl, hl4, ixN_j (by rw [hT.length]; exact hj), ?_⟩
        have T5 := paired_set ((hT.same s24).put (ys := xs.set j (.ref z)) hl4) (TrAt.put (ys := xs.set j (.ref z)) (H := H4) ⟨z, rfl, hz⟩ hl4) j
        refine ⟨_, rfl, p, _, 0, _, rfl, rfl, SqT.of (tup_put (s04 _ _ hp) hl4), hd_at tm, _, rfl, tm.hd, l, xs.set j (.ref z), tm.kids.set j (putT t' q' x), rfl, upd_same, T5, by lia, fun z2 H5 hz2 s5 => k z2 H5 ?_ ((same_put s04 hln0).trans s5)⟩
        have e : putT tm ((j : Int) :: q') x = tm.re (tm.kids.set j (putT t' q' x)) := by
          show tm.re (tm.kids.set (j : Int).toNat (putT ((tm.kids[(j : Int).toNat]?).getD tm) q' x)) = _
          rw [Int.toNat_natCast, h1]
          rfl
        rw [hz2, e, Tm.re_flat (by rw [List.length_set])]
inductive sp_law_steps_i (vs : List V) (H : Hp) (Q : VK) : Prop
  | mk (p : Addr) (ys : List Str) (tm : Tm) : (vs = [.ref p]) → (H p = some (.tup tm.flat)) → (NK ys) → (tm.ok ys) → (tm.flat.length ≤ 24) → (∀ l xs H', H l = none → H' l = some (.lst xs) → DusAt H' xs (dueT tm) → Same H H' → Q (.ref l) H') → sp_law_steps_i vs H Q
def sp_law_steps (K : PySem.W.Frag) : Sp := fun vs H Q _ => sp_law_steps_i vs H Q
theorem ok_law_steps (T : Txt K w mg t) : FnOk P w K mg base CX0 44 t.a_law_steps t.f_law_steps ["words"] (sp_law_steps K) := by
  have G_law_paths : FnOk P w K mg base CX0 43 t.a_law_paths t.f_law_paths ["words"] (sp_law_paths K 40) := ok_law_paths T 40
  have G_law_put : FnOk P w K mg base CX0 43 t.a_law_put t.f_law_put ["words", "path", "part"] (sp_law_put K 40) := ok_law_put T 40
  have G_law_turned : FnOk P w K mg base CX0 4 t.a_law_turned t.f_law_turned ["how", "words"] (sp_law_turned K) := ok_law_turned T
  refine T.d_law_steps.F.ok sc_law_steps (fun vs H Q E h => ?_) (fun cdv A outer s H vs Q E hr h => ?_)
  · obtain ⟨p, ys, tm, rfl, hp, hk, ht, hlen, k⟩ := h
    rfl
  · obtain ⟨p, ys, tm, rfl, hp, hk, ht, hlen, k⟩ := h
    have hu := hu_of hr
    refine ⟨_, @QSs.out _ _ _ (qss_cons (qs_set (i := 1) sc_law_steps.nd rfl (Or.inl rfl) (qe_tup (qa_c qe_str (qa_c qe_str (qa_c qe_str (qa_c qe_str (qa_c qe_str (qa_c qe_str (qa_c qe_str (qa_c qe_str qa_nil))))))))))
        (qss_cons (qs_set (i := 1) sc_law_steps.nd rfl (Or.inl rfl) (qe_op op_catG (qv 1) (qe_tup (qa_c qe_str (qa_c qe_str (qa_c qe_str (qa_c qe_str (qa_c qe_str (qa_c qe_str (qa_c qe_str (qa_c qe_str qa_nil)))))))))))
        (qss_cons (qs_set (i := 2) sc_law_steps.nd rfl (Or.inl rfl) (qe_lst qa_nil))
        (qss_cons (qs_for PassesOwn.never rfl (qi_list (qe_callF G_law_paths (hr.mono (by decide)) rfl T.d_law_paths.m T.d_law_paths.F.kp T.d_law_paths.b .nil pass0 (qa_c (qv 0) qa_nil))) (qg_pair rfl (qg_name (i := 3) sc_law_steps.nd rfl (Or.inl rfl)) (qg_name (i := 4) sc_law_steps.nd rfl (Or.inl rfl)))
        (qss_one (qs_for PassesOwn.never rfl (qi_tup (qv 1)) (qg_name (i := 5) sc_law_steps.nd rfl (Or.inl rfl))
        (qss_cons (qs_set (i := 6) sc_law_steps.nd rfl (Or.inl rfl) (qe_callF G_law_turned (hr.mono (by decide)) rfl T.d_law_turned.m T.d_law_turned.F.kp T.d_law_turned.b .nil pass0 (qa_c (qv 5) (qa_c (qv 4) qa_nil))))
        (qss_one (qs_if (qt_cmpR op_notN (qv 6) qe_non (by with_unfolding_all rfl))
        (qss_one (qs_expr (qe_bmF PySem.F.plainAttrs_list PySem.F.slot_list_append PySem.F.type_list_append mt_append (qv 2) (qa_c (qe_tup (qa_c (qv 3) (qa_c (qv 5) (qa_c (qe_callF G_law_put (hr.mono (by decide)) rfl T.d_law_put.m T.d_law_put.F.kp T.d_law_put.b .nil pass0 (qa_c (qv 0) (qa_c (qv 3) (qa_c (qv 6) qa_nil)))) qa_nil)))) qa_nil)))) qss_nil))))))
        (qss_one (qs_ret (qv 2))))))), ?_⟩
    clear hu hr
    try dsimp only [L2.cxK, L2.cxK2]
    refine L2.let5 ?_
    intro U4 U3 U2 U1
    refine ⟨by show 8 ≤ sizeLine; decide, fun h0 hn0 => gName_go ?_⟩
    have s1 := same_upd (o := .tup [V.str "addboth", V.str "addthree", V.str "subneg", V.str "negnot", V.str "twiceadd", V.str "notnot", V.str "notand", V.str "notor"]) hn0
    have hh0 := upd_same (H := H) (a := h0) (o := .tup [V.str "addboth", V.str "addthree", V.str "subneg", V.str "negnot", V.str "twiceadd", V.str "notnot", V.str "notand", V.str "notor"])
    generalize upd H h0 (.tup [V.str "addboth", V.str "addthree", V.str "subneg", V.str "negnot", V.str "twiceadd", V.str "notnot", V.str "notand", V.str "notor"]) = H1 at *
    refine ⟨_, rfl, by show 8 ≤ sizeLine; decide, fun h1 hn1 => ?_⟩
    have w1 := same_upd (o := .tup [V.str "oddor", V.str "orsum", V.str "oddsum", V.str "lowneg", V.str "pickor", V.str "selfodd", V.str "selfand", V.str "zeroadd"]) hn1
    refine ⟨h0, h1, _, _, rfl, rfl, w1 _ _ hh0, upd_same, by show 16 ≤ sizeLine; decide, fun ph H2 hph s2' => gName_go ?_⟩
    have s2 := w1.trans s2'
    clear s2' w1 hn1 hn0
    replace hph : H2 ph = some (.tup (hows.map V.str)) := hph
    have s02 := s1.trans s2
    clear hh0
    refine ⟨by show 0 ≤ sizeLine; decide, fun l hl => gName_go ?_⟩
    have w2 := same_upd (o := .lst []) hl
    have g2 := upd_same (H := H2) (a := l) (o := .lst [])
    have hln : H l = none := by
      cases q : H l with
      | none => rfl
      | some o => rw [s02 _ _ q] at hl; cases hl
    replace hph := w2 _ _ hph
    have s03 := s02.trans w2
    clear hl w2 s1 s2 s02
    generalize upd H2 l (.lst []) = H3 at *
    refine ⟨_, rfl, p, ys, tm, rfl, s03 _ _ hp, hk, ht, Nat.le_trans hlen (by decide), Nat.le_trans hlen (by decide), fun lp xp H4 hlp hxp P s4 => ?_⟩
    have s04 := s03.trans s4
    have hlpn : l ≠ lp := fun z => by rw [z, hlp] at g2; cases g2
    have hph4 := s4 _ _ hph
    have hnl : (tm.nds []).length = tm.flat.length := tm.nds_len []
    have hxl : xp.length = tm.flat.length := by rw [P.length, hnl]
    have hhl : hows.length = 16 := rfl
    refine ⟨lp, rfl, ⟨_, SqL.of hxp⟩, for_list (K := K) (a := lp) (xs := xp) (fun i σ H' => ∃ (fs : List V) (v3 v4 v5 v6 : Option V), σ = [some (.ref p), some (.ref ph), some (.ref l), v3, v4, v5, v6] ∧ H' l = some (.lst fs) ∧ H' lp = some (.lst xp) ∧ H' ph = some (.tup (hows.map V.str)) ∧ DusAt H' fs (((tm.nds []).take i).flatMap (dueP tm hows)) ∧ PrsAt H' xp (tm.nds []) ∧ fs.length ≤ 16 * i ∧ i ≤ xp.length ∧ Same H H') ⟨[], none, none, none, none, rfl, s4 _ _ g2, hxp, hph4, .nil, P, Nat.zero_le _, Nat.zero_le _, s04⟩ (fun i σ H' _ ⟨_, _, _, _, _, _, _, h, _⟩ => SqL.of h) ?_ ?_⟩
    · rintro i x σ H5 hx hz_
      refine hideG fun Gz hGz => ?_
      obtain ⟨fs, v3, v4, v5, v6, rfl, f1, f2, f3, F, P5, hfl, hil, s5⟩ := hz_
      refine hGz ?_
      clear hGz Gz
      have hi' := (List.getElem?_eq_some_iff.mp hx).1
      refine hideG fun Gz hGz => ?_
      obtain ⟨z, hz, a, b, c, rfl, ha, hb, hc⟩ := paired_getL P5 hx
      refine hGz ?_
      clear hGz Gz
      have hzm := List.mem_of_getElem? hz
      have okz := nds_ok ht hzm
      have hzl := nds_sl hzm
      refine ⟨a, _, rfl, SqT.of ha, rfl, _, _, rfl, _, _, rfl, rfl, ?_⟩
      refine ⟨_, rfl, ph, rfl, ⟨_, SqT.of f3⟩, for_tup (K := K) (a := ph) (xs := hows.map V.str) (fun m σ H' => ∃ (fs : List V) (v5 v6 : Option V), σ = [some (.ref p), some (.ref ph), some (.ref l), some (.ref b), some (.ref c), v5, v6] ∧ H' l = some (.lst fs) ∧ H' lp = some (.lst xp) ∧ H' ph = some (.tup (hows.map V.str)) ∧ DusAt H' fs (((tm.nds []).take i).flatMap (dueP tm hows) ++ dueP tm (hows.take m) z) ∧ PrsAt H' xp (tm.nds []) ∧ H' b = some (.tup (z.1.map V.int)) ∧ H' c = some (.tup z.2.flat) ∧ fs.length ≤ 16 * i + m ∧ m ≤ 16 ∧ Same H H') ⟨fs, v5, v6, rfl, f1, f2, f3, by show DusAt H5 fs (_ ++ []); rw [List.append_nil]; exact F, P5, hb, hc, hfl, Nat.zero_le _, s5⟩ (fun m σ H' _ ⟨_, _, _, _, _, _, h, _⟩ => SqT.of h) ?_ ?_⟩
      · rintro m y σ H6 hy hz_
        refine hideG fun Gz hGz => ?_
        obtain ⟨fs, v5, v6, rfl, f1, f2, f3, F, P6, hb, hc, hfl, hm, s6⟩ := hz_
        refine hGz ?_
        clear hGz Gz
        have hm' : m < 16 := by
          have := (List.getElem?_eq_some_iff.mp hy).1
          rw [List.length_map, hhl] at this
          exact this
        obtain ⟨h, hh, rfl⟩ : ∃ h, hows[m]? = some h ∧ y = .str h := by
          rw [List.getElem?_map] at hy
          cases e : hows[m]? with
          | none => rw [e] at hy; cases hy
          | some h => rw [e] at hy; exact ⟨h, rfl, (Option.some.inj hy).symm⟩
        refine gName_go ?_
        refine ⟨_, rfl, _, rfl, h, c, ys, z.2, rfl, hc, hk, okz, by lia, fun e H7 s7 => gName_go ?_, fun x zx H7 e hzx s7 => gName_go ?_⟩
        · refine ⟨_, rfl, rfl, _, rfl, iteF ⟨fs, _, _, rfl, s7 _ _ f1, s7 _ _ f2, s7 _ _ f3, ?_, P6.same s7, s7 _ _ hb, s7 _ _ hc, by lia, hm', s6.trans s7⟩⟩
          rw [take_snoc' hh, dueP_none e]
          exact F.same s7
        · have hxl2 := trn_len hk okz e
          refine ⟨_, rfl, rfl, _, rfl, iteT ⟨_, rfl, .inl ⟨rfl, _, SqL.of (s7 _ _ f1)⟩, _, rfl, _, rfl, _, rfl, _, rfl, _, rfl, p, b, zx, ys, tm, x, z.2, z.1, rfl, (s6.trans s7) _ _ hp, s7 _ _ hb, hzx, hk, ht, by lia, by lia, by lia, hzm, fun z2 H8 hz2 s8 => ⟨by show 3 ≤ sizeLine; decide, fun pp hpp => ?_⟩⟩⟩
          have w9 := same_upd (o := .tup [.ref b, .str h, .ref z2]) hpp
          have s69 := s7.trans (s8.trans w9)
          have f1' := s69 _ _ f1
          refine ⟨l, _, _, rfl, rfl, f1', small1000 (by lia), fs ++ [.ref pp], _, _, rfl, upd_same, ?_, tup_put (s69 _ _ f3) f1', ?_, (P6.same s69).put f1', tup_put (s69 _ _ hb) f1', tup_put (s69 _ _ hc) f1', by rw [List.length_append]; show _ + 1 ≤ _; lia, hm', same_put (s6.trans s69) hln⟩
          · rw [upd_ne hlpn.symm]; exact s69 _ _ f2
          · rw [take_snoc' hh, dueP_some e, ← List.append_assoc]
            exact ((F.same s69).put f1').snoc (b := (z.1, h, putT tm z.1 x)) ⟨pp, b, z2, rfl, tup_put upd_same f1', tup_put (s69 _ _ hb) f1', tup_put (w9 _ _ hz2) f1'⟩
      · rintro σ H6 hz_
        refine hideG fun Gz hGz => ?_
        obtain ⟨fs, v5, v6, rfl, f1, f2, f3, F, P6, hb, hc, hfl, hm, s6⟩ := hz_
        refine hGz ?_
        clear hGz Gz
        rw [List.length_map, List.take_length] at F
        refine ⟨fs, _, _, _, _, rfl, f1, f2, f3, ?_, P6, ?_, hi', s6⟩
        · rw [take_snoc' hz, List.flatMap_append]
          show DusAt H6 fs (_ ++ (_ ++ []))
          rw [List.append_nil]
          exact F
        · rw [List.length_map, hhl] at hfl
          lia
    · rintro σ H5 hz_
      refine hideG fun Gz hGz => ?_
      obtain ⟨fs, v3, v4, v5, v6, rfl, f1, f2, f3, F, P5, hfl, hil, s5⟩ := hz_
      refine hGz ?_
      clear hGz Gz
      rw [hxl, ← hnl, List.take_length] at F
      exact ⟨_, rfl, k l fs H5 hln f1 F s5⟩
inductive sp_law_i (K : PySem.W.Frag) (vs : List V) (H : Hp) (Q : VK) : Prop
  | mk (a : Addr) (ns : List Int) : (vs = [.ref a]) → (SqL K H a (ns.map V.int)) → (ns.length ≤ 63) → (∀ H', Q (.bl true) H') → sp_law_i K vs H Q
def sp_law (K : PySem.W.Frag) : Sp := fun vs H Q _ => sp_law_i K vs H Q
theorem ok_law (T : Txt K w mg t) : FnOk P w K mg base CX0 45 t.a_law t.f_law ["script"] (sp_law K) := by
  have G_steps : FnOk P w K mg base CX0 5 t.a_steps t.f_steps ["words"] (sp_steps K) := ok_steps T
  have G_led : FnOk P w K mg base CX0 6 t.a_led t.f_led ["words", "chain"] (sp_led K) := ok_led T
  have G_law_steps : FnOk P w K mg base CX0 44 t.a_law_steps t.f_law_steps ["words"] (sp_law_steps K) := ok_law_steps T
  have G_law_fit : FnOk P w K mg base CX0 21 t.a_law_fit t.f_law_fit ["script", "at", "many", "most"] (sp_law_fit K) := ok_law_fit T
  have G_law_draw : FnOk P w K mg base CX0 1 t.a_law_draw t.f_law_draw ["script", "k"] (sp_law_draw K) := ok_law_draw T
  refine T.d_law.F.ok sc_law (fun vs H Q E h => ?_) (fun cdv A outer s H vs Q E hr h => ?_)
  · obtain ⟨a, ns, rfl, ha, hl, k⟩ := h
    rfl
  · obtain ⟨a, ns, rfl, ha, hl, k⟩ := h
    have hu := hu_of hr
    refine ⟨_, @QSs.out _ _ _ (qss_cons (qs_set (i := 1) sc_law.nd rfl (Or.inl rfl) (qe_op op_add qe_int (qe_op op_mod (qe_callF G_law_draw (hr.mono (by decide)) rfl T.d_law_draw.m T.d_law_draw.F.kp T.d_law_draw.b .nil pass0 (qa_c (qv 0) (qa_c qe_int qa_nil))) qe_int)))
        (qss_cons (qs_set (i := 2) sc_law.nd rfl (Or.inl rfl) (qe_callF G_law_fit (hr.mono (by decide)) rfl T.d_law_fit.m T.d_law_fit.F.kp T.d_law_fit.b .nil pass0 (qa_c (qv 0) (qa_c qe_int (qa_c (qv 1) (qa_c qe_int qa_nil))))))
        (qss_cons (qs_set (i := 3) sc_law.nd rfl (Or.inl rfl) (qe_callF G_law_steps (hr.mono (by decide)) rfl T.d_law_steps.m T.d_law_steps.F.kp T.d_law_steps.b .nil pass0 (qa_c (qv 2) qa_nil)))
        (qss_cons (qs_set (i := 4) sc_law.nd rfl (Or.inl rfl) (qe_callF G_steps (hr.mono (by decide)) rfl T.d_steps.m T.d_steps.F.kp T.d_steps.b .nil pass0 (qa_c (qv 2) qa_nil)))
        (qss_cons (qs_if (qw_pt (qw_or (qt_not (qt_val (qe_callBF call_isi (by rfl) T.z_isinstance bt_isinstance (qa_c (qv 4) (qa_c (qe_bltn (v := .ty "list") (by rfl) T.z_list bt_list rfl) qa_nil))))) (qw_or1 (qt_cmpR (op_neLB (units4_of hr)) (qv 4) (qe_comp3 (⟨by rfl, by decide +kernel, by decide +kernel, by rfl, by decide +kernel, by decide +kernel, by rfl, by decide +kernel⟩ : CompSc (defScope s_law) _ ["script", "many", "words", "due", "found", "path", "how", "spun"] "path" [] []) (⟨by rfl, by rfl, by decide +kernel⟩ : Thr _ "path" "how" "spun" []) (qi_list (qv 3)) (fun _ _ _ _ => qf_nil) (fun _ _ _ _ => (qe_tup (qa_c (qv 0) (qa_c (qv 1) qa_nil))))) (nomark _)))))
        (qss_one (qs_ret qe_bl)) qss_nil)
        (qss_cons (qs_expr (qe_bm0 PySem.F.plainAttrs_list PySem.F.slot_list_clear PySem.F.type_list_clear mt_clear (qv 4)))
        (qss_cons (qs_for PassesOwn.never rfl (qi_list (qv 3)) (qg_tri rfl (qg_name (i := 5) sc_law.nd rfl (Or.inl rfl)) (qg_name (i := 6) sc_law.nd rfl (Or.inl rfl)) (qg_name (i := 7) sc_law.nd rfl (Or.inl rfl)))
        (qss_one (qs_if (qt_cmpR (op_neTT (units_of hr)) (qe_callF G_led (hr.mono (by decide)) rfl T.d_led.m T.d_led.F.kp T.d_led.b .nil pass0 (qa_c (qv 2) (qa_c (qe_tup (qa_c (qe_tup (qa_c (qv 5) (qa_c (qv 6) qa_nil))) qa_nil)) qa_nil))) (qv 7) (nomark _))
        (qss_one (qs_ret qe_bl)) qss_nil)))
        (qss_one (qs_ret (qe_and (qe_cmpR (op_eqTT (units_of hr)) (qe_callF G_led (hr.mono (by decide)) rfl T.d_led.m T.d_led.F.kp T.d_led.b .nil pass0 (qa_c (qv 2) (qa_c (qe_tup qa_nil) qa_nil))) (qv 2) (nomark _)) (qe_one (qe_cmpR (op_eqLB (units4_of hr)) (qe_callF G_steps (hr.mono (by decide)) rfl T.d_steps.m T.d_steps.F.kp T.d_steps.b .nil pass0 (qa_c (qv 2) qa_nil)) (qe_comp3 (⟨by rfl, by decide +kernel, by decide +kernel, by rfl, by decide +kernel, by decide +kernel, by rfl, by decide +kernel⟩ : CompSc (defScope s_law) _ ["script", "many", "words", "due", "found", "path", "how", "spun"] "path" [] []) (⟨by rfl, by rfl, by decide +kernel⟩ : Thr _ "path" "how" "spun" []) (qi_list (qv 3)) (fun _ _ _ _ => qf_nil) (fun _ _ _ _ => (qe_tup (qa_c (qv 0) (qa_c (qv 1) qa_nil))))) (nomark _))))))))))))), ?_⟩
    clear hu hr
    try dsimp only [L2.cxK, L2.cxK2]
    refine L2.let8 ?_
    intro U7 U6 U5 U4 U3 U2 U1
    refine ⟨_, rfl, a, ns, 4, rfl, ha, hl, by decide, fun H1 s1 => ⟨_, _, rfl, rfl, (by show (0 : Int) < 3; decide), _, _, rfl, rfl, gName_go ?_⟩⟩
    obtain ⟨m, hm, hm1, hm3⟩ : ∃ m : Nat, 1 + drw ns 4 % 3 = (m : Int) ∧ 1 ≤ m ∧ m ≤ 3 := by
      have h1 := Int.emod_nonneg (drw ns 4) (b := 3) (by decide)
      have h2 := Int.emod_lt_of_pos (drw ns 4) (b := 3) (by decide)
      exact ⟨(1 + drw ns 4 % 3).toNat, by lia, by lia, by lia⟩
    try dsimp only
    rw [hm]
    have hk := namesN_NK ns m
    refine ⟨_, rfl, _, rfl, a, ns, m, 24, rfl, sqL_same ha s1, hl, hm1, hm3, by decide, by decide, fun tm zw H2 ok hx hzw s2 => gName_go ?_⟩
    refine ⟨_, rfl, zw, _, tm, rfl, hzw, hk, ok, hx, fun ld xd H3 _ hld D3 s3 => gName_go ?_⟩
    refine ⟨_, rfl, zw, _, tm, rfl, s3 _ _ hzw, hk, ok, Nat.le_trans hx (by decide), fun lf xf H4 hlfn hlf S4 s4 => gName_go ?_⟩
    rw [steps_due hk ok] at S4
    have hzw4 := s4 _ _ (s3 _ _ hzw)
    have D4 := D3.same s4
    have hld4 := s4 _ _ hld
    have hne : ld ≠ lf := fun z => by rw [← z, hld] at hlfn; cases hlfn
    clear hld D3 s3 s4 hzw s2 s1 ha hl
    refine ⟨_, rfl, _, _, _, _, rfl, .lst hlf, kit_ll, _, rfl, ?_⟩
    have hdl := due_len tm
    have hxd : xd.length ≤ 900 := by rw [D4.length]; lia
    refine iteF ⟨_, rfl, comp_due rfl hld4 D4 hxd fun pc yc H5 hpc C5 s5 => ?_⟩
    refine ⟨lf, pc, xf, yc, fun _ => true, rfl, rfl, s5 _ _ hlf, hpc, fun _ => eqB_stps (S4.same s5) C5, _, rfl, ?_⟩
    rw [show (!((List.range xf.length).all (fun _ => true) && xf.length == yc.length)) = false by rw [S4.length, C5.length]; simp]
    refine iteF ?_
    have hlf5 := s5 _ _ hlf
    refine ⟨_, rfl, .inl ⟨rfl, _, SqL.of hlf5⟩, lf, _, rfl, rfl, hlf5, ?_⟩
    have zw6 := tup_put (ys := []) (s5 _ _ hzw4) hlf5
    have D6 := (D4.same s5).put (ys := []) hlf5
    have ld6 : upd H5 lf (.lst []) ld = some (.lst xd) := by rw [upd_ne hne]; exact s5 _ _ hld4
    generalize upd H5 lf (.lst []) = H6 at *
    refine ⟨_, rfl, ld, rfl, ⟨_, SqL.of ld6⟩, for_list (K := K) (a := ld) (xs := xd) (fun i σ H' => ∃ (v5 v6 v7 : Option V), σ = [some (.ref a), some (.int (m : Int)), some (.ref zw), some (.ref ld), some (.ref lf), v5, v6, v7] ∧ Same H6 H') ⟨none, none, none, rfl, Same.refl _⟩ (fun i σ H' _ ⟨_, _, _, _, s⟩ => SqL.of (s _ _ ld6)) ?_ ?_⟩
    · rintro i x σ H7 hx7 hz_
      refine hideG fun Gz hGz => ?_
      obtain ⟨v5, v6, v7, rfl, s7⟩ := hz_
      refine hGz ?_
      clear hGz Gz
      refine hideG fun Gz hGz => ?_
      obtain ⟨d, hd, a1, b, c, rfl, ha1, hb, hc⟩ := paired_getL D6 hx7
      refine hGz ?_
      clear hGz Gz
      have hdm := List.mem_of_getElem? hd
      refine hideG fun Gz hGz => ?_
      obtain ⟨j, sm, x, hj, htr, hput⟩ := due_mem hdm
      refine hGz ?_
      clear hGz Gz
      have hst : (d.1, d.2.1) ∈ stepsT tm := by rw [steps_due hk ok]; exact List.mem_map.mpr ⟨d, hdm, rfl⟩
      obtain ⟨tn, hS⟩ := stp_ex hst
      have hfl := stp_put hS hj htr
      rw [← hput] at hfl
      have okn := hS.ok ok
      refine ⟨a1, _, rfl, SqT.of (s7 _ _ ha1), rfl, _, _, rfl, _, _, rfl, _, _, rfl, rfl, ?_⟩
      refine ⟨_, rfl, _, rfl, _, rfl, by show 2 ≤ sizeLine; decide, fun t1 ht1 => ⟨by show 1 ≤ sizeLine; decide, fun t2 ht2 => ?_⟩⟩
      have w1 := same_upd (o := .tup [.ref b, .str d.2.1]) ht1
      have w2 := same_upd (o := .tup [.ref t1]) ht2
      have s79 := s7.trans (w1.trans w2)
      refine ⟨zw, t2, _, tm, tn, [.ref t1], [(d.1, d.2.1)], rfl, s79 _ _ zw6, upd_same, .cons ⟨t1, b, rfl, w2 _ _ upd_same, s79 _ _ hb⟩ .nil, hk, ok, .cons hst (Nat.le_trans hx (by decide)) hS .nil, fun z H8 hz s8 => ?_⟩
      have s8' := s79.trans s8
      have hc8 := s8' _ _ hc
      rw [← hfl] at hc8
      refine ⟨_, rfl, z, c, _, _, rfl, rfl, SqT.of hz, SqT.of hc8, si_all (tn.si okn), si_all (tn.si okn), _, rfl, ?_⟩
      rw [if_pos rfl, eqvs_si (tn.si okn) (tn.si okn), decide_eq_true rfl]
      exact iteF ⟨_, _, _, rfl, s8'⟩
    · rintro σ H7 hz_
      refine hideG fun Gz hGz => ?_
      obtain ⟨v5, v6, v7, rfl, s7⟩ := hz_
      refine hGz ?_
      clear hGz Gz
      refine ⟨_, rfl, by show 0 ≤ sizeLine; decide, fun e0 he0 => ?_⟩
      have w0 := same_upd (o := .tup []) he0
      have s70 := s7.trans w0
      refine ⟨zw, e0, _, tm, tm, [], [], rfl, s70 _ _ zw6, upd_same, .nil, hk, ok, .nil, fun z H8 hz s8 => ?_⟩
      have s78 := s70.trans s8
      have sik := tm.si ok
      refine ⟨_, rfl, z, zw, _, _, rfl, rfl, SqT.of hz, SqT.of (s78 _ _ zw6), si_all sik, si_all sik, _, rfl, ?_⟩
      rw [if_neg Bool.false_ne_true, eqvs_si sik sik, decide_eq_true rfl]
      refine iteT ⟨_, rfl, zw, _, tm, rfl, s78 _ _ zw6, hk, ok, Nat.le_trans hx (by decide), fun l2 x2 H9 hl2n hl2 S9 s9 => ?_⟩
      rw [steps_due hk ok] at S9
      have s79 := s78.trans s9
      refine comp_due rfl (s79 _ _ ld6) (D6.same s79) hxd fun p2 y2 H10 hp2 C10 s10 => ?_
      refine ⟨l2, p2, x2, y2, fun _ => true, rfl, rfl, s10 _ _ hl2, hp2, fun _ => eqB_stps (S9.same s10) C10, ?_⟩
      rw [show ((List.range y2.length).all (fun _ => true) && (x2.length == y2.length)) = true by rw [S9.length, C10.length]; simp]
      exact k _
end
def FnIn (K : PySem.W.Frag) (x q : Str) (st : Stmt) (f : Addr) (pc : Value → Prop) : Prop := ∃ oc od sl kV dc pm an cd ct, PySem.W.nsIn K mainGlobals x = some (some (.ref f)) ∧ K.lookup f = some ⟨oc, od, .func (PySem.W.fnOf x q (defArgs st) (defBody st) (defScope st) .none kV dc pm an cd ct), sl⟩ ∧ PySem.W.codeIn K cd q = true ∧ PySem.W.keepIn K (.ref f) = true ∧ pc cd
abbrev Fi (K : PySem.W.Frag) (x : Str) (st : Stmt) (f : Addr) : Prop := FnIn K x x st f fun _ => True
theorem df_of {K : PySem.W.Frag} {hp : Heap} {mg : Str → Option Value} {x : Str} {st : Stmt} {f : Addr} {pc : Value → Prop} (X : K.In hp) (G : hp.Ns mainGlobals mg) (d : FnIn K x x st f pc) (ps : List Str) (h : ∀ (kV doc pm : Value) (an : Option Addr) (cdv ct : Value) (us : List Value), us.length = ps.length → bindArgs (PySem.W.fnOf x x (defArgs st) (defBody st) (defScope st) .none kV doc pm an cdv ct) ⟨us, []⟩ = pure (ps.zip us)) : ∃ fd, Df K mg x st ps f fd ∧ pc fd.code := by
  obtain ⟨_, _, _, _, _, _, _, _, _, a, l, c, k, q⟩ := d
  have F := fun_mk (st := st) l c k
  exact ⟨_, ⟨F, PySem.W.mg_of X G a, F.binds h⟩, q⟩
theorem all_mk {l : PySem.W.OpenLaw} {w : World} {K : PySem.W.Frag} {h : Heap} {mg : Str → Option Value} {fa : Addr} {f0 f1 f2 f3 f4 f5 f6 f7 f8 f9 f10 f11 f12 f13 f14 f15 f16 f17 f18 f19 f20 f21 f22 f23 f24 f25 f26 f27 f28 f29 f30 f31 : Addr} (X : K.In h) (G : h.Ns mainGlobals mg) (hfa : mg "law" = some (.ref fa))
    (d0 : Fi K "is_sum_word" s_is_sum_word f0)
    (d1 : Fi K "is_claim_word" s_is_claim_word f1)
    (d2 : Fi K "sums_behind" s_sums_behind f2)
    (d3 : Fi K "claims_behind" s_claims_behind f3)
    (d4 : Fi K "is_made_of" s_is_made_of f4)
    (d5 : Fi K "_law_draw" s_law_draw f5)
    (d6 : Fi K "_law_arity" s_law_arity f6)
    (d7 : Fi K "_law_carries" s_law_carries f7)
    (d8 : Fi K "_law_joined" s_law_joined f8)
    (d9 : Fi K "parts_of" s_parts_of f9)
    (d10 : Fi K "is_name" s_is_name f10)
    (d11 : Fi K "_law_word" s_law_word f11)
    (d12 : Fi K "_law_parts" s_law_parts f12)
    (d13 : Fi K "part_end" s_part_end f13)
    (d14 : Fi K "paths_of" s_paths_of f14)
    (d15 : Fi K "is_part_name" s_is_part_name f15)
    (d16 : Fi K "_law_leaf" s_law_leaf f16)
    (d17 : Fi K "_law_turned_two" s_law_turned_two f17)
    (d18 : Fi K "_law_turned_one" s_law_turned_one f18)
    (d19 : Fi K "parts_bound" s_parts_bound f19)
    (d20 : Fi K "filled" s_filled f20)
    (d21 : Fi K "_law_turned" s_law_turned f21)
    (d22 : Fi K "stepped_once" s_stepped_once f22)
    (d23 : Fi K "steps" s_steps f23)
    (d24 : Fi K "led" s_led f24)
    (d25 : Fi K "_law_two" s_law_two f25)
    (d26 : Fi K "_law_sum" s_law_sum f26)
    (d27 : Fi K "_law_fit" s_law_fit f27)
    (d28 : Fi K "_law_paths" s_law_paths f28)
    (d29 : Fi K "_law_put" s_law_put f29)
    (d30 : Fi K "_law_steps" s_law_steps f30)
    (d31 : Fi K "law" s_law f31)
    {GSUM_PARTS : Addr} {ESUM_PARTS : Array DictEntry} {PSUM_PARTS : Nat} (ga_SUM_PARTS : PySem.W.nsIn K mainGlobals "SUM_PARTS" = some (some (.ref GSUM_PARTS))) (gl_SUM_PARTS : K.lookup GSUM_PARTS = some { cls := .type "dict", dict := none, data := .dict ESUM_PARTS PSUM_PARTS, slots := #[] }) (ge_SUM_PARTS : KTab w.params ESUM_PARTS.toList [("not", 1), ("neg", 1), ("twice", 1), ("low", 1), ("and", 2), ("or", 2), ("odd", 2), ("add", 2), ("sub", 2), ("pick", 3)]) (gn_SUM_PARTS : (GSUM_PARTS == sysModules) = false)
    {GSUMS_IN_CLAIM : Addr} {ESUMS_IN_CLAIM : Array DictEntry} {PSUMS_IN_CLAIM : Nat} (ga_SUMS_IN_CLAIM : PySem.W.nsIn K mainGlobals "SUMS_IN_CLAIM" = some (some (.ref GSUMS_IN_CLAIM))) (gl_SUMS_IN_CLAIM : K.lookup GSUMS_IN_CLAIM = some { cls := .type "dict", dict := none, data := .dict ESUMS_IN_CLAIM PSUMS_IN_CLAIM, slots := #[] }) (ge_SUMS_IN_CLAIM : KTab w.params ESUMS_IN_CLAIM.toList [("same", 2), ("under", 2), ("beneath", 2), ("sign", 1), ("nought", 1)]) (gn_SUMS_IN_CLAIM : (GSUMS_IN_CLAIM == sysModules) = false)
    {GCLAIMS_IN_CLAIM : Addr} {ECLAIMS_IN_CLAIM : Array DictEntry} {PCLAIMS_IN_CLAIM : Nat} (ga_CLAIMS_IN_CLAIM : PySem.W.nsIn K mainGlobals "CLAIMS_IN_CLAIM" = some (some (.ref GCLAIMS_IN_CLAIM))) (gl_CLAIMS_IN_CLAIM : K.lookup GCLAIMS_IN_CLAIM = some { cls := .type "dict", dict := none, data := .dict ECLAIMS_IN_CLAIM PCLAIMS_IN_CLAIM, slots := #[] }) (ge_CLAIMS_IN_CLAIM : KTab w.params ECLAIMS_IN_CLAIM.toList [("both", 2), ("either", 2), ("so", 2), ("never", 1), ("yes", 0)]) (gn_CLAIMS_IN_CLAIM : (GCLAIMS_IN_CLAIM == sysModules) = false)
    {KLETTERS : Tok} (ga_LETTERS : PySem.W.nsIn K mainGlobals "LETTERS" = some (some (.str "abcdefghijklmnopqrstuvwxyz" KLETTERS)))
    {KLONGEST_NAME : Tok} (ga_LONGEST_NAME : PySem.W.nsIn K mainGlobals "LONGEST_NAME" = some (some (.int 8 KLONGEST_NAME)))
    {GTURNINGS : Addr} (ga_TURNINGS : PySem.W.nsIn K mainGlobals "TURNINGS" = some (some (.ref GTURNINGS))) (gr_TURNINGS : rowsV K (.ref GTURNINGS) turns = true)
    (z_all : PySem.W.nsIn K mainGlobals "all" = some none)
    (z_enumerate : PySem.W.nsIn K mainGlobals "enumerate" = some none)
    (z_int : PySem.W.nsIn K mainGlobals "int" = some none)
    (z_isinstance : PySem.W.nsIn K mainGlobals "isinstance" = some none)
    (z_len : PySem.W.nsIn K mainGlobals "len" = some none)
    (z_list : PySem.W.nsIn K mainGlobals "list" = some none)
    (z_max : PySem.W.nsIn K mainGlobals "max" = some none)
    (z_min : PySem.W.nsIn K mainGlobals "min" = some none)
    (z_range : PySem.W.nsIn K mainGlobals "range" = some none)
    (z_str : PySem.W.nsIn K mainGlobals "str" = some none)
    (z_tuple : PySem.W.nsIn K mainGlobals "tuple" = some none)
    : ∃ fd : FuncData, (∀ (s : Shared) (v : Value), BindsTo s fd ⟨[v], []⟩ [("script", v)]) ∧ ∀ base : Heap, K.In base → base.Ns mainGlobals mg → FnOk l.prog w K mg base CX0 45 fa fd ["script"] (sp_law K) := by
  obtain ⟨_, _, _, kV31, dc31, pm31, an31, cd31, ct31, a31, l31, c31, k31, _⟩ := d31
  have e := hfa.symm.trans (PySem.W.mg_of X G a31)
  cases e
  obtain ⟨_, D0, q0⟩ := df_of X G d0 ["text"] fun _ _ _ _ _ _ => L2.len1 fun _ => rfl
  obtain ⟨_, D1, q1⟩ := df_of X G d1 ["text"] fun _ _ _ _ _ _ => L2.len1 fun _ => rfl
  obtain ⟨_, D2, q2⟩ := df_of X G d2 ["word"] fun _ _ _ _ _ _ => L2.len1 fun _ => rfl
  obtain ⟨_, D3, q3⟩ := df_of X G d3 ["word"] fun _ _ _ _ _ _ => L2.len1 fun _ => rfl
  obtain ⟨_, D4, q4⟩ := df_of X G d4 ["text", "signs"] fun _ _ _ _ _ _ => L2.len2 fun _ _ => rfl
  obtain ⟨_, D5, q5⟩ := df_of X G d5 ["script", "k"] fun _ _ _ _ _ _ => L2.len2 fun _ _ => rfl
  obtain ⟨_, D6, q6⟩ := df_of X G d6 ["word"] fun _ _ _ _ _ _ => L2.len1 fun _ => rfl
  obtain ⟨_, D7, q7⟩ := df_of X G d7 ["words"] fun _ _ _ _ _ _ => L2.len1 fun _ => rfl
  obtain ⟨_, D8, q8⟩ := df_of X G d8 ["word", "shares"] fun _ _ _ _ _ _ => L2.len2 fun _ _ => rfl
  obtain ⟨_, D9, q9⟩ := df_of X G d9 ["word"] fun _ _ _ _ _ _ => L2.len1 fun _ => rfl
  obtain ⟨_, D10, q10⟩ := df_of X G d10 ["text"] fun _ _ _ _ _ _ => L2.len1 fun _ => rfl
  obtain ⟨_, D11, q11⟩ := df_of X G d11 ["script", "i"] fun _ _ _ _ _ _ => L2.len2 fun _ _ => rfl
  obtain ⟨_, D12, q12⟩ := df_of X G d12 ["words"] fun _ _ _ _ _ _ => L2.len1 fun _ => rfl
  obtain ⟨_, D13, q13⟩ := df_of X G d13 ["words", "begin"] fun _ _ _ _ _ _ => L2.len2 fun _ _ => rfl
  obtain ⟨_, D14, q14⟩ := df_of X G d14 ["words"] fun _ _ _ _ _ _ => L2.len1 fun _ => rfl
  obtain ⟨_, D15, q15⟩ := df_of X G d15 ["word"] fun _ _ _ _ _ _ => L2.len1 fun _ => rfl
  obtain ⟨_, D16, q16⟩ := df_of X G d16 ["script", "draw", "many"] fun _ _ _ _ _ _ => L2.len3 fun _ _ _ => rfl
  obtain ⟨_, D17, q17⟩ := df_of X G d17 ["how", "word", "shares"] fun _ _ _ _ _ _ => L2.len3 fun _ _ _ => rfl
  obtain ⟨_, D18, q18⟩ := df_of X G d18 ["how", "word", "one"] fun _ _ _ _ _ _ => L2.len3 fun _ _ _ => rfl
  obtain ⟨_, D19, q19⟩ := df_of X G d19 ["form", "words"] fun _ _ _ _ _ _ => L2.len2 fun _ _ => rfl
  obtain ⟨_, D20, q20⟩ := df_of X G d20 ["form", "bound"] fun _ _ _ _ _ _ => L2.len2 fun _ _ => rfl
  obtain ⟨_, D21, q21⟩ := df_of X G d21 ["how", "words"] fun _ _ _ _ _ _ => L2.len2 fun _ _ => rfl
  obtain ⟨_, D22, q22⟩ := df_of X G d22 ["words", "path", "rule"] fun _ _ _ _ _ _ => L2.len3 fun _ _ _ => rfl
  obtain ⟨_, D23, q23⟩ := df_of X G d23 ["words"] fun _ _ _ _ _ _ => L2.len1 fun _ => rfl
  obtain ⟨_, D24, q24⟩ := df_of X G d24 ["words", "chain"] fun _ _ _ _ _ _ => L2.len2 fun _ _ => rfl
  obtain ⟨_, D25, q25⟩ := df_of X G d25 ["script", "at", "many", "fuel"] fun _ _ _ _ _ _ => L2.len4 fun _ _ _ _ => rfl
  obtain ⟨_, D26, q26⟩ := df_of X G d26 ["script", "at", "many", "fuel"] fun _ _ _ _ _ _ => L2.len4 fun _ _ _ _ => rfl
  obtain ⟨_, D27, q27⟩ := df_of X G d27 ["script", "at", "many", "most"] fun _ _ _ _ _ _ => L2.len4 fun _ _ _ _ => rfl
  obtain ⟨_, D28, q28⟩ := df_of X G d28 ["words"] fun _ _ _ _ _ _ => L2.len1 fun _ => rfl
  obtain ⟨_, D29, q29⟩ := df_of X G d29 ["words", "path", "part"] fun _ _ _ _ _ _ => L2.len3 fun _ _ _ => rfl
  obtain ⟨_, D30, q30⟩ := df_of X G d30 ["words"] fun _ _ _ _ _ _ => L2.len1 fun _ => rfl
  have F31 := fun_mk (st := s_law) l31 c31 k31
  have b31 := F31.binds (ps := ["script"]) fun _ _ _ _ _ _ => L2.len1 fun _ => rfl
  have T : Txt K w mg ⟨f0, _, f1, _, f2, _, f3, _, f4, _, f5, _, f6, _, f7, _, f8, _, f9, _, f10, _, f11, _, f12, _, f13, _, f14, _, f15, _, f16, _, f17, _, f18, _, f19, _, f20, _, f21, _, f22, _, f23, _, f24, _, f25, _, f26, _, f27, _, f28, _, f29, _, f30, _, fa, _, GSUM_PARTS, GSUMS_IN_CLAIM, GCLAIMS_IN_CLAIM, KLETTERS, KLONGEST_NAME, GTURNINGS⟩ := ⟨⟨PySem.W.mg_of X G ga_SUM_PARTS, ⟨⟨_, _, gl_SUM_PARTS, ge_SUM_PARTS⟩, by decide +kernel, gn_SUM_PARTS⟩⟩, ⟨PySem.W.mg_of X G ga_SUMS_IN_CLAIM, ⟨⟨_, _, gl_SUMS_IN_CLAIM, ge_SUMS_IN_CLAIM⟩, by decide +kernel, gn_SUMS_IN_CLAIM⟩⟩, ⟨PySem.W.mg_of X G ga_CLAIMS_IN_CLAIM, ⟨⟨_, _, gl_CLAIMS_IN_CLAIM, ge_CLAIMS_IN_CLAIM⟩, by decide +kernel, gn_CLAIMS_IN_CLAIM⟩⟩, PySem.W.mg_of X G ga_LETTERS, PySem.W.mg_of X G ga_LONGEST_NAME, ⟨PySem.W.mg_of X G ga_TURNINGS, rows_of gr_TURNINGS⟩, D0, D1, D2, D3, D4, D5, D6, D7, D8, D9, D10, D11, D12, D13, D14, D15, D16, D17, D18, D19, D20, D21, D22, D23, D24, D25, D26, D27, D28, D29, D30, ⟨F31, PySem.W.mg_of X G a31, b31⟩, PySem.W.mg_none_of X G z_all, PySem.W.mg_none_of X G z_enumerate, PySem.W.mg_none_of X G z_int, PySem.W.mg_none_of X G z_isinstance, PySem.W.mg_none_of X G z_len, PySem.W.mg_none_of X G z_list, PySem.W.mg_none_of X G z_max, PySem.W.mg_none_of X G z_min, PySem.W.mg_none_of X G z_range, PySem.W.mg_none_of X G z_str, PySem.W.mg_none_of X G z_tuple⟩
  exact ⟨_, fun s v => (show BindsTo s (PySem.W.fnOf "law" "law" (defArgs s_law) (defBody s_law) (defScope s_law) .none kV31 dc31 pm31 an31 cd31 ct31) ⟨[v], []⟩ [("script", v)] from .of_eq rfl), fun base hKb _ => ok_law T⟩
theorem walk {l : PySem.W.OpenLaw} {q : Program} {loose : List Str} {XP : (Str → Option Value) → Heap → Prop} {YP : World → Heap → Prop} {d : DefRec} {K : Params → PySem.W.Frag} (hn : l.most = some 63) (hdf : d.params.defaults = [])
    (hY : ∀ (w : World) (h : Heap), YP w h → (K w.params).In h)
    (F : ∀ (w : World) (mg : Str → Option Value) (fa : Addr) (h : Heap), (K w.params).In h → h.Ns mainGlobals mg → mg d.name = some (.ref fa) →
      ∃ fd : FuncData, (∀ (s : Shared) (u : Value), BindsTo s fd ⟨[u], []⟩ [("script", u)]) ∧ ∀ base : Heap, (K w.params).In base → base.Ns mainGlobals mg → FnOk l.prog w (K w.params) mg base CX0 45 fa fd ["script"] (sp_law (K w.params))) :
    PySem.W.WalkO q loose XP YP l.row.toRowW d [] (fun f vs => PySem.call f vs) :=
  L2.walk_of (n := 63) (k := 45) (x := "script") (CX := fun _ => CX0) (sp := fun w => sp_law (K w.params)) hn (by decide) hdf ⟨rfl, by decide, by decide⟩ hY F (fun _ _ a ns hl _ hS => ⟨a, ns, rfl, hS, hl, fun _ => rfl⟩) fun _ _ _ _ _ z => z
end Lw
open PySem PySem.W PyProof.Rows
set_option maxRecDepth 100000 in
set_option maxHeartbeats 0 in
theorem PySem.Challenge.cw_everywidth_k36_steps_told_holds : PySem.Challenge.rw_everywidth_k36_steps_told.Holds := by
  w_on; o_law; z_head; (case hw => w_witness2)
  refine L2.walk_X (fun _ => by kernel_rfl) ?_
  k_fill
  refine Lw.walk (l := PySem.Challenge.rw_everywidth_k36_steps_told) rfl rfl (fun w h Y => Y) ?F
  case F =>
    intro w mg fa h KX G hmg
    refine' Lw.all_mk KX G hmg ?d0 ?d1 ?d2 ?d3 ?d4 ?d5 ?d6 ?d7 ?d8 ?d9 ?d10 ?d11 ?d12 ?d13 ?d14 ?d15 ?d16 ?d17 ?d18 ?d19 ?d20 ?d21 ?d22 ?d23 ?d24 ?d25 ?d26 ?d27 ?d28 ?d29 ?d30 ?d31 ?ga_SUM_PARTS ?gl_SUM_PARTS ?ge_SUM_PARTS ?gn_SUM_PARTS ?ga_SUMS_IN_CLAIM ?gl_SUMS_IN_CLAIM ?ge_SUMS_IN_CLAIM ?gn_SUMS_IN_CLAIM ?ga_CLAIMS_IN_CLAIM ?gl_CLAIMS_IN_CLAIM ?ge_CLAIMS_IN_CLAIM ?gn_CLAIMS_IN_CLAIM ?ga_LETTERS ?ga_LONGEST_NAME ?ga_TURNINGS ?gr_TURNINGS ?z_all ?z_enumerate ?z_int ?z_isinstance ?z_len ?z_list ?z_max ?z_min ?z_range ?z_str ?z_tuple
    (case d0 => exact ⟨_, _, _, _, _, _, _, _, _, by k_is, by k_is, by k_is, by k_is, trivial⟩)
    (case d1 => exact ⟨_, _, _, _, _, _, _, _, _, by k_is, by k_is, by k_is, by k_is, trivial⟩)
    (case d2 => exact ⟨_, _, _, _, _, _, _, _, _, by k_is, by k_is, by k_is, by k_is, trivial⟩)
    (case d3 => exact ⟨_, _, _, _, _, _, _, _, _, by k_is, by k_is, by k_is, by k_is, trivial⟩)
    (case d4 => exact ⟨_, _, _, _, _, _, _, _, _, by k_is, by k_is, by k_is, by k_is, trivial⟩)
    (case d5 => exact ⟨_, _, _, _, _, _, _, _, _, by k_is, by k_is, by k_is, by k_is, trivial⟩)
    (case d6 => exact ⟨_, _, _, _, _, _, _, _, _, by k_is, by k_is, by k_is, by k_is, trivial⟩)
    (case d7 => exact ⟨_, _, _, _, _, _, _, _, _, by k_is, by k_is, by k_is, by k_is, trivial⟩)
    (case d8 => exact ⟨_, _, _, _, _, _, _, _, _, by k_is, by k_is, by k_is, by k_is, trivial⟩)
    (case d9 => exact ⟨_, _, _, _, _, _, _, _, _, by k_is, by k_is, by k_is, by k_is, trivial⟩)
    (case d10 => exact ⟨_, _, _, _, _, _, _, _, _, by k_is, by k_is, by k_is, by k_is, trivial⟩)
    (case d11 => exact ⟨_, _, _, _, _, _, _, _, _, by k_is, by k_is, by k_is, by k_is, trivial⟩)
    (case d12 => exact ⟨_, _, _, _, _, _, _, _, _, by k_is, by k_is, by k_is, by k_is, trivial⟩)
    (case d13 => exact ⟨_, _, _, _, _, _, _, _, _, by k_is, by k_is, by k_is, by k_is, trivial⟩)
    (case d14 => exact ⟨_, _, _, _, _, _, _, _, _, by k_is, by k_is, by k_is, by k_is, trivial⟩)
    (case d15 => exact ⟨_, _, _, _, _, _, _, _, _, by k_is, by k_is, by k_is, by k_is, trivial⟩)
    (case d16 => exact ⟨_, _, _, _, _, _, _, _, _, by k_is, by k_is, by k_is, by k_is, trivial⟩)
    (case d17 => exact ⟨_, _, _, _, _, _, _, _, _, by k_is, by k_is, by k_is, by k_is, trivial⟩)
    (case d18 => exact ⟨_, _, _, _, _, _, _, _, _, by k_is, by k_is, by k_is, by k_is, trivial⟩)
    (case d19 => exact ⟨_, _, _, _, _, _, _, _, _, by k_is, by k_is, by k_is, by k_is, trivial⟩)
    (case d20 => exact ⟨_, _, _, _, _, _, _, _, _, by k_is, by k_is, by k_is, by k_is, trivial⟩)
    (case d21 => exact ⟨_, _, _, _, _, _, _, _, _, by k_is, by k_is, by k_is, by k_is, trivial⟩)
    (case d22 => exact ⟨_, _, _, _, _, _, _, _, _, by k_is, by k_is, by k_is, by k_is, trivial⟩)
    (case d23 => exact ⟨_, _, _, _, _, _, _, _, _, by k_is, by k_is, by k_is, by k_is, trivial⟩)
    (case d24 => exact ⟨_, _, _, _, _, _, _, _, _, by k_is, by k_is, by k_is, by k_is, trivial⟩)
    (case d25 => exact ⟨_, _, _, _, _, _, _, _, _, by k_is, by k_is, by k_is, by k_is, trivial⟩)
    (case d26 => exact ⟨_, _, _, _, _, _, _, _, _, by k_is, by k_is, by k_is, by k_is, trivial⟩)
    (case d27 => exact ⟨_, _, _, _, _, _, _, _, _, by k_is, by k_is, by k_is, by k_is, trivial⟩)
    (case d28 => exact ⟨_, _, _, _, _, _, _, _, _, by k_is, by k_is, by k_is, by k_is, trivial⟩)
    (case d29 => exact ⟨_, _, _, _, _, _, _, _, _, by k_is, by k_is, by k_is, by k_is, trivial⟩)
    (case d30 => exact ⟨_, _, _, _, _, _, _, _, _, by k_is, by k_is, by k_is, by k_is, trivial⟩)
    (case d31 => exact ⟨_, _, _, _, _, _, _, _, _, by k_is, by k_is, by k_is, by k_is, trivial⟩)
    (case ga_SUM_PARTS => k_is)
    (case gl_SUM_PARTS => k_is)
    (case ge_SUM_PARTS => repeat (first | exact L2.KTab.nil | refine L2.KTab.cons ?_))
    (case gn_SUM_PARTS => first | rfl | decide +kernel)
    (case ga_SUMS_IN_CLAIM => k_is)
    (case gl_SUMS_IN_CLAIM => k_is)
    (case ge_SUMS_IN_CLAIM => repeat (first | exact L2.KTab.nil | refine L2.KTab.cons ?_))
    (case gn_SUMS_IN_CLAIM => first | rfl | decide +kernel)
    (case ga_CLAIMS_IN_CLAIM => k_is)
    (case gl_CLAIMS_IN_CLAIM => k_is)
    (case ge_CLAIMS_IN_CLAIM => repeat (first | exact L2.KTab.nil | refine L2.KTab.cons ?_))
    (case gn_CLAIMS_IN_CLAIM => first | rfl | decide +kernel)
    (case ga_LETTERS => k_is)
    (case ga_LONGEST_NAME => k_is)
    (case ga_TURNINGS => k_is)
    (case gr_TURNINGS => kernel_rfl)
    (case z_all => k_is)
    (case z_enumerate => k_is)
    (case z_int => k_is)
    (case z_isinstance => k_is)
    (case z_len => k_is)
    (case z_list => k_is)
    (case z_max => k_is)
    (case z_min => k_is)
    (case z_range => k_is)
    (case z_str => k_is)
    (case z_tuple => k_is)
#print axioms PySem.Challenge.cw_everywidth_k36_steps_told_holds
