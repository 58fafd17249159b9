import PyProof.Rows.All
import Wide.All
import OpenK.AllK
import Wide.FinOn
import Lean
import PyProof.EqAt
import PyProof.EqKinds
import PyProof.TupleCall
import PyProof.NeKinds
import KE.KRevSl
import KE.KRevIter
import PyProof.FactsAll.tuple
import PyProof.Rows.SortWalk
import PyProof.Rows.StrJoin2
import PyProof.StrBlockH
import PyProof.StrWalks
import PyProof.StrCalls2
import PyProof.ConsumeWalk
import KE.KIntText
import PyProof.Rows.SortStr
import PyProof.EnumStmt
import PyProof.WalksMore
import KE.KEqDict
import PyProof.DictWalks
import KE.KLam
import PyProof.Rows.SortShellK
import PyProof.AttrMissHeap
import KE.KDictOf
import PySem.Challenge.RW_everywidth_k08_whole_sums_at_widths
-- CHANGE: your row's module here, as the last of these rows
set_option Elab.async false
set_option linter.all false
set_option maxRecDepth 100000
namespace L2
open PySem PySem.Spec PyProof.Rows

/-- a key: an int or a str -/
abbrev Key := Sum Int Str
def keyIs : Key → Value → Bool
  | .inl k, v => Value.isInt k v
  | .inr x, v => Value.isStrOf x v
def keyH (w : World) : Key → Int
  | .inl k => hashInt k
  | .inr x => hashStr w x
theorem keyIs_shape : ∀ {k : Key} {v : Value}, keyIs k v = true → (∃ i t, k = Sum.inl i ∧ v = Value.int i t) ∨ (∃ x t, k = Sum.inr x ∧ v = Value.str x t)
  | .inl i, v, h => by
    obtain ⟨t, e⟩ := Value.isInt_shape (k := i) (v := v) h
    exact .inl ⟨i, t, rfl, e⟩
  | .inr x, v, h => by
    obtain ⟨t, e⟩ := Value.isStrOf_shape (x := x) (v := v) h
    exact .inr ⟨x, t, rfl, e⟩
theorem keyIs_int (i : Int) (t : Tok) : keyIs (.inl i) (.int i t) = true := by simp [keyIs, Value.isInt]
theorem keyIs_str (x : Str) (t : Tok) : keyIs (.inr x) (.str x t) = true := by simp [keyIs, Value.isStrOf]
theorem key_ll (a b : Int) : decide ((Sum.inl a : Key) = Sum.inl b) = (a == b) := by
  by_cases e : a = b
  · subst e; simp
  · have h : ¬ (Sum.inl a : Key) = Sum.inl b := fun q => e (Sum.inl.inj q)
    rw [decide_eq_false h]
    exact (beq_eq_false_iff_ne.mpr e).symm
theorem key_rr (a b : Str) : decide ((Sum.inr a : Key) = Sum.inr b) = decide (a = b) := by
  by_cases e : a = b
  · subst e; simp
  · have h : ¬ (Sum.inr a : Key) = Sum.inr b := fun q => e (Sum.inr.inj q)
    rw [decide_eq_false h, decide_eq_false e]
theorem key_lr (a : Int) (b : Str) : decide ((Sum.inl a : Key) = Sum.inr b) = false := decide_eq_false (fun q => nomatch q)
theorem key_rl (a : Str) (b : Int) : decide ((Sum.inr a : Key) = Sum.inl b) = false := decide_eq_false (fun q => nomatch q)

def mixKind (prog : Program) (w : World) : PySem.KeyKind prog w Key where
  is := keyIs
  hash := keyH w
  inj := fun v a b ha hb => by
    rcases keyIs_shape ha with ⟨i, t, rfl, rfl⟩ | ⟨x, t, rfl, rfl⟩
    · rcases keyIs_shape hb with ⟨j, u, rfl, e⟩ | ⟨y, u, rfl, e⟩
      · injection e with e1 _; rw [e1]
      · exact nomatch e
    · rcases keyIs_shape hb with ⟨j, u, rfl, e⟩ | ⟨y, u, rfl, e⟩
      · exact nomatch e
      · injection e with e1 _; rw [e1]
  byValue := fun k v h => by
    rcases keyIs_shape h with ⟨i, t, rfl, rfl⟩ | ⟨x, t, rfl, rfl⟩ <;> rfl
  pyHash := fun hv h => by
    rcases keyIs_shape hv with ⟨i, t, rfl, rfl⟩ | ⟨x, t, rfl, rfl⟩
    · exact wpAny_pyHash_int h
    · exact wpAny_pyHash_str h
  eqBool := fun hu hv h => by
    rcases keyIs_shape hu with ⟨i, t, rfl, rfl⟩ | ⟨x, t, rfl, rfl⟩
    · rcases keyIs_shape hv with ⟨j, u, rfl, rfl⟩ | ⟨y, u, rfl, rfl⟩
      · rw [key_ll] at h; exact wpAny_eqBool_int h
      · rw [key_lr] at h; exact SeqAt.EqAt.int_str i t y u _ _ _ _ h
    · rcases keyIs_shape hv with ⟨j, u, rfl, rfl⟩ | ⟨y, u, rfl, rfl⟩
      · rw [key_rl] at h; exact SeqAt.EqAt.str_int x t j u _ _ _ _ h
      · rw [key_rr] at h; exact wpAny_eqBool_str h
  «strs» := fun k x t v h => by
    rcases keyIs_shape h with ⟨i, u, rfl, e⟩ | ⟨y, u, rfl, e⟩
    · exact nomatch e
    · injection e with e1 _
      subst e1
      cases v <;> rfl

theorem mixKind_int (prog : Program) (w : World) (i : Int) (t : Tok) : (mixKind prog w).is (.inl i) (.int i t) = true := keyIs_int i t
theorem mixKind_str (prog : Program) (w : World) (x : Str) (t : Tok) : (mixKind prog w).is (.inr x) (.str x t) = true := keyIs_str x t
end L2

namespace L2
open PySem PySem.Spec PyProof.Rows

/-- a value, without the heap -/
inductive V where
  | non | bl (b : Bool) | int (i : Int) | str (x : Str) | byt (b : Array UInt8) | flt (b : UInt64) | ref (a : Addr) | ty (n : String)
  deriving DecidableEq

def RelV : V → Value → Prop
  | .non, u => u = Value.none
  | .bl b, u => u = Value.bool b
  | .int i, u => ∃ t, u = Value.int i t
  | .str x, u => ∃ t, u = Value.str x t
  | .byt b, u => ∃ t, u = Value.bytes b t
  | .flt b, u => ∃ t, u = Value.float b t
  | .ref a, u => u = Value.ref a
  | .ty n, u => u = Value.type n

abbrev Vals : List V → List Value → Prop := Paired RelV
theorem Vals.length {xs : List V} {us : List Value} (r : Vals xs us) : xs.length = us.length := Paired.length r
theorem Vals.get : ∀ {xs : List V} {us : List Value} {i : Nat} {x : V}, Vals xs us → xs[i]? = some x → ∃ u, us[i]? = some u ∧ RelV x u
  | _, _, _, _, .nil, e => by simp at e
  | _, _, 0, _, .cons r _, e => by simp at e; subst e; exact ⟨_, rfl, r⟩
  | _, _, i + 1, x, .cons _ t, e => by
    obtain ⟨u, h1, h2⟩ := Vals.get (i := i) (x := x) t (by simpa using e)
    exact ⟨u, by simpa using h1, h2⟩
theorem Vals.set {x : V} {u : Value} (r : RelV x u) : ∀ {xs : List V} {us : List Value} (i : Nat), Vals xs us → Vals (xs.set i x) (us.set i u)
  | _, _, _, .nil => .nil
  | _, _, 0, .cons _ t => .cons r t
  | _, _, i + 1, .cons q t => .cons q (Vals.set r i t)
theorem Vals.append : ∀ {xs ys : List V} {us ws : List Value}, Vals xs us → Vals ys ws → Vals (xs ++ ys) (us ++ ws)
  | _, _, _, _, .nil, s => s
  | _, _, _, _, .cons r t, s => .cons r (Vals.append t s)
theorem Vals.take : ∀ {xs : List V} {us : List Value} (n : Nat), Vals xs us → Vals (xs.take n) (us.take n)
  | _, _, 0, _ => .nil
  | _, _, _ + 1, .nil => .nil
  | _, _, n + 1, .cons r t => .cons r (Vals.take n t)
theorem Vals.drop : ∀ {xs : List V} {us : List Value} (n : Nat), Vals xs us → Vals (xs.drop n) (us.drop n)
  | _, _, 0, r => r
  | _, _, _ + 1, .nil => .nil
  | _, _, n + 1, .cons _ t => Vals.drop n t
def RelO : Option V → Option Value → Prop
  | some v, some u => RelV v u
  | none, none => True
  | _, _ => False
def KV {κ : Type} : List (κ × V) → List (κ × Value) → Prop := Paired fun (p : κ × V) (q : κ × Value) => p.1 = q.1 ∧ RelV p.2 q.2

/-- a key of a dict (00_mix): an int or a text -/
def kV : Key → V
  | .inl i => .int i
  | .inr x => .str x

/-- what stands at a tracked address -/
inductive HO where
  /-- a list -/
  | lst (xs : List V)
  /-- a tuple (never changes) -/
  | tup (xs : List V)
  /-- a dict whose keys are ints and texts; one whose keys are tuples of ints and texts (the empty one is both) -/
  | dK (kvs : List (Key × V)) | dT (kvs : List (List Key × V))
  /-- a set of ints: its members, its size -/
  | set (S : Int → Bool) (n : Nat)
  /-- an instance of the class at C, its dict at dx, its attributes -/
  | ins (C dx : Addr) (fs : List (Str × V))
  /-- the dict of the instance at x -/
  | own (x : Addr)
  /-- the dict of an exception -/
  | xd (fs : List (Str × V))
  /-- a bound method, f of x -/
  | met (f x : Addr)
  /-- a range object lo, lo + 1, .. below hi -/
  | rng (lo hi : Int)
  /-- a thing that is known to the object (the script; a dict while a loop walks it): read, never written while it is so -/
  | frz (o : Obj) (u : HO)
  /-- a code object's table -/
  | tbl (ps : Array Value)
  /-- any other thing, by what is true of its one object (a def of one's own: SetO a S n := HO.ext fun h => ..) -/
  | ext (φ : Heap → Prop)

abbrev Hp := Addr → Option HO
def upd (H : Hp) (a : Addr) (o : HO) : Hp := fun b => if b = a then some o else H b
theorem upd_same {H : Hp} {a : Addr} {o : HO} : upd H a o a = some o := by unfold upd; rw [if_pos rfl]
theorem upd_ne {H : Hp} {a b : Addr} {o : HO} (h : b ≠ a) : upd H a o b = H b := by unfold upd; rw [if_neg h]
/-- two objects of different content stand apart -/
theorem ne_of {H : Hp} {a b : Addr} {o u : HO} (h : H a = some o) (h' : H b = some u) (d : o ≠ u) : a ≠ b := by
  intro e; subst e; rw [h] at h'; exact d (Option.some.inj h')
theorem ne_of_none {H : Hp} {a b : Addr} {o : HO} (h : H a = some o) (h' : H b = none) : a ≠ b := by
  intro e; subst e; rw [h] at h'; cases h'

section
variable (P : Program) (w : World)
def ObjOk (H : Hp) (h : Heap) (a : Addr) : HO → Prop
  | .lst xs => xs.length ≤ sizeLine ∧ ∃ (its : List Value) (n : Nat), Vals xs its ∧ h.get? a = some { cls := .type "list", data := .seq its.toArray n }
  | .tup xs => xs.length ≤ sizeLine ∧ ∃ its : List Value, Vals xs its ∧ IsTup h a its.toArray
  | .dK kvs => kvs.length ≤ sizeLine ∧ (a == sysModules) = false ∧ ∃ vs, KV kvs vs ∧ h.DictOf (mixKind P w) a vs
  | .dT kvs => kvs.length ≤ sizeLine ∧ (a == sysModules) = false ∧ ∃ xs : List (List Key × Addr × Value),
      Paired (fun (p : List Key × V) (q : List Key × Addr × Value) => p.1 = q.1 ∧ H q.2.1 = some (.tup (p.1.map kV)) ∧ RelV p.2 q.2.2) kvs xs ∧
      ∃ o es ep, h.get? a = some o ∧ o.ExactDict ∧ o.data = .dict es ep ∧ es.toList = xs.map (entryOfKey (tupleKind (mixKind P w))) ∧ (xs.map (·.1)).Nodup
  | .set S n => h.SetOf (intKind P w) a S n
  | .ins C dx fs => H dx = some (.own a) ∧ fs.length ≤ 1000 ∧ dx ≠ a ∧ h.get? a = some (PySem.W.instObj C dx) ∧
      ∃ mA, h.Ns1 dx mA ∧ (∀ f, RelO (fs.lookup f) (mA f)) ∧ PySem.Within mA (fs.map (·.1))
  | .own _ => ∃ o, h.get? a = some o
  | .xd fs => ∃ mA, h.Ns1 a mA ∧ ∀ f, RelO (fs.lookup f) (mA f)
  | .rng lo hi => ∃ t u v, h.get? a = some { cls := .type "range", data := .fields #[.int lo t, .int hi u, .int 1 v] }
  | .frz o u => h.get? a = some o ∧ ObjOk H h a u
  | .tbl ps => h.get? a = some { cls := .none, data := .fields ps }
  | .met f x => h.get? a = some (PySem.W.methodObj (.ref f) (.ref x))
  | .ext φ => φ h ∧ (∃ o, h.get? a = some o) ∧ ∀ h1 h2 : Heap, φ h1 → (∀ o, h1.get? a = some o → h2.get? a = some o) → φ h2
/-- the abstract heap is held -/
def HOk (H : Hp) (h : Heap) : Prop := ∀ a o, H a = some o → ObjOk P w H h a o
end

section
variable {P : Program} {w : World} {H H' : Hp} {h h' : Heap} {a : Addr} {o : HO}
theorem ObjOk.lt (x : ObjOk P w H h a o) : a < h.objs.size := by
  cases o with
  | lst xs => obtain ⟨_, _, _, _, e⟩ := x; exact Heap.lt_size e
  | tup xs => obtain ⟨_, _, _, p⟩ := x; exact p.lt
  | dK kvs => obtain ⟨_, _, _, _, o, _, _, e, _⟩ := x; exact Heap.lt_size e
  | dT kvs => obtain ⟨_, _, _, _, o, _, _, e, _⟩ := x; exact Heap.lt_size e
  | set S n => obtain ⟨o, _, _, _, e, _⟩ := x; exact Heap.lt_size e
  | ins C dx fs => obtain ⟨_, _, _, e, _⟩ := x; exact Heap.lt_size e
  | own y => obtain ⟨_, e⟩ := x; exact Heap.lt_size e
  | xd fs => obtain ⟨_, ⟨_, _, _, e, _⟩, _⟩ := x; exact Heap.lt_size e
  | rng lo hi => obtain ⟨_, _, _, e⟩ := x; exact Heap.lt_size e
  | frz ob u => obtain ⟨e, _⟩ := x; exact Heap.lt_size e
  | tbl ps => exact Heap.lt_size (show h.get? a = some _ from x)
  | met f y => exact Heap.lt_size (show h.get? a = some _ from x)
  | ext φ => obtain ⟨_, ⟨_, e⟩, _⟩ := x; exact Heap.lt_size e
theorem Paired.mapP {α β : Type} {F G : α → β → Prop} : ∀ {l₁ : List α} {l₂ : List β}, Paired F l₁ l₂ → (∀ a b, F a b → G a b) → Paired G l₁ l₂
  | _, _, .nil, _ => .nil
  | _, _, .cons r t, f => .cons (f _ _ r) (Paired.mapP t f)
/-- what an object's description leans on: its own object, its own dict, the tuples -/
theorem ObjOk.stay (x : ObjOk P w H h a o) (k : ∀ b u, (b = a ∨ H b = some (.own a)) → h.get? b = some u → h'.get? b = some u)
    (ho : ∀ b, H b = some (.own a) → H' b = some (.own a)) (ht : ∀ b xs, H b = some (.tup xs) → H' b = some (.tup xs)) : ObjOk P w H' h' a o := by
  induction o with
  | lst xs => obtain ⟨z, its, n, r, e⟩ := x; exact ⟨z, its, n, r, k _ _ (.inl rfl) e⟩
  | tup xs => obtain ⟨z, its, r, ob, e, c⟩ := x; exact ⟨z, its, r, ob, k _ _ (.inl rfl) e, c⟩
  | dK kvs => obtain ⟨z, y, vs, r, ob, es, ep, e, c⟩ := x; exact ⟨z, y, vs, r, ob, es, ep, k _ _ (.inl rfl) e, c⟩
  | dT kvs =>
    obtain ⟨z, y, xs, r, ob, es, ep, e, c⟩ := x
    exact ⟨z, y, xs, Paired.mapP r fun p q z => ⟨z.1, ht _ _ z.2.1, z.2.2⟩, ob, es, ep, k _ _ (.inl rfl) e, c⟩
  | set S n => obtain ⟨ob, es, ep, t, e, c⟩ := x; exact ⟨ob, es, ep, t, k _ _ (.inl rfl) e, c⟩
  | ins C dx fs =>
    obtain ⟨d, z, ne, e, mA, ⟨od, es, ep, e2, c⟩, r⟩ := x
    exact ⟨ho _ d, z, ne, k _ _ (.inl rfl) e, mA, ⟨od, es, ep, k _ _ (.inr d) e2, c⟩, r⟩
  | own y => obtain ⟨ob, e⟩ := x; exact ⟨ob, k _ _ (.inl rfl) e⟩
  | xd fs => obtain ⟨mA, ⟨od, es, ep, e, c⟩, r⟩ := x; exact ⟨mA, ⟨od, es, ep, k _ _ (.inl rfl) e, c⟩, r⟩
  | rng lo hi => obtain ⟨t, u, v, e⟩ := x; exact ⟨t, u, v, k _ _ (.inl rfl) e⟩
  | frz ob u ih => obtain ⟨e, q⟩ := x; exact ⟨k _ _ (.inl rfl) e, ih q⟩
  | tbl ps =>
    have e : h.get? a = some { cls := .none, data := .fields ps } := x
    show h'.get? a = some { cls := .none, data := .fields ps }
    exact k a _ (.inl rfl) e
  | met f y =>
    have e : h.get? a = some (PySem.W.methodObj (.ref f) (.ref y)) := x
    show h'.get? a = some (PySem.W.methodObj (.ref f) (.ref y))
    exact k a _ (.inl rfl) e
  | ext φ => obtain ⟨p, ⟨o, e⟩, st⟩ := x; exact ⟨st _ _ p fun o q => k _ _ (.inl rfl) q, ⟨o, k _ _ (.inl rfl) e⟩, st⟩
theorem HOk.lt (x : HOk P w H h) (e : H a = some o) : a < h.objs.size := (x a o e).lt
theorem HOk.fresh (x : HOk P w H h) (e : h.objs.size ≤ a) : H a = none := by
  cases q : H a with
  | none => rfl
  | some u => exact absurd (Nat.lt_of_lt_of_le (x.lt q) e) (Nat.lt_irrefl _)
/-- every object of the heap is kept -/
theorem HOk.kept (x : HOk P w H h) (k : ∀ b u, h.get? b = some u → h'.get? b = some u) : HOk P w H h' := fun a o e =>
  (x a o e).stay (fun b u _ q => k b u q) (fun _ q => q) fun _ _ q => q
/-- a new object is laid and tracked -/
theorem HOk.laid (x : HOk P w H h) (k : ∀ b u, h.get? b = some u → h'.get? b = some u) (hp : h.objs.size ≤ a) (new : ObjOk P w (upd H a o) h' a o) : HOk P w (upd H a o) h' := fun b u e => by
  have hn := x.fresh hp
  by_cases hb : b = a
  · subst hb; rw [upd_same] at e; cases e; exact new
  · rw [upd_ne hb] at e
    exact (x b u e).stay (fun c v _ q => k c v q) (fun c q => by rw [upd_ne (ne_of_none q hn)]; exact q) fun c xs q => by rw [upd_ne (ne_of_none q hn)]; exact q
end

/-- what may be read as u: it is u, or a known u -/
def Rd (H : Hp) (a : Addr) (u : HO) : Prop := H a = some u ∨ ∃ o, H a = some (.frz o u)
theorem Rd.of {H : Hp} {a : Addr} {u : HO} (h : H a = some u) : Rd H a u := .inl h
theorem Rd.ok {P : Program} {w : World} {H : Hp} {h : Heap} {a : Addr} {u : HO} (r : Rd H a u) (x : HOk P w H h) : ObjOk P w H h a u := by
  rcases r with r | ⟨o, r⟩
  · exact x a u r
  · obtain ⟨_, q⟩ := x a _ r
    exact q
/-- what may be written -/
def Mut : Option HO → Prop
  | some (.lst _) => True
  | some (.dK _) => True
  | some (.dT _) => True
  | some (.set _ _) => True
  | some (.ins _ _ _) => True
  | some (.ext _) => True
  | _ => False
section
variable {P : Program} {w : World} {H : Hp} {h h' : Heap} {x e : Addr} {o' : HO}
/-- the object at e is changed: x itself, or the dict of the instance x -/
theorem HOk.write (ok : HOk P w H h) (mu : Mut (H x)) (he : e = x ∨ H e = some (.own x)) (k : ∀ b u, b ≠ e → h.get? b = some u → h'.get? b = some u) (heo : ∃ u, h'.get? e = some u)
    (new : ObjOk P w (upd H x o') h' x o') : HOk P w (upd H x o') h' := fun b u q => by
  have nown : ∀ c y, H c = some (.own y) → c ≠ x := fun c y r z => by subst z; rw [r] at mu; exact mu
  have ntup : ∀ c xs, H c = some (.tup xs) → c ≠ x := fun c xs r z => by subst z; rw [r] at mu; exact mu
  by_cases hb : b = x
  · subst hb; rw [upd_same] at q; cases q; exact new
  · rw [upd_ne hb] at q
    by_cases hbe : b = e
    · have q' : H b = some (.own x) := by
        rcases he with z | z
        · exact absurd (hbe.trans z) hb
        · rw [hbe]; exact z
      rw [q] at q'; cases q'
      obtain ⟨v, hv⟩ := heo
      exact ⟨v, by rw [hbe]; exact hv⟩
    · refine (ok b u q).stay (fun c v hc r => k c v ?_ r) (fun c r => by rw [upd_ne (nown c b r)]; exact r) fun c xs r => by rw [upd_ne (ntup c xs r)]; exact r
      rcases hc with rfl | hc
      · exact hbe
      · rintro rfl
        rcases he with z | z
        · exact nown c b hc z
        · rw [hc] at z; cases z; exact hb rfl
end

structure Un (fs ex : List Addr) (H H' : Hp) (h h' : Heap) : Prop where
  keep : ∀ b o, h.get? b = some o → H b = none → b ∉ fs → b ∉ ex → h'.get? b = some o
  slot : ∀ b o, h.get? b = some o → H b = none → b ∈ fs → b ∉ ex → ∃ sl, h'.get? b = some { o with slots := sl }
  free : ∀ b o, h.get? b = some o → H b = none → b ∉ ex → H' b = none
  there : ∀ b o, h.get? b = some o → b ∉ ex → ∃ o', h'.get? b = some o'
  tups : ∀ b xs, H b = some (.tup xs) → H' b = some (.tup xs)
  frzs : ∀ b o u, H b = some (.frz o u) → H' b = some (.frz o u)
  tbls : ∀ b ps, H b = some (.tbl ps) → ∃ more, H' b = some (.tbl (ps ++ more))
section
variable {fs fs' ex ex' : List Addr} {H H1 H2 : Hp} {h h1 h2 h' : Heap} {a x e : Addr} {o : HO}
theorem Un.any (u : Un fs ex H H1 h h1) {b : Addr} {ob : Obj} (q : h.get? b = some ob) (n : H b = none) (hx : b ∉ ex) : ∃ sl, h1.get? b = some { ob with slots := sl } := by
  by_cases hb : b ∈ fs
  · exact u.slot b ob q n hb hx
  · exact ⟨ob.slots, u.keep b ob q n hb hx⟩
theorem Un.trans (a : Un fs ex H H1 h h1) (b : Un fs ex H1 H2 h1 h2) : Un fs ex H H2 h h2 where
  keep := fun c ob q n hc hx => b.keep c ob (a.keep c ob q n hc hx) (a.free c ob q n hx) hc hx
  slot := fun c ob q n hc hx => by
    obtain ⟨sl, e1⟩ := a.slot c ob q n hc hx
    obtain ⟨sl', e2⟩ := b.slot c _ e1 (a.free c ob q n hx) hc hx
    exact ⟨sl', e2⟩
  free := fun c ob q n hx => by
    obtain ⟨o', e1⟩ := a.there c ob q hx
    exact b.free c o' e1 (a.free c ob q n hx) hx
  there := fun c ob q hx => by
    obtain ⟨o', e1⟩ := a.there c ob q hx
    exact b.there c o' e1 hx
  tups := fun c xs q => b.tups c xs (a.tups c xs q)
  frzs := fun c ob xs q => b.frzs c ob xs (a.frzs c ob xs q)
  tbls := fun c ps q => by
    obtain ⟨m1, e1⟩ := a.tbls c ps q
    obtain ⟨m2, e2⟩ := b.tbls c _ e1
    exact ⟨m1 ++ m2, by rw [e2, Array.append_assoc]⟩
theorem Un.kept (k : ∀ b u, h.get? b = some u → h'.get? b = some u) : Un fs ex H H h h' :=
  ⟨fun b ob q _ _ _ => k b ob q, fun b ob q _ _ _ => ⟨ob.slots, k b ob q⟩, fun _ _ _ n _ => n, fun b ob q _ => ⟨ob, k b ob q⟩, fun _ _ q => q, fun _ _ _ q => q, fun _ ps q => ⟨#[], by rw [q]; simp⟩⟩
theorem Un.refl : Un fs ex H H h h := Un.kept fun _ _ q => q
theorem Un.laid (k : ∀ b u, h.get? b = some u → h'.get? b = some u) (hp : h.objs.size ≤ a) (hn : H a = none) : Un fs ex H (upd H a o) h h' where
  keep := fun b u q _ _ _ => k b u q
  slot := fun b u q _ _ _ => ⟨u.slots, k b u q⟩
  free := fun b u q n _ => by rw [upd_ne (Nat.ne_of_lt (Nat.lt_of_lt_of_le (Heap.lt_size q) hp))]; exact n
  there := fun b u q _ => ⟨u, k b u q⟩
  tups := fun b xs q => by rw [upd_ne (ne_of_none q hn)]; exact q
  frzs := fun b u xs q => by rw [upd_ne (ne_of_none q hn)]; exact q
  tbls := fun b ps q => ⟨#[], by rw [upd_ne (ne_of_none q hn), q]; simp⟩
theorem Un.write (mu : Mut (H x)) (he : e = x ∨ H e = some (.own x)) (k : ∀ b u, b ≠ e → h.get? b = some u → h'.get? b = some u) (heo : ∃ u, h'.get? e = some u) : Un fs ex H (upd H x o) h h' := by
  have hx : ∀ b, H b = none → b ≠ x := fun b n z => by subst z; rw [n] at mu; exact mu
  have hb : ∀ b, H b = none → b ≠ e := fun b n z => by
    subst z
    rcases he with r | r
    · exact hx b n r
    · rw [n] at r; cases r
  have hm : ∀ b u, H b = some u → ¬ Mut (some u) → b ≠ x := fun b u q nm z => by subst z; rw [q] at mu; exact nm mu
  refine ⟨fun b u q n _ _ => k b u (hb b n) q, fun b u q n _ _ => ⟨u.slots, k b u (hb b n) q⟩, fun b u q n _ => by rw [upd_ne (hx b n)]; exact n, fun b u q _ => ?_,
    fun b xs q => by rw [upd_ne (hm b _ q fun z => z)]; exact q, fun b u xs q => by rw [upd_ne (hm b _ q fun z => z)]; exact q, fun b ps q => ⟨#[], by rw [upd_ne (hm b _ q fun z => z), q]; simp⟩⟩
  by_cases hbe : b = e
  · subst hbe; exact heo
  · exact ⟨u, k b u hbe q⟩
theorem Un.mono (u : Un fs ex H H1 h h1) (hs : ∀ b ∈ fs, b ∈ fs') (hx : ∀ b ∈ ex, b ∈ ex') : Un fs' ex' H H1 h h1 :=
  ⟨fun b ob q n hb he => u.keep b ob q n (fun z => hb (hs b z)) fun z => he (hx b z), fun _ _ q n _ he => u.any q n fun z => he (hx _ z), fun b ob q n he => u.free b ob q n fun z => he (hx b z), fun b ob q he => u.there b ob q fun z => he (hx b z), u.tups, u.frzs, u.tbls⟩
end

def trk (h : Heap) (H : Hp) : List Addr := (List.range h.objs.size).filter fun a => (H a).isSome
def hidT (h : Heap) (H : Hp) : Heap := PySem.W.hideAll h (trk h H)
theorem hidT_size (h : Heap) (H : Hp) : (hidT h H).objs.size = h.objs.size := PySem.W.hideAll_size _ _
theorem hidT_get {h : Heap} {H : Hp} {b : Addr} {o : Obj} (e : h.get? b = some o) (n : H b = none) : (hidT h H).get? b = some o :=
  PySem.W.hideAll_get _ e fun hm => by
    have q : (H b).isSome = true := (List.mem_filter.mp hm).2
    rw [n] at q; simp at q
theorem of_hidT {h : Heap} {H : Hp} {b : Addr} {o : Obj} (e : (hidT h H).get? b = some o) : h.get? b = some o ∧ H b = none := by
  have e' : h.get? b = some o := PySem.W.of_hideAll (trk h H) e
  refine ⟨e', ?_⟩
  cases q : H b with
  | none => rfl
  | some x =>
    have hm : b ∈ trk h H := List.mem_filter.mpr ⟨List.mem_range.mpr (Heap.lt_size e'), by simp [q]⟩
    have z : (hidT h H).get? b = none := PySem.W.hideAll_none (trk h H) hm
    rw [z] at e; cases e

def allNews (g h : Heap) (L : Addr) : List (Addr × Obj) := (List.range h.objs.size).filterMap fun a => if a = L ∨ (g.get? a).isSome = true then none else (h.get? a).map fun o => (a, o)
def rest (g h : Heap) (L d : Addr) : List (Addr × Obj) := (allNews g h L).filter fun p => decide (p.1 ≠ d)
end L2

namespace L2
open PySem PySem.Spec PyProof.Rows

/-- the module's facts, over the base: the heap at the law's entry without what is tracked there -/
structure Mod (K : PySem.W.Frag) (mg : Str → Option Value) (base : Heap) : Prop where
  kin : K.In base
  glob : base.Ns mainGlobals mg
  blt : ∃ mb, base.Ns builtinsNs mb ∧ ∀ x : Str, x ≠ "__name__" → mb x = bootBuiltins x
  nolimit : base.NoLimit

/-- the context: a def's body (or a comprehension's block) running. base: fixed through the whole law; s₀, H₀: the entry; outer: the frames whose slots others may change (a def's callers); stack: all frames that run;
   ex: iterators that were made ahead of the entry and are walked here (a comprehension's); fn: the names whose cells were made at the entry (a def: all; a comprehension's block: its own); calm: not within an except suite; pn: pins that every state bears; xe: what is wanted of an exception that leaves the code -/
structure Cx where
  prog : Program
  w : World
  K : PySem.W.Frag
  mg : Str → Option Value
  base : Heap
  A : Around
  N : List Str
  s₀ : Shared
  H₀ : Hp
  env : Env
  outer : List Env
  stack : List Env
  ex : List Addr
  fn : Str → Bool
  calm : Bool
  pn : List (Addr × Obj)
  xe : Value → Shared → Prop
/-- the callers' frames -/
def frs (l : List Env) : List Addr := l.filterMap (·.frame)
abbrev Cx.fs (X : Cx) : List Addr := frs X.outer

def Vis (sc : Scope) (x : Str) : Prop := sc.names.lookup x = some .local ∨ sc.names.lookup x = some .cell ∨ sc.names.lookup x = some .free
def Loc (sc : Scope) (x : Str) : Prop := sc.names.lookup x = some .local ∨ sc.names.lookup x = some .cell
def Look (env : Env) (h : Heap) (m : Str → Option Value) (x : Str) (u : Value) : Prop :=
  (env.kindOf x = some .local ∧ m x = some u) ∨ ((env.kindOf x = some .cell ∨ env.kindOf x = some .free) ∧ ∃ c, env.cells.lookup x = some c ∧ h.IsCell c (some u))

structure Cx.Ok (X : Cx) : Prop where
  mod : Mod X.K X.mg X.base
  kind : X.env.scope.kind = .function
  glob : X.env.globals = mainGlobals
  blt : X.env.builtins = builtinsNs
  above : X.s₀.heap.objs.size ≤ X.env.locals
  inj : ∀ x y c, X.env.cells.lookup x = some c → X.env.cells.lookup y = some c → x = y
  has : ∀ x, (X.env.kindOf x = some .cell ∨ X.env.kindOf x = some .free) → ∃ c, X.env.cells.lookup x = some c
  cab : ∀ x c, X.fn x = true → X.env.cells.lookup x = some c → X.s₀.heap.objs.size ≤ c
  hd : X.calm = true → X.A.handled = none
  frames : X.A.frames = some X.stack
  stk : X.stack = X.outer ∨ (X.stack = X.env :: X.outer ∧ X.env.frame = some X.env.locals)
  exf : ∀ b ∈ X.ex, b ≠ X.env.locals ∧ ∀ x c, X.env.cells.lookup x = some c → c ≠ b
  bs : ∀ b o, X.base.get? b = some o → X.s₀.heap.get? b = some o ∧ X.H₀ b = none
  bsz : X.base.objs.size ≤ X.s₀.heap.objs.size
  noex : ∀ b o, X.base.get? b = some o → b ∉ X.ex
  exfs : ∀ b ∈ X.ex, b ∉ X.fs
  funs : X.s₀.heap.FunFrames X.base X.outer
  frf : ∀ b ∈ X.fs, X.H₀ b = none

structure Inv (X : Cx) (pins : List (Addr × Obj)) (σ : List (Option V)) (H : Hp) (s : Shared) : Prop where
  ok : X.Ok
  os : s.os = X.s₀.os
  bare : AllBare s.gens
  base : Un X.fs X.ex X.H₀ H X.s₀.heap s.heap
  loc : ∃ m, s.heap.Ns X.env.locals m ∧ ∀ (i : Nat) (x : Str) (v : V), X.N[i]? = some x → σ[i]? = some (some v) → Vis X.env.scope x → ∃ u, RelV v u ∧ Look X.env s.heap m x u
  cell : ∀ x c, X.env.cells.lookup x = some c → ∃ v, s.heap.IsCell c v
  free : H X.env.locals = none
  freeC : ∀ x c, X.env.cells.lookup x = some c → H c = none
  pin : ∀ p ∈ X.pn ++ pins, s.heap.get? p.1 = some p.2 ∧ H p.1 = none ∧ p.1 ≠ X.env.locals ∧ p.1 ∉ X.fs ∧ ∀ v, p.2.data ≠ .cell v
  hok : HOk X.prog X.w H s.heap
  len : σ.length = X.N.length

section
variable {X : Cx} {pins : List (Addr × Obj)} {σ : List (Option V)} {H H' : Hp} {s : Shared} {h' : Heap}

theorem Cx.Ok.nofr (ok : X.Ok) {b : Addr} {o : Obj} (e : X.base.get? b = some o) : b ∉ X.fs := fun hb => by
  have := (ok.funs.mem hb).1
  rw [e] at this; cases this
theorem Inv.bs (I : Inv X pins σ H s) : ∀ b o, X.base.get? b = some o → s.heap.get? b = some o ∧ H b = none := fun b o e =>
  ⟨I.base.keep b o (I.ok.bs b o e).1 (I.ok.bs b o e).2 (I.ok.nofr e) (I.ok.noex b o e), I.base.free b o (I.ok.bs b o e).1 (I.ok.bs b o e).2 (I.ok.noex b o e)⟩
theorem Inv.bk (I : Inv X pins σ H s) : ∀ b o, X.base.get? b = some o → s.heap.get? b = some o := fun b o e => (I.bs b o e).1
theorem Inv.mod (I : Inv X pins σ H s) : Mod X.K X.mg X.base := I.ok.mod
theorem Inv.kIn (I : Inv X pins σ H s) : X.K.In s.heap := I.ok.mod.kin.keeps I.bk
theorem Inv.nolimit (I : Inv X pins σ H s) : s.heap.NoLimit := I.ok.mod.nolimit.keeps I.bk
theorem Inv.lt (I : Inv X pins σ H s) : X.env.locals < s.heap.objs.size := let ⟨_, hn, _⟩ := I.loc; hn.lt
theorem Inv.sz (I : Inv X pins σ H s) : X.s₀.heap.objs.size ≤ s.heap.objs.size := Nat.le_trans I.ok.above (Nat.le_of_lt I.lt)
theorem Inv.nofs (I : Inv X pins σ H s) {a : Addr} (h : s.heap.objs.size ≤ a) : a ∉ X.fs := fun hb => by
  obtain ⟨_, o, ho, _⟩ := I.ok.funs.mem hb
  exact absurd (Nat.lt_of_lt_of_le (Heap.lt_size ho) (Nat.le_trans I.sz h)) (Nat.lt_irrefl _)
theorem Inv.cne (I : Inv X pins σ H s) : ∀ x c, X.env.cells.lookup x = some c → c ≠ X.env.locals := fun x c e z => by
  obtain ⟨v, o, ho, hd⟩ := I.cell x c e
  obtain ⟨m, ⟨o', es, ep, ho', hd', _⟩, _⟩ := I.loc
  rw [z, ho'] at ho; cases ho; rw [hd'] at hd; cases hd
theorem Inv.funs (I : Inv X pins σ H s) : s.heap.FunFrames X.base X.outer := by
  have all : ∀ (l : List Env), (∀ b ∈ frs l, b ∈ X.fs) → X.s₀.heap.FunFrames X.base l → s.heap.FunFrames X.base l := by
    intro l
    induction l with
    | nil => intro _ _; trivial
    | cons env r ih =>
      intro hs hl
      obtain ⟨hk, ⟨L, o, hf, hn, ho, hd⟩, hr⟩ := hl
      have hL : L ∈ X.fs := hs L (by unfold frs; rw [List.filterMap_cons, hf]; exact List.mem_cons_self)
      obtain ⟨sl, e⟩ := I.base.slot L o ho (I.ok.frf L hL) hL fun z => I.ok.exfs L z hL
      exact ⟨hk, ⟨L, _, hf, hn, e, hd⟩, ih (fun b hb => hs b (by unfold frs; rw [List.filterMap_cons, hf]; exact List.mem_cons_of_mem _ hb)) hr⟩
  exact all X.outer (fun _ hb => hb) I.ok.funs

/-- the frames that run, for a call -/
theorem Inv.stack (I : Inv X pins σ H s) : s.heap.FunFrames X.base X.stack := by
  rcases I.ok.stk with e | ⟨e, hf⟩
  · rw [e]; exact I.funs
  · rw [e]
    obtain ⟨m, hn, _⟩ := I.loc
    refine .cons (by rw [I.ok.kind]; decide) hf hn ?_ I.funs
    exact Heap.get?_none_of_le (Nat.le_trans I.ok.bsz I.ok.above)
theorem Inv.stkSub (I : Inv X pins σ H s) : ∀ b ∈ frs X.stack, b ∈ X.env.locals :: X.fs := fun b hb => by
  rcases I.ok.stk with e | ⟨e, hf⟩
  · rw [e] at hb; exact List.mem_cons_of_mem _ hb
  · rw [e] at hb
    unfold frs at hb
    rw [List.filterMap_cons, hf] at hb
    exact hb
theorem Inv.stkFree (I : Inv X pins σ H s) : ∀ b ∈ frs X.stack, H b = none := fun b hb => by
  rcases List.mem_cons.mp (I.stkSub b hb) with e | hb
  · rw [e]; exact I.free
  · obtain ⟨_, o, ho, _⟩ := I.ok.funs.mem hb
    exact I.base.free b o ho (I.ok.frf b hb) fun z => I.ok.exfs b z hb

/-- THE STEP: the untracked objects but the frame and the records at ch are kept (the callers' frames up to slots), the frame's map is kept, the new abstract heap is held -/
theorem Inv.step {g' : Array GenState} {t' : Nat} {d' : Drawn} {ch : List Addr} (I : Inv X pins σ H s)
    (hch : ∀ b ∈ ch, (b ∈ X.ex ∨ X.s₀.heap.objs.size ≤ b) ∧ b ≠ X.env.locals ∧ (∀ x c, X.env.cells.lookup x = some c → c ≠ b) ∧ ∀ p ∈ X.pn ++ pins, p.1 ≠ b)
    (keep : ∀ b o, b ≠ X.env.locals → b ∉ X.fs → b ∉ ch → s.heap.get? b = some o → H b = none → h'.get? b = some o)
    (slot : ∀ b o, b ≠ X.env.locals → b ∈ X.fs → b ∉ ch → s.heap.get? b = some o → H b = none → ∃ sl, h'.get? b = some { o with slots := sl }) (free : ∀ b o, b ∉ ch → s.heap.get? b = some o → H b = none → H' b = none)
    (there : ∀ b o, b ∉ ch → s.heap.get? b = some o → ∃ o', h'.get? b = some o')
    (tups : ∀ b xs, H b = some (.tup xs) → H' b = some (.tup xs)) (frzs : ∀ b o u, H b = some (.frz o u) → H' b = some (.frz o u)) (tbls : ∀ b ps, H b = some (.tbl ps) → ∃ more, H' b = some (.tbl (ps ++ more)))
    (ns : ∀ m, s.heap.Ns X.env.locals m → h'.Ns X.env.locals m) (hok : HOk X.prog X.w H' h') (hg : AllBare g') :
    Inv X pins σ H' { s with heap := h', gens := g', drawn := d', toks := t' } := by
  have neL : ∀ b o, X.s₀.heap.get? b = some o → b ≠ X.env.locals := fun b o e => Nat.ne_of_lt (Nat.lt_of_lt_of_le (Heap.lt_size e) I.ok.above)
  have neC : ∀ b o, X.s₀.heap.get? b = some o → b ∉ X.ex → b ∉ ch := fun b o e hx hb => by
    rcases (hch b hb).1 with z | z
    · exact hx z
    · exact absurd (Nat.lt_of_lt_of_le (Heap.lt_size e) z) (Nat.lt_irrefl _)
  have cellK : ∀ x c, X.env.cells.lookup x = some c → ∀ v, s.heap.IsCell c v → h'.IsCell c v := fun x c e v ⟨o, ho, hd⟩ => by
    have nch : c ∉ ch := fun z => (hch c z).2.2.1 x c e rfl
    by_cases hc : c ∈ X.fs
    · obtain ⟨sl, q⟩ := slot c o (I.cne x c e) hc nch ho (I.freeC x c e)
      exact ⟨_, q, hd⟩
    · exact ⟨o, keep c o (I.cne x c e) hc nch ho (I.freeC x c e), hd⟩
  refine ⟨I.ok, I.os, hg, ⟨fun b o e n hb hx => ?_, fun b o e n hb hx => ?_, fun b o e n hx => ?_, fun b o e hx => ?_, fun b xs e => tups b xs (I.base.tups b xs e), fun b o xs e => frzs b o xs (I.base.frzs b o xs e), fun b ps e => ?_⟩, ?_, fun x c e => ?_, ?_, fun x c e => ?_, fun p hp => ?_, hok, I.len⟩
  · exact keep b o (neL b o e) hb (neC b o e hx) (I.base.keep b o e n hb hx) (I.base.free b o e n hx)
  · obtain ⟨sl, e1⟩ := I.base.slot b o e n hb hx
    obtain ⟨sl', e2⟩ := slot b _ (neL b o e) hb (neC b o e hx) e1 (I.base.free b o e n hx)
    exact ⟨sl', e2⟩
  · obtain ⟨o', e1⟩ := I.base.there b o e hx
    exact free b o' (neC b o e hx) e1 (I.base.free b o e n hx)
  · obtain ⟨o', e1⟩ := I.base.there b o e hx
    exact there b o' (neC b o e hx) e1
  · obtain ⟨m1, e1⟩ := I.base.tbls b ps e
    obtain ⟨m2, e2⟩ := tbls b _ e1
    exact ⟨m1 ++ m2, by rw [e2, Array.append_assoc]⟩
  · obtain ⟨m, hn, hl⟩ := I.loc
    refine ⟨m, ns m hn, fun i x v e1 e2 e3 => ?_⟩
    obtain ⟨u, r, l⟩ := hl i x v e1 e2 e3
    refine ⟨u, r, ?_⟩
    rcases l with l | ⟨k, c, e, z⟩
    · exact .inl l
    · exact .inr ⟨k, c, e, cellK x c e _ z⟩
  · obtain ⟨v, z⟩ := I.cell x c e
    exact ⟨v, cellK x c e v z⟩
  · obtain ⟨m, ⟨o, _, _, ho, _⟩, _⟩ := I.loc
    exact free _ o (fun z => (hch _ z).2.1 rfl) ho I.free
  · obtain ⟨v, o, ho, hd⟩ := I.cell x c e
    exact free c o (fun z => (hch c z).2.2.1 x c e rfl) ho (I.freeC x c e)
  · obtain ⟨e, n, ne, nf, d⟩ := I.pin p hp
    have nch : p.1 ∉ ch := fun z => (hch p.1 z).2.2.2 p hp rfl
    exact ⟨keep p.1 p.2 ne nf nch e n, free p.1 p.2 nch e n, ne, nf, d⟩
/-- .. where the frame's own object is kept too -/
theorem Inv.un {t' : Nat} (I : Inv X pins σ H s) (u : Un X.fs [] H H' s.heap h') (hok : HOk X.prog X.w H' h') : Inv X pins σ H' { s with heap := h', toks := t' } := by
  obtain ⟨m, ⟨o, es, ep, ho, r⟩, _⟩ := id I.loc
  obtain ⟨sl, hL⟩ := u.any ho I.free (by simp)
  exact I.step (g' := s.gens) (d' := s.drawn) (ch := []) (fun _ z => nomatch z) (fun b o _ hb _ e n => u.keep b o e n hb (by simp)) (fun b o _ hb _ e n => u.slot b o e n hb (by simp)) (fun b o _ e n => u.free b o e n (by simp)) (fun b o _ e => u.there b o e (by simp)) u.tups u.frzs u.tbls (fun m' hm => by
    obtain ⟨o', es', ep', ho', r'⟩ := hm
    rw [ho] at ho'; cases ho'
    exact ⟨_, es', ep', hL, r'⟩) hok I.bare
/-- behind a call (or a comprehension's block): the slots of this frame may have changed too, the records at ch may have turned -/
theorem Inv.call {g' : Array GenState} {t' : Nat} {d' : Drawn} {ch : List Addr} (I : Inv X pins σ H s) (u : Un (frs X.stack) ch H H' s.heap h') (hok : HOk X.prog X.w H' h') (hg : AllBare g')
    (hch : ∀ b ∈ ch, (b ∈ X.ex ∨ X.s₀.heap.objs.size ≤ b) ∧ b ≠ X.env.locals ∧ (∀ x c, X.env.cells.lookup x = some c → c ≠ b) ∧ ∀ p ∈ X.pn ++ pins, p.1 ≠ b) :
    Inv X pins σ H' { s with heap := h', gens := g', drawn := d', toks := t' } := by
  obtain ⟨m, ⟨o, es, ep, ho, r⟩, _⟩ := id I.loc
  obtain ⟨sl, hL⟩ := u.any ho I.free fun z => (hch _ z).2.1 rfl
  exact I.step (ch := ch) hch (fun b o hL hb hc e n => u.keep b o e n (fun z => (List.mem_cons.mp (I.stkSub b z)).elim hL hb) hc) (fun b o _ _ hc e n => u.any e n hc) (fun b o hc e n => u.free b o e n hc) (fun b o hc e => u.there b o e hc) u.tups u.frzs u.tbls (fun m' hm => by
    obtain ⟨o', es', ep', ho', r'⟩ := hm
    rw [ho] at ho'; cases ho'
    exact ⟨_, es', ep', hL, r'⟩) hok hg
/-- an untracked record of ours (an iterator) has turned -/
theorem Inv.turned {t' : Nat} {it : Addr} (I : Inv X pins σ H s) (k : ∀ b o, b ≠ it → s.heap.get? b = some o → h'.get? b = some o) (hn : H it = none) (hL : it ≠ X.env.locals)
    (h1 : it ∈ X.ex ∨ X.s₀.heap.objs.size ≤ it) (h2 : ∀ x c, X.env.cells.lookup x = some c → c ≠ it) (h3 : ∀ p ∈ X.pn ++ pins, p.1 ≠ it) : Inv X pins σ H { s with heap := h', toks := t' } := by
  have nit : ∀ b u, H b = some u → b ≠ it := fun b u e z => by rw [z, hn] at e; cases e
  refine I.step (g' := s.gens) (d' := s.drawn) (ch := [it]) (fun b hb => ?_) (fun b o _ _ hc e _ => k b o (fun z => hc (by simp [z])) e) (fun b o _ _ hc e _ => ⟨o.slots, k b o (fun z => hc (by simp [z])) e⟩) (fun _ _ _ _ n => n)
    (fun b o hc e => ⟨o, k b o (fun z => hc (by simp [z])) e⟩) (fun _ _ e => e) (fun _ _ _ e => e) (fun b ps e => ⟨#[], by rw [e]; simp⟩) (fun m hm => ?_) (fun b u e => ?_) I.bare
  · have e : b = it := by simpa using hb
    subst e
    exact ⟨h1, hL, h2, h3⟩
  · obtain ⟨o, es, ep, ho, r⟩ := hm
    exact ⟨o, es, ep, k _ o (Ne.symm hL) ho, r⟩
  · refine (I.hok b u e).stay (fun c v hc q => k c v ?_ q) (fun _ q => q) fun _ _ q => q
    rcases hc with z | z
    · rw [z]; exact nit b u e
    · exact nit c _ z
theorem Inv.tok (I : Inv X pins σ H s) (t : Nat) : Inv X pins σ H { s with toks := t } := I.un (h' := s.heap) (t' := t) Un.refl I.hok
/-- all objects kept -/
theorem Inv.kept {t' : Nat} (I : Inv X pins σ H s) (k : ∀ b u, s.heap.get? b = some u → h'.get? b = some u) : Inv X pins σ H { s with heap := h', toks := t' } := I.un (Un.kept k) (I.hok.kept k)
/-- a new object laid and tracked -/
theorem Inv.laid {a : Addr} {o : HO} {t' : Nat} (I : Inv X pins σ H s) (k : ∀ b u, s.heap.get? b = some u → h'.get? b = some u) (hp : s.heap.objs.size ≤ a) (new : ObjOk X.prog X.w (upd H a o) h' a o) :
    Inv X pins σ (upd H a o) { s with heap := h', toks := t' } := I.un (Un.laid k hp (I.hok.fresh hp)) (I.hok.laid k hp new)
/-- an object written -/
theorem Inv.write {x e : Addr} {o : HO} {t' : Nat} (I : Inv X pins σ H s) (mu : Mut (H x)) (he : e = x ∨ H e = some (.own x)) (k : ∀ b u, b ≠ e → s.heap.get? b = some u → h'.get? b = some u) (heo : ∃ u, h'.get? e = some u)
    (new : ObjOk X.prog X.w (upd H x o) h' x o) : Inv X pins σ (upd H x o) { s with heap := h', toks := t' } := I.un (Un.write mu he k heo) (I.hok.write mu he k heo new)
theorem Inv.pins_of {pins' : List (Addr × Obj)} (I : Inv X pins σ H s) (h : ∀ p ∈ pins', s.heap.get? p.1 = some p.2 ∧ H p.1 = none ∧ p.1 ≠ X.env.locals ∧ p.1 ∉ X.fs ∧ ∀ v, p.2.data ≠ .cell v) : Inv X pins' σ H s :=
  ⟨I.ok, I.os, I.bare, I.base, I.loc, I.cell, I.free, I.freeC, fun p hp => (List.mem_append.mp hp).elim (fun z => I.pin p (List.mem_append_left _ z)) (h p), I.hok, I.len⟩

theorem nodup_ix {N : List Str} (hN : N.Nodup) {i j : Nat} {x : Str} (a : N[i]? = some x) (b : N[j]? = some x) : i = j := by
  obtain ⟨h1, e1⟩ := List.getElem?_eq_some_iff.mp a
  obtain ⟨h2, e2⟩ := List.getElem?_eq_some_iff.mp b
  exact (List.getElem_inj hN).mp (e1.trans e2.symm)

/-- a name is stored; what changed -/
theorem store_ok2 {M : Model} {A : Around} {E : Value → Shared → Prop} {i : Nat} {x : Str} {v : V} {u : Value} {Q : Unit → Shared → Prop} (I : Inv X pins σ H s) (hN : X.N.Nodup) (hi : X.N[i]? = some x) (hx : Loc X.env.scope x) (r : RelV v u)
    (h : ∀ s', Inv X pins (σ.set i (some v)) H s' → (∃ a, Heap.SameBut a s.heap s'.heap ∧ (a = X.env.locals ∨ X.env.cells.lookup x = some a)) → Q () s') (hf : X.fn x = true ∨ X.env.scope.names.lookup x = some .local := by first | exact .inl rfl | exact .inr rfl | assumption) : wpAny M A (storeName X.env x u) Q E s := by
  obtain ⟨m, hn, hl⟩ := id I.loc
  have hcls : (X.env.scope.kind == .class || (X.env.scope.kind == .module && X.env.locals != X.env.globals)) = false := by rw [I.ok.kind]; rfl
  have hiσ : i < σ.length := by rw [I.len]; exact (List.getElem?_eq_some_iff.mp hi).1
  have cne := I.cne
  have tracked : ∀ {a : Addr} {h' : Heap}, (∃ o, s.heap.get? a = some o ∧ H a = none) → Heap.SameBut a s.heap h' → HOk X.prog X.w H h' := fun {a h'} ha hs b ob e => by
    obtain ⟨_, _, hfree⟩ := ha
    refine (I.hok b ob e).stay (fun c w' hc q => (hs.2 c ?_).trans q) (fun _ q => q) fun _ _ q => q
    rintro rfl
    rcases hc with rfl | hc
    · rw [hfree] at e; cases e
    · rw [hfree] at hc; cases hc
  rcases hx with hk | hk
  · refine wpAny_storeName_local hk hn (fun h' hn' hs => ?_) hcls
    obtain ⟨oL, _, _, hoL, _⟩ := id hn
    refine h _ ⟨I.ok, I.os, I.bare, ⟨fun b o e n hb hx => ?_, fun b o e n hb hx => ?_, I.base.free, fun b o e hx => ?_, I.base.tups, I.base.frzs, I.base.tbls⟩, ⟨_, hn', fun j y v' e1 e2 e3 => ?_⟩, fun y c e => ?_, I.free, I.freeC, fun p hp => ?_, tracked ⟨oL, hoL, I.free⟩ hs, by simpa using I.len⟩ ⟨_, hs, .inl rfl⟩
    · exact (hs.2 b (Nat.ne_of_lt (Nat.lt_of_lt_of_le (Heap.lt_size e) I.ok.above))).trans (I.base.keep b o e n hb hx)
    · obtain ⟨sl, e1⟩ := I.base.slot b o e n hb hx
      exact ⟨sl, (hs.2 b (Nat.ne_of_lt (Nat.lt_of_lt_of_le (Heap.lt_size e) I.ok.above))).trans e1⟩
    · obtain ⟨o', e1⟩ := I.base.there b o e hx
      exact ⟨o', (hs.2 b (Nat.ne_of_lt (Nat.lt_of_lt_of_le (Heap.lt_size e) I.ok.above))).trans e1⟩
    · by_cases hj : j = i
      · subst hj
        rw [hi] at e1; cases e1
        rw [List.getElem?_set_self hiσ] at e2
        cases e2
        exact ⟨u, r, .inl ⟨hk, by simp⟩⟩
      · rw [List.getElem?_set_ne (Ne.symm hj)] at e2
        obtain ⟨u', r', q⟩ := hl j y v' e1 e2 e3
        refine ⟨u', r', ?_⟩
        rcases q with ⟨k, e⟩ | ⟨k, c, e, z⟩
        · refine .inl ⟨k, ?_⟩
          have : y ≠ x := fun e => hj (nodup_ix hN e1 (e ▸ hi))
          simp [this, e]
        · exact .inr ⟨k, c, e, z.sameBut hs (cne y c e)⟩
    · obtain ⟨w', z⟩ := I.cell y c e
      exact ⟨w', z.sameBut hs (cne y c e)⟩
    · obtain ⟨e, n, ne, nf, d⟩ := I.pin p hp
      exact ⟨(hs.2 p.1 ne).trans e, n, ne, nf, d⟩
  · have hfn : X.fn x = true := by
      rcases hf with z | z
      · exact z
      · rw [z] at hk; cases hk
    obtain ⟨c, hc⟩ := I.ok.has x (.inl hk)
    obtain ⟨w', z⟩ := I.cell x c hc
    refine wpAny_storeName_cell I.ok.kind hk hc z (fun h' hc' hs => ?_)
    obtain ⟨oc, hoc, hocd⟩ := id z
    refine h { s with heap := h' } ⟨I.ok, I.os, I.bare, ⟨fun b o e n hb hx => ?_, fun b o e n hb hx => ?_, I.base.free, fun b o e hx => ?_, I.base.tups, I.base.frzs, I.base.tbls⟩, ⟨m, hn.sameBut hs (Ne.symm (cne x c hc)), fun j y v' e1 e2 e3 => ?_⟩, fun y c' e => ?_, I.free, I.freeC, fun p hp => ?_, tracked ⟨oc, hoc, I.freeC x c hc⟩ hs, by simpa using I.len⟩ ⟨c, hs, .inr hc⟩
    · exact (hs.2 b (Nat.ne_of_lt (Nat.lt_of_lt_of_le (Heap.lt_size e) (I.ok.cab x c hfn hc)))).trans (I.base.keep b o e n hb hx)
    · obtain ⟨sl, e1⟩ := I.base.slot b o e n hb hx
      exact ⟨sl, (hs.2 b (Nat.ne_of_lt (Nat.lt_of_lt_of_le (Heap.lt_size e) (I.ok.cab x c hfn hc)))).trans e1⟩
    · obtain ⟨o', e1⟩ := I.base.there b o e hx
      exact ⟨o', (hs.2 b (Nat.ne_of_lt (Nat.lt_of_lt_of_le (Heap.lt_size e) (I.ok.cab x c hfn hc)))).trans e1⟩
    · by_cases hj : j = i
      · subst hj
        rw [hi] at e1; cases e1
        rw [List.getElem?_set_self hiσ] at e2
        cases e2
        exact ⟨u, r, .inr ⟨.inl hk, c, hc, hc'⟩⟩
      · rw [List.getElem?_set_ne (Ne.symm hj)] at e2
        obtain ⟨u', r', q⟩ := hl j y v' e1 e2 e3
        refine ⟨u', r', ?_⟩
        rcases q with q | ⟨k, c', e, z'⟩
        · exact .inl q
        · refine .inr ⟨k, c', e, z'.sameBut hs ?_⟩
          rintro rfl
          exact hj (nodup_ix hN e1 (I.ok.inj _ _ _ e hc ▸ hi))
    · by_cases hcc : c' = c
      · subst hcc; exact ⟨_, hc'⟩
      · obtain ⟨w2, z2⟩ := I.cell y c' e
        exact ⟨w2, z2.sameBut hs hcc⟩
    · obtain ⟨e, n, ne, nf, d⟩ := I.pin p hp
      refine ⟨(hs.2 p.1 ?_).trans e, n, ne, nf, d⟩
      intro q
      rw [q, hoc] at e
      have q' : oc = p.2 := Option.some.inj e
      exact d w' (by rw [← q']; exact hocd)
theorem store_ok {M : Model} {A : Around} {E : Value → Shared → Prop} {i : Nat} {x : Str} {v : V} {u : Value} {Q : Unit → Shared → Prop} (I : Inv X pins σ H s) (hN : X.N.Nodup) (hi : X.N[i]? = some x) (hx : Loc X.env.scope x) (r : RelV v u)
    (h : ∀ s', Inv X pins (σ.set i (some v)) H s' → Q () s') (hf : X.fn x = true ∨ X.env.scope.names.lookup x = some .local := by first | exact .inl rfl | exact .inr rfl | assumption) : wpAny M A (storeName X.env x u) Q E s :=
  store_ok2 I hN hi hx r (fun s' I' _ => h s' I') hf
/-- behind a call or a block, the state as it is -/
theorem Inv.call' {s' : Shared} {ch : List Addr} (I : Inv X pins σ H s) (ho : s'.os = s.os) (u : Un (frs X.stack) ch H H' s.heap s'.heap) (hok : HOk X.prog X.w H' s'.heap) (hg : AllBare s'.gens)
    (hch : ∀ b ∈ ch, (b ∈ X.ex ∨ X.s₀.heap.objs.size ≤ b) ∧ b ≠ X.env.locals ∧ (∀ x c, X.env.cells.lookup x = some c → c ≠ b) ∧ ∀ p ∈ X.pn ++ pins, p.1 ≠ b) : Inv X pins σ H' s' := by
  obtain ⟨h', g', d', t', o'⟩ := s'
  have e : o' = s.os := ho
  subst e
  exact I.call (g' := g') (t' := t') (d' := d') u hok hg hch
end

/-- an exception: its class, its own dict's address (where it has one), the abstract heap behind it -/
abbrev XK := Value → Option Addr → Hp → Prop
abbrev St := List (Option V)
abbrev VK := V → Hp → Prop
/-- an expression's reading; a test's; an argument list's -/
abbrev TE := St → Hp → VK → Prop
abbrev TT := St → Hp → (Bool → Hp → Prop) → Prop
abbrev TA := St → Hp → (List V → Hp → Prop) → Prop
/-- what is wanted behind a statement -/
structure Ends where
  nx : St → Hp → Prop
  rt : VK
  bk : St → Hp → Prop := fun _ _ => False
  ct : St → Hp → Prop := fun _ _ => False
abbrev TS := Ends → St → Hp → Prop

def EP (X : Cx) (pins : List (Addr × Obj)) (σ : St) (Q : VK) (u : Value) (s' : Shared) : Prop := ∃ v H', Inv X pins σ H' s' ∧ RelV v u ∧ Q v H'
def TP (X : Cx) (pins : List (Addr × Obj)) (σ : St) (Q : Bool → Hp → Prop) (b : Bool) (s' : Shared) : Prop := ∃ H', Inv X pins σ H' s' ∧ Q b H'
def AP (X : Cx) (pins : List (Addr × Obj)) (σ : St) (Q : List V → Hp → Prop) (us : List Value) (s' : Shared) : Prop := ∃ vs H', Inv X pins σ H' s' ∧ Vals vs us ∧ Q vs H'
def SP (X : Cx) (pins : List (Addr × Obj)) (D : Ends) (f : Flow) (s' : Shared) : Prop :=
  match f with
  | .next => ∃ σ' H', Inv X pins σ' H' s' ∧ D.nx σ' H'
  | .brk => ∃ σ' H', Inv X pins σ' H' s' ∧ D.bk σ' H'
  | .cont => ∃ σ' H', Inv X pins σ' H' s' ∧ D.ct σ' H'
  | .ret u => ∃ v σ' H', Inv X pins σ' H' s' ∧ RelV v u ∧ D.rt v H'

def PE (X : Cx) (e : Expr) (t : TE) : Prop :=
  ∀ (pins : List (Addr × Obj)) (s : Shared) (σ : St) (H : Hp) (Q : VK), Inv X pins σ H s → t σ H Q → wpAny (model X.prog X.w) X.A (eval e X.env) (EP X pins σ Q) X.xe s
def PT (X : Cx) (e : Expr) (t : TT) : Prop :=
  ∀ (pins : List (Addr × Obj)) (s : Shared) (σ : St) (H : Hp) (Q : Bool → Hp → Prop), Inv X pins σ H s → t σ H Q → wpAny (model X.prog X.w) X.A (isTrue e X.env (eval e X.env)) (TP X pins σ Q) X.xe s
/-- a test whatever its 'whole' is (and, or) -/
def PW (X : Cx) (e : Expr) (t : TT) : Prop :=
  ∀ (whole : Sem Value) (pins : List (Addr × Obj)) (s : Shared) (σ : St) (H : Hp) (Q : Bool → Hp → Prop), Inv X pins σ H s → t σ H Q → wpAny (model X.prog X.w) X.A (isTrue e X.env whole) (TP X pins σ Q) X.xe s
theorem PW.pt {X : Cx} {e : Expr} {t : TT} (h : PW X e t) : PT X e t := h _
/-- an argument list (no star), from the left -/
def PA (X : Cx) (es : List Expr) (t : TA) : Prop :=
  ∀ (pos : Pos) (pins : List (Addr × Obj)) (s : Shared) (σ : St) (H : Hp) (Q : List V → Hp → Prop), Inv X pins σ H s → t σ H Q → wpAny (model X.prog X.w) X.A (spliced (backTo pos (starEach es X.env))) (AP X pins σ Q) X.xe s
def PS (X : Cx) (st : Stmt) (t : TS) : Prop :=
  ∀ (pins : List (Addr × Obj)) (s : Shared) (σ : St) (H : Hp) (D : Ends), Inv X pins σ H s → t D σ H → wpAny (model X.prog X.w) X.A (exec st X.env) (SP X pins D) X.xe s
def PSs (X : Cx) (st : List Stmt) (t : TS) : Prop :=
  ∀ (pins : List (Addr × Obj)) (s : Shared) (σ : St) (H : Hp) (D : Ends), Inv X pins σ H s → t D σ H → wpAny (model X.prog X.w) X.A (execs st X.env) (SP X pins D) X.xe s
/-- weaken the end -/
theorem thn {α : Type} {t : Sem α} {Q Q' : α → Shared → Prop} {M : Model} {A : Around} {E : Value → Shared → Prop} {s : Shared} (h : wpAny M A t Q E s) (hQ : ∀ a s, Q a s → Q' a s) : wpAny M A t Q' E s := wpAny_mono h hQ fun _ _ x => x
end L2

namespace L2
open PySem PySem.Spec PyProof.Rows
section
variable {X : Cx}

def tVar (i : Nat) : TE := fun σ H Q => ∃ v, σ[i]? = some (some v) ∧ Q v H
def tC (v : V) : TE := fun _ H Q => Q v H
theorem pe_var {i : Nat} {x : Str} {pos : Pos} (hN : X.N[i]? = some x) (hv : Vis X.env.scope x) (hd : (x == ("__debug__" : Str)) = false := by decide) (hcd : (x == ("__classdict__" : Str)) = false := by decide) : PE X (.Name x pos) (tVar i) := by
  intro pins s σ H Q I h
  obtain ⟨v, e, h⟩ := h
  obtain ⟨m, hn, hl⟩ := I.loc
  obtain ⟨u, r, l⟩ := hl i x v hN e hv
  have fin : EP X pins σ Q u s := ⟨v, H, I, r, h⟩
  rcases l with ⟨hk, hm⟩ | ⟨hk, c, hc, hcell⟩
  · exact wpAny_Name (wpAny_loadName_local I.ok.kind hk hn hm fin) hd
  · rcases hk with hk | hk
    · exact wpAny_Name (wpAny_loadName_cell I.ok.kind hk hc hcell fin) hd
    · exact wpAny_Name (wpAny_loadName_free I.ok.kind hk hc hcell fin hcd) hd
theorem pe_int {i j pos} : PE X (.Constant (.int i) j pos) (tC (.int i)) := fun _ _ _ H _ I h => wpAny_Constant_int ⟨.int i, H, I.tok _, ⟨_, rfl⟩, h⟩
theorem pe_bl {b j pos} : PE X (.Constant (.bool b) j pos) (tC (.bl b)) := fun _ _ _ H _ I h => Constant_bool ⟨.bl b, H, I, rfl, h⟩
theorem pe_str {x j pos} : PE X (.Constant (.str x) j pos) (tC (.str x)) := fun _ _ _ H _ I h => Calls.Constant_str ⟨.str x, H, I.tok _, ⟨_, rfl⟩, h⟩

/-- a global name of the def -/
def Gl (X : Cx) (x : Str) : Prop := X.env.kindOf x = some .globalImplicit
theorem ld_glob {E : Value → Shared → Prop} {pins : List (Addr × Obj)} {s : Shared} {σ : St} {H : Hp} {x : Str} {u : Value} {pos : Pos} {Q : Value → Shared → Prop} (I : Inv X pins σ H s) (hg : Gl X x) (hm : X.mg x = some u) (h : Q u s)
    (hd : (x == ("__debug__" : Str)) = false := by decide) : wpAny (model X.prog X.w) X.A (eval (.Name x pos) X.env) Q E s :=
  Calls.Name_function_global I.ok.kind hg (Calls.loadGlobal_global (by rw [I.ok.glob]; exact I.mod.glob.keeps I.bk) hm h) hd
theorem ld_blt {E : Value → Shared → Prop} {pins : List (Addr × Obj)} {s : Shared} {σ : St} {H : Hp} {x : Str} {u : Value} {pos : Pos} {Q : Value → Shared → Prop} (I : Inv X pins σ H s) (hg : Gl X x) (hm : X.mg x = none) (hv : bootBuiltins x = some u) (h : Q u s)
    (hn : x ≠ "__name__" := by decide) (hd : (x == ("__debug__" : Str)) = false := by decide) : wpAny (model X.prog X.w) X.A (eval (.Name x pos) X.env) Q E s := by
  obtain ⟨mb, h1, h2⟩ := I.mod.blt
  exact Calls.Name_function_global I.ok.kind hg (Calls.loadGlobal_builtin (by rw [I.ok.glob]; exact I.mod.glob.keeps I.bk) hm (by rw [I.ok.blt]; exact h1.keeps I.bk) ((h2 x hn).trans hv) h) hd
/-- a module's constant, a class, a function, as a value -/
theorem pe_glob {x : Str} {v : V} {u : Value} {pos : Pos} (hg : Gl X x) (hm : X.mg x = some u) (r : RelV v u) (hd : (x == ("__debug__" : Str)) = false := by decide) : PE X (.Name x pos) (tC v) :=
  fun _ _ _ H _ I h => ld_glob I hg hm ⟨v, H, I, r, h⟩ hd
theorem pe_bltn {x : Str} {v : V} {u : Value} {pos : Pos} (hg : Gl X x) (hm : X.mg x = none) (hv : bootBuiltins x = some u) (r : RelV v u) (hn : x ≠ "__name__" := by decide) (hd : (x == ("__debug__" : Str)) = false := by decide) : PE X (.Name x pos) (tC v) :=
  fun _ _ _ H _ I h => ld_blt I hg hm hv ⟨v, H, I, r, h⟩ hn hd

variable {a b : Expr} {ta tb : TE} {pos : Pos}
/-- a comparison as a value, as a test -/
def tB (t : TE) : TT := fun σ H Q => t σ H fun x H1 => ∃ c, x = .bl c ∧ Q c H1
/-- an expression whose value is a bool, as a test -/
theorem pt_val {e : Expr} {t : TE} (h : PE X e t) (he : ∀ whole, isTrue e X.env whole = (do let v ← whole; standAt e.pos; holding [v] (truthy v)) := by intro _; rfl) : PT X e (tB t) := by
  intro pins s σ H Q I hw
  refine isTrue_plain (thn (h pins s σ H _ I hw) fun v s1 ⟨x, H1, I1, r1, q1⟩ => ?_) (he _)
  obtain ⟨d, rfl, q⟩ := q1
  cases r1
  exact wpAny_truthy_bool ⟨H1, I1, q⟩

variable {tA tB' : TT} {rest : List Expr}
def tAnd (t u : TT) : TT := fun σ H Q => t σ H fun c H1 => if c = true then u σ H1 Q else Q false H1
def tOr (t u : TT) : TT := fun σ H Q => t σ H fun c H1 => if c = true then Q true H1 else u σ H1 Q
def tNot (t : TT) : TT := fun σ H Q => t σ H fun c H1 => Q (!c) H1
theorem pw_and1 (ha : PT X a tA) : PW X (.BoolOp .And [a] pos) tA := by
  intro wh pins s σ H Q I h
  refine isTrue_and (thn (ha pins s σ H Q I h) fun c s1 e => ?_)
  cases c with
  | true => exact isTrue_and_nil e
  | false => exact e
theorem pw_or1 (ha : PT X a tA) : PW X (.BoolOp .Or [a] pos) tA := by
  intro wh pins s σ H Q I h
  refine isTrue_or (thn (ha pins s σ H Q I h) fun c s1 e => ?_)
  cases c with
  | false => exact isTrue_or_nil e
  | true => exact e
theorem pw_and (ha : PT X a tA) (hb : PW X (.BoolOp .And (b :: rest) pos) tB') : PW X (.BoolOp .And (a :: b :: rest) pos) (tAnd tA tB') := by
  intro wh pins s σ H Q I h
  refine isTrue_and (thn (ha pins s σ H _ I h) fun c s1 ⟨H1, I1, q1⟩ => ?_)
  cases c with
  | true => exact hb wh pins s1 σ H1 Q I1 q1
  | false => exact ⟨H1, I1, q1⟩
theorem pw_or (ha : PT X a tA) (hb : PW X (.BoolOp .Or (b :: rest) pos) tB') : PW X (.BoolOp .Or (a :: b :: rest) pos) (tOr tA tB') := by
  intro wh pins s σ H Q I h
  refine isTrue_or (thn (ha pins s σ H _ I h) fun c s1 ⟨H1, I1, q1⟩ => ?_)
  cases c with
  | true => exact ⟨H1, I1, q1⟩
  | false => exact hb wh pins s1 σ H1 Q I1 q1
theorem pt_not (ha : PT X a tA) : PT X (.UnaryOp .Not a pos) (tNot tA) := by
  intro pins s σ H Q I h
  exact isTrue_not (ha pins s σ H (fun c H1 => Q (!c) H1) I h)
/-- .. as values (bools) -/
def tAndV (ta tb : TE) : TE := fun σ H Q => ta σ H fun x H1 => ∃ c, x = .bl c ∧ if c = true then tb σ H1 Q else Q (.bl false) H1
def tOrV (ta tb : TE) : TE := fun σ H Q => ta σ H fun x H1 => ∃ c, x = .bl c ∧ if c = true then Q (.bl true) H1 else tb σ H1 Q
def tNotV (ta : TE) : TE := fun σ H Q => ta σ H fun x H1 => ∃ c, x = .bl c ∧ Q (.bl (!c)) H1
theorem pe_one {op} {t : TE} (h : PE X a t) : PE X (.BoolOp op [a] pos) t := fun pins s σ H Q I hw => BoolOp_one (h pins s σ H Q I hw)
theorem pe_and (ha : PE X a ta) (hb : PE X (.BoolOp .And (b :: rest) pos) tb) : PE X (.BoolOp .And (a :: b :: rest) pos) (tAndV ta tb) := by
  intro pins s σ H Q I h
  refine BoolOp_and (thn (ha pins s σ H _ I h) fun v s1 ⟨x, H1, I1, r1, q1⟩ => ?_)
  obtain ⟨c, rfl, q1⟩ := q1
  cases r1
  refine wpAny_truthy_bool ?_
  cases c with
  | true => exact hb pins s1 σ H1 Q I1 q1
  | false => exact ⟨.bl false, H1, I1, rfl, q1⟩
theorem pe_or (ha : PE X a ta) (hb : PE X (.BoolOp .Or (b :: rest) pos) tb) : PE X (.BoolOp .Or (a :: b :: rest) pos) (tOrV ta tb) := by
  intro pins s σ H Q I h
  refine BoolOp_or (thn (ha pins s σ H _ I h) fun v s1 ⟨x, H1, I1, r1, q1⟩ => ?_)
  obtain ⟨c, rfl, q1⟩ := q1
  cases r1
  refine wpAny_truthy_bool ?_
  cases c with
  | false => exact hb pins s1 σ H1 Q I1 q1
  | true => exact ⟨.bl true, H1, I1, rfl, q1⟩
theorem pe_not (ha : PE X a ta) : PE X (.UnaryOp .Not a pos) (tNotV ta) := by
  intro pins s σ H Q I h
  refine UnaryOp_ (thn (ha pins s σ H _ I h) fun v s1 ⟨x, H1, I1, r1, q1⟩ => ?_)
  obtain ⟨c, rfl, q1⟩ := q1
  cases r1
  exact not_of (wpAny_truthy_bool ⟨.bl (!c), H1, I1, rfl, q1⟩)
/-- a if t else b -/
def tIf (t : TT) (ta tb : TE) : TE := fun σ H Q => t σ H fun c H1 => if c = true then ta σ H1 Q else tb σ H1 Q
theorem pe_ifExp {c : Expr} (hc : PT X c tA) (ha : PE X a ta) (hb : PE X b tb) : PE X (.IfExp c a b pos) (tIf tA ta tb) := by
  intro pins s σ H Q I h
  refine wpAny_IfExp (thn (hc pins s σ H _ I h) fun d s1 ⟨H1, I1, q1⟩ => ?_)
  cases d with
  | true => exact ha pins s1 σ H1 Q I1 q1
  | false => exact hb pins s1 σ H1 Q I1 q1
end
end L2

namespace L2
open PySem PySem.Spec PyProof.Rows

def SqL (K : PySem.W.Frag) (H : Hp) (a : Addr) (xs : List V) : Prop :=
  Rd H a (.lst xs) ∨
    ∃ (o : Obj) (its : Array Value) (n : Nat), K.lookup a = some o ∧ o.cls = .type "list" ∧ o.dict = none ∧ o.data = .seq its n ∧ its.size ≤ sizeLine ∧ Vals xs its.toList
def SqT (K : PySem.W.Frag) (H : Hp) (a : Addr) (xs : List V) : Prop :=
  Rd H a (.tup xs) ∨
    ∃ (o : Obj) (its : Array Value) (n : Nat), K.lookup a = some o ∧ o.cls = .type "tuple" ∧ o.data = .seq its n ∧ its.size ≤ sizeLine ∧ Vals xs its.toList
def absV : Value → Option V
  | .none => some .non
  | .bool b => some (.bl b)
  | .int i _ => some (.int i)
  | .str x _ => some (.str x)
  | .bytes b _ => some (.byt b)
  | .float b _ => some (.flt b)
  | .ref a => some (.ref a)
  | .type n => some (.ty n)
  | _ => none
theorem RelV.abs {x : V} {u : Value} (r : RelV x u) : absV u = some x := by
  cases x with
  | non => cases r; rfl
  | bl _ => cases r; rfl
  | int _ => obtain ⟨t, rfl⟩ := r; rfl
  | str _ => obtain ⟨t, rfl⟩ := r; rfl
  | byt _ => obtain ⟨t, rfl⟩ := r; rfl
  | flt _ => obtain ⟨t, rfl⟩ := r; rfl
  | ref _ => cases r; rfl
  | ty _ => cases r; rfl
theorem RelV.inj {x y : V} {u : Value} (r : RelV x u) (q : RelV y u) : x = y := Option.some.inj (r.abs.symm.trans q.abs)
theorem Vals.inj : ∀ {xs ys : List V} {us : List Value}, Vals xs us → Vals ys us → xs = ys
  | _, _, _, .nil, .nil => rfl
  | _, _, _, .cons r t, .cons r' t' => by rw [r.inj r', Vals.inj t t']
section
variable {X : Cx} {pins : List (Addr × Obj)} {σ : St} {H : Hp} {s : Shared} {a : Addr} {xs ys : List V}
theorem SqL.of {K : PySem.W.Frag} (h : H a = some (.lst xs)) : SqL K H a xs := .inl (.inl h)
theorem SqT.of {K : PySem.W.Frag} (h : H a = some (.tup xs)) : SqT K H a xs := .inl (.inl h)
theorem Inv.list (I : Inv X pins σ H s) (h : SqL X.K H a xs) : ∃ its : List Value, Vals xs its ∧ PlainL s.heap a its.toArray ∧ xs.length ≤ sizeLine := by
  rcases h with h | ⟨o, its, n, hk, hc, hd, hs, hz, r⟩
  · obtain ⟨z, its, n, r, e⟩ := h.ok I.hok
    exact ⟨its, r, ⟨_, n, e, rfl, rfl, rfl⟩, z⟩
  · refine ⟨its.toList, r, ⟨o, n, I.kIn a o hk, hc, hd, by simpa using hs⟩, ?_⟩
    have e := r.length
    simp only [Array.length_toList] at e
    omega
theorem Inv.tuple (I : Inv X pins σ H s) (h : SqT X.K H a xs) : ∃ its : List Value, Vals xs its ∧ IsTup s.heap a its.toArray ∧ xs.length ≤ sizeLine := by
  rcases h with h | ⟨o, its, n, hk, hc, hs, hz, r⟩
  · obtain ⟨z, its, r, p⟩ := h.ok I.hok
    exact ⟨its, r, p, z⟩
  · refine ⟨its.toList, r, ⟨o, I.kIn a o hk, hc, n, by simpa using hs⟩, ?_⟩
    have e := r.length
    simp only [Array.length_toList] at e
    omega
theorem Inv.list_inj (I : Inv X pins σ H s) (h : SqL X.K H a xs) (h' : SqL X.K H a ys) : xs = ys := by
  obtain ⟨its, r, ⟨o, n, e, _, _, d⟩, _⟩ := I.list h
  obtain ⟨its', r', ⟨o', n', e', _, _, d'⟩, _⟩ := I.list h'
  rw [e] at e'; cases e'
  rw [d] at d'
  injection d' with d1 _
  have : its = its' := by simpa using congrArg Array.toList d1
  subst this
  exact r.inj r'
theorem Inv.tuple_inj (I : Inv X pins σ H s) (h : SqT X.K H a xs) (h' : SqT X.K H a ys) : xs = ys := by
  obtain ⟨its, r, ⟨o, e, _, n, d⟩, _⟩ := I.tuple h
  obtain ⟨its', r', ⟨o', e', _, n', d'⟩, _⟩ := I.tuple h'
  rw [e] at e'; cases e'
  rw [d] at d'
  injection d' with d1 _
  have : its = its' := by simpa using congrArg Array.toList d1
  subst this
  exact r.inj r'
end

abbrev Cx.wish (X : Cx) (E : Value → Shared → Prop) : Cx := { X with xe := E }
/-- no exception leaves -/
abbrev Cx.nox (X : Cx) : Cx := X.wish fun _ _ => False
theorem Cx.Ok.wish {X : Cx} (ok : X.Ok) (E : Value → Shared → Prop) : (X.wish E).Ok :=
  ⟨ok.mod, ok.kind, ok.glob, ok.blt, ok.above, ok.inj, ok.has, ok.cab, ok.hd, ok.frames, ok.stk, ok.exf, ok.bs, ok.bsz, ok.noex, ok.exfs, ok.funs, ok.frf⟩
theorem Cx.Ok.unwish {X : Cx} {E : Value → Shared → Prop} (ok : (X.wish E).Ok) : X.Ok :=
  ⟨ok.mod, ok.kind, ok.glob, ok.blt, ok.above, ok.inj, ok.has, ok.cab, ok.hd, ok.frames, ok.stk, ok.exf, ok.bs, ok.bsz, ok.noex, ok.exfs, ok.funs, ok.frf⟩
section
variable {X : Cx} {pins : List (Addr × Obj)} {σ : St} {H : Hp} {s : Shared} {E : Value → Shared → Prop}
theorem Inv.wish (I : Inv X pins σ H s) (E : Value → Shared → Prop) : Inv (X.wish E) pins σ H s := ⟨I.ok.wish E, I.os, I.bare, I.base, I.loc, I.cell, I.free, I.freeC, I.pin, I.hok, I.len⟩
theorem Inv.unwish (I : Inv (X.wish E) pins σ H s) : Inv X pins σ H s := ⟨I.ok.unwish, I.os, I.bare, I.base, I.loc, I.cell, I.free, I.freeC, I.pin, I.hok, I.len⟩
theorem SP.unwish {D : Ends} {f : Flow} {s' : Shared} (h : SP (X.wish E) pins D f s') : SP X pins D f s' := by
  cases f with
  | next => obtain ⟨σ', H', I, q⟩ := h; exact ⟨σ', H', I.unwish, q⟩
  | brk => obtain ⟨σ', H', I, q⟩ := h; exact ⟨σ', H', I.unwish, q⟩
  | cont => obtain ⟨σ', H', I, q⟩ := h; exact ⟨σ', H', I.unwish, q⟩
  | ret u => obtain ⟨v, σ', H', I, r, q⟩ := h; exact ⟨v, σ', H', I.unwish, r, q⟩
theorem PE.nox {e : Expr} {t : TE} (h : PE X.nox e t) : PE X e t := fun pins s σ H Q I hw =>
  wpAny_mono (h pins s σ H Q (I.wish _) hw) (fun _ _ ⟨v, H', I', r, q⟩ => ⟨v, H', I'.unwish, r, q⟩) fun _ _ z => False.elim z
theorem PT.nox {e : Expr} {t : TT} (h : PT X.nox e t) : PT X e t := fun pins s σ H Q I hw =>
  wpAny_mono (h pins s σ H Q (I.wish _) hw) (fun _ _ ⟨H', I', q⟩ => ⟨H', I'.unwish, q⟩) fun _ _ z => False.elim z
theorem PSs.nox {st : List Stmt} {t : TS} (h : PSs X.nox st t) : PSs X st t := fun pins s σ H D I hw =>
  wpAny_mono (h pins s σ H D (I.wish _) hw) (fun _ _ q => q.unwish) fun _ _ z => False.elim z
end

section
variable {X : Cx} {st : Stmt} {rest : List Stmt} {t u : TS} {e : Expr} {te : TE} {pos : Pos}
def tNext : TS := fun D σ H => D.nx σ H
def tSeq (t u : TS) : TS := fun D σ H => t { D with nx := u D } σ H
theorem pss_nil : PSs X [] tNext := fun _ _ σ H _ I h => wpAny_execs_nil ⟨σ, H, I, h⟩
theorem pss_cons (h1 : PS X st t) (h2 : PSs X rest u) : PSs X (st :: rest) (tSeq t u) := by
  intro pins s σ H D I h
  refine wpAny_execs_cons (thn (h1 pins s σ H { D with nx := u D } I h) fun f s1 q => ?_)
  cases f with
  | next =>
    obtain ⟨σ', H', I', q⟩ := q
    exact h2 pins s1 σ' H' D I' q
  | ret v => exact q
  | brk => exact q
  | cont => exact q
theorem pss_one (h1 : PS X st t) : PSs X [st] t := by
  intro pins s σ H D I h
  refine wpAny_execs_cons (thn (h1 pins s σ H D I h) fun f s1 q => ?_)
  cases f with
  | next => exact wpAny_execs_nil q
  | ret v => exact q
  | brk => exact q
  | cont => exact q
/-- in a def's body nothing is shown -/
theorem Inv.quiet {pins : List (Addr × Obj)} {σ : St} {H : Hp} {s : Shared} (I : Inv X pins σ H s) : interactive X.env = false := by simp [interactive, I.ok.kind]
/-- an expression whose value is dropped -/
def tDrop (te : TE) : TS := fun D σ H => te σ H fun _ H1 => D.nx σ H1
theorem ps_expr (he : PE X e te) (hs : swapsWith e none pos.line X.env = pure false := by rfl) : PS X (.Expr e pos) (tDrop te) := by
  intro pins s σ H D I h
  exact wpAny_Expr_any (thn (he pins s σ H _ I h) fun v s1 ⟨x, H1, I1, r1, q1⟩ => ⟨σ, H1, I1, q1⟩) I.quiet hs
def tRet (te : TE) : TS := fun D σ H => te σ H D.rt
theorem ps_ret (he : PE X e te) : PS X (.Return (some e) pos) (tRet te) := by
  intro pins s σ H D I h
  exact wpAny_Return_some (thn (he pins s σ H _ I h) fun v s1 ⟨x, H1, I1, r1, q1⟩ => ⟨x, σ, H1, I1, r1, q1⟩)
def tIfS (c : TT) (t u : TS) : TS := fun D σ H => c σ H fun b H1 => if b = true then t D σ H1 else u D σ H1
theorem ps_if {c : Expr} {a b : List Stmt} {tc : TT} (hc : PT X c tc) (ha : PSs X a t) (hb : PSs X b u) : PS X (.If c a b pos) (tIfS tc t u) := by
  intro pins s σ H D I h
  refine wpAny_If (thn (hc pins s σ H _ I h) fun d s1 ⟨H1, I1, q1⟩ => ?_)
  cases d with
  | true => exact ha pins s1 σ H1 D I1 q1
  | false => exact hb pins s1 σ H1 D I1 q1
/-- code that the proof never comes to -/
def tNever : TS := fun _ _ _ => False
theorem ps_never : PS X st tNever := fun _ _ _ _ _ _ h => h.elim
end

abbrev TG := V → St → Hp → (St → Hp → Prop) → Prop
def PG (X : Cx) (target : Expr) (t : TG) : Prop :=
  ∀ (pins : List (Addr × Obj)) (s : Shared) (σ : St) (H : Hp) (v : V) (u : Value) (Q : St → Hp → Prop), Inv X pins σ H s → RelV v u → t v σ H Q →
    wpAny (model X.prog X.w) X.A (assign target X.env u) (fun _ s' => ∃ σ' H', Inv X pins σ' H' s' ∧ Q σ' H') X.xe s
/-- o[i] = v, by values -/
abbrev TSet := V → V → V → Hp → (Hp → Prop) → Prop
def PSet (X : Cx) (t : TSet) : Prop :=
  ∀ (pins : List (Addr × Obj)) (s : Shared) (σ : St) (H : Hp) (o i v : V) (ov iv u : Value) (Q : Hp → Prop), Inv X pins σ H s → RelV o ov → RelV i iv → RelV v u → t o i v H Q →
    wpAny (model X.prog X.w) X.A (setItem ov iv u) (fun _ s' => ∃ H', Inv X pins σ H' s' ∧ Q H') X.xe s
section
variable {X : Cx} {pos : Pos}
def gName (i : Nat) : TG := fun v σ H Q => Q (σ.set i (some v)) H
theorem pg_name {i : Nat} {x : Str} (hN : X.N.Nodup) (hi : X.N[i]? = some x) (hx : Loc X.env.scope x) (hf : X.fn x = true ∨ X.env.scope.names.lookup x = some .local := by first | exact .inl rfl | exact .inr rfl | assumption) : PG X (.Name x pos) (gName i) := by
  intro pins s σ H v u Q I r h
  exact wpAny_assign_Name (store_ok I hN hi hx r (fun s' I' => ⟨_, H, I', h⟩) hf)
/-- o[i] = .. -/
def gSub (to ti : TE) (t : TSet) : TG := fun v σ H Q => to σ H fun o H1 => ti σ H1 fun i H2 => t o i v H2 fun H3 => Q σ H3
theorem pg_sub {o i : Expr} {to ti : TE} {t : TSet} (ho : PE X o to) (hi : PE X i ti) (hs : PSet X t)
    (ha : ∀ v, assign (.Subscript o i pos) X.env v = (do
      let ov ← holding [v] (eval o X.env)
      let iv ← holding [v, ov] (eval i X.env)
      standAt pos
      holding [v, ov, iv] (setItem ov iv v)
      release [v, ov, iv] []) := by intro _; rfl) : PG X (.Subscript o i pos) (gSub to ti t) := by
  intro pins s σ H v u Q I r h
  rw [ha]
  refine wpAny_bind (wpAny_holding (thn (ho pins s σ H _ I h) fun ov s1 ⟨x, H1, I1, r1, q1⟩ => ?_))
  refine wpAny_bind (wpAny_holding (thn (hi pins s1 σ H1 _ I1 q1) fun iv s2 ⟨y, H2, I2, r2, q2⟩ => ?_))
  refine wpAny_bind (wpAny_standAt (wpAny_bind (wpAny_holding (thn (hs pins s2 σ H2 x y v ov iv u _ I2 r1 r2 r q2) fun _ s3 ⟨H3, I3, q3⟩ => ?_))))
  exact wpAny_release ⟨σ, H3, I3, q3⟩
/-- target = value -/
def tAsg (te : TE) (g : TG) : TS := fun D σ H => te σ H fun x H1 => g x σ H1 D.nx
theorem ps_asg {tg e : Expr} {te : TE} {g : TG} (he : PE X e te) (hg : PG X tg g) (hs : swapsWithSole [tg] e pos.line X.env = pure false := by rfl) (hw : swappedStores [tg] e X.env = pure none := by rfl)
    (h1 : (assignEach [tg] X.env).map (·.2) = [assign tg X.env] := by rfl) : PS X (.Assign [tg] e pos) (tAsg te g) := by
  intro pins s σ H D I h
  refine wpAny_Assign_stores (thn (he pins s σ H _ I h) fun v s1 ⟨x, H1, I1, r1, q1⟩ => ?_) hs hw
  rw [h1]
  exact thn (hg pins s1 σ H1 x v _ I1 r1 q1) fun _ s2 q => q
/-- name = value -/
theorem ps_set {i : Nat} {x : Str} {e : Expr} {te : TE} {pos' : Pos} (hN : X.N.Nodup) (hi : X.N[i]? = some x) (hx : Loc X.env.scope x) (he : PE X e te) (hs : swapsWith e (some (.Name x pos')) pos.line X.env = pure false := by rfl) (hf : X.fn x = true ∨ X.env.scope.names.lookup x = some .local := by first | exact .inl rfl | exact .inr rfl | assumption) :
    PS X (.Assign [.Name x pos'] e pos) (tAsg te (gName i)) := by
  intro pins s σ H D I h
  refine wpAny_Assign_Name (thn (he pins s σ H _ I h) fun v s1 ⟨y, H1, I1, r1, q1⟩ => ?_) hs
  exact store_ok I1 hN hi hx r1 (fun s2 I2 => ⟨_, H1, I2, q1⟩) hf
end

section
variable {X : Cx} {pos : Pos}
/-- the invariant W with its measure -/
def tWhile (c : TT) (tb : TS) : TS := fun D σ H => ∃ W : Nat → St → Hp → Prop, (∃ m, W m σ H) ∧ ∀ m σ H, W m σ H →
  c σ H fun b H1 => if b = true then ∃ N : St → Hp → Prop, (∀ σ' H', N σ' H' → ∃ m', m' < m ∧ W m' σ' H') ∧ tb { D with nx := N, ct := N, bk := D.nx } σ H1 else D.nx σ H1
theorem ps_while {c : Expr} {body : List Stmt} {tc : TT} {tb : TS} (hp : PassesOwn (model X.prog X.w) X.A X.env X.xe) (hc : PT X c tc) (hb : PSs X body tb) : PS X (.While c body [] pos) (tWhile tc tb) := by
  intro pins s σ H D I h
  obtain ⟨W, ⟨m0, w0⟩, turn⟩ := h
  refine wpAny_While (codeAny_whileLoop (fun n s' => ∃ σ' H', Inv X pins σ' H' s' ∧ W n σ' H') ?_ m0 ⟨σ, H, I, w0⟩)
  rintro n s1 ⟨σ1, H1, I1, w1⟩
  refine wpAny_passesOwn hp (thn (hc pins s1 σ1 H1 _ I1 (turn n σ1 H1 w1)) fun b s2 ⟨H2, I2, q2⟩ => ?_)
  cases b with
  | true =>
    obtain ⟨N, hN, q2⟩ := q2
    rw [if_pos rfl]
    refine wpAny_passesOwn hp (thn (hb pins s2 σ1 H2 _ I2 q2) fun f s3 q3 => ?_)
    cases f with
    | next =>
      obtain ⟨σ3, H3, I3, n3⟩ := q3
      obtain ⟨m', hm, w3⟩ := hN σ3 H3 n3
      exact ⟨m', hm, σ3, H3, I3, w3⟩
    | cont =>
      obtain ⟨σ3, H3, I3, n3⟩ := q3
      obtain ⟨m', hm, w3⟩ := hN σ3 H3 n3
      exact ⟨m', hm, σ3, H3, I3, w3⟩
    | brk => exact q3
    | ret v => exact q3
  | false =>
    rw [if_neg Bool.false_ne_true]
    exact wpAny_execs_nil ⟨σ1, H2, I2, q2⟩
end

/-- at turn i: it yields x (the heap may grow), or it stops -/
structure It where
  go : Nat → Hp → Prop
  yld : Nat → Hp → V → Hp → Prop
  stop : Nat → Hp → Prop
/-- the iterator's own objects may turn: they are not the frame's, not pinned, younger than the entry (or a comprehension's own) -/
def FpOk (X : Cx) (pins : List (Addr × Obj)) (H : Hp) (b : Addr) : Prop :=
  H b = none ∧ b ≠ X.env.locals ∧ b ∉ X.fs ∧ (b ∈ X.ex ∨ X.s₀.heap.objs.size ≤ b) ∧ (∀ x c, X.env.cells.lookup x = some c → c ≠ b) ∧ ∀ p ∈ X.pn ++ pins, p.1 ≠ b
theorem Inv.fpOk {X : Cx} {pins : List (Addr × Obj)} {σ : St} {H H' : Hp} {s : Shared} {b : Addr} (I : Inv X pins σ H s) (hb : s.heap.objs.size ≤ b) (hn : H' b = none) : FpOk X pins H' b := by
  refine ⟨hn, Nat.ne_of_gt (Nat.lt_of_lt_of_le I.lt hb), I.nofs hb, .inr (Nat.le_trans I.sz hb), fun x c e z => ?_, fun p hp z => ?_⟩
  · obtain ⟨v, q⟩ := I.cell x c e
    exact absurd (Nat.lt_of_lt_of_le q.lt (by rw [z]; exact hb)) (Nat.lt_irrefl _)
  · exact absurd (Nat.lt_of_lt_of_le (Heap.lt_size (I.pin p hp).1) (by rw [z]; exact hb)) (Nat.lt_irrefl _)
structure Turn (P : Program) (w : World) (K : PySem.W.Frag) (tg : Expr) (J : It) (fp : List Addr) (it : Addr) (tn : Nat → Heap → Prop) : Prop where
  mem : it ∈ fp
  obj : ∀ i h, tn i h → ∀ b ∈ fp, ∃ o, h.get? b = some o ∧ ∀ v, o.data ≠ .cell v
  keep : ∀ i h h', tn i h → (∀ b ∈ fp, ∀ o, h.get? b = some o → h'.get? b = some o) → tn i h'
  item : ∀ (X : Cx), X.prog = P → X.w = w → X.K = K → X.calm = true → ∀ (i : Nat) (pins : List (Addr × Obj)) (s : Shared) (σ : St) (H : Hp) (E : Value → Shared → Prop), Inv X pins σ H s → (∀ b ∈ fp, FpOk X pins H b) → tn i s.heap → J.go i H →
    wpAny (model P w) X.A (pyNext (.ref it)) (fun r s1 => ∃ u, r = some u ∧
      wpAny (model P w) X.A (letOwnedTupleGo tg (.ref it) u) (fun _ s2 => ∃ x H', Inv X pins σ H' s2 ∧ RelV x u ∧ J.yld i H x H' ∧ tn (i + 1) s2.heap ∧ ∀ b ∈ fp, H' b = none) E s1) E s
  done : ∀ (X : Cx), X.prog = P → X.w = w → X.K = K → X.calm = true → ∀ (i : Nat) (pins : List (Addr × Obj)) (s : Shared) (σ : St) (H : Hp) (E : Value → Shared → Prop), Inv X pins σ H s → (∀ b ∈ fp, FpOk X pins H b) → tn i s.heap → J.stop i H →
    wpAny (model P w) X.A (pyNext (.ref it)) (fun r s1 => r = none ∧ Inv X pins σ H s1) E s
  self : ∀ (A : Around) (i : Nat) (s : Shared) (Q : Value → Shared → Prop) (E : Value → Shared → Prop), tn i s.heap → Q (.ref it) s → wpAny (model P w) A (pyIter (.ref it)) Q E s
abbrev TI := St → Hp → (It → Hp → Prop) → Prop
/-- an iterator has come -/
def PIE (X : Cx) (pins : List (Addr × Obj)) (σ : St) (tg : Expr) (R : It → Hp → Prop) (itv : Value) (s2 : Shared) : Prop :=
  ∃ (it : Addr) (fp : List Addr) (tn : Nat → Heap → Prop) (J : It) (H' : Hp), itv = .ref it ∧ Inv X pins σ H' s2 ∧ Turn X.prog X.w X.K tg J fp it tn ∧ tn 0 s2.heap ∧ (∀ b ∈ fp, FpOk X pins H' b) ∧ R J H'
def PI (X : Cx) (tg iter : Expr) (wi : TI) : Prop :=
  ∀ (pins : List (Addr × Obj)) (s : Shared) (σ : St) (H : Hp) (R : It → Hp → Prop), Inv X pins σ H s → wi σ H R →
    wpAny (model X.prog X.w) X.A (eval iter X.env) (fun v s1 => wpAny (model X.prog X.w) X.A (pyIter v) (PIE X pins σ tg R) X.xe s1) X.xe s

/-- the step ahead of the store is nothing for an iterator that keeps no tuple -/
theorem go_of {M : Model} {A : Around} {E : Value → Shared → Prop} {s : Shared} {tg : Expr} {it : Addr} {u : Value} {o : Obj} {n : String} {vs : Array Value} {Q : Unit → Shared → Prop} (ho : s.heap.get? it = some o) (hc : o.cls = .type n) (hd : o.data = .fields vs)
    (hn : ["enumerate", "zip", "dict_itemiterator", "dict_reverseitemiterator", "odict_iterator", "itertools.zip_longest", "itertools.pairwise"].contains n = false) (hQ : Q () s) : wpAny M A (letOwnedTupleGo tg (.ref it) u) Q E s := by
  unfold letOwnedTupleGo
  cases tg <;> first
    | exact wpAny_pure hQ
    | (cases u <;> first
        | exact wpAny_pure hQ
        | (refine wpAny_bind (wpAny_load ho ?_)
           rw [hc, hd]
           show wpAny M A (if (["enumerate", "zip", "dict_itemiterator", "dict_reverseitemiterator", "odict_iterator", "itertools.zip_longest", "itertools.pairwise"].contains n && vs[0]? == some (rawInt _)) = true then _ else _) Q E s
           rw [if_neg (by intro h; rw [hn, Bool.false_and] at h; cases h)]
           exact wpAny_pure hQ))

/-- the list at a, as it stands at each turn (a loop may append to it) -/
def Itl (K : PySem.W.Frag) (a : Addr) : It :=
  ⟨fun i H => ∃ xs x, SqL K H a xs ∧ xs[i]? = some x, fun i H x H' => H' = H ∧ ∀ xs, SqL K H a xs → xs[i]? = some x, fun i H => ∃ xs, SqL K H a xs ∧ xs.length ≤ i⟩
def Itt (K : PySem.W.Frag) (a : Addr) : It :=
  ⟨fun i H => ∃ xs x, SqT K H a xs ∧ xs[i]? = some x, fun i H x H' => H' = H ∧ ∀ xs, SqT K H a xs → xs[i]? = some x, fun i H => ∃ xs, SqT K H a xs ∧ xs.length ≤ i⟩
/-- lo, lo + 1, .. (n of them) -/
def Itr (lo : Int) (n : Nat) : It := ⟨fun i _ => i < n, fun i H x H' => H' = H ∧ x = .int (lo + i), fun i _ => n ≤ i⟩
theorem turn_list {P : Program} {w : World} {K : PySem.W.Frag} {tg : Expr} (a it : Addr) : Turn P w K tg (Itl K a) [it] it (fun i h => h.IsListIter it a i) where
  mem := by simp
  obj := fun i h st b hb => by
    have e : b = it := by simpa using hb
    subst e
    obtain ⟨o, e, c, d⟩ := st
    exact ⟨o, e, fun v z => by rw [d] at z; cases z⟩
  keep := fun i h h' st k => st.at fun o e => k it (by simp) o e
  item := by
    intro X hP hw hK hc i pins s σ H E I hf st hg
    subst hP hw hK
    obtain ⟨xs, x, hq, hx⟩ := hg
    obtain ⟨its, rv, p, hz⟩ := I.list hq
    obtain ⟨u, hu, ru⟩ := rv.get hx
    obtain ⟨f0, f1, f2, f3, f4, f5⟩ := hf it (by simp)
    refine wpAny_pyNext_list_item st p.isList (x := u) (by simpa using hu) fun h' st' sb => ?_
    have I1 : Inv X pins σ H { s with heap := h' } := I.turned (t' := s.toks) (fun b o hb e => (sb.2 b hb).trans e) f0 f1 f3 f4 f5
    obtain ⟨o, e, c, d⟩ := id st'
    exact ⟨u, rfl, go_of (s := { s with heap := h' }) e c d (by decide) ⟨x, H, I1, ru, ⟨rfl, fun ys hy => by rw [I.list_inj hy hq]; exact hx⟩, st', fun b hb => (hf b hb).1⟩⟩
  done := by
    intro X hP hw hK hc i pins s σ H E I hf st hg
    subst hP hw hK
    obtain ⟨xs, hq, hx⟩ := hg
    obtain ⟨its, rv, p, hz⟩ := I.list hq
    obtain ⟨f0, f1, f2, f3, f4, f5⟩ := hf it (by simp)
    have hl := rv.length
    exact wpAny_pyNext_list_end (I.ok.hd hc) st p.isList (by simp; omega) fun h' eb => ⟨rfl, I.turned (t' := s.toks) (fun b o hb e => eb b o hb e) f0 f1 f3 f4 f5⟩
  self := fun _ _ _ _ _ st h => wpAny_pyIter_listiter st h
theorem turn_tuple {P : Program} {w : World} {K : PySem.W.Frag} {tg : Expr} (a it : Addr) : Turn P w K tg (Itt K a) [it] it (fun i h => h.IsTupleIter it a i) where
  mem := by simp
  obj := fun i h st b hb => by
    have e : b = it := by simpa using hb
    subst e
    obtain ⟨o, e, c, d⟩ := st
    exact ⟨o, e, fun v z => by rw [d] at z; cases z⟩
  keep := fun i h h' st k => st.at fun o e => k it (by simp) o e
  item := by
    intro X hP hw hK hc i pins s σ H E I hf st hg
    subst hP hw hK
    obtain ⟨xs, x, hq, hx⟩ := hg
    obtain ⟨its, rv, p, hz⟩ := I.tuple hq
    obtain ⟨u, hu, ru⟩ := rv.get hx
    obtain ⟨f0, f1, f2, f3, f4, f5⟩ := hf it (by simp)
    refine wpAny_pyNext_tuple_item st (show s.heap.IsTuple a its.toArray from p) (x := u) (by simpa using hu) fun h' st' sb => ?_
    have I1 : Inv X pins σ H { s with heap := h' } := I.turned (t' := s.toks) (fun b o hb e => (sb.2 b hb).trans e) f0 f1 f3 f4 f5
    obtain ⟨o, e, c, d⟩ := id st'
    exact ⟨u, rfl, go_of (s := { s with heap := h' }) e c d (by decide) ⟨x, H, I1, ru, ⟨rfl, fun ys hy => by rw [I.tuple_inj hy hq]; exact hx⟩, st', fun b hb => (hf b hb).1⟩⟩
  done := by
    intro X hP hw hK hc i pins s σ H E I hf st hg
    subst hP hw hK
    obtain ⟨xs, hq, hx⟩ := hg
    obtain ⟨its, rv, p, hz⟩ := I.tuple hq
    obtain ⟨f0, f1, f2, f3, f4, f5⟩ := hf it (by simp)
    have hl := rv.length
    exact wpAny_pyNext_tuple_end (I.ok.hd hc) st (show s.heap.IsTuple a its.toArray from p) (by simp; omega) fun h' eb => ⟨rfl, I.turned (t' := s.toks) (fun b o hb e => eb b o hb e) f0 f1 f3 f4 f5⟩
  self := fun _ _ _ _ _ st h => wpAny_pyIter_tupleiter st h
theorem turn_range {P : Program} {w : World} {K : PySem.W.Frag} {tg : Expr} (it : Addr) (lo : Int) (n : Nat) : Turn P w K tg (Itr lo n) [it] it (fun i h => IsRangeIter h it (lo + (i : Nat) * 1) ((n : Int) - (i : Nat)) 1) where
  mem := by simp
  obj := fun i h st b hb => by
    have e : b = it := by simpa using hb
    subst e
    exact ⟨_, st, fun v z => by
      have z' : Data.fields _ = Data.cell v := z
      cases z'⟩
  keep := fun i h h' st k => k it (by simp) _ st
  item := by
    intro X hP hw hK hc i pins s σ H E I hf st hg
    subst hP hw hK
    obtain ⟨f0, f1, f2, f3, f4, f5⟩ := hf it (by simp)
    have W := Walks.range (prog := X.prog) (w := X.w) (I.ok.hd hc) it lo 1 n
    refine W.item i s _ _ hg st fun v h' tk hv st' kk => ?_
    obtain ⟨t, rfl⟩ := hv
    have I1 : Inv X pins σ H { s with heap := h', toks := tk } := I.turned (fun b o hb e => kk b o (by simpa using hb) e) f0 f1 f3 f4 f5
    refine ⟨_, rfl, go_of (s := { s with heap := h', toks := tk }) (n := "range_iterator") st' rfl rfl (by decide) ⟨.int (lo + i), H, I1, ⟨t, ?_⟩, ⟨rfl, rfl⟩, st', fun b hb => (hf b hb).1⟩⟩
    rw [Int.mul_one]
  done := by
    intro X hP hw hK hc i pins s σ H E I hf st hg
    subst hP hw hK
    obtain ⟨f0, f1, f2, f3, f4, f5⟩ := hf it (by simp)
    exact wpAny_pyNext_range_end (I.ok.hd hc) st (by have : n ≤ i := hg; omega) fun h' eb => ⟨rfl, I.turned (t' := s.toks) (fun b o hb e => eb b o hb e) f0 f1 f3 f4 f5⟩
  self := fun _ _ _ _ _ st h => wpAny_pyIter_rangeiter st h
end L2

namespace L2
open PySem PySem.Spec PyProof.Rows
section
variable {X : Cx} {tg : Expr}
def iList (K : PySem.W.Frag) (tl : TE) : TI := fun σ H R => tl σ H fun x H1 => ∃ a, x = .ref a ∧ (∃ xs, SqL K H1 a xs) ∧ R (Itl K a) H1
def iTup (K : PySem.W.Frag) (tl : TE) : TI := fun σ H R => tl σ H fun x H1 => ∃ a, x = .ref a ∧ (∃ xs, SqT K H1 a xs) ∧ R (Itt K a) H1
theorem pi_list {l : Expr} {tl : TE} (hl : PE X l tl) : PI X tg l (iList X.K tl) := by
  intro pins s σ H R I h
  refine thn (hl pins s σ H _ I h) fun v s1 ⟨x, H1, I1, r1, q1⟩ => ?_
  obtain ⟨a, e, ⟨xs, hq⟩, q⟩ := q1
  subst e
  cases r1
  obtain ⟨its, rv, p, hz⟩ := I1.list hq
  refine wpAny_pyIter_list p.isList ?_
  refine ⟨s1.heap.objs.size, [s1.heap.objs.size], _, _, H1, rfl, I1.kept (t' := s1.toks) fun b o e => Heap.get?_push_of_some _ e, turn_list a _, ⟨_, Heap.get?_push_size _ rfl, rfl, rfl⟩, fun b hb => ?_, q⟩
  have e : b = s1.heap.objs.size := by simpa using hb
  subst e
  exact I1.fpOk (Nat.le_refl _) (I1.hok.fresh (Nat.le_refl _))
theorem pi_tup {l : Expr} {tl : TE} (hl : PE X l tl) : PI X tg l (iTup X.K tl) := by
  intro pins s σ H R I h
  refine thn (hl pins s σ H _ I h) fun v s1 ⟨x, H1, I1, r1, q1⟩ => ?_
  obtain ⟨a, e, ⟨xs, hq⟩, q⟩ := q1
  subst e
  cases r1
  obtain ⟨its, rv, p, hz⟩ := I1.tuple hq
  refine wpAny_pyIter_tuple (show s1.heap.IsTuple a its.toArray from p) ?_
  refine ⟨s1.heap.objs.size, [s1.heap.objs.size], _, _, H1, rfl, I1.kept (t' := s1.toks) fun b o e => Heap.get?_push_of_some _ e, turn_tuple a _, ⟨_, Heap.get?_push_size _ rfl, rfl, rfl⟩, fun b hb => ?_, q⟩
  have e : b = s1.heap.objs.size := by simpa using hb
  subst e
  exact I1.fpOk (Nat.le_refl _) (I1.hok.fresh (Nat.le_refl _))
/-- a range object just made, walked -/
theorem range_it {pins : List (Addr × Obj)} {σ : St} {H : Hp} {s : Shared} {R : It → Hp → Prop} {E : Value → Shared → Prop} {lo hi : Int} {t u v : Tok} {tk : Nat} (I : Inv X pins σ H s) (h1 : -(2 ^ 62) ≤ lo) (h2 : lo < 2 ^ 62) (h3 : -(2 ^ 62) ≤ hi) (h4 : hi < 2 ^ 62)
    (q : R (Itr lo (hi - lo).toNat) H) : wpAny (model X.prog X.w) X.A (pyIter (.ref s.heap.objs.size)) (PIE X pins σ tg R) E { s with heap := s.heap.push { cls := .type "range", data := .fields #[.int lo t, .int hi u, .int 1 v] }, toks := tk } := by
  refine wpAny_pyIter_range (IsRange.new ..) (small_one h1 h2 h3 h4) ?_
  have I1 : Inv X pins σ H { s with heap := s.heap.push { cls := .type "range", data := .fields #[.int lo t, .int hi u, .int 1 v] }, toks := tk } := I.kept fun b o e => Heap.get?_push_of_some _ e
  refine ⟨(s.heap.push { cls := .type "range", data := .fields #[.int lo t, .int hi u, .int 1 v] }).objs.size, [(s.heap.push { cls := .type "range", data := .fields #[.int lo t, .int hi u, .int 1 v] }).objs.size], _, _, H, rfl,
    I1.kept (t' := tk) fun b o e => Heap.get?_push_of_some _ e, turn_range _ lo (hi - lo).toNat, ?_, fun b hb => ?_, q⟩
  · have e1 : lo + ((0 : Nat) : Int) * 1 = lo := by simp
    have e2 : (((hi - lo).toNat : Nat) : Int) - ((0 : Nat) : Int) = Builtin.Range.rangeSize lo hi 1 := by rw [rangeSize_one]; split <;> omega
    show IsRangeIter _ _ (lo + ((0 : Nat) : Int) * 1) ((((hi - lo).toNat : Nat) : Int) - ((0 : Nat) : Int)) 1
    rw [e1, e2]
    exact Heap.get?_push_size _ rfl
  · have e : b = (s.heap.push { cls := .type "range", data := .fields #[.int lo t, .int hi u, .int 1 v] }).objs.size := by simpa using hb
    subst e
    exact I1.fpOk (Nat.le_refl _) (I1.hok.fresh (Nat.le_refl _))
def iRng1 (ta : TA) : TI := fun σ H R => ta σ H fun vs H1 => ∃ j : Int, vs = [.int j] ∧ -(2 ^ 62) ≤ j ∧ j < 2 ^ 62 ∧ R (Itr 0 j.toNat) H1
theorem pi_range1 {a : Expr} {ta : TA} {p pos : Pos} (hg : Gl X "range") (hm : X.mg "range" = none) (ha : PA X [a] ta) (hs : starEach [a] X.env = [(false, eval a X.env)] := by rfl) : PI X tg (.Call (.Name "range" p) [a] [] pos) (iRng1 ta) := by
  intro pins s σ H R I h
  refine Call_ (ld_blt I hg hm boot_range (PyProof.Rows.callWith_type1 (thn (ha pos pins s σ H _ I h) fun us s1 ⟨vs, H1, I1, r1, q1⟩ => ?_) hs rfl))
  obtain ⟨j, e, q1, q2, q⟩ := q1
  subst e
  cases r1 with
  | cons r rr =>
    cases rr
    obtain ⟨t, rfl⟩ := r
    exact call_range_1 (range_it I1 (by omega) (by omega) q1 q2 (by simpa using q))
/-- W: the invariant by the turn and a measure; N: what the body is to reach -/
def tFor (wi : TI) (g : TG) (tb : TS) : TS := fun D σ H => wi σ H fun J H1 => ∃ W : Nat → Nat → St → Hp → Prop, (∃ m, W 0 m σ H1) ∧ ∀ i m σ H, W i m σ H →
  (J.stop i H ∧ D.nx σ H) ∨ (J.go i H ∧ ∃ N : St → Hp → Prop, (∀ σ' H', N σ' H' → ∃ m', m' < m ∧ W (i + 1) m' σ' H') ∧ ∀ x H', J.yld i H x H' → g x σ H' fun σ2 H2 => tb { D with nx := N, ct := N, bk := D.nx } σ2 H2)
/-- the records at fp as they stand -/
def pinsAt (fp : List Addr) (h : Heap) : List (Addr × Obj) := fp.filterMap fun b => (h.get? b).map fun o => (b, o)
theorem mem_pinsAt {fp : List Addr} {h : Heap} {b : Addr} {o : Obj} (hb : b ∈ fp) (e : h.get? b = some o) : (b, o) ∈ pinsAt fp h := List.mem_filterMap.mpr ⟨b, hb, by rw [e]; rfl⟩
theorem of_pinsAt {fp : List Addr} {h : Heap} {p : Addr × Obj} (hp : p ∈ pinsAt fp h) : p.1 ∈ fp ∧ h.get? p.1 = some p.2 := by
  obtain ⟨b, hb, e⟩ := List.mem_filterMap.mp hp
  cases q : h.get? b with
  | none => rw [q] at e; cases e
  | some o =>
    rw [q] at e
    have e' : (b, o) = p := Option.some.inj e
    subst e'
    exact ⟨hb, q⟩
theorem Inv.pinned {pins : List (Addr × Obj)} {σ : St} {H : Hp} {s : Shared} {fp : List Addr} (I : Inv X pins σ H s) (hf : ∀ b ∈ fp, FpOk X pins H b) (ho : ∀ b ∈ fp, ∃ o, s.heap.get? b = some o ∧ ∀ v, o.data ≠ .cell v) : Inv X (pins ++ pinsAt fp s.heap) σ H s :=
  I.pins_of fun p hp => (List.mem_append.mp hp).elim (fun z => I.pin p (List.mem_append_right _ z)) fun z => by
    obtain ⟨hb, e⟩ := of_pinsAt z
    obtain ⟨f0, f1, f2, _⟩ := hf p.1 hb
    obtain ⟨o, e', d⟩ := ho p.1 hb
    rw [e] at e'; cases e'
    exact ⟨e, f0, f1, f2, d⟩
theorem Inv.unpinned {pins pl : List (Addr × Obj)} {σ : St} {H : Hp} {s : Shared} (I : Inv X (pins ++ pl) σ H s) : Inv X pins σ H s := I.pins_of fun p hp => I.pin p (List.mem_append_right _ (List.mem_append_left _ hp))
theorem ps_for {iter : Expr} {body : List Stmt} {wi : TI} {g : TG} {tb : TS} {pos : Pos} (hp : PassesOwn (model X.prog X.w) X.A X.env X.xe) (hc : X.calm = true) (hi : PI X tg iter wi) (hg : PG X tg g) (hb : PSs X body tb)
    (hs : ∀ x, foldedSetIterable iter X.env x = pure x := by intro _; rfl) : PS X (.For tg iter body [] pos) (tFor wi g tb) := by
  intro pins s σ H D I h
  refine wpAny_For (thn (hi pins s σ H _ I h) fun v s1 h1 => thn h1 fun itv s2 h2 => ?_) hs
  obtain ⟨it, fp, tn, J, H2, e, I2, T, st2, f2, W, ⟨m0, w0⟩, turn⟩ := h2
  subst e
  -- what stays true of the iterator's objects through the loop
  have stat : ∀ {H' : Hp}, (∀ b ∈ fp, H' b = none) → ∀ b ∈ fp, FpOk X pins H' b := fun hn b hb => ⟨hn b hb, (f2 b hb).2⟩
  refine codeAny_forLoop_any (fun n s' => ∃ i σ' H', Inv X pins σ' H' s' ∧ tn i s'.heap ∧ (∀ b ∈ fp, H' b = none) ∧ W i n σ' H') ?_ m0 ⟨0, σ, H2, I2, st2, fun b hb => (f2 b hb).1, w0⟩
  rintro n s3 ⟨i, σ3, H3, I3, st3, fr3, w3⟩
  rcases turn i n σ3 H3 w3 with ⟨stop, qn⟩ | ⟨go, N, hN, step⟩
  · refine wpAny_passesOwn hp (thn (T.done X rfl rfl rfl hc i pins s3 σ3 H3 X.xe I3 (stat fr3) st3 stop) fun r s4 ⟨hr, I4⟩ => ?_)
    subst hr
    exact wpAny_execs_nil ⟨σ3, H3, I4, qn⟩
  · refine wpAny_passesOwn hp (thn (T.item X rfl rfl rfl hc i pins s3 σ3 H3 X.xe I3 (stat fr3) st3 go) fun r s4 ⟨u, hr, h4⟩ => ?_)
    subst hr
    refine wpAny_passesOwn hp (thn h4 fun _ s5 ⟨x, H5, I5, r5, y5, st5, fr5⟩ => ?_)
    have I5' := I5.pinned (stat fr5) (T.obj _ _ st5)
    refine wpAny_passesOwn hp (thn (hg _ s5 σ3 H5 x u _ I5' r5 (step x H5 y5)) fun _ s6 ⟨σ6, H6, I6, q6⟩ => ?_)
    refine wpAny_passesOwn hp (thn (hb _ s6 σ6 H6 _ I6 q6) fun f s7 q7 => ?_)
    have again : ∀ {σ7 : St} {H7 : Hp}, Inv X (pins ++ pinsAt fp s5.heap) σ7 H7 s7 → N σ7 H7 → ∃ m, m < n ∧ ∃ i σ' H', Inv X pins σ' H' s7 ∧ tn i s7.heap ∧ (∀ b ∈ fp, H' b = none) ∧ W i m σ' H' := fun {σ7 H7} I7 n7 => by
      obtain ⟨m', hm, w7⟩ := hN σ7 H7 n7
      refine ⟨m', hm, i + 1, σ7, H7, I7.unpinned, T.keep _ _ _ st5 fun b hb o e => (I7.pin (b, o) (List.mem_append_right _ (List.mem_append_right _ (mem_pinsAt hb e)))).1, fun b hb => ?_, w7⟩
      obtain ⟨o, e, d⟩ := T.obj _ _ st5 b hb
      exact (I7.pin (b, o) (List.mem_append_right _ (List.mem_append_right _ (mem_pinsAt hb e)))).2.1
    cases f with
    | next => obtain ⟨σ7, H7, I7, n7⟩ := q7; exact again I7 n7
    | cont => obtain ⟨σ7, H7, I7, n7⟩ := q7; exact again I7 n7
    | brk => obtain ⟨σ7, H7, I7, q7⟩ := q7; exact ⟨σ7, H7, I7.unpinned, q7⟩
    | ret v => obtain ⟨x7, σ7, H7, I7, r7, q7⟩ := q7; exact ⟨x7, σ7, H7, I7.unpinned, r7, q7⟩
end

/-- over a list that the body leaves as it is -/
theorem for_list {K : PySem.W.Frag} {a : Addr} {xs : List V} {g : TG} {tb : TS} {D : Ends} {σ : St} {H : Hp} (Pv : Nat → St → Hp → Prop) (h0 : Pv 0 σ H) (hl : ∀ i σ H, i ≤ xs.length → Pv i σ H → SqL K H a xs)
    (hs : ∀ i x σ H, xs[i]? = some x → Pv i σ H → g x σ H fun σ2 H2 => tb { D with nx := Pv (i + 1), ct := Pv (i + 1), bk := D.nx } σ2 H2) (hd : ∀ σ H, Pv xs.length σ H → D.nx σ H) :
    ∃ W : Nat → Nat → St → Hp → Prop, (∃ m, W 0 m σ H) ∧ ∀ i m σ H, W i m σ H →
      ((Itl K a).stop i H ∧ D.nx σ H) ∨ ((Itl K a).go i H ∧ ∃ N : St → Hp → Prop, (∀ σ' H', N σ' H' → ∃ m', m' < m ∧ W (i + 1) m' σ' H') ∧ ∀ x H', (Itl K a).yld i H x H' → g x σ H' fun σ2 H2 => tb { D with nx := N, ct := N, bk := D.nx } σ2 H2) := by
  refine ⟨fun i m σ H => m = xs.length - i ∧ i ≤ xs.length ∧ Pv i σ H, ⟨xs.length, by simp, Nat.zero_le _, h0⟩, ?_⟩
  rintro i m σ H ⟨rfl, hi, p⟩
  have q := hl i σ H hi p
  by_cases hlt : i < xs.length
  · refine .inr ⟨⟨xs, xs[i], q, by simp [hlt]⟩, Pv (i + 1), fun σ' H' p' => ⟨xs.length - (i + 1), by omega, rfl, hlt, p'⟩, fun x H' y => ?_⟩
    obtain ⟨e, y⟩ := y
    subst e
    exact hs i x σ _ (y xs q) p
  · have e : i = xs.length := by omega
    subst e
    exact .inl ⟨⟨xs, q, Nat.le_refl _⟩, hd σ H p⟩
theorem for_tup {K : PySem.W.Frag} {a : Addr} {xs : List V} {g : TG} {tb : TS} {D : Ends} {σ : St} {H : Hp} (Pv : Nat → St → Hp → Prop) (h0 : Pv 0 σ H) (hl : ∀ i σ H, i ≤ xs.length → Pv i σ H → SqT K H a xs)
    (hs : ∀ i x σ H, xs[i]? = some x → Pv i σ H → g x σ H fun σ2 H2 => tb { D with nx := Pv (i + 1), ct := Pv (i + 1), bk := D.nx } σ2 H2) (hd : ∀ σ H, Pv xs.length σ H → D.nx σ H) :
    ∃ W : Nat → Nat → St → Hp → Prop, (∃ m, W 0 m σ H) ∧ ∀ i m σ H, W i m σ H →
      ((Itt K a).stop i H ∧ D.nx σ H) ∨ ((Itt K a).go i H ∧ ∃ N : St → Hp → Prop, (∀ σ' H', N σ' H' → ∃ m', m' < m ∧ W (i + 1) m' σ' H') ∧ ∀ x H', (Itt K a).yld i H x H' → g x σ H' fun σ2 H2 => tb { D with nx := N, ct := N, bk := D.nx } σ2 H2) := by
  refine ⟨fun i m σ H => m = xs.length - i ∧ i ≤ xs.length ∧ Pv i σ H, ⟨xs.length, by simp, Nat.zero_le _, h0⟩, ?_⟩
  rintro i m σ H ⟨rfl, hi, p⟩
  have q := hl i σ H hi p
  by_cases hlt : i < xs.length
  · refine .inr ⟨⟨xs, xs[i], q, by simp [hlt]⟩, Pv (i + 1), fun σ' H' p' => ⟨xs.length - (i + 1), by omega, rfl, hlt, p'⟩, fun x H' y => ?_⟩
    obtain ⟨e, y⟩ := y
    subst e
    exact hs i x σ _ (y xs q) p
  · have e : i = xs.length := by omega
    subst e
    exact .inl ⟨⟨xs, q, Nat.le_refl _⟩, hd σ H p⟩
theorem for_range {lo : Int} {n : Nat} {g : TG} {tb : TS} {D : Ends} {σ : St} {H : Hp} (Pv : Nat → St → Hp → Prop) (h0 : Pv 0 σ H)
    (hs : ∀ i σ H, i < n → Pv i σ H → g (.int (lo + i)) σ H fun σ2 H2 => tb { D with nx := Pv (i + 1), ct := Pv (i + 1), bk := D.nx } σ2 H2) (hd : ∀ σ H, Pv n σ H → D.nx σ H) :
    ∃ W : Nat → Nat → St → Hp → Prop, (∃ m, W 0 m σ H) ∧ ∀ i m σ H, W i m σ H →
      ((Itr lo n).stop i H ∧ D.nx σ H) ∨ ((Itr lo n).go i H ∧ ∃ N : St → Hp → Prop, (∀ σ' H', N σ' H' → ∃ m', m' < m ∧ W (i + 1) m' σ' H') ∧ ∀ x H', (Itr lo n).yld i H x H' → g x σ H' fun σ2 H2 => tb { D with nx := N, ct := N, bk := D.nx } σ2 H2) := by
  refine ⟨fun i m σ H => m = n - i ∧ i ≤ n ∧ Pv i σ H, ⟨n, by simp, Nat.zero_le _, h0⟩, ?_⟩
  rintro i m σ H ⟨rfl, hi, p⟩
  by_cases hlt : i < n
  · refine .inr ⟨hlt, Pv (i + 1), fun σ' H' p' => ⟨n - (i + 1), by omega, rfl, hlt, p'⟩, fun x H' y => ?_⟩
    obtain ⟨e, y⟩ := y
    subst e y
    exact hs i σ _ hlt p
  · have e : i = n := by omega
    subst e
    exact .inl ⟨Nat.le_refl _, hd σ H p⟩
end L2

namespace L2
open PySem PySem.Spec PyProof.Rows

abbrev R2 := V → V → Hp → VK → Prop
/-- a two-place operation on values: f is binaryOp op, inplaceOp op or compareOp op -/
def OpR (X : Cx) (f : Value → Value → Sem Value) (r : R2) : Prop :=
  ∀ (pins : List (Addr × Obj)) (s : Shared) (σ : St) (H : Hp) (x y : V) (v u : Value) (Q : VK), Inv X pins σ H s → RelV x v → RelV y u → r x y H Q →
    wpAny (model X.prog X.w) X.A (f v u) (EP X pins σ Q) X.xe s
/-- a one-place operation -/
def UnR (X : Cx) (f : Value → Sem Value) (r : V → Hp → VK → Prop) : Prop :=
  ∀ (pins : List (Addr × Obj)) (s : Shared) (σ : St) (H : Hp) (x : V) (v : Value) (Q : VK), Inv X pins σ H s → RelV x v → r x H Q →
    wpAny (model X.prog X.w) X.A (f v) (EP X pins σ Q) X.xe s
/-- a call of a value that is known (a builtin, a type) with values -/
def CallR (X : Cx) (f : Value) (r : List V → Hp → VK → Prop) : Prop :=
  ∀ (pins : List (Addr × Obj)) (s : Shared) (σ : St) (H : Hp) (xs : List V) (us : List Value) (Q : VK), Inv X pins σ H s → Vals xs us → r xs H Q →
    wpAny (model X.prog X.w) X.A (call f us) (EP X pins σ Q) X.xe s
def tOp (r : R2) (ta tb : TE) : TE := fun σ H Q => ta σ H fun x H1 => tb σ H1 fun y H2 => r x y H2 Q
def tUn (r : V → Hp → VK → Prop) (ta : TE) : TE := fun σ H Q => ta σ H fun x H1 => r x H1 Q
/-- ints in, under C, and a value out -/
def rI (C : Int → Int → Prop) (g : Int → Int → V) : R2 := fun x y H Q => ∃ i j, x = .int i ∧ y = .int j ∧ C i j ∧ Q (g i j) H
def rI0 (g : Int → Int → V) : R2 := fun x y H Q => ∃ i j, x = .int i ∧ y = .int j ∧ Q (g i j) H
def rU (g : Int → V) : V → Hp → VK → Prop := fun x H Q => ∃ i, x = .int i ∧ Q (g i) H

section
variable {X : Cx} {a b c : Expr} {ta tb tc : TE} {pos : Pos}

theorem binT (ha : PE X a ta) (hb : PE X b tb) {pins : List (Addr × Obj)} {s : Shared} {σ : St} {H : Hp} {R : V → V → Hp → Prop} (I : Inv X pins σ H s)
    (h : ta σ H fun x H1 => tb σ H1 fun y H2 => R x y H2) {Q : Value → Shared → Prop} {f : Value → Value → Sem Value}
    (hf : ∀ v u s2 x y H2, Inv X pins σ H2 s2 → RelV x v → RelV y u → R x y H2 → wpAny (model X.prog X.w) X.A (f v u) Q X.xe s2) :
    wpAny (model X.prog X.w) X.A (eval a X.env) (fun v s₁ => wpAny (model X.prog X.w) X.A (eval b X.env) (fun u s₂ => wpAny (model X.prog X.w) X.A (f v u) Q X.xe s₂) X.xe s₁) X.xe s := by
  refine thn (ha pins s σ H _ I h) fun v s1 ⟨x, H1, I1, r1, q1⟩ => ?_
  refine thn (hb pins s1 σ H1 _ I1 q1) fun u s2 ⟨y, H2, I2, r2, q2⟩ => ?_
  exact hf v u s2 x y H2 I2 r1 r2 q2

theorem pe_op {op : Operator} {r : R2} (ho : OpR X (binaryOp op) r) (ha : PE X a ta) (hb : PE X b tb) : PE X (.BinOp a op b pos) (tOp r ta tb) := by
  intro pins s σ H Q I h
  exact wpAny_BinOp (binT ha hb I h fun v u s2 x y H2 I2 rx ry q => ho pins s2 σ H2 x y v u Q I2 rx ry q)
theorem pe_un {op : UnaryOp} {r : V → Hp → VK → Prop} (ho : UnR X (unaryOp op) r) (ha : PE X a ta) : PE X (.UnaryOp op a pos) (tUn r ta) := by
  intro pins s σ H Q I h
  exact UnaryOp_ (thn (ha pins s σ H _ I h) fun v s1 ⟨x, H1, I1, r1, q1⟩ => ho pins s1 σ H1 x v Q I1 r1 q1)
theorem opI {f : Value → Value → Sem Value} {C : Int → Int → Prop} {g : Int → Int → Int}
    (rule : ∀ (i j : Int) (t u : Tok) (s : Shared) (Q : Value → Shared → Prop) (E : Value → Shared → Prop), C i j → Q (.int (g i j) s.toks) { s with toks := s.toks + 1 } → wpAny (model X.prog X.w) X.A (f (.int i t) (.int j u)) Q E s) :
    OpR X f (rI C fun i j => .int (g i j)) := by
  intro pins s σ H x y v u Q I rx ry h
  obtain ⟨i, j, rfl, rfl, hc, q⟩ := h
  obtain ⟨t, rfl⟩ := rx
  obtain ⟨t', rfl⟩ := ry
  exact rule i j t t' s _ _ hc ⟨.int (g i j), H, I.tok _, ⟨_, rfl⟩, q⟩
theorem opI0 {f : Value → Value → Sem Value} {g : Int → Int → Int}
    (rule : ∀ (i j : Int) (t u : Tok) (s : Shared) (Q : Value → Shared → Prop) (E : Value → Shared → Prop), Q (.int (g i j) s.toks) { s with toks := s.toks + 1 } → wpAny (model X.prog X.w) X.A (f (.int i t) (.int j u)) Q E s) :
    OpR X f (rI0 fun i j => .int (g i j)) := by
  intro pins s σ H x y v u Q I rx ry h
  obtain ⟨i, j, rfl, rfl, q⟩ := h
  obtain ⟨t, rfl⟩ := rx
  obtain ⟨t', rfl⟩ := ry
  exact rule i j t t' s _ _ ⟨.int (g i j), H, I.tok _, ⟨_, rfl⟩, q⟩
theorem opB0 {f : Value → Value → Sem Value} {g : Int → Int → Bool}
    (rule : ∀ (i j : Int) (t u : Tok) (s : Shared) (Q : Value → Shared → Prop) (E : Value → Shared → Prop), Q (.bool (g i j)) s → wpAny (model X.prog X.w) X.A (f (.int i t) (.int j u)) Q E s) :
    OpR X f (rI0 fun i j => .bl (g i j)) := by
  intro pins s σ H x y v u Q I rx ry h
  obtain ⟨i, j, rfl, rfl, q⟩ := h
  obtain ⟨t, rfl⟩ := rx
  obtain ⟨t', rfl⟩ := ry
  exact rule i j t t' s _ _ ⟨.bl (g i j), H, I, rfl, q⟩

def CMul (i j : Int) : Prop := (-(2 ^ 64) < i ∧ i < 2 ^ 64) ∨ (-(2 ^ 64) < j ∧ j < 2 ^ 64)
theorem CMul.ok {i j : Int} (h : CMul i j) : IntMulOk i j := by
  rcases h with ⟨h1, h2⟩ | ⟨h1, h2⟩
  · exact .of_left (intBits_le_64 h1 h2)
  · exact .of_right (intBits_le_64 h1 h2)
theorem op_add : OpR X (binaryOp .Add) (rI0 fun i j => .int (i + j)) := opI0 fun _ _ _ _ _ _ _ q => add_int q
theorem op_sub : OpR X (binaryOp .Sub) (rI0 fun i j => .int (i - j)) := opI0 fun _ _ _ _ _ _ _ q => sub_int q
/-- % by a positive divisor of any size -/
theorem op_mod : OpR X (binaryOp .Mod) (rI (fun _ j => 0 < j) fun i j => .int (i % j)) := opI fun i j _ _ _ _ _ hc q => by
  have h1 : (0 : Int) < j := hc
  exact mod_int' (by omega) (by rw [Int.fmod_eq_emod_of_nonneg i (by omega)]; exact q)
theorem op_and : OpR X (binaryOp .BitAnd) (rI0 fun i j => .int (Builtin.bitAnd i j)) := opI0 fun _ _ _ _ _ _ _ q => and_int q
theorem op_or : OpR X (binaryOp .BitOr) (rI0 fun i j => .int (Builtin.bitOr i j)) := opI0 fun _ _ _ _ _ _ _ q => or_int q
theorem op_xor : OpR X (binaryOp .BitXor) (rI0 fun i j => .int (Builtin.bitXor i j)) := opI0 fun _ _ _ _ _ _ _ q => xor_int q

theorem unI {f : Value → Sem Value} {g : Int → Int}
    (rule : ∀ (i : Int) (t : Tok) (s : Shared) (Q : Value → Shared → Prop) (E : Value → Shared → Prop), Q (.int (g i) s.toks) { s with toks := s.toks + 1 } → wpAny (model X.prog X.w) X.A (f (.int i t)) Q E s) :
    UnR X f (rU fun i => .int (g i)) := by
  intro pins s σ H x v Q I rx h
  obtain ⟨i, rfl, q⟩ := h
  obtain ⟨t, rfl⟩ := rx
  exact rule i t s _ _ ⟨.int (g i), H, I.tok _, ⟨_, rfl⟩, q⟩
theorem un_neg : UnR X (unaryOp .USub) (rU fun i => .int (-i)) := unI fun _ _ _ _ _ q => neg_int q
theorem un_inv : UnR X (unaryOp .Invert) (rU fun i => .int (Builtin.bitNot i)) := unI fun _ _ _ _ _ q => invert_int q

end

/-- the scalars that == tells apart as data does -/
def scal : V → V → Bool
  | .non, .non => true | .non, .int _ => true | .int _, .non => true | .non, .bl _ => true | .bl _, .non => true | .non, .str _ => true | .str _, .non => true
  | .int _, .int _ => true | .bl _, .bl _ => true | .str _, .str _ => true | .byt _, .byt _ => true
  | .int _, .str _ => true | .str _, .int _ => true | .bl _, .str _ => true | .str _, .bl _ => true
  | _, _ => false
def rEq : R2 := fun x y H Q => scal x y = true ∧ Q (.bl (decide (x = y))) H
def rNe : R2 := fun x y H Q => scal x y = true ∧ Q (.bl (!decide (x = y))) H

theorem dec_int {i j : Int} : decide (V.int i = V.int j) = (i == j) := by
  rw [Bool.eq_iff_iff]
  simp
theorem dec_bl {i j : Bool} : decide (V.bl i = V.bl j) = (i == j) := by
  rw [Bool.eq_iff_iff]
  simp
theorem dec_str {i j : Str} : decide (V.str i = V.str j) = (i == j) := by
  rw [Bool.eq_iff_iff]
  simp
theorem dec_byt {i j : Array UInt8} : decide (V.byt i = V.byt j) = (i.toList == j.toList) := by
  rw [Bool.eq_iff_iff]
  cases i
  cases j
  simp

section
variable {X : Cx} {a b c : Expr} {ta tb tc : TE} {pos : Pos}
theorem fin_bl {pins : List (Addr × Obj)} {σ : St} {H : Hp} {s : Shared} {Q : VK} {k k' : Bool} (I : Inv X pins σ H s) (q : Q (.bl k) H) (e : k = k') : EP X pins σ Q (.bool k') s := by
  subst e
  exact ⟨.bl k, H, I, rfl, q⟩
theorem op_eq : OpR X (compareOp .Eq) rEq := by
  intro pins s σ H x y v u Q I rx ry h
  obtain ⟨hs, q⟩ := h
  cases x with
  | non =>
    cases rx
    cases y with
    | non => cases ry; exact PySem.EqNone.eq_none_none (fin_bl I q (by simp))
    | bl j => cases ry; exact PySem.EqNone.eq_none_bool (fin_bl I q (by simp))
    | int j => obtain ⟨t', rfl⟩ := ry; exact PySem.EqNone.eq_none_int (fin_bl I q (by simp))
    | str j => obtain ⟨t', rfl⟩ := ry; exact PySem.EqNone.eq_none_str (fin_bl I q (by simp))
    | _ => exact absurd (show false = true from hs) Bool.false_ne_true
  | bl i =>
    cases rx
    cases y with
    | non => cases ry; exact PySem.EqNone.eq_bool_none (fin_bl I q (by simp))
    | bl j => cases ry; exact eq_bool (fin_bl I q dec_bl)
    | str j => obtain ⟨t', rfl⟩ := ry; exact PySem.EqMixed.eq_bool_str (fin_bl I q (by simp))
    | _ => exact absurd (show false = true from hs) Bool.false_ne_true
  | int i =>
    obtain ⟨t, rfl⟩ := rx
    cases y with
    | non => cases ry; exact PySem.EqNone.eq_int_none (fin_bl I q (by simp))
    | int j => obtain ⟨t', rfl⟩ := ry; exact eq_int (fin_bl I q dec_int)
    | str j => obtain ⟨t', rfl⟩ := ry; exact PySem.EqMixed.eq_int_str (fin_bl I q (by simp))
    | _ => exact absurd (show false = true from hs) Bool.false_ne_true
  | str i =>
    obtain ⟨t, rfl⟩ := rx
    cases y with
    | non => cases ry; exact PySem.EqNone.eq_str_none (fin_bl I q (by simp))
    | bl j => cases ry; exact PySem.EqMixed.eq_str_bool (fin_bl I q (by simp))
    | int j => obtain ⟨t', rfl⟩ := ry; exact PySem.EqMixed.eq_str_int (fin_bl I q (by simp))
    | str j => obtain ⟨t', rfl⟩ := ry; exact eq_str (fin_bl I q dec_str)
    | _ => exact absurd (show false = true from hs) Bool.false_ne_true
  | byt i =>
    obtain ⟨t, rfl⟩ := rx
    cases y with
    | byt j => obtain ⟨t', rfl⟩ := ry; exact PySem.W.eq_bytes (fin_bl I q dec_byt)
    | _ => exact absurd (show false = true from hs) Bool.false_ne_true
  | _ => cases y <;> exact absurd (show false = true from hs) Bool.false_ne_true
theorem op_ne : OpR X (compareOp .NotEq) rNe := by
  intro pins s σ H x y v u Q I rx ry h
  obtain ⟨hs, q⟩ := h
  cases x with
  | non =>
    cases rx
    cases y with
    | non => cases ry; exact PySem.EqNone.ne_none_none (fin_bl I q (by simp))
    | bl j => cases ry; exact PySem.EqNone.ne_none_bool (fin_bl I q (by simp))
    | int j => obtain ⟨t', rfl⟩ := ry; exact PySem.EqNone.ne_none_int (fin_bl I q (by simp))
    | str j => obtain ⟨t', rfl⟩ := ry; exact PySem.EqNone.ne_none_str (fin_bl I q (by simp))
    | _ => exact absurd (show false = true from hs) Bool.false_ne_true
  | bl i =>
    cases rx
    cases y with
    | non => cases ry; exact PySem.EqNone.ne_bool_none (fin_bl I q (by simp))
    | bl j => cases ry; exact ne_bool (fin_bl I q (congrArg not dec_bl))
    | str j => obtain ⟨t', rfl⟩ := ry; exact PySem.EqMixed.ne_bool_str (fin_bl I q (by simp))
    | _ => exact absurd (show false = true from hs) Bool.false_ne_true
  | int i =>
    obtain ⟨t, rfl⟩ := rx
    cases y with
    | non => cases ry; exact PySem.EqNone.ne_int_none (fin_bl I q (by simp))
    | int j => obtain ⟨t', rfl⟩ := ry; exact ne_int (fin_bl I q (congrArg not dec_int))
    | str j => obtain ⟨t', rfl⟩ := ry; exact PySem.EqMixed.ne_int_str (fin_bl I q (by simp))
    | _ => exact absurd (show false = true from hs) Bool.false_ne_true
  | str i =>
    obtain ⟨t, rfl⟩ := rx
    cases y with
    | non => cases ry; exact PySem.EqNone.ne_str_none (fin_bl I q (by simp))
    | bl j => cases ry; exact PySem.EqMixed.ne_str_bool (fin_bl I q (by simp))
    | int j => obtain ⟨t', rfl⟩ := ry; exact PySem.EqMixed.ne_str_int (fin_bl I q (by simp))
    | str j => obtain ⟨t', rfl⟩ := ry; exact ne_str (fin_bl I q (congrArg not dec_str))
    | _ => exact absurd (show false = true from hs) Bool.false_ne_true
  | byt i =>
    obtain ⟨t, rfl⟩ := rx
    cases y with
    | byt j => obtain ⟨t', rfl⟩ := ry; exact PySem.W.ne_bytes (fin_bl I q (congrArg not dec_byt))
    | _ => exact absurd (show false = true from hs) Bool.false_ne_true
  | _ => cases y <;> exact absurd (show false = true from hs) Bool.false_ne_true

theorem op_lt : OpR X (compareOp .Lt) (rI0 fun i j => .bl (decide (i < j))) := opB0 fun _ _ _ _ _ _ _ q => lt_int q
theorem op_le : OpR X (compareOp .LtE) (rI0 fun i j => .bl (decide (i ≤ j))) := opB0 fun _ _ _ _ _ _ _ q => le_int q
theorem op_gt : OpR X (compareOp .Gt) (rI0 fun i j => .bl (decide (j < i))) := opB0 fun _ _ _ _ _ _ _ q => gt_int q
/-- the one string within the other -/
theorem op_in_str : OpR X (compareOp .In) (fun x y H Q => ∃ i j, x = .str i ∧ y = .str j ∧ Q (.bl (!(Builtin.Str.occurrences j i 0 j.length 1).isEmpty)) H) := by
  intro pins s σ H x y v u Q I rx ry h
  obtain ⟨i, j, rfl, rfl, q⟩ := h
  obtain ⟨t, rfl⟩ := rx
  obtain ⟨t', rfl⟩ := ry
  exact in_str (fin_bl I q rfl)

/-- two rules for one operation: by cases -/
theorem OpR.or {f : Value → Value → Sem Value} {r r' : R2} (h : OpR X f r) (h' : OpR X f r') : OpR X f (fun x y H Q => r x y H Q ∨ r' x y H Q) := by
  intro pins s σ H x y v u Q I rx ry q
  rcases q with q | q
  · exact h pins s σ H x y v u Q I rx ry q
  · exact h' pins s σ H x y v u Q I rx ry q

theorem nomark (b : Expr) {op : CmpOp} (h : op ≠ .In := by decide) (h2 : op ≠ .NotIn := by decide) : behindInMarks op b = false := by
  have e1 : (op == CmpOp.In) = false := by cases op <;> first | rfl | exact absurd rfl h
  have e2 : (op == CmpOp.NotIn) = false := by cases op <;> first | rfl | exact absurd rfl h2
  cases b <;> simp [behindInMarks, e1, e2]
/-- a comparison as a value; hm: nomark b, or (for in, not in) by with_unfolding_all rfl -/
theorem pe_cmpR {op : CmpOp} {r : R2} (ho : OpR X (compareOp op) r) (ha : PE X a ta) (hb : PE X b tb) (hm : behindInMarks op b = false) : PE X (.Compare a [op] [b] pos) (tOp r ta tb) := by
  intro pins s σ H Q I h
  exact wpAny_Compare1 (binT ha hb I h fun v u s2 x y H2 I2 rx ry q => ho pins s2 σ H2 x y v u Q I2 rx ry q) hm
/-- a reading of a value as a test -/
def tTest (t : TE) : TT := fun σ H Q => t σ H fun x H' => ∃ k, x = .bl k ∧ Q k H'
theorem pt_cmpR {op : CmpOp} {r : R2} (ho : OpR X (compareOp op) r) (ha : PE X a ta) (hb : PE X b tb) (hm : behindInMarks op b = false) : PT X (.Compare a [op] [b] pos) (tTest (tOp r ta tb)) := by
  intro pins s σ H Q I h
  refine wpAny_isTrue_Compare1 (thn (ha pins s σ H _ I h) fun v s1 ⟨x, H1, I1, r1, q1⟩ => thn (hb pins s1 σ H1 _ I1 q1) fun u s2 ⟨y, H2, I2, r2, q2⟩ =>
    thn (ho pins s2 σ H2 x y v u _ I2 r1 r2 q2) fun c s3 ⟨z, H3, I3, r3, k, e, q3⟩ => ?_) hm
  subst e
  cases r3
  exact wpAny_truthy_bool ⟨H3, I3, q3⟩
theorem line63 : (sizeLine : Nat) < 2 ^ 63 := by rw [sizeLine_eq]; decide
theorem op_add_str : OpR X (binaryOp .Add) (fun x y H Q => ∃ i j, x = .str i ∧ y = .str j ∧ i.length + j.length ≤ sizeLine ∧ Q (.str (i ++ j)) H) := by
  intro pins s σ H x y v u Q I rx ry h
  obtain ⟨i, j, rfl, rfl, hz, q⟩ := h
  obtain ⟨t, rfl⟩ := rx
  obtain ⟨t', rfl⟩ := ry
  exact add_str (fun t' tk => ⟨.str (i ++ j), H, I.tok _, ⟨_, rfl⟩, q⟩) hz
theorem vals1 {x : V} {us : List Value} (r : Vals [x] us) : ∃ u, us = [u] ∧ RelV x u := by
  cases r with
  | cons r1 r2 => cases r2; exact ⟨_, rfl, r1⟩
theorem vals2 {x y : V} {us : List Value} (r : Vals [x, y] us) : ∃ u w', us = [u, w'] ∧ RelV x u ∧ RelV y w' := by
  cases r with
  | cons r1 r2 =>
    cases r2 with
    | cons r3 r4 => cases r4; exact ⟨_, _, rfl, r1, r3⟩
theorem call_int1 : CallR X (.type "int") (fun xs H Q => (∃ i, xs = [.int i] ∧ Q (.int i) H) ∨ ∃ k, xs = [.bl k] ∧ Q (.int (if k then 1 else 0)) H) := by
  intro pins s σ H xs us Q I r h
  rcases h with ⟨i, rfl, q⟩ | ⟨k, rfl, q⟩
  · obtain ⟨u, rfl, t, rfl⟩ := vals1 r
    exact call_int_int ⟨.int i, H, I, ⟨_, rfl⟩, q⟩
  · obtain ⟨u, rfl, r1⟩ := vals1 r
    cases r1
    exact call_int_bool ⟨.int (if k then 1 else 0), H, I.tok _, ⟨_, rfl⟩, q⟩
end
end L2

namespace L2
open PySem PySem.Spec PyProof.Rows

structure ObjM (h : Heap) (x dx C : Addr) (mA : Str → Option Value) : Prop where
  obj : h.get? x = some (PySem.W.instObj C dx)
  ns : h.Ns1 dx mA
  ne : dx ≠ x

theorem lookIn_ns {h : Heap} {dx : Addr} {mA : Str → Option Value} (n : h.Ns1 dx mA) : ∃ od, h.get? dx = some od ∧ ∀ name, PySem.W.lookIn name od = some (mA name) := by
  obtain ⟨o, es, ep, ho, hd, hk, _, hm⟩ := n
  refine ⟨o, ho, fun name => ?_⟩
  have e := hm name
  unfold nsFind findBy at e
  rw [← Array.find?_toList] at e
  unfold PySem.W.lookIn
  rw [hd]
  dsimp only
  split
  · rename_i y q
    rw [q] at e
    exact congrArg some e
  · rename_i q
    rw [q] at e
    have a : es.toList.any (·.refKey) = false := by
      rw [List.any_eq_false]
      intro y hy
      obtain ⟨z, t, hkey⟩ := hk y (Array.mem_toList_iff.mp hy)
      simp [DictEntry.refKey, hkey]
    have a' : ¬ es.toList.any (·.refKey) = true := by rw [a]; exact Bool.false_ne_true
    rw [if_neg a']
    exact congrArg some e

theorem ObjM.look {h : Heap} {x dx C : Addr} {mA : Str → Option Value} (I : ObjM h x dx C mA) : ∃ od, PySem.W.InstAt h x (PySem.W.instObj C dx) C (some od) ∧ ∀ name, PySem.W.lookIn name od = some (mA name) :=
  let ⟨od, ho, hl⟩ := lookIn_ns I.ns
  ⟨od, ⟨I.obj, rfl, rfl, ho⟩, hl⟩

section
variable {prog : Program} {w : World} {A : Around} {E : Value → Shared → Prop} {s : Shared} {K : PySem.W.Frag} {x dx C f : Addr} {mA : Str → Option Value} {name : Str} {v : Value}

end

theorem RelO.some_of {v : V} {o : Option Value} (r : RelO (some v) o) : ∃ u, o = some u ∧ RelV v u := by
  cases o with
  | none => exact (show False from r).elim
  | some u => exact ⟨u, rfl, r⟩
section
variable {P : Program} {w : World} {H H' : Hp} {h h' : Heap} {a C dx : Addr} {fs fs' : List (Str × V)}
theorem ins_get (hok : HOk P w H h) (e : H a = some (.ins C dx fs)) : ∃ mA, ObjM h a dx C mA ∧ (∀ f, RelO (fs.lookup f) (mA f)) ∧ PySem.Within mA (fs.map (·.1)) ∧ fs.length ≤ 1000 ∧ H dx = some (.own a) := by
  obtain ⟨d, z, ne, ob, mA, n, r, q⟩ := (show ObjOk P w H h a (.ins C dx fs) from hok a _ e)
  exact ⟨mA, ⟨ob, n, ne⟩, r, q, z, d⟩
end

structure Cls (K : PySem.W.Frag) (C : Addr) : Prop where
  pg : PySem.W.plainGet K C Str.empty = true
  hd : PySem.W.hasDictIn K C = true
  po : PySem.W.plainOver K C = true
  sa : PySem.W.findIn K (.ref C) "__setattr__" = some (some (.builtin "object.__setattr__"))
theorem Cls.get {K : PySem.W.Frag} {C : Addr} (c : Cls K C) (f : Str) : PySem.W.plainGet K C f = true := c.pg
/-- a constant of the class -/
structure Con (K : PySem.W.Frag) (C : Addr) (f : Str) (v : V) (u : Value) : Prop where
  at_ : PySem.W.findIn K (.ref C) f = some (some u)
  rel : RelV v u
  get : PySem.W.specialIn K u "__get__" = some none
  cp : PySem.W.copiedNames.contains f = false
/-- a method: a plain def of the class or of one above it -/
structure Meth (K : PySem.W.Frag) (C : Addr) (m : Str) (f : Addr) : Prop where
  at_ : PySem.W.findIn K (.ref C) m = some (some (.ref f))
  fn : PySem.W.isFn K (.ref f) = true
  kp : PySem.W.keepIn K (.ref f) = true

section
variable {X : Cx} {pins : List (Addr × Obj)} {σ : St} {H : Hp} {s : Shared} {a C dx : Addr} {fs : List (Str × V)} {f : Str} {v : V} {A : Around} {E : Value → Shared → Prop}

/-- a new instance, tracked, without attributes -/
theorem Inv.made (I : Inv X pins σ H s) : Inv X pins σ (upd (upd H s.heap.objs.size (.own (s.heap.objs.size + 1))) (s.heap.objs.size + 1) (.ins C s.heap.objs.size []))
    { s with heap := (s.heap.push PySem.W.emptyDict).push (PySem.W.instObj C s.heap.objs.size) } := by
  have e1 : (s.heap.push PySem.W.emptyDict).get? s.heap.objs.size = some PySem.W.emptyDict := Heap.get?_push_size s.heap rfl
  have e2 : ((s.heap.push PySem.W.emptyDict).push (PySem.W.instObj C s.heap.objs.size)).get? (s.heap.objs.size + 1) = some (PySem.W.instObj C s.heap.objs.size) := by
    have := Heap.get?_push_size (s.heap.push PySem.W.emptyDict) (o := PySem.W.instObj C s.heap.objs.size) rfl
    rwa [Heap.size_push] at this
  have e3 : (s.heap.push PySem.W.emptyDict).Ns s.heap.objs.size (fun _ => none) := ⟨PySem.W.emptyDict, #[], _, e1, rfl, (fun e he => absurd he (by simp)), fun _ => rfl⟩
  have I1 := I.laid (a := s.heap.objs.size) (o := .own (s.heap.objs.size + 1)) (h' := s.heap.push PySem.W.emptyDict) (t' := s.toks) (fun b u q => Heap.get?_push_of_some _ q) (Nat.le_refl _) ⟨_, e1⟩
  refine I1.laid (a := s.heap.objs.size + 1) (o := .ins C s.heap.objs.size []) (t' := s.toks) (fun b u q => Heap.get?_push_of_some _ q) (Nat.le_of_eq (Heap.size_push _ _)) ?_
  have ne : s.heap.objs.size ≠ s.heap.objs.size + 1 := Nat.ne_of_lt (Nat.lt_succ_self _)
  refine ⟨by rw [upd_ne ne, upd_same], Nat.zero_le _, ne, e2, fun _ => none, (Heap.Ns1.of_empty e3).at fun o q => Heap.get?_push_of_some _ q, fun _ => True.intro, fun y hy => absurd rfl hy⟩

end

section
variable {X : Cx} {o e value : Expr} {f : Str} {pos pos' tpos : Pos} {ta tv : TE}
end

section
variable {X : Cx} {pins : List (Addr × Obj)} {σ : St} {H : Hp} {s : Shared} {A : Around} {E : Value → Shared → Prop} {Q : Value → Shared → Prop} {c : Value} {b : Bool}
/-- the type of a value, as the fragment's deciders take it; for an instance its class -/
inductive TyOf (K : PySem.W.Frag) (H : Hp) : V → Value → Prop where
  | non : TyOf K H .non (.type "NoneType")
  | bl (x : Bool) : TyOf K H (.bl x) (.type "bool")
  | int (i : Int) : TyOf K H (.int i) (.type "int")
  | str (x : Str) : TyOf K H (.str x) (.type "str")
  | flt (x : UInt64) : TyOf K H (.flt x) (.type "float")
  | lst {a : Addr} {xs : List V} (e : H a = some (.lst xs)) : TyOf K H (.ref a) (.type "list")
  | frz {a : Addr} {o : Obj} {xs : List V} (e : H a = some (.frz o (.lst xs))) : TyOf K H (.ref a) (.type "list")
  | tup {a : Addr} {xs : List V} (e : H a = some (.tup xs)) : TyOf K H (.ref a) (.type "tuple")
  | dK {a : Addr} {kvs : List (Key × V)} (e : H a = some (.dK kvs)) : TyOf K H (.ref a) (.type "dict")
  | dT {a : Addr} {kvs : List (List Key × V)} (e : H a = some (.dT kvs)) : TyOf K H (.ref a) (.type "dict")
  | ins {a C dx : Addr} {fs : List (Str × V)} (e : H a = some (.ins C dx fs)) (cl : Cls K C) (ha : PySem.W.findIn K (.ref C) "__class__" = some (some (.builtin "object.__class__")))
      (hn : PySem.W.specialIn K (.builtin "object.__class__") "__get__" = some (some (.builtin "getset_descriptor.__get__"))) (htk : PySem.W.takesIn K (.builtin "object.__class__") = some true)
      (hm : PySem.W.mroIn K C (.type "object") = some true) : TyOf K H (.ref a) (.ref C)
/-- isinstance(x, c) for one class c, a built-in or an own one: kitOne's answer -/
theorem isinst_ok {x : V} {u t : Value} (I : Inv X pins σ H s) (rx : RelV x u) (ty : TyOf X.K H x t) (e : PySem.W.kitOne X.K t c = some b) (h : ∀ tk, Q (.bool b) { s with toks := tk }) :
    wpAny (model X.prog X.w) A (call (.builtin "isinstance") [u, c]) Q E s := by
  cases ty with
  | non => cases (show u = Value.none from rx); exact PySem.W.kia_one PySem.W.kitx_none I.kIn True.intro e (fun z => nomatch z) h
  | bl y => cases (show u = Value.bool y from rx); exact PySem.W.kia_one PySem.W.kitx_bool I.kIn True.intro e (fun z => nomatch z) h
  | int i => obtain ⟨t, q⟩ := (show ∃ t, u = Value.int i t from rx); cases q; exact PySem.W.kia_one PySem.W.kitx_int I.kIn True.intro e (fun z => nomatch z) h
  | str y => obtain ⟨t, q⟩ := (show ∃ t, u = Value.str y t from rx); cases q; exact PySem.W.kia_one PySem.W.kitx_str I.kIn True.intro e (fun z => nomatch z) h
  | flt y => obtain ⟨t, q⟩ := (show ∃ t, u = Value.float y t from rx); cases q; exact PySem.W.kia_one PySem.W.kitx_float I.kIn True.intro e (fun z => nomatch z) h
  | @lst a xs ea =>
    cases (show u = Value.ref a from rx)
    obtain ⟨_, _, n, _, h1⟩ := (show ObjOk X.prog X.w H s.heap a (.lst xs) from I.hok a _ ea)
    exact PySem.W.kia_one PySem.W.kitx_list I.kIn ⟨_, h1, rfl⟩ e (fun z => nomatch z) h
  | @frz a ob xs ea =>
    cases (show u = Value.ref a from rx)
    obtain ⟨_, _, _, n, _, h1⟩ := (show ObjOk X.prog X.w H s.heap a (.frz ob (.lst xs)) from I.hok a _ ea)
    exact PySem.W.kia_one PySem.W.kitx_list I.kIn ⟨_, h1, rfl⟩ e (fun z => nomatch z) h
  | @tup a xs ea =>
    cases (show u = Value.ref a from rx)
    obtain ⟨_, _, _, p⟩ := (show ObjOk X.prog X.w H s.heap a (.tup xs) from I.hok a _ ea)
    obtain ⟨o, h1, h2, _⟩ := p
    exact PySem.W.kia_one PySem.W.kitx_tuple I.kIn ⟨o, h1, h2⟩ e (fun z => nomatch z) h
  | @dK a kvs ea =>
    cases (show u = Value.ref a from rx)
    obtain ⟨_, _, vs, _, p⟩ := (show ObjOk X.prog X.w H s.heap a (.dK kvs) from I.hok a _ ea)
    obtain ⟨o, es, ep, h1, h2, _⟩ := p
    exact PySem.W.kia_one PySem.W.kitx_dict I.kIn ⟨o, h1, h2.1⟩ e (fun z => nomatch z) h
  | @dT a kvs ea =>
    cases (show u = Value.ref a from rx)
    obtain ⟨_, _, xs, _, o, es, ep, h1, h2, _⟩ := (show ObjOk X.prog X.w H s.heap a (.dT kvs) from I.hok a _ ea)
    exact PySem.W.kia_one PySem.W.kitx_dict I.kIn ⟨o, h1, h2.1⟩ e (fun z => nomatch z) h
  | @ins a C dx fs ea cl ha hn htk hm =>
    cases (show u = Value.ref a from rx)
    obtain ⟨mA, O, _⟩ := ins_get I.hok ea
    obtain ⟨od, J, _⟩ := O.look
    exact PySem.W.kia_one (PySem.W.kitx_own (cl.get _) cl.hd ha hn htk hm) I.kIn J e (fun z => nomatch z) h
end
end L2

namespace L2
open PySem PySem.Spec PyProof.Rows

structure Room (k : Nat) (A : Around) : Prop where
  hd : A.handled = none
  dp : A.depth + 3 * k + 5 < recursionLimit
  un : A.units + 16 * k + 200 < cLine
theorem Room.mono {j k : Nat} {A : Around} (r : Room k A) (h : j ≤ k) : Room j A := ⟨r.hd, by have := r.dp; omega, by have := r.un; omega⟩
theorem Room.deeper {k : Nat} {A : Around} (r : Room (k + 1) A) (env : Env) : Room k (A.deeper env) :=
  ⟨r.hd, by have := r.dp; show A.depth + 1 + 3 * k + 5 < _; omega, by have := r.un; show A.units + 3 + 16 * k + 200 < _; omega⟩
theorem Room.in1 {k : Nat} {A : Around} (r : Room (k + 1) A) : Room k A.in1 :=
  ⟨r.hd, by have := r.dp; show A.depth + 3 * k + 5 < _; omega, by have := r.un; show A.units + 1 + 16 * k + 200 < _; omega⟩
theorem Room.depth {k : Nat} {A : Around} (r : Room k A) : A.depth < recursionLimit := by have := r.dp; omega
theorem Room.units {k : Nat} {A : Around} (r : Room k A) : A.units + 64 < cLine := by have := r.un; omega
theorem Room.units0 {k : Nat} {A : Around} (r : Room k A) : A.units < cLine := by have := r.un; omega

def tNil : TA := fun _ H Q => Q [] H
def tCons (ta : TE) (tr : TA) : TA := fun σ H Q => ta σ H fun x H1 => tr σ H1 fun xs H2 => Q (x :: xs) H2
section
variable {X : Cx} {e : Expr} {es : List Expr} {te : TE} {t : TA} {pos : Pos}
theorem pa_nil : PA X [] tNil := fun _ _ _ _ H Q I h => Calls.spliced_nil ⟨[], H, I, .nil, h⟩
theorem pa_cons (ha : PE X e te) (hr : PA X es t) (hs : starEach (e :: es) X.env = (false, eval e X.env) :: starEach es X.env := by rfl) : PA X (e :: es) (tCons te t) := by
  intro pos pins s σ H Q I h
  rw [hs]
  show wpAny _ _ (spliced ((false, eval e X.env) :: backTo pos (starEach es X.env))) _ _ s
  refine Calls.spliced_cons (thn (ha pins s σ H _ I h) fun u s1 ⟨x, H1, I1, r1, q1⟩ => ?_)
  exact thn (hr pos pins s1 σ H1 _ I1 q1) fun us s2 ⟨xs, H2, I2, r2, q2⟩ => ⟨x :: xs, H2, I2, .cons r1 r2, q2⟩

/-- a tuple, a list of written items -/
def tTup (t : TA) : TE := fun σ H Q => t σ H fun xs H1 => xs.length ≤ sizeLine ∧ ∀ p, H1 p = none → Q (.ref p) (upd H1 p (.tup xs))
def tLst (t : TA) : TE := fun σ H Q => t σ H fun xs H1 => xs.length ≤ sizeLine ∧ ∀ p, H1 p = none → Q (.ref p) (upd H1 p (.lst xs))
theorem pe_tup {x1} (h : PA X es t) : PE X (.Tuple es x1 pos) (tTup t) := by
  intro pins s σ H Q I hq
  refine wpAny_Tuple_spliced (thn (h pos pins s σ H _ I hq) fun us s1 ⟨xs, H1, I1, r, z, q⟩ => ⟨by rw [← r.length]; exact z, ?_⟩)
  have hf : H1 s1.heap.objs.size = none := I1.hok.fresh (Nat.le_refl _)
  refine ⟨.ref s1.heap.objs.size, upd H1 s1.heap.objs.size (.tup xs), I1.laid (t' := s1.toks) (fun b u e => Heap.get?_push_of_some _ e) (Nat.le_refl _) ?_, rfl, q _ hf⟩
  exact ⟨z, us, r, ⟨_, Heap.get?_push_size _ rfl, rfl, _, rfl⟩⟩
theorem pe_lst (h : PA X es t) : PE X (.List es pos) (tLst t) := by
  intro pins s σ H Q I hq
  refine wpAny_List_spliced (thn (h pos pins s σ H _ I hq) fun us s1 ⟨xs, H1, I1, r, z, q⟩ => ⟨by rw [← r.length]; exact z, ?_⟩)
  have hf : H1 s1.heap.objs.size = none := I1.hok.fresh (Nat.le_refl _)
  refine ⟨.ref s1.heap.objs.size, upd H1 s1.heap.objs.size (.lst xs), I1.laid (t' := s1.toks) (fun b u e => Heap.get?_push_of_some _ e) (Nat.le_refl _) ?_, rfl, q _ hf⟩
  exact ⟨z, us, 0, r, Heap.get?_push_size _ rfl⟩
end

/-- a def's promise: the bound arguments in the parameters' order, the heap, the wanted end, the wanted exception -/
abbrev Sp := List V → Hp → VK → XK → Prop
/-- how an exception lies behind a call (file 08 gives it): the callers' frames, abstract heap and state ahead of the call, the wish, the exception, the state -/
abbrev CXT := List Env → Hp → Shared → XK → Value → Shared → Prop

/-- the state at a call -/
structure Env0 (P : Program) (w : World) (K : PySem.W.Frag) (mg : Str → Option Value) (base : Heap) (A : Around) (outer : List Env) (s : Shared) (H : Hp) : Prop where
  frames : A.frames = some outer
  mod : Mod K mg base
  bs : ∀ b o, base.get? b = some o → s.heap.get? b = some o ∧ H b = none
  bsz : base.objs.size ≤ s.heap.objs.size
  funs : s.heap.FunFrames base outer
  frf : ∀ b ∈ frs outer, H b = none
  hok : HOk P w H s.heap
  bare : AllBare s.gens
/-- a call's end -/
def CE (outer : List Env) (P : Program) (w : World) (H : Hp) (s : Shared) (Q : VK) (u : Value) (s' : Shared) : Prop :=
  ∃ v H', s'.os = s.os ∧ AllBare s'.gens ∧ Un (frs outer) [] H H' s.heap s'.heap ∧ HOk P w H' s'.heap ∧ RelV v u ∧ Q v H'
def CR (CX : CXT) (outer : List Env) (P : Program) (w : World) (H : Hp) (s : Shared) (Q : VK) (E : XK) (r : Result) (s' : Shared) : Prop :=
  match r with
  | .ok (.ret u) => CE outer P w H s Q u s'
  | .ok _ => False
  | .error e => CX outer H s E e s'
structure FnOk (P : Program) (w : World) (K : PySem.W.Frag) (mg : Str → Option Value) (base : Heap) (CX : CXT) (k : Nat) (f : Addr) (fd : FuncData) (ps : List Str) (sp : Sp) : Prop where
  len : ∀ vs H Q E, sp vs H Q E → vs.length = ps.length
  run : ∀ (A : Around) (outer : List Env) (s : Shared) (H : Hp) (args : Args) (us : List Value) (vs : List V) (Q : VK) (E : XK), Room k A → Env0 P w K mg base A outer s H → BindsTo s fd args (ps.zip us) → Vals vs us → sp vs H Q E →
    codeAny (model P w) A (.call (.ref f) args) (CR CX outer P w H s Q E) s
theorem FnOk.mono {P : Program} {w : World} {K : PySem.W.Frag} {mg : Str → Option Value} {base : Heap} {CX : CXT} {j k : Nat} {f : Addr} {fd : FuncData} {ps : List Str} {sp : Sp} (F : FnOk P w K mg base CX j f fd ps sp) (h : j ≤ k) :
    FnOk P w K mg base CX k f fd ps sp := ⟨F.len, fun A outer s H args us vs Q E hr => F.run A outer s H args us vs Q E (hr.mono h)⟩
/-- a weaker promise -/
theorem FnOk.imp {P : Program} {w : World} {K : PySem.W.Frag} {mg : Str → Option Value} {base : Heap} {CX : CXT} {k : Nat} {f : Addr} {fd : FuncData} {ps : List Str} {sp sp' : Sp} (F : FnOk P w K mg base CX k f fd ps sp)
    (h : ∀ vs H Q E, sp' vs H Q E → sp vs H Q E) : FnOk P w K mg base CX k f fd ps sp' :=
  ⟨fun vs H Q E q => F.len vs H Q E (h _ _ _ _ q), fun A outer s H args us vs Q E hr he hb hv hs => F.run A outer s H args us vs Q E hr he hb hv (h _ _ _ _ hs)⟩

theorem Env0.in1 {P : Program} {w : World} {K : PySem.W.Frag} {mg : Str → Option Value} {base : Heap} {A : Around} {outer : List Env} {s : Shared} {H : Hp} (e : Env0 P w K mg base A outer s H) :
    Env0 P w K mg base A.in1 outer s H := ⟨e.frames, e.mod, e.bs, e.bsz, e.funs, e.frf, e.hok, e.bare⟩

section
variable {X : Cx} {pins : List (Addr × Obj)} {σ : St} {H : Hp} {s s' : Shared}
/-- from a body: what a callee wants -/
theorem Inv.env0 (I : Inv X pins σ H s) : Env0 X.prog X.w X.K X.mg X.base X.A X.stack s H :=
  ⟨I.ok.frames, I.ok.mod, I.bs, Nat.le_trans I.ok.bsz I.sz, I.stack, I.stkFree, I.hok, I.bare⟩
/-- behind a call -/
theorem Inv.after {Q : VK} {u : Value} (I : Inv X pins σ H s) (h : CE X.stack X.prog X.w H s Q u s') : EP X pins σ Q u s' := by
  obtain ⟨v, H', os, bare, un, hok, r, q⟩ := h
  obtain ⟨hh, g, d, t, os'⟩ := s'
  obtain rfl : os' = s.os := os
  exact ⟨v, H', I.call (h' := hh) (g' := g) (d' := d) (t' := t) (ch := []) un hok bare (fun b z => absurd z (by simp)), r, q⟩
end

/-- f(..): the written arguments, then the defaults dvs; E: what is wanted of an exception -/
def tCall (sp : Sp) (dvs : List V) (E : XK) (t : TA) : TE := fun σ H Q => t σ H fun vs H1 => sp (vs ++ dvs) H1 Q E
/-- how the parameters are bound: us the positional arguments, kw the keywords' values by name, ds the defaults that fill up -/
def Binds (K : PySem.W.Frag) (fd : FuncData) (ps : List Str) (ds : List Value) : Prop :=
  ∀ (s : Shared) (us : List Value), K.In s.heap → (us ++ ds).length = ps.length → BindsTo s fd ⟨us, []⟩ (ps.zip (us ++ ds))
/-- every parameter is given -/
theorem Binds.all {K : PySem.W.Frag} {fd : FuncData} {ps : List Str} (h : ∀ us : List Value, us.length = ps.length → bindArgs fd ⟨us, []⟩ = pure (ps.zip us)) : Binds K fd ps [] := fun s us _ hl => by
  rw [List.append_nil] at hl ⊢
  exact .of_eq (h us hl)

/-- an exception of a callee reaches what this body wants of exceptions -/
def Passes (CX : CXT) (X : Cx) (E : XK) : Prop := ∀ (pins : List (Addr × Obj)) (σ : St) (H : Hp) (s : Shared) (e : Value) (s' : Shared), Inv X pins σ H s → CX X.stack H s E e s' → X.xe e s'

section
variable {X : Cx} {CX : CXT} {k : Nat} {f C : Addr} {fd : FuncData} {ps : List Str} {sp : Sp} {dvs : List V} {ds : List Value} {E : XK} {x m : Str} {p pos apos : Pos} {e o : Expr} {es : List Expr} {ta : TE} {t : TA}

/-- the callee runs -/
theorem run_fn {pins : List (Addr × Obj)} {σ : St} {H : Hp} {s : Shared} {Q : VK} {us : List Value} {vs : List V} (F : FnOk X.prog X.w X.K X.mg X.base CX k f fd ps sp) (hr : Room k X.A) (hb : Binds X.K fd ps ds) (hd : Vals dvs ds) (hx : Passes CX X E)
    (I : Inv X pins σ H s) (r : Vals vs us) (h : sp (vs ++ dvs) H Q E) : wpAny (model X.prog X.w) X.A (call (.ref f) us) (EP X pins σ Q) X.xe s := by
  have r2 : Vals (vs ++ dvs) (us ++ ds) := r.append hd
  have hl : (us ++ ds).length = ps.length := by rw [← r2.length]; exact F.len _ _ _ _ h
  refine wpAny_call (codeAny_mono (F.run X.A X.stack s H ⟨us, []⟩ (us ++ ds) (vs ++ dvs) Q E hr I.env0 (hb s us I.kIn hl) r2 h) fun r s' hq => ?_)
  cases r with
  | error e => exact hx pins σ H s e s' I hq
  | ok fl =>
    cases fl with
    | ret u => exact I.after hq
    | next => exact False.elim hq
    | brk => exact False.elim hq
    | cont => exact False.elim hq

theorem pe_call (F : FnOk X.prog X.w X.K X.mg X.base CX k f fd ps sp) (hr : Room k X.A) (hg : Gl X x) (hm : X.mg x = some (.ref f)) (hk : PySem.W.keepIn X.K (.ref f) = true) (hb : Binds X.K fd ps ds) (hd : Vals dvs ds) (hx : Passes CX X E)
    (ha : PA X (e :: es) t) (hdb : (x == ("__debug__" : Str)) = false := by decide) (he : starEach (e :: es) X.env = (false, eval e X.env) :: starEach es X.env := by rfl) (hpl : (backTo pos (starEach es X.env)).any (·.1) = false := by rfl) :
    PE X (.Call (.Name x p) (e :: es) [] pos) (tCall sp dvs E t) := by
  intro pins s σ H Q I h
  refine wpAny_Call_Name_kw (ld_glob I hg hm ?_ hdb)
  refine PySem.W.callWith_K (h₀ := X.base) I.ok.mod.kin hk (thn (ha pos pins s σ H _ I h) fun us s1 ⟨vs, H1, I1, r, q⟩ => ⟨I1.kIn, ?_⟩) he hpl
  exact run_fn F hr hb hd hx I1 r q
theorem pe_call0 (F : FnOk X.prog X.w X.K X.mg X.base CX k f fd ps sp) (hr : Room k X.A) (hg : Gl X x) (hm : X.mg x = some (.ref f)) (hk : PySem.W.keepIn X.K (.ref f) = true) (hb : Binds X.K fd ps ds) (hd : Vals dvs ds) (hx : Passes CX X E)
    (hdb : (x == ("__debug__" : Str)) = false := by decide) : PE X (.Call (.Name x p) [] [] pos) (tCall sp dvs E tNil) := by
  intro pins s σ H Q I h
  refine wpAny_Call_Name_kw (ld_glob I hg hm ?_ hdb)
  exact PySem.W.callWith_K0 I.kIn hk (run_fn (us := []) F hr hb hd hx I .nil h)

/-- what a class must have to be made -/
structure Mk (K : PySem.W.Frag) (C f : Addr) : Prop where
  makes : PySem.W.makesIn K C = true
  init : PySem.W.findIn K (.ref C) "__init__" = some (some (.ref f))
  fn : PySem.W.isFn K (.ref f) = true
  kp : PySem.W.keepIn K (.ref C) = true

end

section
variable {X : Cx} {CX : CXT} {k : Nat} {f C : Addr} {fd : FuncData} {ps ks : List Str} {sp : Sp} {E : XK} {x m : Str} {p pos apos kpos : Pos} {e o : Expr} {es : List Expr} {kws : List Keyword} {te ta : TE} {t tk : TA} {nm : Option Str}
/-- how a call with keywords binds: g puts the positional values us and the keywords' values ws (names ks) in the parameters' order, defaults among them -/
structure KBinds (K : PySem.W.Frag) (fd : FuncData) (ps ks : List Str) (g : List Value → List Value → List Value) (gV : List V → List V → List V) : Prop where
  to : ∀ (s : Shared) (us ws : List Value), K.In s.heap → (g us ws).length = ps.length → BindsTo s fd ⟨us, ks.zip ws⟩ (ps.zip (g us ws))
  rel : ∀ {vs : List V} {us : List Value} {zs : List V} {ws : List Value}, Vals vs us → Vals zs ws → Vals (gV vs zs) (g us ws)
variable {g : List Value → List Value → List Value} {gV : List V → List V → List V}
end

/-- names: the parameters first -/
structure FnScope (N P : List Str) (sc : Scope) : Prop where
  kind : sc.kind = .function
  co : sc.isCoroutine = false
  gen : sc.isGenerator = false
  nd : N.Nodup
  pre : N.take P.length = P
  par : ∀ x ∈ P, sc.names.lookup x = some .local ∨ sc.names.lookup x = some .cell
  nofree : ∀ y ∈ sc.names, y.2 ≠ .free

theorem bindL_out {kindOf : Str → Option NameKind} {x : Str} : ∀ {binds : List (Str × Value)} {m : Str → Option Value}, (∀ v, (x, v) ∉ binds) → bindL kindOf binds m x = m x
  | [], _, _ => rfl
  | (n, v) :: r, m, h => by
    unfold bindL
    rw [bindL_out fun w hw => h w (List.mem_cons_of_mem _ hw)]
    split
    · have : x ≠ n := by rintro rfl; exact h v List.mem_cons_self
      simp [this]
    · rfl
theorem bindC_out {kindOf : Str → Option NameKind} {x : Str} : ∀ {binds : List (Str × Value)} {m : Str → Option Value}, (∀ v, (x, v) ∉ binds) → bindC kindOf binds m x = m x
  | [], _, _ => rfl
  | (n, v) :: r, m, h => by
    unfold bindC
    rw [bindC_out fun w hw => h w (List.mem_cons_of_mem _ hw)]
    split
    · rfl
    · have : x ≠ n := by rintro rfl; exact h v List.mem_cons_self
      simp [this]
theorem bindL_get {kindOf : Str → Option NameKind} {x : Str} {v : Value} : ∀ {P : List Str} {vs : List Value} {i : Nat} {m : Str → Option Value}, P.Nodup → P[i]? = some x → vs[i]? = some v → kindOf x = some .local →
    bindL kindOf (P.zip vs) m x = some v
  | [], _, _, _, _, h, _, _ => by simp at h
  | _ :: _, [], _, _, _, _, h, _ => by simp at h
  | p :: P, w :: vs, 0, m, nd, h1, h2, hk => by
    simp at h1 h2; subst h1; subst h2
    show bindL kindOf ((p, w) :: P.zip vs) m p = _
    unfold bindL
    rw [bindL_out fun v hv => (List.nodup_cons.mp nd).1 (List.of_mem_zip hv).1, if_pos hk]
    simp
  | p :: P, w :: vs, i + 1, m, nd, h1, h2, hk => by
    show bindL kindOf ((p, w) :: P.zip vs) m x = _
    unfold bindL
    exact bindL_get (i := i) (List.nodup_cons.mp nd).2 (by simpa using h1) (by simpa using h2) hk
theorem bindC_get {kindOf : Str → Option NameKind} {x : Str} {v : Value} : ∀ {P : List Str} {vs : List Value} {i : Nat} {m : Str → Option Value}, P.Nodup → P[i]? = some x → vs[i]? = some v → kindOf x ≠ some .local →
    bindC kindOf (P.zip vs) m x = some v
  | [], _, _, _, _, h, _, _ => by simp at h
  | _ :: _, [], _, _, _, _, h, _ => by simp at h
  | p :: P, w :: vs, 0, m, nd, h1, h2, hk => by
    simp at h1 h2; subst h1; subst h2
    show bindC kindOf ((p, w) :: P.zip vs) m p = _
    unfold bindC
    rw [bindC_out fun v hv => (List.nodup_cons.mp nd).1 (List.of_mem_zip hv).1, if_neg hk]
    simp
  | p :: P, w :: vs, i + 1, m, nd, h1, h2, hk => by
    show bindC kindOf ((p, w) :: P.zip vs) m x = _
    unfold bindC
    exact bindC_get (i := i) (List.nodup_cons.mp nd).2 (by simpa using h1) (by simpa using h2) hk

/-- the names' values at the entry -/
def start (N : List Str) (vs : List V) : St := vs.map some ++ List.replicate (N.length - vs.length) none

/-- the context of a def's body, at its entry; an exception leaves the frame, then lies as CX says -/
def cxOf (CX : CXT) (P : Program) (w : World) (K : PySem.W.Frag) (mg : Str → Option Value) (base : Heap) (N : List Str) (qual : Str) (scope : Scope) (f : Addr) (cd : Value) (A : Around) (outer : List Env) (s : Shared) (H : Hp) (E : XK) : Cx where
  prog := P
  w := w
  K := K
  mg := mg
  base := base
  A := A.deeper (envOfC qual scope s.heap.objs.size f cd)
  N := N
  s₀ := s
  H₀ := H
  env := envOfC qual scope s.heap.objs.size f cd
  outer := outer
  stack := envOfC qual scope s.heap.objs.size f cd :: outer
  ex := []
  calm := true
  fn := fun _ => true
  pn := []
  xe := fun e s' => wpAny (model P w) (A.deeper (envOfC qual scope s.heap.objs.size f cd)) (leaving (envOfC qual scope s.heap.objs.size f cd) e) (fun _ s'' => CX outer H s E e s'') (fun e' s'' => CX outer H s E e' s'') s'

theorem cell_has {sc : Scope} {n : Nat} {x : Str} (h : sc.names.lookup x = some .cell) : ∃ c, (cellsFrom n sc.names []).lookup x = some c := by
  have q := PySem.W.cellsFrom_some sc.names n [] (.inl h)
  exact Option.isSome_iff_exists.mp q

theorem inv_start {CX : CXT} {P : Program} {w : World} {K : PySem.W.Frag} {mg : Str → Option Value} {base : Heap} {N ps : List Str} {qual : Str} {scope : Scope} {f : Addr} {cd : Value} {A : Around} {outer : List Env} {s s1 : Shared} {H : Hp} {E : XK} {us : List Value} {vs : List V}
    (S : FnScope N ps scope) (hd : A.handled = none) (e0 : Env0 P w K mg base A outer s H) (hl : vs.length = ps.length) (r : Vals vs us)
    (x : InCallC s s.heap.objs.size (bindL (envOfC qual scope s.heap.objs.size f cd).kindOf (ps.zip us) fun _ => none) (cellsFrom (s.heap.objs.size + 1) scope.names []) (bindC (envOfC qual scope s.heap.objs.size f cd).kindOf (ps.zip us) fun _ => none) s1) :
    Inv (cxOf CX P w K mg base N qual scope f cd A outer s H E) [] (start N vs) H s1 := by
  have hpl : ps.length ≤ N.length := by have := congrArg List.length S.pre; rw [List.length_take] at this; omega
  obtain ⟨h1, tk, rfl, hk⟩ := x.done
  have noA : ∀ b : Addr, b ∉ (cxOf CX P w K mg base N qual scope f cd A outer s H E).ex := fun b z => absurd (show b ∈ ([] : List Addr) from z) (by simp)
  refine ⟨⟨e0.mod, S.kind, rfl, rfl, Nat.le_refl _, fun y z c h1 h2 => ?_, fun y hy => ?_, fun y c _ h => ?_, fun _ => hd, Around.frames_deeper e0.frames, .inr ⟨rfl, rfl⟩, fun b z => absurd z (noA b), e0.bs, e0.bsz, fun b _ _ => noA b, fun b z => absurd z (noA b), e0.funs, e0.frf⟩,
    rfl, e0.bare, Un.kept hk, ⟨_, x.toInCall.ns, fun i y v h1 h2 h3 => ?_⟩, fun y c h => ⟨_, x.cell y c h⟩, e0.hok.fresh (Nat.le_refl _), fun y c h => ?_, fun p hp => absurd (show p ∈ ([] : List (Addr × Obj)) from hp) (by simp), e0.hok.kept hk, ?_⟩
  · exact name_of_addr x.apart (PySem.mem_of_lookup h1) (PySem.mem_of_lookup h2)
  · have hy : scope.names.lookup y = some .cell ∨ scope.names.lookup y = some .free := hy
    rcases hy with hy | hy
    · exact cell_has hy
    · exact absurd rfl (S.nofree _ (PySem.mem_of_lookup hy))
  · exact Nat.le_of_lt (x.above y c (PySem.mem_of_lookup h))
  · have hi : i < vs.length := by
      unfold start at h2
      by_cases hi : i < vs.length
      · exact hi
      · rw [List.getElem?_append_right (by simpa using hi)] at h2
        rw [List.getElem?_replicate] at h2
        split at h2 <;> cases h2
    have ha : vs[i]? = some v := by
      unfold start at h2
      rw [List.getElem?_append_left (by simpa using hi), List.getElem?_map] at h2
      cases e : vs[i]? with
      | none => rw [e] at h2; cases h2
      | some a => rw [e] at h2; cases h2; rfl
    obtain ⟨u, hu, rv⟩ := r.get ha
    have hp : ps[i]? = some y := by
      rw [← S.pre, List.getElem?_take_of_lt (by omega)]; exact h1
    have ndP : ps.Nodup := by rw [← S.pre]; exact S.nd.sublist (List.take_sublist _ _)
    refine ⟨u, rv, ?_⟩
    rcases S.par y (List.mem_of_getElem? hp) with k | k
    · exact .inl ⟨k, bindL_get ndP hp hu k⟩
    · obtain ⟨c, e⟩ := cell_has (n := s.heap.objs.size + 1) k
      refine .inr ⟨.inl k, c, e, ?_⟩
      have q := x.cell y c e
      rw [bindC_get ndP hp hu (by show scope.names.lookup y ≠ _; rw [k]; decide)] at q
      exact q
  · exact e0.hok.fresh (Nat.le_of_lt (x.above y c (PySem.mem_of_lookup h)))
  · unfold start
    show _ = N.length
    rw [List.length_append, List.length_map, List.length_replicate]
    omega

/-- THE RULE: a def (or a method) of the text, by its body. The body's reading t is chosen for each entry; it is run at the parameters' values -/
theorem fn_of {CX : CXT} {P : Program} {w : World} {K : PySem.W.Frag} {mg : Str → Option Value} {base : Heap} {k : Nat} {f : Addr} {name qual : Str} {params : Arguments} {body : List Stmt} {scope : Scope} {dV kV doc pm cdv ct oc : Value} {an od : Option Addr}
    {osl : Array (Option Value)} {N ps : List Str} {sp : Sp} (lk : K.lookup f = some ⟨oc, od, .func (PySem.W.fnOf name qual params body scope dV kV doc pm an cdv ct), osl⟩) (hcd : PySem.W.codeIn K cdv qual = true) (S : FnScope N ps scope)
    (len : ∀ vs H Q E, sp vs H Q E → vs.length = ps.length)
    (hbody : ∀ (A : Around) (outer : List Env) (s : Shared) (H : Hp) (vs : List V) (Q : VK) (E : XK), Room k (A.deeper (envOfC qual scope s.heap.objs.size f cdv)) → sp vs H Q E →
      ∃ t, PSs (cxOf CX P w K mg base N qual scope f cdv A outer s H E) body t ∧ t { nx := fun _ H' => Q .non H', rt := Q } (start N vs) H) :
    FnOk P w K mg base CX (k + 1) f (PySem.W.fnOf name qual params body scope dV kV doc pm an cdv ct) ps sp := by
  refine ⟨len, fun A outer s H args us vs Q E hr e0 hb r hsp => ?_⟩
  have hl := len _ _ _ _ hsp
  have KX : K.In s.heap := e0.mod.kin.keeps fun b o e => (e0.bs b o e).1
  have lim : s.heap.NoLimit := e0.mod.nolimit.keeps fun b o e => (e0.bs b o e).1
  have hkind : ∀ y ∈ ps.zip us, scope.names.lookup y.1 = some .local ∨ (scope.names.lookup y.1 = some .cell ∧ ((cellsFrom (s.heap.objs.size + 1) scope.names []).lookup y.1).isSome = true) := fun ⟨n, v⟩ hy => by
    rcases S.par n (List.of_mem_zip hy).1 with q | q
    · exact .inl q
    · exact .inr ⟨q, PySem.W.cellsFrom_some _ _ _ (.inl q)⟩
  refine codeAny_call_function hr.depth (KX _ _ lk) rfl S.co S.gen rfl (PySem.W.codeRec_of KX hcd) (hb _ _ _ _ ?_)
  refine wpAny_newFunctionEnv_cells S.kind hkind fun env he s1 x => ?_
  subst he
  refine ⟨lim.keeps x.toInCall.keep, codeAny_func ?_⟩
  obtain ⟨t, ht, hq⟩ := hbody A outer s H vs Q E (hr.deeper _) hsp
  have I : Inv (cxOf CX P w K mg base N qual scope f cdv A outer s H E) [] (start N vs) H s1 := inv_start S hr.hd e0 hl r x
  refine wpAny_mono (ht [] s1 (start N vs) H _ I hq) (fun fl s' hs => ?_) fun e s' hs => hs
  have fin : ∀ {σ' : St} {H' : Hp} {v : V} {u : Value}, Inv (cxOf CX P w K mg base N qual scope f cdv A outer s H E) [] σ' H' s' → RelV v u → Q v H' → CE outer P w H s Q u s' :=
    fun {σ' H' v u} J rv q => ⟨v, H', J.os, J.bare, J.base, J.hok, rv, q⟩
  cases fl with
  | ret u =>
    obtain ⟨v, σ', H', J, rv, q⟩ := hs
    exact fin J rv q
  | next =>
    obtain ⟨σ', H', J, q⟩ := hs
    exact fin (v := V.non) (u := Value.none) J rfl q
  | brk =>
    obtain ⟨_, _, _, q⟩ := hs
    exact False.elim q
  | cont =>
    obtain ⟨_, _, _, q⟩ := hs
    exact False.elim q
end L2

namespace L2
open PySem PySem.Spec PyProof.Rows
section
variable {X : Cx} {x : Str} {p pos : Pos} {e : Expr} {es : List Expr} {t : TA} {id T : String} {r : List V → Hp → VK → Prop}

def tCB (r : List V → Hp → VK → Prop) (t : TA) : TE := fun σ H Q => t σ H fun vs H1 => r vs H1 Q
/-- f(e, ..), f a built-in function -/
theorem pe_callB (hc : CallR X (.builtin id) r) (hg : Gl X x) (hm : X.mg x = none) (hv : bootBuiltins x = some (.builtin id)) (ha : PA X (e :: es) t) (hn : x ≠ "__name__" := by decide) (hdb : (x == ("__debug__" : Str)) = false := by decide)
    (he : starEach (e :: es) X.env = (false, eval e X.env) :: starEach es X.env := by rfl) (hpl : (backTo pos (starEach es X.env)).any (·.1) = false := by rfl) : PE X (.Call (.Name x p) (e :: es) [] pos) (tCB r t) := by
  intro pins s σ H Q I h
  refine wpAny_Call_Name_kw (ld_blt I hg hm hv ?_ hn hdb)
  exact PyProof.Rows.callWith_builtin1 (thn (ha pos pins s σ H _ I h) fun us s1 ⟨vs, H1, I1, r1, q1⟩ => hc pins s1 σ H1 vs us Q I1 r1 q1) he hpl
/-- T(e, ..), T a built-in type -/
theorem pe_callTy (hc : CallR X (.type T) r) (hg : Gl X x) (hm : X.mg x = none) (hv : bootBuiltins x = some (.type T)) (ha : PA X (e :: es) t) (hn : x ≠ "__name__" := by decide) (hdb : (x == ("__debug__" : Str)) = false := by decide)
    (he : starEach (e :: es) X.env = (false, eval e X.env) :: starEach es X.env := by rfl) (hpl : (backTo pos (starEach es X.env)).any (·.1) = false := by rfl) : PE X (.Call (.Name x p) (e :: es) [] pos) (tCB r t) := by
  intro pins s σ H Q I h
  refine wpAny_Call_Name_kw (ld_blt I hg hm hv ?_ hn hdb)
  exact PyProof.Rows.callWith_type1 (thn (ha pos pins s σ H _ I h) fun us s1 ⟨vs, H1, I1, r1, q1⟩ => hc pins s1 σ H1 vs us Q I1 r1 q1) he hpl
end
end L2

namespace HT
open PySem PyProof.Rows

section
open PySem.SeqAt
open PySem.AutoSeq1 (wpAny_loadPart')
open PySem.MeetsSeq PySem.MeetsSeq2 PySem.MeetsSeq3

end

section
variable {prog : Program} {w : World} {A : Around} {E : Value → Shared → Prop} {s : Shared}

/-- t + u, t not empty -/
theorem cat_tup {t b : Addr} {vs ws : List Value} {Q : Value → Shared → Prop} (ht : IsTup s.heap t vs.toArray) (hb : IsTup s.heap b ws.toArray) (hv : vs ≠ [])
    (h1 : ws = [] → Q (.ref t) s) (h2 : ws ≠ [] → Q (.ref s.heap.objs.size) { s with heap := s.heap.push { cls := .type "tuple", data := .seq (vs ++ ws).toArray } })
    (hsz : vs.length + ws.length ≤ sizeLine) : wpAny (model prog w) A (binaryOp .Add (.ref t) (.ref b)) Q E s := by
  obtain ⟨⟨cls, dd, data, sl⟩, ho, hc, n, hd⟩ := id ht
  obtain ⟨⟨cls2, dd2, data2, sl2⟩, ho2, hc2, n2, hd2⟩ := id hb
  simp only at hc hd hc2 hd2
  subst hc hd hc2 hd2
  have e : vs.toArray ++ ws.toArray = (vs ++ ws).toArray := by simp
  by_cases hw : ws = []
  · exact concat_meets ⟨_, ho, rfl⟩ ⟨_, ho2, rfl⟩ noFill_tuple_add seq_tuple_add PySem.F.slot_tuple_add PySem.F.entry_tuple_add (PySem.F.args_tuple_add_2 _ _)
      (tuple_addW1 t b vs.toArray ws.toArray n n2 dd dd2 sl sl2 (by simpa using hv) (by simp [hw])) ⟨ho, ho2, h1 hw⟩
  · refine concat_meets ⟨_, ho, rfl⟩ ⟨_, ho2, rfl⟩ noFill_tuple_add seq_tuple_add PySem.F.slot_tuple_add PySem.F.entry_tuple_add (PySem.F.args_tuple_add_2 _ _)
      (tuple_addW2 t b vs.toArray ws.toArray n n2 dd dd2 sl sl2 (by simpa using hv) (by simpa using hw) (by rw [List.size_toArray, List.size_toArray]; exact hsz)) ⟨ho, ho2, ?_⟩
    rw [e]
    exact h2 hw

/-- a slice's bound as a place among n (d where it is left out) -/
def sIx (n d : Nat) : Option Int → Nat
  | none => d
  | some v => if v < 0 then (v + (n : Int)).toNat else min v.toNat n
theorem sIx_le (n d : Nat) (hd : d ≤ n) (o : Option Int) : sIx n d o ≤ n := by
  cases o with
  | none => exact hd
  | some v =>
    show (if v < 0 then (v + (n : Int)).toNat else min v.toNat n) ≤ n
    by_cases hv : v < 0
    · rw [if_pos hv]; omega
    · rw [if_neg hv]; exact Nat.min_le_right _ _
theorem clip_eq (v : Int) (n d : Nat) : (if v < 0 then max (v + (n : Int)) 0 else min v (n : Int)) = ((sIx n d (some v) : Nat) : Int) := by
  show (if v < 0 then max (v + (n : Int)) 0 else min v (n : Int)) = (((if v < 0 then (v + (n : Int)).toNat else min v.toNat n) : Nat) : Int)
  by_cases hv : v < 0
  · simp only [if_pos hv]; omega
  · simp only [if_neg hv]; omega
theorem adjust_gen (lo hi : Option Int) (n : Nat) : Builtin.Slice.sliceAdjust lo hi 1 (n : Int) = (((sIx n 0 lo : Nat) : Int), ((sIx n n hi : Nat) : Int)) := by
  have h1 : ¬ ((1 : Int) < 0) := by omega
  unfold Builtin.Slice.sliceAdjust
  simp only [h1, if_false]
  refine Prod.ext ?_ ?_
  · cases lo with
    | none => rfl
    | some v => exact clip_eq v n 0
  · cases hi with
    | none => rfl
    | some v => exact clip_eq v n n
theorem places_gen (i j : Nat) : Builtin.Slice.slicePlaces (i : Int) (j : Int) 1 = j - i := by
  unfold Builtin.Slice.slicePlaces
  have h1 : (1 : Int) > 0 := by omega
  simp only [h1, if_true, Int.ediv_one]
  split <;> omega
theorem slicePart_ {v : Value} {o : Option Int} {Q : Option Int → Shared → Prop} (p : IsPart v o) (h : Q o s) : wpAny (model prog w) A (Builtin.Slice.slicePartIndex v) Q E s := by
  cases p with
  | none => exact slicePart_none h
  | int i t => exact slicePart_int h
theorem sliceApplied_gen {sl : Addr} {vl vu : Value} {lo hi : Option Int} {n : Nat} {Q : Int × Int × Nat → Shared → Prop} (hs : s.heap.IsSliceOf sl vl vu .none) (pl : IsPart vl lo) (pu : IsPart vu hi)
    (h : Q (((sIx n 0 lo : Nat) : Int), 1, sIx n n hi - sIx n 0 lo) s) : wpAny (model prog w) A (Builtin.Slice.sliceApplied (.ref sl) (pure (n : Int))) Q E s := by
  obtain ⟨os, hos, hcs, hds⟩ := id hs
  unfold Builtin.Slice.sliceApplied Builtin.Slice.sliceFields
  refine wpAny_bind (wpAny_bind (wpAny_field hos hds (x := vl) rfl (wpAny_bind (wpAny_field hos hds (x := vu) rfl (wpAny_bind (wpAny_field hos hds (x := .none) rfl (wpAny_pure ?_)))))))
  refine wpAny_bind (slicePart_none ?_)
  show wpAny _ _ (if ((1 : Int) == 0) = true then _ else _) _ _ s
  rw [if_neg (by decide)]
  refine wpAny_bind (slicePart_ pl (wpAny_bind (slicePart_ pu (wpAny_bind (wpAny_pure ?_)))))
  show wpAny _ _ (match Builtin.Slice.sliceAdjust lo hi 1 (n : Int) with | (lo, hi) => pure (lo, (1 : Int), Builtin.Slice.slicePlaces lo hi 1)) _ _ s
  rw [adjust_gen lo hi n]
  show wpAny _ _ (pure (((sIx n 0 lo : Nat) : Int), (1 : Int), Builtin.Slice.slicePlaces ((sIx n 0 lo : Nat) : Int) ((sIx n n hi : Nat) : Int) 1)) _ _ s
  rw [places_gen]
  exact wpAny_pure h
theorem pick_gen (xs : Array Value) (i k : Nat) : ((List.range k).filterMap fun (m : Nat) => xs[((i : Int) + (m : Int) * 1).toNat]?).toArray = ((xs.toList.drop i).take k).toArray := by
  have e : (fun (m : Nat) => xs[((i : Int) + (m : Int) * 1).toNat]?) = fun m => xs[i + m]? := by
    funext m
    have : ((i : Int) + (m : Int) * 1).toNat = i + m := by omega
    rw [this]
  rw [e]
  have := pick_run xs i k
  rw [List.filterMap_map] at this
  have e2 : ((fun x => xs[x]?) ∘ fun x => i + x) = fun m => xs[i + m]? := rfl
  rw [e2] at this
  rw [this]

theorem getItem_tuple_cut {t sl : Addr} {items : Array Value} {vl vu : Value} {lo hi : Option Int} {Q : Value → Shared → Prop} (ht : IsTup s.heap t items) (hs : s.heap.IsSliceOf sl vl vu .none) (pl : IsPart vl lo) (pu : IsPart vu hi)
    (hw : ¬ (sIx items.size 0 lo = 0 ∧ sIx items.size items.size hi = items.size))
    (h : Q (.ref s.heap.objs.size) { s with heap := s.heap.push { cls := .type "tuple", data := .seq ((items.toList.drop (sIx items.size 0 lo)).take (sIx items.size items.size hi - sIx items.size 0 lo)).toArray } })
    (hsz : items.size ≤ sizeLine) : wpAny (model prog w) A (getItem (.ref t) (.ref sl)) Q E s := by
  have htake : sizeOk (.seq ((items.toList.drop (sIx items.size 0 lo)).take (sIx items.size items.size hi - sIx items.size 0 lo)).toArray) := by
    show ((items.toList.drop (sIx items.size 0 lo)).take (sIx items.size items.size hi - sIx items.size 0 lo)).toArray.size ≤ sizeLine
    rw [List.size_toArray, List.length_take, List.length_drop, Array.length_toList]
    omega
  have hj : sIx items.size items.size hi ≤ items.size := sIx_le _ _ (Nat.le_refl _) hi
  obtain ⟨os, hos, hcs, hds⟩ := id hs
  have hTs : s.TypeIs (.ref sl) "slice" := ⟨os, hos, hcs⟩
  unfold getItem
  try with_reducible refine wpAny_holding ?_
  first | refine wpAny_bind (wpAny_pure ?_) | skip
  refine wpAny_bind (wpAny_sequenceKey ht.typeIs (by decide) ?_)
  refine wpAny_bind (wpAny_callSpecial?_slot (name := Str.ofString "__getitem__") ht.typeIs PyProof.Rows.slot_tuple_getitem
    (wpAny_call_entry PyProof.Rows.slot_tuple_getitem ht.typeIs entry_tuple_getitem ?_ (args_tuple_getitem _ _)))
  show wpAny _ _ (Builtin.Tuple.tupleItemsOf (.ref t) >>= _) _ _ s
  refine wpAny_bind (tupleItemsOf_ ht ?_)
  refine wpAny_bind (wpAny_typeOf hTs ?_)
  rw [if_pos (by decide)]
  refine wpAny_bind (sliceApplied_gen hs pl pu ?_)
  have hno : ¬ ((((sIx items.size 0 lo : Nat) : Int) == 0 && (1 : Int) == 1 && (sIx items.size items.size hi - sIx items.size 0 lo) == items.size) = true) := by
    intro q
    rw [Bool.and_eq_true, Bool.and_eq_true] at q
    have q1 : ((sIx items.size 0 lo : Nat) : Int) = 0 := eq_of_beq q.1.1
    have q2 : sIx items.size items.size hi - sIx items.size 0 lo = items.size := eq_of_beq q.2
    exact hw ⟨by omega, by omega⟩
  show wpAny _ _ (if (((sIx items.size 0 lo : Nat) : Int) == 0 && (1 : Int) == 1 && (sIx items.size items.size hi - sIx items.size 0 lo) == items.size) = true then _ else _) _ _ s
  rw [if_neg hno, pick_gen]
  first
    | exact wpAny_bind (m := Builtin.Tuple.tupleExact _) (wpAny_newObj_type (wpAny_pure ⟨_, rfl, wpAny_pure h⟩) htake)
    | exact wpAny_bind (m := Builtin.Tuple.tupleExact _) (wpAny_newObj_type (wpAny_bind (wpAny_pure (wpAny_pure ⟨_, rfl, wpAny_pure h⟩))) htake)
    | exact wpAny_bind (wpAny_bind (m := Builtin.Tuple.tupleExact _) (wpAny_newObj_type (wpAny_pure (wpAny_pure ⟨_, rfl, wpAny_pure h⟩)) htake))
    | exact wpAny_bind (wpAny_bind (m := Builtin.Tuple.tupleExact _) (wpAny_newObj_type (wpAny_pure ⟨_, rfl, wpAny_pure h⟩) htake))
end
end HT

namespace L2
open PySem PySem.Spec PyProof.Rows

abbrev TO := St → Hp → (Option Int → Hp → Prop) → Prop
/-- a slice's part (left out, or an int) -/
def PO (X : Cx) (e : Option Expr) (t : TO) : Prop :=
  ∀ (pins : List (Addr × Obj)) (s : Shared) (σ : St) (H : Hp) (Q : Option Int → Hp → Prop), Inv X pins σ H s → t σ H Q →
    wpAny (model X.prog X.w) X.A (evalPart e X.env) (fun u s' => ∃ o H', Inv X pins σ H' s' ∧ IsPart u o ∧ Q o H') X.xe s
def tNoPart : TO := fun _ H Q => Q none H
def tPart (t : TE) : TO := fun σ H Q => t σ H fun x H1 => ∃ i, x = .int i ∧ Q (some i) H1

theorem intsAre_of {ns : List Int} : ∀ {us : List Value}, Vals (ns.map V.int) us → IntsAre us ns := by
  induction ns with
  | nil => intro us r; rw [List.map_nil] at r; cases r; exact .nil
  | cons n ns ih =>
    intro us r
    rw [List.map_cons] at r
    cases r with
    | cons r1 r2 =>
      obtain ⟨t, e⟩ := r1
      subst e
      exact .cons n t (ih r2)

section
variable {X : Cx} {e : Expr} {te : TE} {lo hi : Option Expr} {tl th : TO} {pos p2 : Pos}

theorem po_none : PO X none tNoPart := by
  intro pins s σ H Q I h
  rw [evalPart_none]
  exact wpAny_pure ⟨none, H, I, .none, h⟩
theorem po_some (h : PE X e te) : PO X (some e) (tPart te) := by
  intro pins s σ H Q I hw
  rw [evalPart_some]
  refine thn (h pins s σ H _ I hw) fun u s1 ⟨x, H1, I1, r1, q1⟩ => ?_
  obtain ⟨i, rfl, q⟩ := q1
  obtain ⟨t, rfl⟩ := r1
  exact ⟨some i, H1, I1, .int i t, q⟩

/-- what a slice of a value is, by values: the slice object stands at sl -/
def SlR (X : Cx) (r : V → Option Int → Option Int → Hp → VK → Prop) : Prop :=
  ∀ (pins : List (Addr × Obj)) (s : Shared) (σ : St) (H : Hp) (x : V) (v vl vu : Value) (lo hi : Option Int) (sl : Addr) (Q : VK), Inv X pins σ H s → RelV x v → s.heap.IsSliceOf sl vl vu .none → IsPart vl lo → IsPart vu hi → r x lo hi H Q →
    ∃ T id, typeLookup (.type T) "__getitem__" = pure (some (.builtin id)) ∧ s.TypeIs v T ∧ wpAny (model X.prog X.w) X.A (getItem v (.ref sl)) (EP X pins σ Q) X.xe s
theorem SlR.or {r r' : V → Option Int → Option Int → Hp → VK → Prop} (h : SlR X r) (h' : SlR X r') : SlR X (fun x lo hi H Q => r x lo hi H Q ∨ r' x lo hi H Q) := by
  intro pins s σ H x v vl vu lo hi sl Q I rx hs pl pu q
  rcases q with q | q
  · exact h pins s σ H x v vl vu lo hi sl Q I rx hs pl pu q
  · exact h' pins s σ H x v vl vu lo hi sl Q I rx hs pl pu q
def tSl (r : V → Option Int → Option Int → Hp → VK → Prop) (te : TE) (tl th : TO) : TE := fun σ H Q => te σ H fun x H1 => tl σ H1 fun l H2 => th σ H2 fun u H3 => r x l u H3 Q
/-- a[lo:hi], any a -/
theorem pe_slice {r : V → Option Int → Option Int → Hp → VK → Prop} (hr : SlR X r) (he : PE X e te) (hl : PO X lo tl) (hu : PO X hi th) : PE X (.Subscript e (.Slice lo hi none p2) pos) (tSl r te tl th) := by
  intro pins s σ H Q I h
  refine Subscript_ (thn (he pins s σ H _ I h) fun v s1 ⟨x, H1, I1, r1, q1⟩ => ?_)
  refine wpAny_Slice (thn (hl pins s1 σ H1 _ I1 q1) fun vl s2 ⟨l, H2, I2, pl, q2⟩ => thn (hu pins s2 σ H2 _ I2 q2) fun vu s3 ⟨u, H3, I3, pu, q3⟩ => ?_)
  rw [evalPart_none]
  refine wpAny_pure ?_
  have I4 : Inv X pins σ H3 { s3 with heap := s3.heap.push { cls := .type "slice", data := .fields #[vl, vu, .none] } } := I3.kept (t' := s3.toks) fun b ob q => Heap.get?_push_of_some _ q
  obtain ⟨T, id, hT, ht, hg⟩ := hr pins { s3 with heap := s3.heap.push { cls := .type "slice", data := .fields #[vl, vu, .none] } } σ H3 x v vl vu l u s3.heap.objs.size Q I4 r1 (Heap.IsSliceOf.new ..) pl pu q3
  show wpAny (model X.prog X.w) X.A (subscriptTail e (.Slice lo hi none p2) v (.ref s3.heap.objs.size)) (EP X pins σ Q) X.xe { s3 with heap := s3.heap.push { cls := .type "slice", data := .fields #[vl, vu, .none] } }
  exact tail_any (ops := [.ref s3.heap.objs.size, v]) ht hT hg (by with_unfolding_all rfl)

/-- the items of xs[lo:hi] -/
def cutV (xs : List V) (lo hi : Option Int) : List V := (xs.drop (HT.sIx xs.length 0 lo)).take (HT.sIx xs.length xs.length hi - HT.sIx xs.length 0 lo)
theorem cutV_length (xs : List V) (lo hi : Option Int) : (cutV xs lo hi).length ≤ xs.length := by
  unfold cutV
  rw [List.length_take, List.length_drop]
  omega
/-- t[lo:hi], not the whole of it (the whole would be t itself) -/
def rSlT (K : PySem.W.Frag) : V → Option Int → Option Int → Hp → VK → Prop := fun x lo hi H Q => ∃ a xs, x = .ref a ∧ SqT K H a xs ∧
  ¬ (HT.sIx xs.length 0 lo = 0 ∧ HT.sIx xs.length xs.length hi = xs.length) ∧ ∀ p, H p = none → Q (.ref p) (upd H p (.tup (cutV xs lo hi)))
theorem sl_tup : SlR X (rSlT X.K) := by
  intro pins s σ H x v vl vu lo hi sl Q I rx hs pl pu h
  obtain ⟨a, xs, rfl, hx, hw, q⟩ := h
  cases rx
  obtain ⟨its, r, ht, hz⟩ := I.tuple hx
  have hlen : its.toArray.size = xs.length := by rw [List.size_toArray]; exact r.length.symm
  refine ⟨"tuple", _, PyProof.Rows.slot_tuple_getitem.lookup, ht.typeIs, ?_⟩
  refine HT.getItem_tuple_cut ht hs pl pu (by rw [hlen]; exact hw) ?_ (by rw [hlen]; exact hz)
  rw [hlen]
  refine ⟨.ref s.heap.objs.size, _, I.laid (t' := s.toks) (o := .tup (cutV xs lo hi)) (fun b ob q => Heap.get?_push_of_some _ q) (Nat.le_refl _) ?_, rfl, q _ (I.hok.fresh (Nat.le_refl _))⟩
  exact ⟨Nat.le_trans (cutV_length xs lo hi) hz, _, (r.drop (HT.sIx xs.length 0 lo)).take (HT.sIx xs.length xs.length hi - HT.sIx xs.length 0 lo), IsTup.new _ _⟩

/-- t + u, t not empty: u empty gives t itself -/
def rCatT (K : PySem.W.Frag) : R2 := fun x y H Q => ∃ a b xs ys, x = .ref a ∧ y = .ref b ∧ SqT K H a xs ∧ SqT K H b ys ∧ xs ≠ [] ∧ xs.length + ys.length ≤ sizeLine ∧
  (ys = [] → Q (.ref a) H) ∧ (ys ≠ [] → ∀ p, H p = none → Q (.ref p) (upd H p (.tup (xs ++ ys))))
theorem Vals.nil_iff {xs : List V} {us : List Value} (r : Vals xs us) : us = [] ↔ xs = [] := by
  cases r with
  | nil => simp
  | cons _ _ => simp
theorem op_catT : OpR X (binaryOp .Add) (rCatT X.K) := by
  intro pins s σ H x y v u Q I rx ry h
  obtain ⟨a, b, xs, ys, rfl, rfl, ha, hb, hx, hz, q1, q2⟩ := h
  cases rx
  cases ry
  obtain ⟨its, r1, p1, _⟩ := I.tuple ha
  obtain ⟨its2, r2, p2, _⟩ := I.tuple hb
  refine HT.cat_tup p1 p2 (fun z => hx (r1.nil_iff.mp z)) (fun z => ⟨.ref a, H, I, rfl, q1 (r2.nil_iff.mp z)⟩) (fun z => ?_) (by rw [← r1.length, ← r2.length]; exact hz)
  refine ⟨.ref s.heap.objs.size, _, I.laid (t' := s.toks) (o := .tup (xs ++ ys)) (fun b ob q => Heap.get?_push_of_some _ q) (Nat.le_refl _) ?_, rfl, q2 (fun w => z (r2.nil_iff.mpr w)) _ (I.hok.fresh (Nat.le_refl _))⟩
  exact ⟨by rw [List.length_append]; exact hz, _, r1.append r2, IsTup.new _ _⟩
end
end L2

namespace L2
open PySem PySem.Spec PyProof.Rows

/-- the place that an index of any sign means -/
def ixN (n : Nat) (i : Int) : Option Nat := if 0 ≤ i then (if i < n then some i.toNat else none) else if -(n : Int) ≤ i then some (i + n).toNat else none
def atI {α : Type} (xs : List α) (i : Int) : Option α := (ixN xs.length i).bind fun j => xs[j]?
theorem ixN_seq {n : Nat} {i : Int} {j : Nat} (h : ixN n i = some j) : seqIndex? i n = some j ∧ j < n ∧ -(n : Int) ≤ i ∧ i < n := by
  unfold ixN at h
  by_cases h0 : 0 ≤ i
  · rw [if_pos h0] at h
    by_cases h1 : i < n
    · rw [if_pos h1] at h
      have e : i.toNat = j := Option.some.inj h
      exact ⟨by rw [seqIndex_of h0 h1, e], by omega, by omega, h1⟩
    · rw [if_neg h1] at h; cases h
  · rw [if_neg h0] at h
    by_cases h1 : -(n : Int) ≤ i
    · rw [if_pos h1] at h
      have e : (i + n).toNat = j := Option.some.inj h
      exact ⟨by rw [seqIndex_neg (by omega) h1, e], by omega, h1, by omega⟩
    · rw [if_neg h1] at h; cases h
theorem atI_get {α : Type} {xs : List α} {i : Int} {v : α} (h : atI xs i = some v) : ∃ j, seqIndex? i xs.length = some j ∧ xs[j]? = some v ∧ j < xs.length ∧ -(xs.length : Int) ≤ i ∧ i < xs.length := by
  unfold atI at h
  cases e : ixN xs.length i with
  | none => rw [e] at h; cases h
  | some j =>
    rw [e] at h
    obtain ⟨h1, h2, h3, h4⟩ := ixN_seq e
    exact ⟨j, h1, h, h2, h3, h4⟩
theorem atI_nat {α : Type} {xs : List α} {j : Nat} {v : α} (h : xs[j]? = some v) : atI xs (j : Int) = some v := by
  have hj : j < xs.length := (List.getElem?_eq_some_iff.mp h).1
  have e : ixN xs.length (j : Int) = some j := by
    unfold ixN
    rw [if_pos (by omega), if_pos (by omega)]; simp
  unfold atI; rw [e]; exact h
/-- what stands as an index of a plain subscript -/
def PlainIx (b : Expr) : Prop := ∀ o i, subscripted b false o i = operate [o, i] (getItem o i)
/-- a subscript by values -/
def IxR (X : Cx) (r : R2) : Prop :=
  ∀ (value slice : Expr) (pins : List (Addr × Obj)) (s : Shared) (σ : St) (H : Hp) (x y : V) (v u : Value) (Q : VK), Inv X pins σ H s → RelV x v → RelV y u → r x y H Q →
    subscripted slice false v u = operate [v, u] (getItem v u) → wpAny (model X.prog X.w) X.A (subscriptTail value slice v u) (EP X pins σ Q) X.xe s
/-- a call of a builtin's method by values: the receiver, the arguments -/
def MtR (X : Cx) (id : String) (r : V → List V → Hp → VK → Prop) : Prop :=
  ∀ (pins : List (Addr × Obj)) (s : Shared) (σ : St) (H : Hp) (x : V) (xs : List V) (v : Value) (us : List Value) (Q : VK), Inv X pins σ H s → RelV x v → Vals xs us → r x xs H Q →
    wpAny (model X.prog X.w) X.A (call (.builtin id) (v :: us)) (EP X pins σ Q) X.xe s
section
variable {X : Cx} {a b : Expr} {ta tb : TE} {pos : Pos}
theorem IxR.or {r r' : R2} (h : IxR X r) (h' : IxR X r') : IxR X (fun x y H Q => r x y H Q ∨ r' x y H Q) := by
  intro value slice pins s σ H x y v u Q I rx ry q hs
  rcases q with q | q
  · exact h value slice pins s σ H x y v u Q I rx ry q hs
  · exact h' value slice pins s σ H x y v u Q I rx ry q hs
theorem MtR.or {id : String} {r r' : V → List V → Hp → VK → Prop} (h : MtR X id r) (h' : MtR X id r') : MtR X id (fun x xs H Q => r x xs H Q ∨ r' x xs H Q) := by
  intro pins s σ H x xs v us Q I rx rs q
  rcases q with q | q
  · exact h pins s σ H x xs v us Q I rx rs q
  · exact h' pins s σ H x xs v us Q I rx rs q
/-- a[b] -/
theorem pe_ix {r : R2} (hr : IxR X r) (ha : PE X a ta) (hb : PE X b tb) (hs : PlainIx b) : PE X (.Subscript a b pos) (tOp r ta tb) := by
  intro pins s σ H Q I h
  exact Subscript_ (binT ha hb I h fun v u s2 x y H2 I2 rx ry q => hr a b pins s2 σ H2 x y v u Q I2 rx ry q (hs _ _))

def rIxL (K : PySem.W.Frag) : R2 := fun x y H Q => ∃ p xs i v, x = .ref p ∧ y = .int i ∧ SqL K H p xs ∧ atI xs i = some v ∧ Q v H
def rIxS : R2 := fun x y H Q => ∃ z i c, x = .str z ∧ y = .int i ∧ z.length ≤ sizeLine ∧ atI z.cps.toList i = some c ∧ Q (.str ⟨#[c]⟩) H
theorem ix_list : IxR X (rIxL X.K) := by
  intro value slice pins s σ H x y v u Q I rx ry h hs
  obtain ⟨p, xs, i, z, rfl, rfl, hq, he, q⟩ := h
  cases rx
  obtain ⟨t, rfl⟩ := ry
  obtain ⟨its, r, pl, hz⟩ := I.list hq
  obtain ⟨j, h1, h2, h3, h4, h5⟩ := atI_get he
  obtain ⟨w, ew, rw'⟩ := r.get h2
  have hl := r.length
  have hn := line63
  have fin : EP X pins σ Q w s := ⟨z, H, I, rw', q⟩
  by_cases h0 : 0 ≤ i
  · have hj : i.toNat = j := by
      rw [seqIndex_of h0 h5] at h1
      exact Option.some.inj h1
    exact item_listR pl.isList h0 (by omega) (by rw [hj]; simpa using ew) fin hs
  · have hj : (i + (its.toArray.size : Int)).toNat = j := by
      rw [seqIndex_neg (by omega) h4] at h1
      rw [List.size_toArray, ← hl]
      exact Option.some.inj h1
    exact subscriptTail_builtinR (x := w) pl.isList.typeIs slot_list_getitem.lookup
      (wpAny_getItem_list_neg (Q := fun r s' => r = w ∧ EP X pins σ Q r s') pl.isList (by omega) (by rw [List.size_toArray] <;> omega) (by omega) (by rw [hj]; simpa using ew) ⟨rfl, fin⟩) hs
theorem ix_str : IxR X rIxS := by
  intro value slice pins s σ H x y v u Q I rx ry h hs
  obtain ⟨z, i, c, rfl, rfl, hz, he, q⟩ := h
  obtain ⟨t, rfl⟩ := rx
  obtain ⟨t', rfl⟩ := ry
  obtain ⟨j, h1, h2, h3, h4, h5⟩ := atI_get he
  have hl : z.cps.toList.length = z.length := by simp [Str.length]
  rw [hl] at h1 h4 h5
  have hn := line63
  exact tail_any (typeIs_str s z t) slot_str_getitem.lookup (getItem_str (c := c) (by
    have e1 : decide (i < -(2 ^ 63 : Int)) = false := decide_eq_false (by omega)
    have e2 : decide (i ≥ 2 ^ 63) = false := decide_eq_false (by omega)
    rw [e1, e2, Bool.or_false]) (by rw [h1]; simpa using h2) ⟨.str ⟨#[c]⟩, H, I.tok _, ⟨_, rfl⟩, q⟩) hs
/-- the list's object behind a store -/
theorem mapSeq_set (its : List Value) (n j : Nat) (u : Value) : Obj.mapSeq (·.setIfInBounds j u) { cls := .type "list", data := .seq its.toArray n } = { cls := .type "list", data := .seq (its.set j u).toArray n } := by
  simp [Obj.mapSeq]
theorem Inv.lst {pins : List (Addr × Obj)} {σ : St} {H : Hp} {s : Shared} {p : Addr} {xs : List V} (I : Inv X pins σ H s) (h : H p = some (.lst xs)) :
    ∃ (its : List Value) (n : Nat), Vals xs its ∧ s.heap.get? p = some { cls := .type "list", data := .seq its.toArray n } ∧ xs.length ≤ sizeLine := by
  obtain ⟨z, its, n, r, e⟩ := I.hok p _ h
  exact ⟨its, n, r, e, z⟩
/-- the list at p is written by an update of its object -/
theorem Inv.lstUpd {pins : List (Addr × Obj)} {σ : St} {H : Hp} {s : Shared} {p : Addr} {xs ys : List V} {its its' : List Value} {n n' : Nat} {f : Obj → Obj} (I : Inv X pins σ H s) (h : H p = some (.lst xs))
    (ho : s.heap.get? p = some { cls := .type "list", data := .seq its.toArray n }) (hf : f { cls := .type "list", data := .seq its.toArray n } = { cls := .type "list", data := .seq its'.toArray n' }) (r : Vals ys its') (hz : ys.length ≤ sizeLine) (t : Nat) :
    Inv X pins σ (upd H p (.lst ys)) { s with heap := s.heap.update p f, toks := t } := by
  have e : (s.heap.update p f).get? p = some { cls := .type "list", data := .seq its'.toArray n' } := by
    rw [Heap.get?_update_self f ho (by rw [hf] <;> rfl), hf]
  refine I.write (x := p) (e := p) (by rw [h]; trivial) (.inl rfl) (fun b u hb q => (Heap.get?_update_other _ _ (Ne.symm hb)).trans q) ⟨_, e⟩ ?_
  exact ⟨hz, its', n', r, e⟩
def rSetL : V → V → V → Hp → (Hp → Prop) → Prop := fun o i v H Q => ∃ p xs k j, o = .ref p ∧ i = .int k ∧ H p = some (.lst xs) ∧ ixN xs.length k = some j ∧ Q (upd H p (.lst (xs.set j v)))
theorem set_list : PSet X rSetL := by
  intro pins s σ H o i v ov iv u Q I ro ri rv h
  obtain ⟨p, xs, k, j, rfl, rfl, hp, hj, q⟩ := h
  cases ro
  obtain ⟨t, rfl⟩ := ri
  obtain ⟨its, n, r, ho, hz⟩ := I.lst hp
  obtain ⟨h1, h2, h3, h4⟩ := ixN_seq hj
  have hl := r.length
  have hn := line63
  have I' : Inv X pins σ (upd H p (.lst (xs.set j v))) { s with heap := s.heap.update p (Obj.mapSeq (·.setIfInBounds j u)) } :=
    I.lstUpd hp ho (mapSeq_set its n j u) (r.set rv j) (by rw [List.length_set]; exact hz) s.toks
  by_cases h0 : 0 ≤ k
  · have hk : k.toNat = j := by
      rw [seqIndex_of h0 h4] at h1
      exact Option.some.inj h1
    exact PySem.W.ki_setAt ho h0 (by omega) (by rw [List.size_toArray, ← hl]; exact h4) (by rw [hk]; exact ⟨_, I', q⟩)
  · have hk : (k + (its.toArray.size : Int)).toNat = j := by
      rw [seqIndex_neg (by omega) h3] at h1
      rw [List.size_toArray, ← hl]
      exact Option.some.inj h1
    exact PySem.W.ki_setBack ho (by omega) (by rw [List.size_toArray, ← hl]; exact h3) (by omega) (by rw [hk]; exact ⟨_, I', q⟩)

theorem slice_bounds (lo hi : Option Int) (n : Nat) : (sliceBounds lo hi none n).1 = ((HT.sIx n 0 lo : Nat) : Int) ∧ (sliceBounds lo hi none n).2.1 = ((HT.sIx n n hi : Nat) : Int) ∧ (sliceBounds lo hi none n).2.2 = 1 := by
  refine ⟨?_, ?_, rfl⟩
  · cases lo with
    | none => simp [sliceBounds, HT.sIx]
    | some i =>
      simp only [sliceBounds, HT.sIx, Option.getD_none, show (1 : Int) > 0 by decide, if_true]
      by_cases h : i < 0
      · simp only [h, if_true] <;> omega
      · simp only [h, if_false] <;> omega
  · cases hi with
    | none => simp [sliceBounds, HT.sIx]
    | some i =>
      simp only [sliceBounds, HT.sIx, Option.getD_none, show (1 : Int) > 0 by decide, if_true]
      by_cases h : i < 0
      · simp only [h, if_true] <;> omega
      · simp only [h, if_false] <;> omega
theorem slicePick_cut (its : List Value) (lo hi : Option Int) : slicePick its.toArray lo hi none = ((its.drop (HT.sIx its.length 0 lo)).take (HT.sIx its.length its.length hi - HT.sIx its.length 0 lo)).toArray := by
  obtain ⟨h1, h2, h3⟩ := slice_bounds lo hi its.toArray.size
  unfold slicePick
  rw [h1, h2, h3]
  simp only [sliceRange_one, pick_run, List.size_toArray] <;> rfl
/-- xs[lo:hi] of a list: a new list -/
def rSlL (K : PySem.W.Frag) : V → Option Int → Option Int → Hp → VK → Prop := fun x lo hi H Q => ∃ a xs, x = .ref a ∧ SqL K H a xs ∧ ∀ p, H p = none → Q (.ref p) (upd H p (.lst (cutV xs lo hi)))
theorem sl_list : SlR X (rSlL X.K) := by
  intro pins s σ H x v vl vu lo hi sl Q I rx hs pl pu h
  obtain ⟨a, xs, rfl, hx, q⟩ := h
  cases rx
  obtain ⟨its, r, ht, hz⟩ := I.list hx
  have hlen := r.length
  refine ⟨"list", _, slot_list_getitem.lookup, ht.isList.typeIs, ?_⟩
  refine wpAny_getItem_list_slice ht.isList hs pl pu .none (by simp) ?_ (by rw [List.size_toArray] <;> omega)
  rw [slicePick_cut, ← hlen]
  refine ⟨.ref s.heap.objs.size, _, I.laid (t' := s.toks) (o := .lst (cutV xs lo hi)) (fun b ob q => Heap.get?_push_of_some _ q) (Nat.le_refl _) ?_, rfl, q _ (I.hok.fresh (Nat.le_refl _))⟩
  exact ⟨Nat.le_trans (cutV_length xs lo hi) hz, _, 0, (r.drop (HT.sIx xs.length 0 lo)).take (HT.sIx xs.length xs.length hi - HT.sIx xs.length 0 lo), Heap.get?_push_size _ rfl⟩

def flatV : V → Bool
  | .non => true
  | .bl _ => true
  | .int _ => true
  | .str _ => true
  | _ => false
/-- == of flat values -/
def eqV : V → V → Bool
  | .non, .non => true
  | .bl a, .bl b => a == b
  | .bl a, .int b => (if a then 1 else 0) == b
  | .int a, .bl b => a == (if b then 1 else 0)
  | .int a, .int b => a == b
  | .str a, .str b => a == b
  | _, _ => false
theorem eqAt_V {A : Around} {s : Shared} {y x : V} {u v : Value} (ry : RelV y u) (rx : RelV x v) (fy : flatV y = true) (fx : flatV x = true) : SeqAt.EqAt A s u v (eqV y x) := by
  cases y with
  | non =>
    cases ry
    cases x with
    | non => cases rx; exact SeqAt.EqAt.same _
    | bl b => cases rx; exact SeqAt.EqAt.none_bool b
    | int b => obtain ⟨t, rfl⟩ := rx; exact SeqAt.EqAt.none_int b t
    | str b => obtain ⟨t, rfl⟩ := rx; exact SeqAt.EqAt.none_str b t
    | _ => exact absurd (show false = true from fx) Bool.false_ne_true
  | bl a =>
    cases ry
    cases x with
    | non => cases rx; exact SeqAt.EqAt.bool_none a
    | bl b => cases rx; exact SeqAt.EqAt.bool_bool a b
    | int b => obtain ⟨t, rfl⟩ := rx; exact SeqAt.EqAt.bool_int a b t
    | str b => obtain ⟨t, rfl⟩ := rx; exact SeqAt.EqAt.bool_str a b t
    | _ => exact absurd (show false = true from fx) Bool.false_ne_true
  | int a =>
    obtain ⟨t', rfl⟩ := ry
    cases x with
    | non => cases rx; exact SeqAt.EqAt.int_none a t'
    | bl b => cases rx; exact SeqAt.EqAt.int_bool a t' b
    | int b => obtain ⟨t, rfl⟩ := rx; exact SeqAt.EqAt.int_int a t' b t
    | str b => obtain ⟨t, rfl⟩ := rx; exact SeqAt.EqAt.int_str a t' b t
    | _ => exact absurd (show false = true from fx) Bool.false_ne_true
  | str a =>
    obtain ⟨t', rfl⟩ := ry
    cases x with
    | non => cases rx; exact SeqAt.EqAt.str_none a t'
    | bl b => cases rx; exact SeqAt.EqAt.str_bool a t' b
    | int b => obtain ⟨t, rfl⟩ := rx; exact SeqAt.EqAt.str_int a t' b t
    | str b => obtain ⟨t, rfl⟩ := rx; exact SeqAt.EqAt.str_str a t' b t
    | _ => exact absurd (show false = true from fx) Bool.false_ne_true
  | _ => exact absurd (show false = true from fy) Bool.false_ne_true
/-- the items' answers, read off the values (a value's own answer does not lean on its token) -/
def eqU (x : V) (u : Value) : Bool := match u with
  | .none => eqV .non x
  | .bool b => eqV (.bl b) x
  | .int i _ => eqV (.int i) x
  | .str z _ => eqV (.str z) x
  | _ => false
theorem eqU_of {x y : V} {u : Value} (r : RelV y u) (f : flatV y = true) : eqU x u = eqV y x := by
  cases y with
  | non => cases r; rfl
  | bl b => cases r; rfl
  | int i => obtain ⟨t, rfl⟩ := r; rfl
  | str z => obtain ⟨t, rfl⟩ := r; rfl
  | _ => exact absurd (show false = true from f) Bool.false_ne_true
theorem any_eqU {x : V} : ∀ {xs : List V} {us : List Value}, Vals xs us → xs.all flatV = true → us.any (eqU x) = xs.any fun y => eqV y x
  | _, _, .nil, _ => rfl
  | y :: xs, u :: us, .cons r t, f => by
    rw [List.all_cons, Bool.and_eq_true] at f
    rw [List.any_cons, List.any_cons, eqU_of r f.1, any_eqU t f.2]
theorem mem_eqAt {A : Around} {s : Shared} {x : V} {v : Value} (rx : RelV x v) (fx : flatV x = true) : ∀ {xs : List V} {us : List Value}, Vals xs us → xs.all flatV = true → ∀ u ∈ us, SeqAt.EqAt A s u v (eqU x u)
  | _, _, .nil, _ => fun u hu => by cases hu
  | y :: xs, u :: us, .cons r t, f => fun u' hu => by
    rw [List.all_cons, Bool.and_eq_true] at f
    rcases List.mem_cons.mp hu with rfl | hu
    · rw [eqU_of r f.1]; exact eqAt_V r rx f.1 fx
    · exact mem_eqAt rx fx t f.2 u' hu
def inV (x : V) (xs : List V) : Bool := xs.any fun y => eqV y x
/-- x in a list or tuple of flat items -/
def rIn (K : PySem.W.Frag) (neg : Bool) : R2 := fun x y H Q => ∃ p xs, y = .ref p ∧ (SqL K H p xs ∨ SqT K H p xs) ∧ flatV x = true ∧ xs.all flatV = true ∧ Q (.bl (if neg then !inV x xs else inV x xs)) H
theorem op_in_seq : OpR X (compareOp .In) (rIn X.K false) := by
  intro pins s σ H x y v u Q I rx ry h
  obtain ⟨p, xs, rfl, hq, fx, fs, q⟩ := h
  cases ry
  rcases hq with hq | hq
  · obtain ⟨its, r, pl, hz⟩ := I.list hq
    refine SeqAt.in_listAt (eqU x) pl.isList (fun w hw => mem_eqAt rx fx r fs w (by simpa using hw)) ⟨.bl _, H, I, rfl, ?_⟩
    rw [show its.toArray.any (eqU x) = its.any (eqU x) by simp, any_eqU r fs]
    exact q
  · obtain ⟨its, r, pl, hz⟩ := I.tuple hq
    refine SeqAt.in_tupleAt (eqU x) pl (fun w hw => mem_eqAt rx fx r fs w (by simpa using hw)) ⟨.bl _, H, I, rfl, ?_⟩
    rw [show its.toArray.any (eqU x) = its.any (eqU x) by simp, any_eqU r fs]
    exact q
theorem op_notIn_seq : OpR X (compareOp .NotIn) (rIn X.K true) := by
  intro pins s σ H x y v u Q I rx ry h
  obtain ⟨p, xs, rfl, hq, fx, fs, q⟩ := h
  cases ry
  rcases hq with hq | hq
  · obtain ⟨its, r, pl, hz⟩ := I.list hq
    refine SeqAt.notIn_listAt (eqU x) pl.isList (fun w hw => mem_eqAt rx fx r fs w (by simpa using hw)) ⟨.bl _, H, I, rfl, ?_⟩
    rw [show its.toArray.any (eqU x) = its.any (eqU x) by simp, any_eqU r fs]
    exact q
  · obtain ⟨its, r, pl, hz⟩ := I.tuple hq
    refine SeqAt.notIn_tupleAt (eqU x) pl (fun w hw => mem_eqAt rx fx r fs w (by simpa using hw)) ⟨.bl _, H, I, rfl, ?_⟩
    rw [show its.toArray.any (eqU x) = its.any (eqU x) by simp, any_eqU r fs]
    exact q
theorem call_len_seq : CallR X (.builtin "len") (fun xs H Q => ∃ p ys, xs = [.ref p] ∧ (SqL X.K H p ys ∨ SqT X.K H p ys) ∧ Q (.int ys.length) H) := by
  intro pins s σ H xs us Q I r h
  obtain ⟨p, ys, rfl, hq, q⟩ := h
  obtain ⟨u, rfl, rx⟩ := vals1 r
  cases rx
  have hn := line63
  rcases hq with hq | hq
  · obtain ⟨its, r', pl, hz⟩ := I.list hq
    have hlen := r'.length
    exact Calls.call_len_list pl.isList (by simp only [List.size_toArray] <;> omega) ⟨.int ys.length, H, I.tok _, ⟨s.toks + 1, by rw [List.size_toArray, hlen]⟩, q⟩
  · obtain ⟨its, r', pl, hz⟩ := I.tuple hq
    have hlen := r'.length
    exact len_tuple pl (by simp only [List.size_toArray] <;> omega) ⟨.int ys.length, H, I.tok _, ⟨s.toks + 1, by rw [List.size_toArray, hlen]⟩, q⟩
theorem call_len_str : CallR X (.builtin "len") (fun xs H Q => ∃ z, xs = [.str z] ∧ z.length ≤ sizeLine ∧ Q (.int z.length) H) := by
  intro pins s σ H xs us Q I r h
  obtain ⟨z, rfl, hz, q⟩ := h
  obtain ⟨u, rfl, t, rfl⟩ := vals1 r
  have hn := line63
  exact len_str (by omega) ⟨.int z.length, H, I.tok _, ⟨_, rfl⟩, q⟩
theorem CallR.or {f : Value} {r r' : List V → Hp → VK → Prop} (h : CallR X f r) (h' : CallR X f r') : CallR X f (fun xs H Q => r xs H Q ∨ r' xs H Q) := by
  intro pins s σ H xs us Q I rs q
  rcases q with q | q
  · exact h pins s σ H xs us Q I rs q
  · exact h' pins s σ H xs us Q I rs q
theorem call_tuple_of : CallR X (.type "tuple") (fun xs H Q => ∃ p ys, xs = [.ref p] ∧ ((SqL X.K H p ys ∧ ∀ l, H l = none → Q (.ref l) (upd H l (.tup ys))) ∨ (SqT X.K H p ys ∧ Q (.ref p) H))) := by
  intro pins s σ H xs us Q I r h
  obtain ⟨p, ys, rfl, h⟩ := h
  obtain ⟨u, rfl, rx⟩ := vals1 r
  cases rx
  rcases h with ⟨hq, q⟩ | ⟨hq, q⟩
  · obtain ⟨its, r', pl, hz⟩ := I.list hq
    have hlen := r'.length
    refine call_tuple_list pl.isList (fun h' kp => ?_) (by simp only [List.size_toArray] <;> omega)
    have I1 : Inv X pins σ H { s with heap := h' } := I.kept (t' := s.toks) kp
    have I2 : Inv X pins σ (upd H h'.objs.size (.tup ys)) { s with heap := h'.push { cls := .type "tuple", data := .seq its.toArray } } :=
      I1.laid (t' := s.toks) (fun b o e => Heap.get?_push_of_some _ e) (Nat.le_refl _) (show ObjOk X.prog X.w _ _ _ (.tup ys) from ⟨hz, its, r', IsTup.new _ _⟩)
    exact ⟨.ref h'.objs.size, _, I2, rfl, q _ (I1.hok.fresh (Nat.le_refl _))⟩
  · obtain ⟨its, r', pl, hz⟩ := I.tuple hq
    exact call_tuple_same pl ⟨.ref p, H, I, rfl, q⟩

/-- the value is of that builtin type -/
def tyV (K : PySem.W.Frag) (T : String) (x : V) (H : Hp) : Prop := match x with
  | .str _ => T = "str"
  | .int _ => T = "int"
  | .ref p => (T = "list" ∧ ∃ xs, SqL K H p xs) ∨ (T = "tuple" ∧ ∃ o, K.lookup p = some o ∧ o.cls = .type "tuple" ∧ o.dict = none) ∨
      (T = "dict" ∧ ((∃ kvs, H p = some (.dK kvs)) ∨ ∃ kvs, H p = some (.dT kvs))) ∨ (T = "set" ∧ ∃ S n, H p = some (.set S n))
  | _ => False
theorem tyV_is {pins : List (Addr × Obj)} {σ : St} {H : Hp} {s : Shared} {T : String} {x : V} {v : Value} (I : Inv X pins σ H s) (r : RelV x v) (ty : tyV X.K T x H) :
    s.TypeIs v T ∧ ∀ a, v = .ref a → ∃ ob, s.heap.get? a = some ob ∧ ob.dict = none := by
  cases x with
  | str z =>
    obtain ⟨t, rfl⟩ := r
    cases (show T = "str" from ty)
    exact ⟨typeIs_str s z t, fun _ e => nomatch e⟩
  | int i =>
    obtain ⟨t, rfl⟩ := r
    cases (show T = "int" from ty)
    exact ⟨typeIs_int s i t, fun _ e => nomatch e⟩
  | ref p =>
    cases r
    rcases ty with ⟨rfl, xs, hq⟩ | ⟨rfl, o, hk, hc, hd⟩ | ⟨rfl, hk⟩ | ⟨rfl, S, n, hk⟩
    · obtain ⟨its, _, pl, _⟩ := I.list hq
      refine ⟨pl.isList.typeIs, fun a e => ?_⟩
      cases e
      obtain ⟨o, n, e, c, hd, _⟩ := pl
      exact ⟨o, e, hd⟩
    · refine ⟨⟨o, I.kIn p o hk, hc⟩, fun a e => ?_⟩
      cases e
      exact ⟨o, I.kIn _ o hk, hd⟩
    · have z : ∃ o, s.heap.get? p = some o ∧ o.ExactDict := by
        rcases hk with ⟨kvs, hk⟩ | ⟨kvs, hk⟩
        · obtain ⟨_, _, _, _, o, _, _, e, ex, _⟩ := I.hok p _ hk
          exact ⟨o, e, ex⟩
        · obtain ⟨_, _, _, _, o, _, _, e, ex, _⟩ := I.hok p _ hk
          exact ⟨o, e, ex⟩
      obtain ⟨o, e, ex⟩ := z
      refine ⟨⟨o, e, ex.1⟩, fun a e2 => ?_⟩
      cases e2
      exact ⟨o, e, ex.2.1⟩
    · obtain ⟨o, _, _, _, e, ex, _⟩ := I.hok p _ hk
      refine ⟨⟨o, e, ex.1⟩, fun a e2 => ?_⟩
      cases e2
      exact ⟨o, e, ex.2.1⟩
  | _ => exact False.elim ty
def tBM0 (K : PySem.W.Frag) (T : String) (r : V → List V → Hp → VK → Prop) (to : TE) : TE := fun σ H Q => to σ H fun x H1 => tyV K T x H1 ∧ r x [] H1 Q
def tBM (K : PySem.W.Frag) (T : String) (r : V → List V → Hp → VK → Prop) (to : TE) (t : TA) : TE := fun σ H Q => to σ H fun x H1 => tyV K T x H1 ∧ t σ H1 fun xs H2 => r x xs H2 Q
variable {o e : Expr} {es : List Expr} {to : TE} {t : TA} {name : Str} {apos cpos : Pos} {T id : String} {r : V → List V → Hp → VK → Prop}
theorem pe_bm0 (pa : PlainAttrs T) (slot : Slot T name id) (hty : typeOf (.builtin id) = pure (.type "method_descriptor")) (hm : MtR X id r) (ho : PE X o to)
    (hbase : attributeBase o name X.env (eval o X.env) = eval o X.env := by rfl) (hline : (apos.endLine == cpos.line) = true := by rfl) : PE X (.Call (.Attribute o name apos) [] [] cpos) (tBM0 X.K T r to) := by
  intro pins s σ H Q I h
  refine wpAny_Call_method0_late hbase hline (thn (ho pins s σ H _ I h) fun v s1 ⟨x, H1, I1, r1, ty, q1⟩ => ?_)
  obtain ⟨h1, h2⟩ := tyV_is I1 r1 ty
  exact ⟨T, id, pa, slot, hty, h1, h2, Calls.callWith_builtin rfl (PySem.evalArgs_none (hm pins s1 σ H1 x [] v [] Q I1 r1 .nil q1))⟩
theorem pe_bm (pa : PlainAttrs T) (slot : Slot T name id) (hty : typeOf (.builtin id) = pure (.type "method_descriptor")) (hm : MtR X id r) (ho : PE X o to) (ha : PA X (e :: es) t)
    (hbase : attributeBase o name X.env (eval o X.env) = eval o X.env := by rfl)
    (hfew : ((backTo cpos (starEach (e :: es) X.env)).all (fun x => !x.1) && (backToKw cpos (keywordEach [] X.env)).all (fun x => x.1.isSome)
      && decide ((e :: es).length + ([] : List Keyword).length + (if ([] : List Keyword).isEmpty then 0 else 1) < 30)) = true := by rfl)
    (hline : (apos.endLine == cpos.line) = true := by rfl) (hs : starEach (e :: es) X.env = (false, eval e X.env) :: starEach es X.env := by rfl) (hplain : (backTo cpos (starEach es X.env)).any (·.1) = false := by rfl) :
    PE X (.Call (.Attribute o name apos) (e :: es) [] cpos) (tBM X.K T r to t) := by
  intro pins s σ H Q I h
  refine wpAny_Call_method_late hbase hfew hline rfl (thn (ho pins s σ H _ I h) fun v s1 ⟨x, H1, I1, r1, ty, q1⟩ => ?_)
  obtain ⟨h1, h2⟩ := tyV_is I1 r1 ty
  refine ⟨T, id, pa, slot, hty, h1, h2, ?_⟩
  have hA := ha cpos pins s1 σ H1 _ I1 q1
  rw [hs] at hA ⊢
  refine Calls.callWith_builtin (by show (false || (backTo cpos (starEach es X.env)).any (·.1)) = false; rw [hplain] <;> rfl) (Calls.evalArgs_plain ?_)
  exact thn hA fun us s2 ⟨vs, H2, I2, r2, q2⟩ => hm pins s2 σ H2 x vs v us Q I2 r1 r2 q2
/- xs.append(e), list.index on a module's tuple .. are MtR facts of 06m -/
end
end L2

namespace L2
open PySem PySem.Spec PyProof.Rows

def MtM (X : Cx) (id : String) (r : V → List V → Hp → VK → Prop) : Prop :=
  ∀ (pins : List (Addr × Obj)) (s : Shared) (σ : St) (H : Hp) (x : V) (xs : List V) (v : Value) (us : List Value) (Q : VK), Inv X pins σ H s → RelV x v → Vals xs us → r x xs H Q →
    wpAny (model X.prog X.w) X.A (call (.builtin id) (v :: us)) (EP X pins σ Q) X.xe s

theorem Vals.one : ∀ {x : V} {us : List Value}, Vals [x] us → ∃ u, us = [u] ∧ RelV x u
  | _, _, .cons r .nil => ⟨_, rfl, r⟩
theorem Vals.two : ∀ {x y : V} {us : List Value}, Vals [x, y] us → ∃ u v, us = [u, v] ∧ RelV x u ∧ RelV y v
  | _, _, _, .cons r (.cons q .nil) => ⟨_, _, rfl, r, q⟩
theorem Vals.zero : ∀ {us : List Value}, Vals [] us → us = []
  | _, .nil => rfl
theorem Vals.dropLast {xs : List V} {us : List Value} (h : Vals xs us) : Vals xs.dropLast us.dropLast := by
  induction h with
  | nil => exact .nil
  | cons r t ih =>
    cases t with
    | nil => exact .nil
    | cons q t' => exact .cons r ih
theorem Vals.eraseIdx : ∀ {xs : List V} {us : List Value} (i : Nat), Vals xs us → Vals (xs.eraseIdx i) (us.eraseIdx i)
  | _, _, _, .nil => .nil
  | _, _, 0, .cons _ t => t
  | _, _, i + 1, .cons r t => .cons r (Vals.eraseIdx i t)
theorem Vals.reverse {xs : List V} {us : List Value} (h : Vals xs us) : Vals xs.reverse us.reverse := by
  induction h with
  | nil => exact .nil
  | cons r t ih => rw [List.reverse_cons, List.reverse_cons]; exact Vals.append ih (.cons r .nil)
theorem erase_last {α : Type} (l : List α) : l.eraseIdx (l.length - 1) = l.dropLast := by
  induction l with
  | nil => rfl
  | cons a r ih =>
    cases r with
    | nil => rfl
    | cons b r =>
      have e : (a :: b :: r).length - 1 = ((b :: r).length - 1) + 1 := by
        have h1 : (a :: b :: r).length = r.length + 2 := rfl
        have h2 : (b :: r).length = r.length + 1 := rfl
        omega
      rw [e, List.eraseIdx_cons_succ, ih]
      all_goals rfl
section
variable {X : Cx} {pins : List (Addr × Obj)} {σ : St} {H : Hp} {s : Shared} {l b : Addr} {xs ys zs : List V}

theorem Inv.lset {its its' : List Value} {n : Nat} {f : Array Value → Array Value} {t' : Nat} (I : Inv X pins σ H s) (hH : H l = some (.lst xs))
    (e : s.heap.get? l = some { cls := .type "list", data := .seq its.toArray n }) (hf : f its.toArray = its'.toArray) (hv : Vals ys its') (hz : ys.length ≤ sizeLine) :
    Inv X pins σ (upd H l (.lst ys)) { s with heap := s.heap.update l (Obj.mapSeq f), toks := t' } := by
  have q := PySem.IsL.update e f
  rw [hf] at q
  refine I.write (x := l) (e := l) (by rw [hH]; exact trivial) (.inl rfl) (fun b' u hb hu => (Heap.get?_update_other s.heap (Obj.mapSeq f) (Ne.symm hb)).trans hu) ⟨_, q⟩ ?_
  exact ⟨hz, its', _, hv, q⟩
theorem Inv.lnew {its : List Value} {t' : Nat} (I : Inv X pins σ H s) (hv : Vals ys its) (hz : ys.length ≤ sizeLine) :
    Inv X pins σ (upd H s.heap.objs.size (.lst ys)) { s with heap := s.heap.push { cls := .type "list", data := .seq its.toArray }, toks := t' } :=
  I.laid (fun _ _ q => Heap.get?_push_of_some _ q) (Nat.le_refl _) ⟨hz, its, 0, hv, Heap.get?_push_size _ rfl⟩
theorem Inv.fresh (I : Inv X pins σ H s) : H s.heap.objs.size = none := I.hok.fresh (Nat.le_refl _)
theorem Inv.lstM (I : Inv X pins σ H s) (hH : H l = some (.lst xs)) : xs.length ≤ sizeLine ∧ ∃ (its : List Value) (n : Nat), Vals xs its ∧ xs.length = its.length ∧ s.heap.get? l = some { cls := .type "list", data := .seq its.toArray n } := by
  obtain ⟨z, its, n, r, e⟩ := I.hok l _ hH
  exact ⟨z, its, n, r, r.length, e⟩

end

section
variable {X : Cx}

def rAppend : V → List V → Hp → VK → Prop := fun x vs H Q => ∃ l xs y, x = .ref l ∧ vs = [y] ∧ H l = some (.lst xs) ∧ xs.length < sizeLine ∧ Q .non (upd H l (.lst (xs ++ [y])))
theorem mt_append : MtM X "list.append" rAppend := by
  intro pins s σ H x vs v us Q I rx rv h
  obtain ⟨l, xs, y, rfl, rfl, hH, hz, q⟩ := h
  cases rx
  obtain ⟨u, rfl, ru⟩ := rv.one
  obtain ⟨z, its, n, r, hl, e⟩ := I.lstM hH
  refine call_meets F.slot_list_append ⟨_, e, rfl⟩ F.entry_list_append (F.args_list_append_2 _ _) (PySem.list_append l its.toArray n u (by rw [List.size_toArray]; omega)) ⟨e, ?_⟩
  refine ⟨.non, _, I.lset (its' := its ++ [u]) hH e (by simp) (r.append (.cons ru .nil)) ?_, rfl, q⟩
  rw [List.length_append, List.length_singleton]
  omega

def rPop : V → List V → Hp → VK → Prop := fun x vs H Q => ∃ l xs y, x = .ref l ∧ vs = [] ∧ H l = some (.lst xs) ∧ xs[xs.length - 1]? = some y ∧ Q y (upd H l (.lst xs.dropLast))
theorem mt_pop : MtM X "list.pop" rPop := by
  intro pins s σ H x vs v us Q I rx rv h
  obtain ⟨l, xs, y, rfl, rfl, hH, hy, q⟩ := h
  cases rx
  have hus := rv.zero
  subst hus
  obtain ⟨z, its, n, r, hl, e⟩ := I.lstM hH
  obtain ⟨u, hu, ru⟩ := r.get hy
  have hy' : its.toArray[its.toArray.size - 1]? = some u := by
    show its.toArray[its.length - 1]? = some u
    rw [← Array.getElem?_toList, ← hl]
    exact hu
  refine call_meets F.slot_list_pop ⟨_, e, rfl⟩ F.entry_list_pop (F.args_list_pop_1 _) (MeetsSeq.list_pop_last l its.toArray n u hy' (by rw [List.size_toArray]; omega)) ⟨e, ?_⟩
  refine ⟨y, _, I.lset (its' := its.dropLast) hH e ?_ r.dropLast ?_, ru, q⟩
  · show its.toArray.eraseIdxIfInBounds (its.toArray.size - 1) = its.dropLast.toArray
    rw [List.size_toArray, List.eraseIdxIfInBounds_toArray, erase_last]
  · rw [List.length_dropLast]
    omega

def rCat : R2 := fun x y H Q => ∃ l b xs zs, x = .ref l ∧ y = .ref b ∧ H l = some (.lst xs) ∧ H b = some (.lst zs) ∧ xs.length + zs.length ≤ sizeLine ∧ ∀ p, H p = none → Q (.ref p) (upd H p (.lst (xs ++ zs)))
theorem op_cat : OpR X (binaryOp .Add) rCat := by
  intro pins s σ H x y v u Q I rx ry h
  obtain ⟨l, b, xs, zs, rfl, rfl, hH, hB, hz, q⟩ := h
  cases rx
  cases ry
  obtain ⟨z, its, n, r, hl, e⟩ := I.lstM hH
  obtain ⟨z2, its2, n2, r2, hl2, e2⟩ := I.lstM hB
  refine PySem.P.add_list e e2 ?_ (by rw [List.size_toArray, List.size_toArray]; omega)
  have ea : its.toArray ++ its2.toArray = (its ++ its2).toArray := by simp
  rw [ea]
  exact ⟨.ref _, _, I.lnew (t' := s.toks) (r.append r2) (by rw [List.length_append]; omega), rfl, q _ I.fresh⟩
end

section
variable {prog : Program} {w : World} {A : Around} {E : Value → Shared → Prop} {s : Shared}
end

section
variable {X : Cx}
end
end L2

namespace Att
open PySem PySem.W PySem.Calls PyProof.Rows

theorem ints_of_wellAll {P : Params} {h : Heap} : ∀ (ns : List Int) (vs : List Value), WellAll P h vs (ns.map WData.int) → IntsAre vs ns := by
  intro ns
  induction ns with
  | nil =>
    intro vs w
    rw [List.map_nil] at w
    cases w
    exact .nil
  | cons n ns ih =>
    intro vs w
    rw [List.map_cons] at w
    cases w with
    | cons a b =>
      cases a
      exact .cons _ _ (ih _ b)

theorem script_of {l : OpenLaw} {n : Nat} (hn : l.most = some n) {P : Params} {h : Heap} {args : List WData} {vals : List Value}
    (hpre : l.row.toRowW.claim.pre args = true) (hwl : WellAll P h vals args) :
    ∃ a vs ns, vals = [Value.ref a] ∧ args = [WData.list (ns.map WData.int)] ∧ h.get? a = some { cls := .type "list", data := .seq vs.toArray } ∧ IntsAre vs ns ∧ ns.length ≤ n := by
  have hsh : WShape.hasAll [] args [.list .int] = true := (pre_splitW hpre).1
  have hc : l.pre.holds [] { args := args } = true := (pre_splitW hpre).2
  obtain ⟨d, r, rfl, h1, h2⟩ := hasAllW_cons hsh
  obtain rfl := hasAllW_nil h2
  obtain ⟨xs, rfl, h3⟩ := hasW_list h1
  obtain ⟨ns, rfl⟩ := items_int h3
  have hlen : ns.length ≤ n := by
    unfold OpenLaw.pre at hc
    have h4 : (WTm.not (.lt (.lit (.int (n : Int))) (.len (.arg 0)))).holds [] { args := [.list (ns.map .int)] } = true := by
      have h4 := (holds_andW hc).1
      rw [hn] at h4
      exact h4
    have h5 := condW_of h4 (w_not (w_lt w_lit (w_len_list (w_arg rfl))))
    rw [List.length_map] at h5
    refine Nat.le_of_not_lt fun q => ?_
    have q' : (n : Int) < ((ns.length : Nat) : Int) := by omega
    first
      | (rw [decide_eq_true q'] at h5; exact absurd h5 (by decide))
      | (simp at h5; omega)
  cases hwl with
  | cons w1 w2 =>
    cases w2
    cases w1 with
    | list ho hall => exact ⟨_, _, ns, rfl, rfl, ho, ints_of_wellAll ns _ hall, hlen⟩

theorem post_true (l : OpenLaw) (args : List WData) : l.row.toRowW.claim.post args (.bool true) args = true :=
  postW_of (r := l.row.toRowW) (X := (true == true))
    (show WShape.has [] (.bool true) .bool = true by first | rfl | decide | simp [WShape.has, WShape.arms, WShape.armsAll])
    (show (WTm.eq .res (.lit (.bool true))).value [] { args := args, res := some (.bool true), after := args } = some (.bool (true == true)) from w_eq_bool (w_res rfl) w_lit) rfl

/-- the same from a codeAny of the CALL (for a layer whose function contracts speak of calls) -/
theorem attach_call {l : OpenLaw} {n : Nat} {q : Program} {loose : List Str} {XP : (Str → Option Value) → Heap → Prop} {YP : World → Heap → Prop} {d : DefRec}
    (hn : l.most = some n) (hdf : d.params.defaults = [])
    (call : ∀ (w : World) (s₀ s₁ : Shared) (mg mb : Str → Option Value) (fa : Addr) (o : Obj) (pm cd doc : Value) (a : Addr) (vs : List Value) (ns : List Int),
      Ground q loose [] XP w s₀ mg mb s₁.heap → YP w s₁.heap →
      s₁.heap.get? fa = some o → o.data = .func (docDef d.name d.params d.body d.scope pm cd doc) → s₁.heap.CodeRec cd d.name → mg d.name = some (.ref fa) →
      s₁.heap.get? a = some { cls := .type "list", data := .seq vs.toArray } → IntsAre vs ns → ns.length ≤ n → s₁.gens = #[] →
      codeAny (model l.prog w) callerA (.call (.ref fa) ⟨[.ref a], []⟩) (fun r s' => r = .ok (.ret (.bool true)) ∧ OldK s₁.heap s'.heap ∧ s'.os = s₁.os ∧ AllBare s'.gens) s₁) :
    WalkO q loose XP YP l.row.toRowW d [] (fun f vs => PySem.call f vs) := by
  intro w s₀ s₁ mg mb G Y fa o pm cd doc dV kV ho hd hcd hD hmg hg args vals as hpre hlay hrd hwl hlo
  obtain rfl : dV = .none := Dflts.none hD hdf
  obtain rfl : kV = .none := Dflts.noKw hD
  obtain ⟨a, vs, ns, rfl, rfl, hobj, hints, hlen⟩ := script_of hn hpre hwl
  refine enter_call (codeAny_mono (call w s₀ s₁ mg mb fa o pm cd doc a vs ns G Y ho (fd_plain hd) hcd hmg hobj hints hlen hg) fun r s' hq => ?_)
  obtain ⟨rfl, h2, h3, h4⟩ := hq
  exact ⟨.inl ⟨.bool true, .bool true, [], rfl, fun _ => rfl, .bool true, post_true l _, fun _ => ⟨List.Pairwise.nil, fun _ hm => (nomatch hm)⟩⟩, h2, h3, h4⟩

section
variable {prog : Program} {w : World} {A : Around} {E : Value → Shared → Prop} {s : Shared} {K : Frag}

end
end Att

namespace L2
open PySem PySem.Spec PyProof.Rows

theorem vals_ints : ∀ {vs : List Value} {ns : List Int}, IntsAre vs ns → Vals (ns.map V.int) vs
  | _, _, .nil => .nil
  | _, _, .cons n t h => .cons ⟨t, rfl⟩ (vals_ints h)

end L2

namespace L2
open PySem PySem.Spec PyProof.Rows

end L2

namespace L2
open PySem PySem.Spec PyProof.Rows

def defArgs (s : Stmt) : Arguments := match s with
  | .FunctionDef _ a _ _ _ _ _ _ _ _ => a
  | _ => { posonlyargs := [], args := [], vararg := none, kwonlyargs := [], kw_defaults := [], kwarg := none, defaults := [] }
def defBody (s : Stmt) : List Stmt := match s with
  | .FunctionDef _ _ b _ _ _ _ _ _ _ => b
  | _ => []
def defScope (s : Stmt) : Scope := match s with
  | .FunctionDef _ _ _ _ _ _ sc _ _ _ => sc
  | _ => { kind := .function, names := [], isGenerator := false, isCoroutine := false }

abbrev CX0 : CXT := fun _ _ _ _ _ _ => False
abbrev E0 : XK := fun _ _ _ => False
theorem pass0 {X : Cx} : Passes CX0 X E0 := fun _ _ _ _ _ _ _ h => h.elim

structure Fun (K : PySem.W.Frag) (x qual : Str) (st : Stmt) (f : Addr) (fd : FuncData) : Prop where
  ex : ∃ (oc : Value) (od : Option Addr) (kV doc pm : Value) (an : Option Addr) (cdv ct : Value) (osl : Array (Option Value)),
    fd = PySem.W.fnOf x qual (defArgs st) (defBody st) (defScope st) .none kV doc pm an cdv ct ∧ K.lookup f = some ⟨oc, od, .func fd, osl⟩ ∧ PySem.W.codeIn K cdv qual = true
  kp : PySem.W.keepIn K (.ref f) = true
section
variable {P : Program} {w : World} {K : PySem.W.Frag} {mg : Str → Option Value} {base : Heap}
/-- THE RULE for a def: its body as a term of rules, and the reading of that term -/
theorem Fun.ok {x qual : Str} {st : Stmt} {f : Addr} {fd : FuncData} {N ps : List Str} {k : Nat} {sp : Sp} (F : Fun K x qual st f fd) (S : FnScope N ps (defScope st)) (len : ∀ vs H Q E, sp vs H Q E → vs.length = ps.length)
    (hbody : ∀ (cdv : Value) (A : Around) (outer : List Env) (s : Shared) (H : Hp) (vs : List V) (Q : VK) (E : XK), Room k (A.deeper (envOfC qual (defScope st) s.heap.objs.size f cdv)) → sp vs H Q E →
      ∃ t, PSs (cxOf CX0 P w K mg base N qual (defScope st) f cdv A outer s H E).nox (defBody st) t ∧ t { nx := fun _ H' => Q .non H', rt := Q } (start N vs) H) : FnOk P w K mg base CX0 (k + 1) f fd ps sp := by
  obtain ⟨oc, od, kV, doc, pm, an, cdv, ct, osl, rfl, lk, hcd⟩ := F.ex
  refine fn_of lk hcd S len fun A outer s H vs Q E hr hsp => ?_
  obtain ⟨t, h, q⟩ := hbody cdv A outer s H vs Q E hr hsp
  exact ⟨t, h.nox, q⟩
/-- how its arguments bind (no defaults): h is «fun _ _ _ _ _ _ us hl => match us, hl with | [_, _], _ => rfl», one _ a parameter -/
theorem Fun.binds {x qual : Str} {st : Stmt} {f : Addr} {fd : FuncData} {ps : List Str} (F : Fun K x qual st f fd)
    (h : ∀ (kV doc pm : Value) (an : Option Addr) (cdv ct : Value) (us : List Value), us.length = ps.length → bindArgs (PySem.W.fnOf x qual (defArgs st) (defBody st) (defScope st) .none kV doc pm an cdv ct) ⟨us, []⟩ = pure (ps.zip us)) : Binds K fd ps [] := by
  obtain ⟨oc, od, kV, doc, pm, an, cdv, ct, osl, rfl, lk, hcd⟩ := F.ex
  exact .all (h kV doc pm an cdv ct)
theorem fun_mk {x qual : Str} {st : Stmt} {f : Addr} {oc : Value} {od an : Option Addr} {osl : Array (Option Value)} {kV doc pm cdv ct : Value} (l : K.lookup f = some ⟨oc, od, .func (PySem.W.fnOf x qual (defArgs st) (defBody st) (defScope st) .none kV doc pm an cdv ct), osl⟩)
    (c : PySem.W.codeIn K cdv qual = true) (k : PySem.W.keepIn K (.ref f) = true) : Fun K x qual st f (PySem.W.fnOf x qual (defArgs st) (defBody st) (defScope st) .none kV doc pm an cdv ct) := ⟨⟨oc, od, kV, doc, pm, an, cdv, ct, osl, rfl, l, c⟩, k⟩
end
theorem hu_of {A : Around} {k : Nat} (hr : Room k A) : A.units + 1 < cLine := Nat.lt_of_le_of_lt (Nat.add_le_add_left (by decide : 1 ≤ 64) _) hr.units
theorem small1000 {n : Nat} (h : n ≤ 1000) : n < sizeLine := Nat.lt_of_le_of_lt h (by decide)

section
variable {X : Cx}
theorem pv (i : Nat) {x : Str} {pos : Pos} (hN : X.N[i]? = some x := by rfl) (hv : Vis X.env.scope x := by first | exact Or.inl rfl | exact Or.inr (Or.inl rfl) | exact Or.inr (Or.inr rfl)) (hd : (x == ("__debug__" : Str)) = false := by decide)
    (hcd : (x == ("__classdict__" : Str)) = false := by decide) : PE X (.Name x pos) (tVar i) := pe_var hN hv hd hcd
end

theorem iteF {A B : Prop} (h : B) : if false = true then A else B := by
  rw [if_neg Bool.false_ne_true]
  exact h
theorem iteT {A B : Prop} (h : A) : if true = true then A else B := by
  rw [if_pos rfl]
  exact h
theorem ite2 {c A B : Prop} [Decidable c] (h1 : c → A) (h2 : ¬ c → B) : if c then A else B := by
  by_cases h : c
  · rw [if_pos h]
    exact h1 h
  · rw [if_neg h]
    exact h2 h
/-- all that was tracked is as it was -/
def Same (H H' : Hp) : Prop := ∀ b o, H b = some o → H' b = some o
theorem Same.refl (H : Hp) : Same H H := fun _ _ h => h
theorem Same.trans {H H1 H2 : Hp} (a : Same H H1) (b : Same H1 H2) : Same H H2 := fun c o h => b c o (a c o h)
theorem Same.free {H H' : Hp} (e : Same H H') {l : Addr} (h : H' l = Option.none) : H l = Option.none := by
  cases q : H l with
  | none => rfl
  | some o =>
    rw [e l o q] at h
    cases h
theorem Same.seq {K : PySem.W.Frag} {H H' : Hp} {a : Addr} {xs : List V} (e : Same H H') (h : SqL K H a xs) : SqL K H' a xs := by
  rcases h with (h | ⟨o, h⟩) | h
  · exact .inl (.inl (e _ _ h))
  · exact .inl (.inr ⟨o, e _ _ h⟩)
  · exact .inr h

end L2

set_option Elab.async false
set_option linter.all false
set_option maxRecDepth 100000
namespace L2
open PySem PySem.Spec PyProof.Rows
section
variable {X : Cx}
def CDivB (i j : Int) : Prop := 0 < j ∧ j.natAbs.log2 < 9000
theorem op_fdivB : OpR X (binaryOp .FloorDiv) (rI CDivB fun i j => .int (i / j)) := opI fun i j _ _ _ _ _ hc q => by
  have h1 : (0 : Int) < j := hc.1
  exact floordiv_int (by omega) (by rw [Int.fdiv_eq_ediv_of_nonneg i (by omega)]; exact q) (.inl (PyProof.noPylong_of_log2 hc.2))
theorem CDivB.of {i j : Int} (h1 : 0 < j) (h2 : j < 2 ^ 250) : CDivB i j := by
  refine ⟨h1, ?_⟩
  have h3 : j.natAbs < 2 ^ 250 := by omega
  have h4 : j.natAbs ≠ 0 := by omega
  have := (Nat.log2_lt h4).mpr h3
  omega
def CMulB (i j : Int) : Prop := (i.natAbs < 2 ^ 250 ∧ j.natAbs < 2 ^ 250) ∨ CMul i j
theorem CMulB.ok {i j : Int} (h : CMulB i j) : IntMulOk i j := by
  rcases h with ⟨h1, h2⟩ | h
  · refine IntMulOk.of_bits (Nat.le_trans (PyProof.Rows.intBits_le h1) (by decide)) (Nat.le_trans (PyProof.Rows.intBits_le h2) (by decide))
  · exact h.ok
theorem op_mulB : OpR X (binaryOp .Mult) (rI CMulB fun i j => .int (i * j)) := opI fun _ _ _ _ _ _ _ hc q => mul_int q hc.ok
theorem call_sumL (hc : X.calm = true) : CallR X (.builtin "sum") (fun xs H Q => ∃ (p : Addr) (ns : List Int), xs = [.ref p] ∧ SqL X.K H p (ns.map V.int) ∧ Q (.int ns.sum) H) := by
  intro pins s σ H xs us Q I r h
  obtain ⟨p, ns, rfl, hq, q⟩ := h
  obtain ⟨u, rfl, rx⟩ := vals1 r
  cases rx
  obtain ⟨its, r', pl, hz⟩ := I.list hq
  have hi : IntsAre its ns := intsAre_of r'
  obtain ⟨xs, hx⟩ := hi.allInts.items
  have hl' : s.heap.IsList p (intItems xs) := hx ▸ pl.isList
  refine sum_intListG (I.ok.hd hc) hl' fun h' tk t' hk => ?_
  have e1 : ns = xs.toList.map (·.1) := by
    rw [← nums_intItems, ← hx]
    exact (show numsOf its.toArray.toList = ns from hi.numsOf).symm
  have e2 : preSum (numAt xs) xs.size = ns.sum := by
    rw [preSum_eq, List.take_of_length_le (by simp), e1]
  rw [e2]
  exact ⟨.int ns.sum, H, I.kept hk, ⟨_, rfl⟩, q⟩
def rIsi (K : PySem.W.Frag) : List V → Hp → VK → Prop := fun xs H Q => ∃ x T t b, xs = [x, .ty T] ∧ TyOf K H x t ∧ PySem.W.kitOne K t (.type T) = some b ∧ Q (.bl b) H
theorem call_isi : CallR X (.builtin "isinstance") (rIsi X.K) := by
  intro pins s σ H xs us Q I r h
  obtain ⟨x, T, t, b, rfl, ty, e, q⟩ := h
  obtain ⟨u, w', rfl, rx, rt⟩ := vals2 r
  cases rt
  exact isinst_ok I rx ty e fun tk => ⟨.bl b, H, I.tok tk, rfl, q⟩
end
def plainE : Expr → Bool
  | .Starred _ _ => false
  | _ => true
theorem starEach_plain {e : Expr} {rest : List Expr} {env : Env} (h : plainE e = true) : starEach (e :: rest) env = (false, eval e env) :: starEach rest env := by
  cases e <;> first
    | rfl
    | cases h
theorem any_plain {pos : Pos} {env : Env} : ∀ {es : List Expr}, es.all plainE = true → (backTo pos (starEach es env)).any (·.1) = false
  | [], _ => rfl
  | e :: es, h => by
    rw [List.all_cons, Bool.and_eq_true] at h
    rw [starEach_plain h.1]
    show (false || (backTo pos (starEach es env)).any (·.1)) = false
    rw [any_plain h.2]
    rfl
theorem all_plain {pos : Pos} {env : Env} : ∀ {es : List Expr}, es.all plainE = true → (backTo pos (starEach es env)).all (fun x => !x.1) = true
  | [], _ => rfl
  | e :: es, h => by
    rw [List.all_cons, Bool.and_eq_true] at h
    rw [starEach_plain h.1]
    show (true && (backTo pos (starEach es env)).all (fun x => !x.1)) = true
    rw [all_plain h.2]
    rfl
section
variable {X : Cx} {CX : CXT} {k : Nat} {f C : Addr} {fd : FuncData} {ps : List Str} {sp : Sp} {dvs : List V} {ds : List Value} {E : XK} {x m : Str} {p pos apos : Pos} {e o : Expr} {es : List Expr} {ta te : TE} {t : TA} {id T : String} {r : List V → Hp → VK → Prop}
theorem pa_c (ha : PE X e te) (hr : PA X es t) (hp : plainE e = true := by rfl) : PA X (e :: es) (tCons te t) := pa_cons ha hr (starEach_plain hp)
theorem pe_callF (F : FnOk X.prog X.w X.K X.mg X.base CX k f fd ps sp) (hr : Room k X.A) (hg : Gl X x) (hm : X.mg x = some (.ref f)) (hk : PySem.W.keepIn X.K (.ref f) = true) (hb : Binds X.K fd ps ds) (hd : Vals dvs ds) (hx : Passes CX X E)
    (ha : PA X (e :: es) t) (hdb : (x == ("__debug__" : Str)) = false := by decide) (hp : (e :: es).all plainE = true := by rfl) : PE X (.Call (.Name x p) (e :: es) [] pos) (tCall sp dvs E t) := by
  rw [List.all_cons, Bool.and_eq_true] at hp
  exact pe_call F hr hg hm hk hb hd hx ha hdb (starEach_plain hp.1) (any_plain hp.2)
theorem pe_callBF (hc : CallR X (.builtin id) r) (hg : Gl X x) (hm : X.mg x = none) (hv : bootBuiltins x = some (.builtin id)) (ha : PA X (e :: es) t) (hn : x ≠ "__name__" := by decide) (hdb : (x == ("__debug__" : Str)) = false := by decide)
    (hp : (e :: es).all plainE = true := by rfl) : PE X (.Call (.Name x p) (e :: es) [] pos) (tCB r t) := by
  rw [List.all_cons, Bool.and_eq_true] at hp
  exact pe_callB hc hg hm hv ha hn hdb (starEach_plain hp.1) (any_plain hp.2)
theorem pe_callTF (hc : CallR X (.type T) r) (hg : Gl X x) (hm : X.mg x = none) (hv : bootBuiltins x = some (.type T)) (ha : PA X (e :: es) t) (hn : x ≠ "__name__" := by decide) (hdb : (x == ("__debug__" : Str)) = false := by decide)
    (hp : (e :: es).all plainE = true := by rfl) : PE X (.Call (.Name x p) (e :: es) [] pos) (tCB r t) := by
  rw [List.all_cons, Bool.and_eq_true] at hp
  exact pe_callTy hc hg hm hv ha hn hdb (starEach_plain hp.1) (any_plain hp.2)
theorem pi_rangeF {tg a : Expr} (hg : Gl X "range") (hm : X.mg "range" = none) (ha : PA X [a] t) (hp : plainE a = true := by rfl) : PI X tg (.Call (.Name "range" p) [a] [] pos) (iRng1 t) :=
  pi_range1 hg hm ha (by rw [starEach_plain hp]; rfl)
theorem pe_bmF {name : Str} {cpos : Pos} {to : TE} {rm : V → List V → Hp → VK → Prop} (pa : PlainAttrs T) (slot : Slot T name id) (hty : typeOf (.builtin id) = pure (.type "method_descriptor")) (hm : MtR X id rm) (ho : PE X o to) (ha : PA X (e :: es) t)
    (hbase : attributeBase o name X.env (eval o X.env) = eval o X.env := by rfl) (hline : (apos.endLine == cpos.line) = true := by rfl) (hp : (e :: es).all plainE = true := by rfl) (hl : (e :: es).length < 30 := by decide) :
    PE X (.Call (.Attribute o name apos) (e :: es) [] cpos) (tBM X.K T rm to t) := by
  have hp' := hp
  rw [List.all_cons, Bool.and_eq_true] at hp'
  refine pe_bm pa slot hty hm ho ha hbase ?_ hline (starEach_plain hp'.1) (any_plain hp'.2)
  rw [all_plain hp]
  show decide ((e :: es).length + 0 + 0 < 30) = true
  exact decide_eq_true hl
end
theorem bt_len : bootBuiltins "len" = some (.builtin "len") := by decide +kernel
theorem bt_sum : bootBuiltins "sum" = some (.builtin "sum") := by decide +kernel
theorem bt_isinstance : bootBuiltins "isinstance" = some (.builtin "isinstance") := by decide +kernel
theorem bt_sorted : bootBuiltins "sorted" = some (.builtin "sorted") := by decide +kernel
theorem bt_all : bootBuiltins "all" = some (.builtin "all") := by decide +kernel
theorem bt_int : bootBuiltins "int" = some (.type "int") := by decide +kernel
theorem bt_str : bootBuiltins "str" = some (.type "str") := by decide +kernel
theorem bt_tuple : bootBuiltins "tuple" = some (.type "tuple") := by decide +kernel
theorem bt_set : bootBuiltins "set" = some (.type "set") := by decide +kernel
theorem bt_reversed : bootBuiltins "reversed" = some (.type "reversed") := by decide +kernel
theorem kit_int_int {K : PySem.W.Frag} : PySem.W.kitOne K (.type "int") (.type "int") = some true := by rfl
theorem kit_str_int {K : PySem.W.Frag} : PySem.W.kitOne K (.type "str") (.type "int") = some false := by with_unfolding_all rfl
theorem kit_str_str {K : PySem.W.Frag} : PySem.W.kitOne K (.type "str") (.type "str") = some true := by rfl
theorem kit_int_str {K : PySem.W.Frag} : PySem.W.kitOne K (.type "int") (.type "str") = some false := by with_unfolding_all rfl
end L2

set_option Elab.async false
set_option linter.all false
set_option maxRecDepth 100000
namespace L2
open PySem PySem.Spec PyProof.Rows
structure QE (X : Cx) (e : Expr) (t : TE) : Prop where
  out : PE X e t
structure QT (X : Cx) (e : Expr) (t : TT) : Prop where
  out : PT X e t
structure QW (X : Cx) (e : Expr) (t : TT) : Prop where
  out : PW X e t
structure QA (X : Cx) (e : List Expr) (t : TA) : Prop where
  out : PA X e t
structure QSs (X : Cx) (e : List Stmt) (t : TS) : Prop where
  out : PSs X e t
structure QS (X : Cx) (e : Stmt) (t : TS) : Prop where
  out : PS X e t
structure QG (X : Cx) (e : Expr) (t : TG) : Prop where
  out : PG X e t
structure QI (X : Cx) (tg e : Expr) (t : TI) : Prop where
  out : PI X tg e t
structure QO (X : Cx) (e : Option Expr) (t : TO) : Prop where
  out : PO X e t
theorem qv {X : Cx} (i : Nat) {x : Str} {pos : Pos} (hN : X.N[i]? = some x := by rfl) (hv : Vis X.env.scope x := by first | exact Or.inl rfl | exact Or.inr (Or.inl rfl) | exact Or.inr (Or.inr rfl)) (hd : (x == ("__debug__" : Str)) = false := by decide) (hcd : (x == ("__classdict__" : Str)) = false := by decide) : QE X (.Name x pos) (tVar i) := ⟨pv (i := i) (hN := hN) (hv := hv) (hd := hd) (hcd := hcd)⟩
theorem qe_int {X : Cx} {i j pos} : QE X (.Constant (.int i) j pos) (tC (.int i)) := ⟨pe_int ⟩
theorem qe_bl {X : Cx} {b j pos} : QE X (.Constant (.bool b) j pos) (tC (.bl b)) := ⟨pe_bl ⟩
theorem qe_str {X : Cx} {x j pos} : QE X (.Constant (.str x) j pos) (tC (.str x)) := ⟨pe_str ⟩
theorem qe_glob {X : Cx} {x : Str} {v : V} {u : Value} {pos : Pos} (hg : Gl X x) (hm : X.mg x = some u) (r : RelV v u) (hd : (x == ("__debug__" : Str)) = false := by decide) : QE X (.Name x pos) (tC v) := ⟨pe_glob (hg := hg) (hm := hm) (r := r) (hd := hd)⟩
theorem qe_bltn {X : Cx} {x : Str} {v : V} {u : Value} {pos : Pos} (hg : Gl X x) (hm : X.mg x = none) (hv : bootBuiltins x = some u) (r : RelV v u) (hn : x ≠ "__name__" := by decide) (hd : (x == ("__debug__" : Str)) = false := by decide) : QE X (.Name x pos) (tC v) := ⟨pe_bltn (hg := hg) (hm := hm) (hv := hv) (r := r) (hn := hn) (hd := hd)⟩
theorem qe_op {X : Cx} {a : Expr} {b : Expr} {ta : TE} {tb : TE} {pos : Pos} {op : Operator} {r : R2} (ho : OpR X (binaryOp op) r) (ha : QE X a ta) (hb : QE X b tb) : QE X (.BinOp a op b pos) (tOp r ta tb) := ⟨pe_op (ho := ho) (ha := ha.out) (hb := hb.out)⟩
theorem qe_un {X : Cx} {a : Expr} {ta : TE} {pos : Pos} {op : UnaryOp} {r : V → Hp → VK → Prop} (ho : UnR X (unaryOp op) r) (ha : QE X a ta) : QE X (.UnaryOp op a pos) (tUn r ta) := ⟨pe_un (ho := ho) (ha := ha.out)⟩
theorem qe_cmpR {X : Cx} {a : Expr} {b : Expr} {ta : TE} {tb : TE} {pos : Pos} {op : CmpOp} {r : R2} (ho : OpR X (compareOp op) r) (ha : QE X a ta) (hb : QE X b tb) (hm : behindInMarks op b = false) : QE X (.Compare a [op] [b] pos) (tOp r ta tb) := ⟨pe_cmpR (ho := ho) (ha := ha.out) (hb := hb.out) (hm := hm)⟩
theorem qt_cmpR {X : Cx} {a : Expr} {b : Expr} {ta : TE} {tb : TE} {pos : Pos} {op : CmpOp} {r : R2} (ho : OpR X (compareOp op) r) (ha : QE X a ta) (hb : QE X b tb) (hm : behindInMarks op b = false) : QT X (.Compare a [op] [b] pos) (tTest (tOp r ta tb)) := ⟨pt_cmpR (ho := ho) (ha := ha.out) (hb := hb.out) (hm := hm)⟩
theorem qt_val {X : Cx} {e : Expr} {t : TE} (h : QE X e t) (he : ∀ whole, isTrue e X.env whole = (do let v ← whole; standAt e.pos; holding [v] (truthy v)) := by intro _; rfl) : QT X e (tB t) := ⟨pt_val (h := h.out) (he := he)⟩
theorem qw_and1 {X : Cx} {a : Expr} {pos : Pos} {tA : TT} (ha : QT X a tA) : QW X (.BoolOp .And [a] pos) tA := ⟨pw_and1 (ha := ha.out)⟩
theorem qw_or1 {X : Cx} {a : Expr} {pos : Pos} {tA : TT} (ha : QT X a tA) : QW X (.BoolOp .Or [a] pos) tA := ⟨pw_or1 (ha := ha.out)⟩
theorem qw_and {X : Cx} {a : Expr} {b : Expr} {pos : Pos} {tA : TT} {tB' : TT} {rest : List Expr} (ha : QT X a tA) (hb : QW X (.BoolOp .And (b :: rest) pos) tB') : QW X (.BoolOp .And (a :: b :: rest) pos) (tAnd tA tB') := ⟨pw_and (ha := ha.out) (hb := hb.out)⟩
theorem qw_or {X : Cx} {a : Expr} {b : Expr} {pos : Pos} {tA : TT} {tB' : TT} {rest : List Expr} (ha : QT X a tA) (hb : QW X (.BoolOp .Or (b :: rest) pos) tB') : QW X (.BoolOp .Or (a :: b :: rest) pos) (tOr tA tB') := ⟨pw_or (ha := ha.out) (hb := hb.out)⟩
theorem qt_not {X : Cx} {a : Expr} {pos : Pos} {tA : TT} (ha : QT X a tA) : QT X (.UnaryOp .Not a pos) (tNot tA) := ⟨pt_not (ha := ha.out)⟩
theorem qe_one {X : Cx} {a : Expr} {pos : Pos} {op} {t : TE} (h : QE X a t) : QE X (.BoolOp op [a] pos) t := ⟨pe_one (h := h.out)⟩
theorem qe_and {X : Cx} {a : Expr} {b : Expr} {ta : TE} {tb : TE} {pos : Pos} {rest : List Expr} (ha : QE X a ta) (hb : QE X (.BoolOp .And (b :: rest) pos) tb) : QE X (.BoolOp .And (a :: b :: rest) pos) (tAndV ta tb) := ⟨pe_and (ha := ha.out) (hb := hb.out)⟩
theorem qe_or {X : Cx} {a : Expr} {b : Expr} {ta : TE} {tb : TE} {pos : Pos} {rest : List Expr} (ha : QE X a ta) (hb : QE X (.BoolOp .Or (b :: rest) pos) tb) : QE X (.BoolOp .Or (a :: b :: rest) pos) (tOrV ta tb) := ⟨pe_or (ha := ha.out) (hb := hb.out)⟩
theorem qe_not {X : Cx} {a : Expr} {ta : TE} {pos : Pos} (ha : QE X a ta) : QE X (.UnaryOp .Not a pos) (tNotV ta) := ⟨pe_not (ha := ha.out)⟩
theorem qe_ifExp {X : Cx} {a : Expr} {b : Expr} {ta : TE} {tb : TE} {pos : Pos} {tA : TT} {c : Expr} (hc : QT X c tA) (ha : QE X a ta) (hb : QE X b tb) : QE X (.IfExp c a b pos) (tIf tA ta tb) := ⟨pe_ifExp (hc := hc.out) (ha := ha.out) (hb := hb.out)⟩
theorem qss_nil {X : Cx} : QSs X [] tNext := ⟨pss_nil ⟩
theorem qss_cons {X : Cx} {st : Stmt} {rest : List Stmt} {t : TS} {u : TS} (h1 : QS X st t) (h2 : QSs X rest u) : QSs X (st :: rest) (tSeq t u) := ⟨pss_cons (h1 := h1.out) (h2 := h2.out)⟩
theorem qss_one {X : Cx} {st : Stmt} {t : TS} (h1 : QS X st t) : QSs X [st] t := ⟨pss_one (h1 := h1.out)⟩
theorem qs_expr {X : Cx} {e : Expr} {te : TE} {pos : Pos} (he : QE X e te) (hs : swapsWith e none pos.line X.env = pure false := by rfl) : QS X (.Expr e pos) (tDrop te) := ⟨ps_expr (he := he.out) (hs := hs)⟩
theorem qs_ret {X : Cx} {e : Expr} {te : TE} {pos : Pos} (he : QE X e te) : QS X (.Return (some e) pos) (tRet te) := ⟨ps_ret (he := he.out)⟩
theorem qs_if {X : Cx} {t : TS} {u : TS} {pos : Pos} {c : Expr} {a b : List Stmt} {tc : TT} (hc : QT X c tc) (ha : QSs X a t) (hb : QSs X b u) : QS X (.If c a b pos) (tIfS tc t u) := ⟨ps_if (hc := hc.out) (ha := ha.out) (hb := hb.out)⟩
theorem qg_name {X : Cx} {pos : Pos} {i : Nat} {x : Str} (hN : X.N.Nodup) (hi : X.N[i]? = some x) (hx : Loc X.env.scope x) (hf : X.fn x = true ∨ X.env.scope.names.lookup x = some .local := by first | exact .inl rfl | exact .inr rfl | assumption) : QG X (.Name x pos) (gName i) := ⟨pg_name (hN := hN) (hi := hi) (hx := hx) (hf := hf)⟩
theorem qg_sub {X : Cx} {pos : Pos} {o i : Expr} {to ti : TE} {t : TSet} (ho : QE X o to) (hi : QE X i ti) (hs : PSet X t) (ha : ∀ v, assign (.Subscript o i pos) X.env v = (do
      let ov ← holding [v] (eval o X.env)
      let iv ← holding [v, ov] (eval i X.env)
      standAt pos
      holding [v, ov, iv] (setItem ov iv v)
      release [v, ov, iv] []) := by intro _; rfl) : QG X (.Subscript o i pos) (gSub to ti t) := ⟨pg_sub (ho := ho.out) (hi := hi.out) (hs := hs) (ha := ha)⟩
theorem qs_asg {X : Cx} {pos : Pos} {tg e : Expr} {te : TE} {g : TG} (he : QE X e te) (hg : QG X tg g) (hs : swapsWithSole [tg] e pos.line X.env = pure false := by rfl) (hw : swappedStores [tg] e X.env = pure none := by rfl) (h1 : (assignEach [tg] X.env).map (·.2) = [assign tg X.env] := by rfl) : QS X (.Assign [tg] e pos) (tAsg te g) := ⟨ps_asg (he := he.out) (hg := hg.out) (hs := hs) (hw := hw) (h1 := h1)⟩
theorem qs_set {X : Cx} {pos : Pos} {i : Nat} {x : Str} {e : Expr} {te : TE} {pos' : Pos} (hN : X.N.Nodup) (hi : X.N[i]? = some x) (hx : Loc X.env.scope x) (he : QE X e te) (hs : swapsWith e (some (.Name x pos')) pos.line X.env = pure false := by rfl) (hf : X.fn x = true ∨ X.env.scope.names.lookup x = some .local := by first | exact .inl rfl | exact .inr rfl | assumption) : QS X (.Assign [.Name x pos'] e pos) (tAsg te (gName i)) := ⟨ps_set (hN := hN) (hi := hi) (hx := hx) (he := he.out) (hs := hs) (hf := hf)⟩
theorem qs_while {X : Cx} {pos : Pos} {c : Expr} {body : List Stmt} {tc : TT} {tb : TS} (hp : PassesOwn (model X.prog X.w) X.A X.env X.xe) (hc : QT X c tc) (hb : QSs X body tb) : QS X (.While c body [] pos) (tWhile tc tb) := ⟨ps_while (hp := hp) (hc := hc.out) (hb := hb.out)⟩
theorem qi_list {X : Cx} {tg : Expr} {l : Expr} {tl : TE} (hl : QE X l tl) : QI X tg l (iList X.K tl) := ⟨pi_list (hl := hl.out)⟩
theorem qi_tup {X : Cx} {tg : Expr} {l : Expr} {tl : TE} (hl : QE X l tl) : QI X tg l (iTup X.K tl) := ⟨pi_tup (hl := hl.out)⟩
theorem qs_for {X : Cx} {tg : Expr} {iter : Expr} {body : List Stmt} {wi : TI} {g : TG} {tb : TS} {pos : Pos} (hp : PassesOwn (model X.prog X.w) X.A X.env X.xe) (hc : X.calm = true) (hi : QI X tg iter wi) (hg : QG X tg g) (hb : QSs X body tb) (hs : ∀ x, foldedSetIterable iter X.env x = pure x := by intro _; rfl) : QS X (.For tg iter body [] pos) (tFor wi g tb) := ⟨ps_for (hp := hp) (hc := hc) (hi := hi.out) (hg := hg.out) (hb := hb.out) (hs := hs)⟩
theorem qe_tup {X : Cx} {es : List Expr} {t : TA} {pos : Pos} {x1} (h : QA X es t) : QE X (.Tuple es x1 pos) (tTup t) := ⟨pe_tup (h := h.out)⟩
theorem qe_lst {X : Cx} {es : List Expr} {t : TA} {pos : Pos} (h : QA X es t) : QE X (.List es pos) (tLst t) := ⟨pe_lst (h := h.out)⟩
theorem qa_nil {X : Cx} : QA X [] tNil := ⟨pa_nil ⟩
theorem qa_c {X : Cx} {e : Expr} {es : List Expr} {te : TE} {t : TA} (ha : QE X e te) (hr : QA X es t) (hp : plainE e = true := by rfl) : QA X (e :: es) (tCons te t) := ⟨pa_c (ha := ha.out) (hr := hr.out) (hp := hp)⟩
theorem qe_callF {X : Cx} {CX : CXT} {k : Nat} {f : Addr} {fd : FuncData} {ps : List Str} {sp : Sp} {dvs : List V} {ds : List Value} {E : XK} {x : Str} {p : Pos} {pos : Pos} {e : Expr} {es : List Expr} {t : TA} (F : FnOk X.prog X.w X.K X.mg X.base CX k f fd ps sp) (hr : Room k X.A) (hg : Gl X x) (hm : X.mg x = some (.ref f)) (hk : PySem.W.keepIn X.K (.ref f) = true) (hb : Binds X.K fd ps ds) (hd : Vals dvs ds) (hx : Passes CX X E) (ha : QA X (e :: es) t) (hdb : (x == ("__debug__" : Str)) = false := by decide) (hp : (e :: es).all plainE = true := by rfl) : QE X (.Call (.Name x p) (e :: es) [] pos) (tCall sp dvs E t) := ⟨pe_callF (F := F) (hr := hr) (hg := hg) (hm := hm) (hk := hk) (hb := hb) (hd := hd) (hx := hx) (ha := ha.out) (hdb := hdb) (hp := hp)⟩
theorem qe_callBF {X : Cx} {x : Str} {p : Pos} {pos : Pos} {e : Expr} {es : List Expr} {t : TA} {id : String} {r : List V → Hp → VK → Prop} (hc : CallR X (.builtin id) r) (hg : Gl X x) (hm : X.mg x = none) (hv : bootBuiltins x = some (.builtin id)) (ha : QA X (e :: es) t) (hn : x ≠ "__name__" := by decide) (hdb : (x == ("__debug__" : Str)) = false := by decide) (hp : (e :: es).all plainE = true := by rfl) : QE X (.Call (.Name x p) (e :: es) [] pos) (tCB r t) := ⟨pe_callBF (hc := hc) (hg := hg) (hm := hm) (hv := hv) (ha := ha.out) (hn := hn) (hdb := hdb) (hp := hp)⟩
theorem qe_callTF {X : Cx} {x : Str} {p : Pos} {pos : Pos} {e : Expr} {es : List Expr} {t : TA} {T : String} {r : List V → Hp → VK → Prop} (hc : CallR X (.type T) r) (hg : Gl X x) (hm : X.mg x = none) (hv : bootBuiltins x = some (.type T)) (ha : QA X (e :: es) t) (hn : x ≠ "__name__" := by decide) (hdb : (x == ("__debug__" : Str)) = false := by decide) (hp : (e :: es).all plainE = true := by rfl) : QE X (.Call (.Name x p) (e :: es) [] pos) (tCB r t) := ⟨pe_callTF (hc := hc) (hg := hg) (hm := hm) (hv := hv) (ha := ha.out) (hn := hn) (hdb := hdb) (hp := hp)⟩
theorem qe_call0 {X : Cx} {CX : CXT} {k : Nat} {f : Addr} {fd : FuncData} {ps : List Str} {sp : Sp} {dvs : List V} {ds : List Value} {E : XK} {x : Str} {p : Pos} {pos : Pos} (F : FnOk X.prog X.w X.K X.mg X.base CX k f fd ps sp) (hr : Room k X.A) (hg : Gl X x) (hm : X.mg x = some (.ref f)) (hk : PySem.W.keepIn X.K (.ref f) = true) (hb : Binds X.K fd ps ds) (hd : Vals dvs ds) (hx : Passes CX X E) (hdb : (x == ("__debug__" : Str)) = false := by decide) : QE X (.Call (.Name x p) [] [] pos) (tCall sp dvs E tNil) := ⟨pe_call0 (F := F) (hr := hr) (hg := hg) (hm := hm) (hk := hk) (hb := hb) (hd := hd) (hx := hx) (hdb := hdb)⟩
theorem qi_rangeF {X : Cx} {p : Pos} {pos : Pos} {t : TA} {tg a : Expr} (hg : Gl X "range") (hm : X.mg "range" = none) (ha : QA X [a] t) (hp : plainE a = true := by rfl) : QI X tg (.Call (.Name "range" p) [a] [] pos) (iRng1 t) := ⟨pi_rangeF (hg := hg) (hm := hm) (ha := ha.out) (hp := hp)⟩
theorem qe_bmF {X : Cx} {apos : Pos} {e : Expr} {o : Expr} {es : List Expr} {t : TA} {id : String} {T : String} {name : Str} {cpos : Pos} {to : TE} {rm : V → List V → Hp → VK → Prop} (pa : PlainAttrs T) (slot : Slot T name id) (hty : typeOf (.builtin id) = pure (.type "method_descriptor")) (hm : MtR X id rm) (ho : QE X o to) (ha : QA X (e :: es) t) (hbase : attributeBase o name X.env (eval o X.env) = eval o X.env := by rfl) (hline : (apos.endLine == cpos.line) = true := by rfl) (hp : (e :: es).all plainE = true := by rfl) (hl : (e :: es).length < 30 := by decide) : QE X (.Call (.Attribute o name apos) (e :: es) [] cpos) (tBM X.K T rm to t) := ⟨pe_bmF (pa := pa) (slot := slot) (hty := hty) (hm := hm) (ho := ho.out) (ha := ha.out) (hbase := hbase) (hline := hline) (hp := hp) (hl := hl)⟩
theorem qe_bm0 {X : Cx} {o : Expr} {to : TE} {name : Str} {apos : Pos} {cpos : Pos} {T : String} {id : String} {r : V → List V → Hp → VK → Prop} (pa : PlainAttrs T) (slot : Slot T name id) (hty : typeOf (.builtin id) = pure (.type "method_descriptor")) (hm : MtR X id r) (ho : QE X o to) (hbase : attributeBase o name X.env (eval o X.env) = eval o X.env := by rfl) (hline : (apos.endLine == cpos.line) = true := by rfl) : QE X (.Call (.Attribute o name apos) [] [] cpos) (tBM0 X.K T r to) := ⟨pe_bm0 (pa := pa) (slot := slot) (hty := hty) (hm := hm) (ho := ho.out) (hbase := hbase) (hline := hline)⟩
theorem qo_none {X : Cx} : QO X none tNoPart := ⟨po_none ⟩
theorem qo_some {X : Cx} {e : Expr} {te : TE} (h : QE X e te) : QO X (some e) (tPart te) := ⟨po_some (h := h.out)⟩
theorem qe_slice {X : Cx} {e : Expr} {te : TE} {lo : Option Expr} {hi : Option Expr} {tl : TO} {th : TO} {pos : Pos} {p2 : Pos} {r : V → Option Int → Option Int → Hp → VK → Prop} (hr : SlR X r) (he : QE X e te) (hl : QO X lo tl) (hu : QO X hi th) : QE X (.Subscript e (.Slice lo hi none p2) pos) (tSl r te tl th) := ⟨pe_slice (hr := hr) (he := he.out) (hl := hl.out) (hu := hu.out)⟩
theorem qe_ix {X : Cx} {a : Expr} {b : Expr} {ta : TE} {tb : TE} {pos : Pos} {r : R2} (hr : IxR X r) (ha : QE X a ta) (hb : QE X b tb) (hs : PlainIx b) : QE X (.Subscript a b pos) (tOp r ta tb) := ⟨pe_ix (hr := hr) (ha := ha.out) (hb := hb.out) (hs := hs)⟩
theorem qs_never {X : Cx} {st : Stmt} : QS X st tNever := ⟨ps_never ⟩
theorem qw_pt {X : Cx} {e : Expr} {t : TT} (h : QW X e t) : QT X e t := ⟨h.out.pt⟩
end L2

set_option Elab.async false
set_option linter.all false
set_option maxRecDepth 100000
set_option maxHeartbeats 1000000
namespace L2
open PySem PySem.Spec PyProof.Rows
/-- the cells that the block takes over -/
def clOf (cells : List (Str × Addr)) : List (Str × NameKind) → List (Str × Addr) → List (Str × Addr)
  | [], acc => acc
  | (n, k) :: r, acc => clOf cells r (if (k == NameKind.free) = true then (n, (cells.lookup n).getD 0) :: acc else acc)
theorem closure_go {env : Env} : ∀ (names : List (Str × NameKind)) (acc : List (Str × Addr)), (∀ y ∈ names, y.2 = .free → ∃ c, env.cells.lookup y.1 = some c) →
    (forIn names acc fun (x : Str × NameKind) (r : List (Str × Addr)) => match x with
      | (name, kind) => if (kind == NameKind.free) = true then do let a ← cellOf env name; pure (ForInStep.yield ((name, a) :: r)) else pure (ForInStep.yield r) : Sem (List (Str × Addr))) = pure (clOf env.cells names acc)
  | [], acc, _ => rfl
  | (n, k) :: r, acc, h => by
    rw [List.forIn_cons]
    have ih := fun acc' => closure_go (env := env) r acc' fun y hy => h y (List.mem_cons_of_mem _ hy)
    by_cases hk : (k == NameKind.free) = true
    · obtain ⟨c, hc⟩ := h (n, k) List.mem_cons_self (by simpa using hk)
      have hc' : env.cells.lookup n = some c := hc
      have e : cellOf env n = pure c := by unfold cellOf; rw [hc']
      simp only [hk, if_true, e]
      rw [clOf, if_pos hk, hc']
      exact ih ((n, c) :: acc)
    · rw [clOf, if_neg hk]
      simp only [hk, if_false]
      exact ih acc
theorem closure_of {scope : Scope} {env : Env} (h : ∀ y ∈ scope.names, y.2 = .free → ∃ c, env.cells.lookup y.1 = some c) : closureFor scope env = pure (clOf env.cells scope.names []) := by
  have e := closure_go (env := env) scope.names [] h
  unfold closureFor
  show (do let r ← _; pure r) = _
  rw [show (forIn scope.names ([] : List (Str × Addr)) fun (x : Str × NameKind) (r : List (Str × Addr)) => match x with
      | (name, kind) => if (kind == NameKind.free) = true then do let a ← cellOf env name; pure (ForInStep.yield ((name, a) :: r)) else pure (ForInStep.yield r) : Sem (List (Str × Addr))) = pure (clOf env.cells scope.names []) from e]
  rfl
theorem clOf_get {cells : List (Str × Addr)} : ∀ {names : List (Str × NameKind)} {acc : List (Str × Addr)}, (∀ y ∈ names, y.2 = .free → ∃ c, cells.lookup y.1 = some c) → (∀ x c, acc.lookup x = some c → cells.lookup x = some c) →
    ∀ x c, (clOf cells names acc).lookup x = some c → cells.lookup x = some c
  | [], acc, _, ha, x, c, h => ha x c h
  | (n, k) :: r, acc, hf, ha, x, c, h => by
    rw [clOf] at h
    refine clOf_get (names := r) (fun y hy => hf y (List.mem_cons_of_mem _ hy)) (fun y d hd => ?_) x c h
    by_cases hk : (k == NameKind.free) = true
    · rw [if_pos hk] at hd
      obtain ⟨e, he⟩ := hf (n, k) List.mem_cons_self (by simpa using hk)
      have he' : cells.lookup n = some e := he
      rw [he', List.lookup_cons] at hd
      cases hy : y == n with
      | true =>
        rw [hy] at hd
        have hy' : y = n := by simpa using hy
        rw [hy', he']
        exact hd
      | false =>
        rw [hy] at hd
        exact ha y d hd
    · rw [if_neg hk] at hd
      exact ha y d hd
theorem clOf_keep {cells : List (Str × Addr)} : ∀ {names : List (Str × NameKind)} {acc : List (Str × Addr)} {x : Str}, (∃ c, acc.lookup x = some c) → ∃ c, (clOf cells names acc).lookup x = some c
  | [], acc, x, h => h
  | (n, k) :: r, acc, x, h => by
    rw [clOf]
    refine clOf_keep (names := r) ?_
    by_cases hk : (k == NameKind.free) = true
    · rw [if_pos hk, List.lookup_cons]
      cases hx : x == n with
      | true => exact ⟨_, rfl⟩
      | false => exact h
    · rw [if_neg hk]; exact h
theorem clOf_has {cells : List (Str × Addr)} : ∀ {names : List (Str × NameKind)} {acc : List (Str × Addr)} {x : Str}, names.lookup x = some .free → ∃ c, (clOf cells names acc).lookup x = some c
  | [], acc, x, h => by cases h
  | (n, k) :: r, acc, x, h => by
    rw [clOf]
    rw [List.lookup_cons] at h
    cases hx : x == n with
    | true =>
      rw [hx] at h
      have hk : k = .free := Option.some.inj h
      refine clOf_keep (names := r) ?_
      rw [hk, if_pos (show (NameKind.free == NameKind.free) = true by rfl), List.lookup_cons, hx]
      exact ⟨_, rfl⟩
    | false =>
      rw [hx] at h
      exact clOf_has (names := r) h
theorem relabel_free {scope : Scope} {env : Env} (hk : env.scope.kind = .function) : ∀ {names : List (Str × NameKind)} {x : Str}, names.lookup x = some .free → env.kindOf x = some .cell →
    (names.map fun (n, k) => if (k == NameKind.free && env.scope.kind == .function && env.kindOf n == some .cell) = true then (n, NameKind.cell) else (n, k)).lookup x = some .cell
  | [], _, h, _ => by cases h
  | (n, k) :: r, x, h, hc => by
    rw [List.lookup_cons] at h
    show List.lookup x ((if (k == NameKind.free && env.scope.kind == .function && env.kindOf n == some .cell) = true then (n, NameKind.cell) else (n, k)) :: _) = _
    cases hx : x == n with
    | true =>
      rw [hx] at h
      have hkk : k = .free := Option.some.inj h
      have hxn : x = n := by simpa using hx
      rw [hkk, hk, ← hxn, hc]
      simp [List.lookup_cons]
    | false =>
      rw [hx] at h
      have ih := relabel_free (scope := scope) hk (names := r) h hc
      by_cases hq : (k == NameKind.free && env.scope.kind == .function && env.kindOf n == some .cell) = true
      · rw [if_pos hq, List.lookup_cons, hx]; exact ih
      · rw [if_neg hq, List.lookup_cons, hx]; exact ih
/-- what is a cell or free within the block is free in its own scope -/
theorem relabel_back {env : Env} : ∀ {names : List (Str × NameKind)} {x : Str}, (∀ y ∈ names, y.2 ≠ .cell) →
    ((names.map fun (n, k) => if (k == NameKind.free && env.scope.kind == .function && env.kindOf n == some .cell) = true then (n, NameKind.cell) else (n, k)).lookup x = some .cell ∨
     (names.map fun (n, k) => if (k == NameKind.free && env.scope.kind == .function && env.kindOf n == some .cell) = true then (n, NameKind.cell) else (n, k)).lookup x = some .free) → names.lookup x = some .free
  | [], _, _, h => by rcases h with h | h <;> cases h
  | (n, k) :: r, x, hn, h => by
    have ih := relabel_back (env := env) (names := r) (x := x) fun y hy => hn y (List.mem_cons_of_mem _ hy)
    rw [List.map_cons] at h
    rw [List.lookup_cons]
    by_cases hq : (k == NameKind.free && env.scope.kind == .function && env.kindOf n == some .cell) = true
    · have hk : k = .free := by
        rw [Bool.and_eq_true, Bool.and_eq_true] at hq
        simpa using hq.1.1
      simp only [hq, if_true, List.lookup_cons] at h
      cases hx : x == n with
      | true => rw [hk]
      | false =>
        rw [hx] at h
        exact ih h
    · simp only [hq, Bool.false_eq_true, if_false, List.lookup_cons] at h
      cases hx : x == n with
      | true =>
        rw [hx] at h
        rcases h with h | h
        · exact absurd (Option.some.inj h) (hn (n, k) List.mem_cons_self)
        · exact h
      | false =>
        rw [hx] at h
        exact ih h

/-- the block's context -/
def cxC (X : Cx) (N' : List Str) (scope : Scope) (C : Addr) (s₂ : Shared) (H₂ : Hp) (ex : List Addr) : Cx :=
  { X with N := N', s₀ := s₂, H₀ := H₂, env := compEnvC scope (clOf X.env.cells scope.names []) C X.env, outer := X.stack, stack := X.stack, ex := ex, fn := fun _ => false, pn := [], xe := fun _ _ => False }
/-- the block's slots: its own name, then names of the body's -/
def selS (is : List Nat) (σ : St) (v : Option V) : St := v :: is.map fun i => (σ[i]?).getD none
/-- what is asked of a comprehension's scope; S: the scope of the body, N its names -/
structure CompSc (S scope : Scope) (N : List Str) (x : Str) (ys : List Str) (is : List Nat) : Prop where
  kind : scope.kind = .function
  cell : ∀ y ∈ scope.names, y.2 ≠ .cell
  names : ∀ y ∈ scope.names, y.2 = .local → scope.names.lookup y.1 = some .local
  own : scope.names.lookup x = some .local
  free : ∀ y ∈ scope.names, y.2 = .free → S.names.lookup y.1 = some .cell
  vis : ∀ p ∈ ys.zip is, N[p.2]? = some p.1 ∧ scope.names.lookup p.1 = some .free
  len : ys.length = is.length
  nd : (x :: ys).Nodup
/-- the tests of a clause -/
def PF (X : Cx) (ifs : List Expr) (t : TT) : Prop :=
  ∀ (pins : List (Addr × Obj)) (s : Shared) (σ : St) (H : Hp) (Q : Bool → Hp → Prop), Inv X pins σ H s → t σ H Q →
    wpAny (model X.prog X.w) X.A (forIn ifs true fun c r => if r = true then do let ok ← isTrue c X.env (eval c X.env); pure (ForInStep.yield ok) else pure (ForInStep.yield r)) (TP X pins σ Q) X.xe s
structure QF (X : Cx) (ifs : List Expr) (t : TT) : Prop where
  out : PF X ifs t
def tYes : TT := fun _ H Q => Q true H
theorem qf_nil {X : Cx} : QF X [] tYes := ⟨fun _ _ _ H _ I h => wpAny_tests_nil ⟨H, I, h⟩⟩
theorem qf_one {X : Cx} {c : Expr} {t : TT} (h : QT X c t) : QF X [c] t := ⟨fun pins s σ H Q I hw => wpAny_tests_one (h.out pins s σ H Q I hw)⟩

section
variable {X : Cx} {S scope : Scope} {N : List Str} {x : Str} {ys : List Str} {is : List Nat} {pins : List (Addr × Obj)} {σ : St} {H₂ : Hp} {s₂ : Shared} {fp : List Addr}
theorem CompSc.cellOf' (K : CompSc S scope N x ys is) (hX : X.env.scope = S) (ok : X.Ok) : ∀ y ∈ scope.names, y.2 = .free → ∃ c, X.env.cells.lookup y.1 = some c := fun y hy h =>
  ok.has y.1 (.inl (by show X.env.scope.names.lookup y.1 = _; rw [hX]; exact K.free y hy h))
theorem CompSc.cl (K : CompSc S scope N x ys is) (hX : X.env.scope = S) (ok : X.Ok) : ∀ y c, (clOf X.env.cells scope.names []).lookup y = some c → X.env.cells.lookup y = some c :=
  clOf_get (K.cellOf' hX ok) fun _ _ z => by cases z
theorem mem_free {names : List (Str × NameKind)} {y : Str} {k : NameKind} (h : names.lookup y = some k) : (y, k) ∈ names := by
  induction names with
  | nil => cases h
  | cons p r ih =>
    obtain ⟨n, k'⟩ := p
    rw [List.lookup_cons] at h
    cases hx : y == n with
    | true =>
      rw [hx] at h
      have e1 : y = n := by simpa using hx
      have e2 : k' = k := Option.some.inj h
      rw [e1, e2]
      exact List.mem_cons_self
    | false =>
      rw [hx] at h
      exact List.mem_cons_of_mem _ (ih h)
/-- the block's context is in order -/
theorem cxC_ok (K : CompSc S scope N x ys is) (hX : X.env.scope = S) (I : Inv X pins σ H₂ s₂) {C : Addr} (hC : s₂.heap.objs.size ≤ C) (hfp : ∀ b ∈ fp, FpOk X pins H₂ b) (hlt : ∀ b ∈ fp, b < s₂.heap.objs.size) : (cxC X (x :: ys) scope C s₂ H₂ fp).Ok where
  mod := I.ok.mod
  kind := K.kind
  glob := I.ok.glob
  blt := I.ok.blt
  above := hC
  inj := fun y z c h1 h2 => I.ok.inj y z c (K.cl hX I.ok y c h1) (K.cl hX I.ok z c h2)
  has := fun y hy => clOf_has (relabel_back (env := X.env) K.cell hy)
  cab := fun y c h => by cases h
  hd := I.ok.hd
  frames := I.ok.frames
  stk := .inl rfl
  exf := fun b hb => ⟨fun e => absurd (Nat.lt_of_lt_of_le (hlt b hb) (Nat.le_trans hC (Nat.le_of_eq (Eq.symm e)))) (Nat.lt_irrefl _), fun y c h => (hfp b hb).2.2.2.2.1 y c (K.cl hX I.ok y c h)⟩
  bs := I.bs
  bsz := Nat.le_trans I.ok.bsz I.sz
  noex := fun b o e hb => by
    rcases (hfp b hb).2.2.2.1 with z | z
    · exact I.ok.noex b o e z
    · exact absurd (Nat.lt_of_lt_of_le (Heap.lt_size e) (Nat.le_trans I.ok.bsz z)) (Nat.lt_irrefl _)
  exfs := fun b hb z => by
    rcases List.mem_cons.mp (I.stkSub b z) with e | e
    · exact (hfp b hb).2.1 e
    · exact (hfp b hb).2.2.1 e
  funs := I.stack
  frf := I.stkFree
/-- the state at the block's entry: the list at D, the block's names at C -/
theorem cxC_inv (K : CompSc S scope N x ys is) (hX : X.env.scope = S) (hN : X.N = N) (hk : S.kind = .function) (I : Inv X pins σ H₂ s₂) {C D : Addr} {h₁ : Heap} {tk : Nat} {oD : Obj} (hC : s₂.heap.objs.size ≤ C) (hD : s₂.heap.objs.size ≤ D) (hDC : D ≠ C)
    (hfp : ∀ b ∈ fp, FpOk X pins H₂ b) (hlt : ∀ b ∈ fp, b < s₂.heap.objs.size) (old : ∀ b o, s₂.heap.get? b = some o → h₁.get? b = some o) (hn : h₁.Ns C fun _ => none) (hacc : h₁.get? D = some oD) (hod : ∀ v, oD.data ≠ .cell v) :
    Inv (cxC X (x :: ys) scope C s₂ H₂ fp) [(D, oD)] (selS is σ none) H₂ { s₂ with heap := h₁, toks := tk } := by
  have ok := cxC_ok K hX I hC hfp hlt
  refine ⟨ok, rfl, I.bare, Un.kept old, ⟨_, hn, fun i y v h1 h2 h3 => ?_⟩, fun y c h => ?_, I.hok.fresh hC, fun y c h => I.freeC y c (K.cl hX I.ok y c h), fun p hp => ?_, I.hok.kept old, ?_⟩
  · cases i with
    | zero =>
      have h2' : some (none : Option V) = some (some v) := h2
      cases h2'
    | succ i =>
      have h1' : ys[i]? = some y := h1
      have h2' : (is.map fun i => (σ[i]?).getD none)[i]? = some (some v) := h2
      rw [List.getElem?_map] at h2'
      cases hj : is[i]? with
      | none => rw [hj] at h2'; cases h2'
      | some j =>
        rw [hj] at h2'
        have h2'' : (σ[j]?).getD none = some v := Option.some.inj h2'
        have hσ : σ[j]? = some (some v) := by
          cases q : σ[j]? with
          | none => rw [q] at h2''; cases h2''
          | some z => rw [q] at h2''; exact congrArg some h2''
        have hz : (y, j) ∈ ys.zip is := by
          obtain ⟨a1, e1⟩ := List.getElem?_eq_some_iff.mp h1'
          obtain ⟨a2, e2⟩ := List.getElem?_eq_some_iff.mp hj
          rw [← e1, ← e2, ← List.getElem_zip (h := by rw [List.length_zip]; omega)]
          exact List.getElem_mem _
        obtain ⟨v1, v2⟩ := K.vis _ hz
        have kc : X.env.kindOf y = some .cell := by show X.env.scope.names.lookup y = _; rw [hX]; exact K.free _ (mem_free v2) rfl
        obtain ⟨m, hm, hl⟩ := I.loc
        obtain ⟨u, r, l⟩ := hl j y v (by rw [hN]; exact v1) hσ (.inr (.inl kc))
        refine ⟨u, r, .inr ?_⟩
        rcases l with ⟨l1, _⟩ | ⟨_, c, l2, l3⟩
        · rw [kc] at l1; cases l1
        · obtain ⟨c', hc'⟩ := clOf_has (cells := X.env.cells) (acc := []) v2
          have e : c' = c := by have := K.cl hX I.ok y c' hc'; rw [l2] at this; exact (Option.some.inj this).symm
          subst e
          refine ⟨.inl (relabel_free (scope := scope) (by rw [hX]; exact hk) v2 kc), c', hc', ?_⟩
          obtain ⟨o, ho, hd⟩ := l3
          exact ⟨o, old _ _ ho, hd⟩
  · obtain ⟨v, o, ho, hd⟩ := I.cell y c (K.cl hX I.ok y c h)
    exact ⟨v, o, old _ _ ho, hd⟩
  · have e : p = (D, oD) := by simpa [cxC] using hp
    subst e
    refine ⟨hacc, I.hok.fresh hD, hDC, fun z => ?_, hod⟩
    obtain ⟨_, o, ho, _⟩ := ok.funs.mem z
    exact absurd (Nat.lt_of_lt_of_le (Heap.lt_size ho) hD) (Nat.lt_irrefl _)
  · show (selS is σ none).length = (x :: ys).length
    unfold selS
    rw [List.length_cons, List.length_map, List.length_cons, K.len]
/-- behind the block: the list at D is tracked now -/
theorem cxC_end (I : Inv X pins σ H₂ s₂) {C D : Addr} {N' : List Str} {σ' : St} {H' : Hp} {s' : Shared} {pl : List (Addr × Obj)} (I' : Inv (cxC X N' scope C s₂ H₂ fp) pl σ' H' s') (hD : s₂.heap.objs.size ≤ D) (hDn : H' D = none)
    (hfp : ∀ b ∈ fp, FpOk X pins H₂ b) {zs : List V} {its : List Value} {n : Nat} (hz : zs.length ≤ sizeLine) (r : Vals zs its) (hd : s'.heap.get? D = some { cls := .type "list", data := .seq its.toArray n }) :
    Inv X pins σ (upd H' D (.lst zs)) s' := by
  have b : Un (frs X.stack) fp H₂ H' s₂.heap s'.heap := I'.base
  have ne : ∀ c o, s₂.heap.get? c = some o → c ≠ D := fun c o e z => absurd (Nat.lt_of_lt_of_le (Heap.lt_size e) (Nat.le_trans hD (Nat.le_of_eq (Eq.symm z)))) (Nat.lt_irrefl _)
  have D2 : H₂ D = none := I.hok.fresh hD
  refine I.call' I'.os ⟨b.keep, b.slot, fun c o e n hx => ?_, b.there, fun c xs e => ?_, fun c o u e => ?_, fun c ps e => ?_⟩ (fun c u e => ?_) I'.bare fun c hc => ⟨(hfp c hc).2.2.2.1, (hfp c hc).2.1, (hfp c hc).2.2.2.2.1, (hfp c hc).2.2.2.2.2⟩
  · rw [upd_ne (ne c o e)]; exact b.free c o e n hx
  · rw [upd_ne (ne_of_none e D2)]; exact b.tups c xs e
  · rw [upd_ne (ne_of_none e D2)]; exact b.frzs c o u e
  · rw [upd_ne (ne_of_none e D2)]; exact b.tbls c ps e
  · by_cases hc : c = D
    · subst hc
      rw [upd_same] at e
      cases e
      exact ⟨hz, its, n, r, hd⟩
    · rw [upd_ne hc] at e
      exact (I'.hok c u e).stay (fun _ _ _ q => q) (fun d q => by rw [upd_ne (ne_of_none q hDn)]; exact q) fun d xs q => by rw [upd_ne (ne_of_none q hDn)]; exact q
end

section
variable {prog : Program} {w : World} {A : Around} {R : Result → Shared → Prop} {s : Shared}
theorem comp_loop {elt target iter : Expr} {ifs : List Expr} {scope : Scope} {pos : Pos} {it acc : Value} {env : Env} (I : Nat → Shared → Prop)
    (turn : ∀ n s, I n s → wpAny (model prog w) A (pyNext it) (fun r s₁ => match r with
      | none => R (.ok .next) s₁
      | some v => wpAny (model prog w) A (letOwnedTupleGo target it v) (fun _ s₁' => wpAny (model prog w) A (assign target env v) (fun _ s₂ =>
          wpAny (model prog w) A (forIn ifs true fun c r => if r = true then do let ok ← isTrue c env (eval c env); pure (ForInStep.yield ok) else pure (ForInStep.yield r)) (fun ok s₃ =>
            if ok = true then wpAny (model prog w) A (eval elt env) (fun x s₄ =>
              wpAny (model prog w) A (call (.builtin "list.append") [acc, x]) (fun _ s₅ => ∃ m, m < n ∧ I m s₅) (fun _ _ => False) s₄) (fun _ _ => False) s₃
            else ∃ m, m < n ∧ I m s₃) (fun _ _ => False) s₂) (fun _ _ => False) s₁') (fun _ _ => False) s₁) (fun _ _ => False) s)
    (n : Nat) (h : I n s) :
    codeAny (model prog w) A (.compLoop (.ListComp elt [⟨target, iter, ifs, 0⟩] scope pos) 0 it acc env) R s := by
  refine codeAny_loop rfl I (fun n s hI => ?_) n h
  show wpAny _ A ((compTurn (.ListComp elt [⟨target, iter, ifs, 0⟩] scope pos) 0 it acc env).onRaise (fun x => do noteFrame x env; theTreesLotGoes x)) _ _ s
  refine wpAny_noted ?_
  rw [compTurn_list]
  have nf : ∀ {E : Value → Shared → Prop} (e : Value) (s' : Shared), False → E e s' := fun _ _ z => z.elim
  refine wpAny_bind (wpAny_standAt (wpAny_bind (wpAny_mono (turn n s hI) (fun r s₁ h₁ => ?_) nf)))
  cases r with
  | none => exact wpAny_pure h₁
  | some v =>
    refine wpAny_bind (wpAny_mono h₁ (fun _ s₁' h₁' => ?_) nf)
    refine wpAny_bind (wpAny_mono h₁' (fun _ s₂ h₂ => wpAny_bind (wpAny_mono h₂ (fun ok s₃ h₃ => ?_) nf)) nf)
    cases ok with
    | false => exact wpAny_pure ⟨rfl, h₃⟩
    | true =>
      exact wpAny_bind (wpAny_bind (wpAny_mono h₃ (fun x s₄ h₄ => wpAny_bind (wpAny_mono h₄ (fun _ s₅ h₅ => wpAny_pure (wpAny_pure ⟨rfl, h₅⟩)) nf)) nf))
end
/-- a comprehension's reading: W by the turn, a measure, the items so far -/
def CompW (is : List Nat) (tc : TT) (te : TE) (σ : St) (Q : VK) (J : It) (H1 : Hp) : Prop := ∃ W : Nat → Nat → List V → Hp → Prop, (∃ m, W 0 m [] H1) ∧ ∀ i m zs H, W i m zs H →
  (J.stop i H ∧ zs.length ≤ sizeLine ∧ ∀ p, H p = none → Q (.ref p) (upd H p (.lst zs))) ∨
  (J.go i H ∧ zs.length ≤ sizeLine ∧ ∀ x H', J.yld i H x H' → tc (selS is σ (some x)) H' fun b H2 => if b = true then te (selS is σ (some x)) H2 fun y H3 => ∃ m', m' < m ∧ W (i + 1) m' (zs ++ [y]) H3 else ∃ m', m' < m ∧ W (i + 1) m' zs H2)
def tComp (wi : TI) (is : List Nat) (tc : TT) (te : TE) : TE := fun σ H Q => wi σ H (CompW is tc te σ Q)
section
variable {X : Cx} {S scope : Scope} {N : List Str} {x : Str} {ys : List Str} {is : List Nat} {pins : List (Addr × Obj)} {σ : St} {H₂ : Hp} {s₂ : Shared} {fp : List Addr} {elt iter : Expr} {px pos : Pos} {ifs : List Expr} {tc : TT} {te : TE}
/-- the list, the block's names, the loop; behind it the list at D is tracked, C may turn -/
theorem comp_block {J : It} {it : Addr} {tn : Nat → Heap → Prop} {Q : VK} {RR : Value → Addr → Result → Shared → Prop} {E : Value → Shared → Prop} (K : CompSc S scope N x ys is) (hX : X.env.scope = S) (hN : X.N = N) (hk : S.kind = .function) (hc : X.calm = true)
    (hf : ∀ C s₂ H₂ ex, QF (cxC X (x :: ys) scope C s₂ H₂ ex) ifs tc) (he : ∀ C s₂ H₂ ex, QE (cxC X (x :: ys) scope C s₂ H₂ ex) elt te)
    (I : Inv X pins σ H₂ s₂) (T : Turn X.prog X.w X.K (.Name x px) J fp it tn) (st : tn 0 s₂.heap) (hfp : ∀ b ∈ fp, FpOk X pins H₂ b)
    {W : Nat → Nat → List V → Hp → Prop} {m0 : Nat} (w0 : W 0 m0 [] H₂)
    (turn : ∀ i m zs H, W i m zs H → (J.stop i H ∧ zs.length ≤ sizeLine ∧ ∀ p, H p = none → Q (.ref p) (upd H p (.lst zs))) ∨
      (J.go i H ∧ zs.length ≤ sizeLine ∧ ∀ x H', J.yld i H x H' → tc (selS is σ (some x)) H' fun b H2 => if b = true then te (selS is σ (some x)) H2 fun y H3 => ∃ m', m' < m ∧ W (i + 1) m' (zs ++ [y]) H3 else ∃ m', m' < m ∧ W (i + 1) m' zs H2))
    (fin : ∀ D C s' H' m', Inv X pins σ H' s' → FpOk X pins H' C → s'.heap.Ns C m' → Q (.ref D) H' → RR (.ref D) C (.ok .next) s') :
    wpAny (model X.prog X.w) X.A (newList []) (fun acc s₃ => wpAny (model X.prog X.w) X.A (newFunctionEnv scope X.env.globals (clOf X.env.cells scope.names []) [] X.env.qual none .none (some X.env)) (fun cenv s₄ =>
      codeAny (model X.prog X.w) X.A (.compStart (.ListComp elt [⟨.Name x px, iter, ifs, 0⟩] scope pos) 0 (.ref it) acc { cenv with scope := relabel scope X.env }) (RR acc cenv.locals) s₄) E s₃) E s₂ := by
  refine wpAny_newObj_type (wpAny_newFunctionEnv K.cell (by intro y hy; simp at hy) (fun h₁ hns₁ hsb₁ => ?_) K.kind)
  dsimp only at hns₁ hsb₁ ⊢
  generalize hH2 : s₂.heap.push { cls := .type "list", dict := none, data := .seq ([] : List Value).toArray } = H2 at hns₁ hsb₁ ⊢
  have hCs : H2.objs.size = s₂.heap.objs.size + 1 := by rw [← hH2, Heap.size_push]
  have hDC : s₂.heap.objs.size ≠ H2.objs.size := by rw [hCs]; exact Nat.ne_of_lt (Nat.lt_succ_self _)
  have hC : s₂.heap.objs.size ≤ H2.objs.size := by rw [hCs]; exact Nat.le_succ _
  have hlt : ∀ b ∈ fp, b < s₂.heap.objs.size := fun b hb => by obtain ⟨o, e, _⟩ := T.obj 0 _ st b hb; exact Heap.lt_size e
  have old : ∀ b o, s₂.heap.get? b = some o → h₁.get? b = some o := fun b o e => hsb₁.extBut b o (by rw [hCs]; exact Nat.ne_of_lt (Nat.lt_succ_of_lt (Heap.lt_size e))) (Heap.get?_push_of_some _ (hH2 ▸ Heap.get?_push_of_some _ e))
  have hacc : h₁.get? s₂.heap.objs.size = some { cls := .type "list", data := .seq ([] : List Value).toArray 0 } := hsb₁.extBut _ _ hDC (Heap.get?_push_of_some _ (hH2 ▸ Heap.get?_push_size _ rfl))
  have st₁ : tn 0 h₁ := T.keep _ _ _ st fun b _ o e => old b o e
  -- the records of the iterator through the block
  have fpC : ∀ {H' : Hp} {pl : List (Addr × Obj)}, (∀ p ∈ pl, ∀ b ∈ fp, p.1 ≠ b) → (∀ b ∈ fp, H' b = none) → ∀ b ∈ fp, FpOk (cxC X (x :: ys) scope H2.objs.size s₂ H₂ fp) pl H' b := fun {H' pl} hpl hn b hb => by
    have ok := cxC_ok K hX I hC hfp hlt
    exact ⟨hn b hb, (ok.exf b hb).1, ok.exfs b hb, .inl hb, (ok.exf b hb).2, fun p hp => hpl p hp b hb⟩
  have Dfp : ∀ (o : Obj), ∀ p ∈ [(s₂.heap.objs.size, o)], ∀ b ∈ fp, p.1 ≠ b := fun o p hp b hb e => by
    have e1 : p = (s₂.heap.objs.size, o) := by simpa using hp
    subst e1
    exact absurd (hlt b hb) (by rw [← e]; exact Nat.lt_irrefl _)
  have loop : ∀ s₃ : Shared, s₃ = { s₂ with heap := h₁, toks := s₂.toks + ([] : List (Str × Value)).length } →
      codeAny (model X.prog X.w) X.A (.compLoop (.ListComp elt [⟨.Name x px, iter, ifs, 0⟩] scope pos) 0 (.ref it) (.ref s₂.heap.objs.size) (compEnvC scope (clOf X.env.cells scope.names []) H2.objs.size X.env))
        (RR (.ref s₂.heap.objs.size) H2.objs.size) s₃ := by
    rintro s₃ rfl
    have I0 := cxC_inv K hX hN hk I (tk := s₂.toks + ([] : List (Str × Value)).length) hC (Nat.le_refl _) hDC hfp hlt old hns₁ hacc (fun v z => by cases z)
    refine comp_loop (fun n s' => ∃ (i : Nat) (v0 : Option V) (zs : List V) (its : List Value) (k : Nat) (H' : Hp), Inv (cxC X (x :: ys) scope H2.objs.size s₂ H₂ fp) [(s₂.heap.objs.size, { cls := .type "list", data := .seq its.toArray k })] (selS is σ v0) H' s' ∧
      Vals zs its ∧ tn i s'.heap ∧ (∀ b ∈ fp, H' b = none) ∧ W i n zs H') ?_ m0 ⟨0, none, [], [], 0, H₂, I0, .nil, st₁, fun b hb => (hfp b hb).1, w0⟩
    rintro n s3 ⟨i, v0, zs, its, k, H3, I3, rv, st3, fr3, w3⟩
    have hD3 := I3.pin _ (List.mem_append_right _ (List.mem_singleton.mpr rfl))
    rcases turn i n zs H3 w3 with ⟨stop, hz, q⟩ | ⟨go, hz, step⟩
    · refine thn (T.done (cxC X (x :: ys) scope H2.objs.size s₂ H₂ fp) rfl rfl rfl hc i _ s3 _ H3 _ I3 (fpC (Dfp _) fr3) st3 stop) fun r s4 ⟨hr, I4⟩ => ?_
      subst hr
      have hD4 := I4.pin _ (List.mem_append_right _ (List.mem_singleton.mpr rfl))
      have I5 := cxC_end I I4 (Nat.le_refl _) hD4.2.1 hfp hz rv hD4.1
      obtain ⟨m', hm', _⟩ := I4.loc
      refine fin _ _ s4 _ m' I5 ?_ hm' (q _ hD4.2.1)
      refine I.fpOk hC ?_
      rw [upd_ne (Ne.symm hDC)]
      exact I4.free
    · refine thn (T.item (cxC X (x :: ys) scope H2.objs.size s₂ H₂ fp) rfl rfl rfl hc i _ s3 _ H3 _ I3 (fpC (Dfp _) fr3) st3 go) fun r s4 ⟨u, hr, h4⟩ => ?_
      subst hr
      refine thn h4 fun _ s5 ⟨xv, H5, I5, r5, y5, st5, fr5⟩ => ?_
      have I5' := I5.pinned (fpC (Dfp _) fr5) (T.obj _ _ st5)
      have pg : PG (cxC X (x :: ys) scope H2.objs.size s₂ H₂ fp) (.Name x px) (gName 0) := pg_name K.nd rfl (.inl (lookup_relabel_local K.own)) (.inr (lookup_relabel_local K.own))
      refine thn (pg _ s5 _ H5 xv u (fun σ2 H2 => σ2 = selS is σ (some xv) ∧ H2 = H5) I5' r5 ⟨rfl, rfl⟩) fun _ s6 ⟨σ6, H6, I6, e6, e6'⟩ => ?_
      subst e6
      subst e6'
      -- what stays of the list and the iterator
      have back : ∀ {s7 : Shared} {H7 : Hp}, Inv (cxC X (x :: ys) scope H2.objs.size s₂ H₂ fp) ([(s₂.heap.objs.size, { cls := .type "list", data := .seq its.toArray k })] ++ pinsAt fp s5.heap) (selS is σ (some xv)) H7 s7 →
          tn (i + 1) s7.heap ∧ (∀ b ∈ fp, H7 b = none) ∧ s7.heap.get? s₂.heap.objs.size = some { cls := .type "list", data := .seq its.toArray k } ∧ H7 s₂.heap.objs.size = none := fun {s7 H7} I7 => by
        refine ⟨T.keep _ _ _ st5 fun b hb o e => (I7.pin (b, o) (List.mem_append_right _ (List.mem_append_right _ (mem_pinsAt hb e)))).1, fun b hb => ?_, ?_, ?_⟩
        · obtain ⟨o, e, d⟩ := T.obj _ _ st5 b hb
          exact (I7.pin (b, o) (List.mem_append_right _ (List.mem_append_right _ (mem_pinsAt hb e)))).2.1
        · exact (I7.pin (s₂.heap.objs.size, { cls := .type "list", data := .seq its.toArray k }) (List.mem_append_right _ (List.mem_append_left _ (List.mem_singleton.mpr rfl)))).1
        · exact (I7.pin (s₂.heap.objs.size, { cls := .type "list", data := .seq its.toArray k }) (List.mem_append_right _ (List.mem_append_left _ (List.mem_singleton.mpr rfl)))).2.1
      refine thn ((hf _ _ _ _).out _ s6 _ H6 _ I6 (step xv H6 y5)) fun b s7 ⟨H7, I7, q7⟩ => ?_
      cases b with
      | false =>
        have q7' : ∃ m', m' < n ∧ W (i + 1) m' zs H7 := by simpa using q7
        obtain ⟨m', hm', w7⟩ := q7'
        obtain ⟨b1, b2, b3, b4⟩ := back I7
        rw [if_neg Bool.false_ne_true]
        exact ⟨m', hm', i + 1, some xv, zs, its, k, H7, I7.unpinned, rv, b1, b2, w7⟩
      | true =>
        rw [if_pos rfl]
        have q7' := q7
        rw [if_pos rfl] at q7'
        refine thn ((he _ _ _ _).out _ s7 _ H7 _ I7 q7') fun yv s8 ⟨y, H8, I8, r8, m', hm', w8⟩ => ?_
        obtain ⟨b1, b2, b3, b4⟩ := back I8
        refine append_at b3 (fun h9 sb9 e9 => ?_) (by rw [List.size_toArray, ← rv.length]; exact hz)
        have ok := cxC_ok K hX I hC hfp hlt
        have I8' : Inv (cxC X (x :: ys) scope H2.objs.size s₂ H₂ fp) [] (selS is σ (some xv)) H8 s8 := I8.pins_of fun p hp => by cases hp
        have I9 : Inv (cxC X (x :: ys) scope H2.objs.size s₂ H₂ fp) [] (selS is σ (some xv)) H8 { s8 with heap := h9 } := I8'.turned (t' := s8.toks) (it := s₂.heap.objs.size) (fun b o hb e => (sb9.2 b hb).trans e) b4 hDC (.inr (Nat.le_refl _))
          (fun y c h z => by
            obtain ⟨v, o, ho, _⟩ := I.cell y c (K.cl hX I.ok y c h)
            have := Heap.lt_size ho
            rw [z] at this
            exact Nat.lt_irrefl _ this) (fun p hp => by cases hp)
        refine ⟨m', hm', i + 1, some xv, zs ++ [y], its ++ [yv], k + 1, H8, ?_, rv.append (.cons r8 .nil), T.keep _ _ _ b1 fun b hb o e => (sb9.2 b fun z => absurd (hlt b hb) (by rw [z]; exact Nat.lt_irrefl _)).trans e, b2, w8⟩
        refine I9.pins_of fun p hp => ?_
        have e1 : p = (s₂.heap.objs.size, { cls := .type "list", data := .seq (its ++ [yv]).toArray (k + 1) }) := by simpa using hp
        subst e1
        refine ⟨by rw [e9, List.push_toArray], b4, hDC, fun z => ?_, fun v z => by cases z⟩
        obtain ⟨_, o, ho, _⟩ := ok.funs.mem z
        exact absurd (Heap.lt_size ho) (Nat.lt_irrefl _)
  exact codeAny_compStart_list (loop _ rfl) (T.self _ 0 _ _ _ st₁ (loop _ rfl))
end

section
variable {X : Cx} {S scope : Scope} {N : List Str} {x : Str} {ys : List Str} {is : List Nat} {elt iter : Expr} {px pos : Pos} {ifs : List Expr} {wi : TI} {tc : TT} {te : TE}
/-- [elt for x in iter if ..]; it never raises -/
theorem qe_comp (K : CompSc S scope N x ys is) (hi : QI X (.Name x px) iter wi) (hf : ∀ C s₂ H₂ ex, QF (cxC X (x :: ys) scope C s₂ H₂ ex) ifs tc) (he : ∀ C s₂ H₂ ex, QE (cxC X (x :: ys) scope C s₂ H₂ ex) elt te)
    (hc : X.calm = true := by rfl) (hX : X.env.scope = S := by rfl) (hN : X.N = N := by rfl) (hk : S.kind = .function := by rfl) (hs : ∀ v, foldedSetIterable iter X.env v = pure v := by intro _; rfl) :
    QE X (.ListComp elt [⟨.Name x px, iter, ifs, 0⟩] scope pos) (tComp wi is tc te) := by
  refine ⟨fun pins s σ H Q I h => ?_⟩
  rw [eval_ListComp]
  refine wpAny_comprehension_free (use := none) rfl hs (closure_of (K.cellOf' hX I.ok)) K.kind K.names (thn (hi.out pins s σ H _ I h) fun v s1 h1 => thn h1 fun itv s2 h2 => ?_)
  obtain ⟨it, fp, tn, J, H2, rfl, I2, T, st2, f2, W, ⟨m0, w0⟩, turn⟩ := h2
  refine comp_block (RR := fun acc C => compPost (model X.prog X.w) X.A X.xe none (EP X pins σ Q) acc C) K hX hN hk hc hf he I2 T st2 f2 w0 turn ?_
  intro D C s' H' m' I' fC hm' q
  obtain ⟨f0, f1, f3, f4, f5, f6⟩ := fC
  exact ⟨m', hm', fun h' hs' => ⟨.ref D, H', I'.turned (t' := s'.toks) (fun b o hb e => (hs'.2 b hb).trans e) f0 f1 f4 f5 f6, rfl, q⟩⟩
end
/-- the form one uses over a range: lo, lo + 1, .. n of them -/
theorem comp_range {lo : Int} {n : Nat} {is : List Nat} {tc : TT} {te : TE} {σ : St} {H : Hp} {Q : VK} (Pv : Nat → List V → Hp → Prop) (h0 : Pv 0 [] H) (hl : ∀ i zs H, Pv i zs H → zs.length ≤ sizeLine)
    (hs : ∀ i zs H (R : List V → Hp → Prop), (∀ zs H, Pv (i + 1) zs H → R zs H) → i < n → Pv i zs H → tc (selS is σ (some (.int (lo + i)))) H fun b H2 => if b = true then te (selS is σ (some (.int (lo + i)))) H2 fun y H3 => R (zs ++ [y]) H3 else R zs H2)
    (hd : ∀ zs H, Pv n zs H → ∀ p, H p = none → Q (.ref p) (upd H p (.lst zs))) :
    CompW is tc te σ Q (Itr lo n) H := by
  refine ⟨fun i m zs H => m = n - i ∧ i ≤ n ∧ Pv i zs H, ⟨n, by simp, Nat.zero_le _, h0⟩, ?_⟩
  rintro i m zs H ⟨rfl, hi, p⟩
  by_cases hlt : i < n
  · refine .inr ⟨hlt, hl i zs H p, fun x H' y => ?_⟩
    obtain ⟨e, y⟩ := y
    subst e y
    exact hs i zs _ (fun zs H => ∃ m', m' < n - i ∧ m' = n - (i + 1) ∧ i + 1 ≤ n ∧ Pv (i + 1) zs H) (fun zs H q => ⟨n - (i + 1), by omega, rfl, hlt, q⟩) hlt p
  · have e : i = n := by omega
    subst e
    exact .inl ⟨Nat.le_refl _, hl _ _ _ p, hd zs H p⟩
/-- over a tuple -/
theorem comp_tup {K : PySem.W.Frag} {a : Addr} {xs : List V} {is : List Nat} {tc : TT} {te : TE} {σ : St} {H : Hp} {Q : VK} (Pv : Nat → List V → Hp → Prop) (h0 : Pv 0 [] H) (hl : ∀ i zs H, Pv i zs H → zs.length ≤ sizeLine) (hq : ∀ i zs H, Pv i zs H → SqT K H a xs)
    (hs : ∀ i x zs H (R : List V → Hp → Prop), (∀ zs H, Pv (i + 1) zs H → R zs H) → xs[i]? = some x → Pv i zs H → tc (selS is σ (some x)) H fun b H2 => if b = true then te (selS is σ (some x)) H2 fun y H3 => R (zs ++ [y]) H3 else R zs H2)
    (hd : ∀ zs H, Pv xs.length zs H → ∀ p, H p = none → Q (.ref p) (upd H p (.lst zs))) :
    CompW is tc te σ Q (Itt K a) H := by
  refine ⟨fun i m zs H => m = xs.length - i ∧ i ≤ xs.length ∧ Pv i zs H, ⟨xs.length, by simp, Nat.zero_le _, h0⟩, ?_⟩
  rintro i m zs H ⟨rfl, hi, p⟩
  by_cases hlt : i < xs.length
  · refine .inr ⟨⟨xs, xs[i], hq i zs H p, List.getElem?_eq_getElem hlt⟩, hl i zs H p, fun x H' y => ?_⟩
    obtain ⟨e, y⟩ := y
    subst e
    exact hs i x zs _ (fun zs H => ∃ m', m' < xs.length - i ∧ m' = xs.length - (i + 1) ∧ i + 1 ≤ xs.length ∧ Pv (i + 1) zs H) (fun zs H q => ⟨xs.length - (i + 1), by omega, rfl, hlt, q⟩) (y xs (hq i zs _ p)) p
  · have e : i = xs.length := by omega
    exact .inl ⟨⟨xs, hq i zs H p, by omega⟩, hl _ _ _ p, by rw [e] at p; exact hd zs H p⟩
end L2

set_option Elab.async false
set_option linter.all false
set_option maxRecDepth 100000
set_option maxHeartbeats 1000000
namespace HT
open PySem PySem.Spec PyProof.Rows
section
variable {prog : Program} {w : World} {A : Around} {E : Value → Shared → Prop} {s : Shared}
end
end HT
namespace L2
open PySem PySem.Spec PyProof.Rows
section
variable {X : Cx} {e st : Expr} {te ts : TE} {pos p2 : Pos}
theorem ints_eqAt {A : Around} {s : Shared} {xs : List V} {its its2 : List Value} (r : Vals xs its) (r2 : Vals xs its2) (f : xs.all flatV = true) : ∀ j (h1 : j < its.toArray.size) (h2 : j < its2.toArray.size), SeqAt.EqAt A s its.toArray[j] its2.toArray[j] true := by
  intro j h1 h2
  have l1 := r.length
  have hj : j < xs.length := by rw [l1]; simpa using h1
  obtain ⟨u, e1, q1⟩ := r.get (List.getElem?_eq_getElem hj)
  obtain ⟨u2, e2, q2⟩ := r2.get (List.getElem?_eq_getElem hj)
  have f1 : flatV xs[j] = true := List.all_eq_true.mp f _ (List.getElem_mem hj)
  have e1' : its.toArray[j] = u := by
    have : its[j]? = some its[j] := List.getElem?_eq_getElem (by simpa using h1)
    rw [e1] at this
    simpa using (Option.some.inj this).symm
  have e2' : its2.toArray[j] = u2 := by
    have : its2[j]? = some its2[j] := List.getElem?_eq_getElem (by simpa using h2)
    rw [e2] at this
    simpa using (Option.some.inj this).symm
  rw [e1', e2']
  have z := eqAt_V (A := A) (s := s) q1 q2 f1 f1
  have e : eqV xs[j] xs[j] = true := by
    cases h : xs[j] with
    | non => rfl
    | bl b => simp [eqV]
    | int i => simp [eqV]
    | str x => simp [eqV]
    | _ => rw [h] at f1; cases f1
  rw [e] at z
  exact z
def rSameT (K : PySem.W.Frag) (b : Bool) : R2 := fun x y H Q => ∃ a c xs, x = .ref a ∧ y = .ref c ∧ SqT K H a xs ∧ SqT K H c xs ∧ xs.all flatV = true ∧ Q (.bl b) H
theorem all_true (n : Nat) : ((List.range n).all fun _ => true) = true := by simp
theorem op_neT (hu : X.A.units < cLine) : OpR X (compareOp .NotEq) (rSameT X.K false) := by
  intro pins s σ H x y v u Q I rx ry h
  obtain ⟨a, c, xs, rfl, rfl, ha, hc, f, q⟩ := h
  cases rx
  cases ry
  obtain ⟨its, r, p, _⟩ := I.tuple ha
  obtain ⟨its2, r2, p2, _⟩ := I.tuple hc
  refine SeqAt.RcNeAt.tuples (e := fun _ => true) p p2 hu (ints_eqAt r r2 f) X.prog X.w _ _ (fin_bl I q ?_)
  rw [all_true, List.size_toArray, List.size_toArray, ← r.length, ← r2.length]
  simp
end
theorem units_of {k : Nat} {A : Around} (hr : Room k A) : A.units < cLine := hr.units0
end L2

set_option Elab.async false
set_option linter.all false
set_option maxRecDepth 100000
set_option maxHeartbeats 1000000
namespace RvT
open PySem PySem.Spec PyProof.Rows
theorem owner_rev : Manifest.owners.lookup (String.ofList ['d', 'e', 's', 'r', 'e', 'v', 'e', 'r'].reverse) = some Manifest.sig_reversed := by kernel_rfl
theorem slot_next : Slot "reversed" "__next__" "reversed.__next__" :=
  .of (owner := "reversed") (n := "__next__") (by rw [typeLookup_type, builtinLookup_eq_fast]; kernel_rfl) (by decide +kernel) (by decide +kernel) (by decide +kernel)
    (by first | exact .inl (by decide +kernel) | exact .inr (by decide +kernel)) (by rw [isSubtype_type]; kernel_rfl)
theorem entry_next : entryFor table "reversed.__next__" = some Builtin.«reversed.__next__» := entryFor_of_tree (by kernel_rfl)
theorem args_next (a : Value) : argsOk "reversed.__next__" ⟨[a], []⟩ := by
  unfold argsOk; rw [signature?_of (id := "reversed.__next__") (n := ['_', '_', 't', 'x', 'e', 'n', '_', '_']) (o := ['d', 'e', 's', 'r', 'e', 'v', 'e', 'r']) (by kernel_rfl) owner_rev]; kernel_rfl
theorem slot_iter : Slot "reversed" "__iter__" "reversed.__iter__" :=
  .of (owner := "reversed") (n := "__iter__") (by rw [typeLookup_type, builtinLookup_eq_fast]; kernel_rfl) (by decide +kernel) (by decide +kernel) (by decide +kernel)
    (by first | exact .inl (by decide +kernel) | exact .inr (by decide +kernel)) (by rw [isSubtype_type]; kernel_rfl)
theorem args_iter (a : Value) : argsOk "reversed.__iter__" ⟨[a], []⟩ := by
  unfold argsOk; rw [signature?_of (id := "reversed.__iter__") (n := ['_', '_', 'r', 'e', 't', 'i', '_', '_']) (o := ['d', 'e', 's', 'r', 'e', 'v', 'e', 'r']) (by kernel_rfl) owner_rev]; kernel_rfl
theorem entry_iter : entryFor table "reversed.__iter__" = some Builtin.«dict_keyiterator.__iter__» :=
  entryFor_alias (id' := "dict_keyiterator.__iter__") (by kernel_rfl) (by first | rfl | decide +kernel | (unfold String.splitOn; simp +decide [String.splitOnAux])) (by decide +kernel) (by kernel_rfl)
theorem slot_init : Slot "reversed" "__init__" "object.__init__" :=
  .of (owner := "object") (n := "__init__") (by rw [typeLookup_type, builtinLookup_eq_fast]; kernel_rfl) (by decide +kernel) (by decide +kernel) (by decide +kernel)
    (by first | exact .inl (by decide +kernel) | exact .inr (by decide +kernel)) (by rw [isSubtype_type]; kernel_rfl)
theorem called : TypeCalled "reversed" "reversed.__new__" "object.__init__" :=
  ⟨by decide +kernel, F.create_reversed, ⟨_, _, F.mro_reversed⟩, F.made_reversed, F.plain_reversed_new, F.sub_reversed_self, slot_init⟩
theorem no_reversed : typeLookup (.type "tuple") "__reversed__" = pure none := by rw [typeLookup_type, builtinLookup_eq_fast]; kernel_rfl
theorem sub_tuple_dict : isSubtype (.type "tuple") (.type "dict") = pure false := by rw [isSubtype_type]; kernel_rfl
def revObj (t : Addr) (i : Int) : Obj := { cls := .type "reversed", data := .fields #[.ref t, rawInt i] }
def IsRev (h : Heap) (a t : Addr) (i : Int) : Prop := ∃ o, h.get? a = some o ∧ o.cls = .type "reversed" ∧ o.data = .fields #[.ref t, rawInt i]
theorem IsRev.typeIs {s : Shared} {a t : Addr} {i : Int} (x : IsRev s.heap a t i) : s.TypeIs (.ref a) "reversed" := let ⟨o, ho, hc, _⟩ := x; ⟨o, ho, hc⟩
theorem IsRev.at {h h' : Heap} {a t : Addr} {i : Int} (x : IsRev h a t i) (e : ∀ o, h.get? a = some o → h'.get? a = some o) : IsRev h' a t i := let ⟨o, ho, r⟩ := x; ⟨o, e _ ho, r⟩
section
variable {prog : Program} {w : World} {A : Around} {E : Value → Shared → Prop} {s : Shared}
theorem meets_new (t : Addr) (items : Array Value) (hz : items.size < 2 ^ 63) :
    Meets (Builtin.«reversed.__new__» ⟨[.type "reversed", .ref t], []⟩) (fun _ R s => IsTup s.heap t items ∧ ∀ tk, R (.ok (.ret (.ref s.heap.objs.size))) { s with heap := s.heap.push (revObj t ((items.size : Int) - 1)), toks := tk }) :=
  .of_wp fun prog w A R s h => by
    obtain ⟨ht, h⟩ := h
    unfold Builtin.«reversed.__new__»
    refine wpAny_bind (wpAny_of_eq (newClass_reversed _) ?_)
    try dsimp only
    refine wpAny_bind (wpAny_of_eq (a := ()) (by first | rfl | kernel_rfl) ?_)
    refine wpAny_bind (wpAny_of_eq (a := ()) (by first | rfl | kernel_rfl) ?_)
    try dsimp only
    refine wpAny_bind (wpAny_specialOf ht.typeIs no_reversed ?_)
    try dsimp only
    refine wpAny_bind ?_
    show wpAny _ _ (isInstance (Value.ref t) (.type "dict") >>= _) _ _ _
    refine wpAny_bind (wpAny_isInstance (T := "tuple") (b := false) ht.typeIs sub_tuple_dict ?_)
    simp only [Bool.false_eq_true, if_false]
    refine wpAny_bind (wpAny_specialOf ht.typeIs PyProof.Rows.slot_tuple_getitem.lookup ?_)
    try dsimp only
    rw [if_pos (by decide +kernel)]
    refine wpAny_pure ?_
    simp only [Bool.not_true, Bool.false_eq_true, if_false]
    refine wpAny_bind (len_tuple ht (by omega) ?_)
    refine wpAny_bind (wpAny_of_eq (a := some (items.size : Int)) rfl ?_)
    try dsimp only
    refine wpAny_bind (m := newObj (.type "reversed") (.fields #[.ref t, rawInt ((items.size : Int) - 1)])) (wpAny_newObj_type ?_)
    exact wpAny_pure ⟨_, rfl, h _⟩
theorem call_rev {t : Addr} {items : Array Value} {Q : Value → Shared → Prop} (ht : IsTup s.heap t items) (hz : items.size < 2 ^ 63) (h : ∀ tk, Q (.ref s.heap.objs.size) { s with heap := s.heap.push (revObj t ((items.size : Int) - 1)), toks := tk }) :
    wpAny (model prog w) A (call (.type "reversed") [.ref t]) Q E s :=
  callType_new called (by decide) (F.typeCall_reversed_1 _) (F.newCall_reversed_1 _) (fun obj => F.args_object_init_2 obj _) F.entry_reversed_new (meets_new t items hz)
    ⟨ht, fun tk => ⟨⟨_, Heap.get?_push_size _ rfl, rfl⟩, h tk⟩⟩
theorem next_item {it t : Addr} {i : Nat} {items : Array Value} {x : Value} {Q : Option Value → Shared → Prop} (hit : IsRev s.heap it t (i : Int)) (ht : IsTup s.heap t items) (hi : (i : Int) < 2 ^ 63) (hx : items[i]? = some x) (hne : t ≠ it)
    (hQ : ∀ h' tk, IsRev h' it t ((i : Int) - 1) → Heap.SameBut it s.heap h' → Q (some x) { s with heap := h', toks := tk }) : wpAny (model prog w) A (pyNext (.ref it)) Q E s := by
  obtain ⟨o, ho, hc, hd⟩ := id hit
  unfold pyNext
  refine wpAny_bind (wpAny_attempt (wpAny_callSpecial?_slot (name := Str.ofString "__next__") hit.typeIs slot_next
    (wpAny_call_entry slot_next hit.typeIs entry_next ?_ (args_next _))))
  unfold Builtin.«reversed.__next__»
  refine wpAny_bind (wpAny_of_eq (a := (Value.ref it, [])) rfl ?_)
  try dsimp only
  refine wpAny_bind (wpAny_field ho hd (x := .ref t) rfl ?_)
  refine wpAny_bind (wpAny_field ho hd (x := rawInt (i : Int)) rfl ?_)
  show wpAny _ _ (if (i : Int) < 0 then _ else _) _ _ s
  rw [if_neg (by omega)]
  refine wpAny_bind (wpAny_specialOf ht.typeIs PyProof.Rows.slot_tuple_getitem.lookup ?_)
  simp only [Option.isNone_some, Bool.false_eq_true, if_false]
  refine wpAny_bind (wpAny_mkInt ?_)
  have hsz := (Array.getElem?_eq_some_iff.mp hx).1
  refine wpAny_bind (wpAny_attempt (getItem_tuple (s := { s with toks := s.toks + 1 }) (j := i) ht (by omega) hi (by rw [seqIndex_of (by omega) (by omega), Int.toNat_natCast]) hx ?_))
  show wpAny _ _ (field (.ref it) 1 >>= _) _ _ _
  refine wpAny_bind (wpAny_field (s := { s with toks := s.toks + 1 }) ho hd (x := rawInt (i : Int)) rfl ?_)
  show wpAny _ _ (setField (.ref it) 1 (rawInt ((i : Int) - 1)) >>= _) _ _ _
  refine wpAny_bind (wpAny_setField (s := { s with toks := s.toks + 1 }) ho hd (by simp) ?_)
  refine wpAny_pure ⟨x, rfl, wpAny_pure (hQ _ _ ?_ (Heap.SameBut.update ..))⟩
  exact ⟨_, Heap.get?_update_self _ ho (Obj.isFreed_of_fields (Obj.data_mapFields hd _)), (Obj.cls_mapFields ..).trans hc, by
    rw [Obj.data_mapFields hd]; simp⟩
theorem next_end {it t : Addr} {Q : Option Value → Shared → Prop} (hh : A.handled = none) (hit : IsRev s.heap it t (-1))
    (hQ : ∀ h', (∀ b o, b ≠ it → s.heap.get? b = some o → h'.get? b = some o) → Q none { s with heap := h' }) : wpAny (model prog w) A (pyNext (.ref it)) Q E s := by
  obtain ⟨o, ho, hc, hd⟩ := id hit
  unfold pyNext
  refine wpAny_bind (wpAny_attempt (wpAny_callSpecial?_slot (name := Str.ofString "__next__") hit.typeIs slot_next
    (wpAny_call_entry slot_next hit.typeIs entry_next ?_ (args_next _))))
  unfold Builtin.«reversed.__next__»
  refine wpAny_bind (wpAny_of_eq (a := (Value.ref it, [])) rfl ?_)
  try dsimp only
  refine wpAny_bind (wpAny_field ho hd (x := .ref t) rfl ?_)
  refine wpAny_bind (wpAny_field ho hd (x := rawInt (-1)) rfl ?_)
  show wpAny _ _ (if (-1 : Int) < 0 then _ else _) _ _ s
  rw [if_pos (by decide)]
  refine wpAny_bind (wpAny_rule ?_)
  refine wpAny_bind ?_
  show wpAny _ _ (setField (.ref it) 1 (rawInt (-1)) >>= _) _ _ _
  refine wpAny_bind (wpAny_setField ho hd (by simp) ?_)
  have ho2 := Heap.get?_update_self (Obj.mapFields (·.setIfInBounds 1 (rawInt (-1)))) ho (Obj.isFreed_of_fields (Obj.data_mapFields hd _))
  refine wpAny_setField ho2 (Obj.data_mapFields hd _) (by simp) ?_
  first
  | show wpAny _ _ (newExc (.type "StopIteration") [] >>= _) _ _ _
  | (refine wpAny_bind ?_; show wpAny _ _ (newExc (.type "StopIteration") [] >>= _) _ _ _)
  refine wpAny_bind ?_
  simp only [newExc, newTuple]
  refine wpAny_bind (wpAny_newObj_type ?_ (by size_fits))
  refine wpAny_bind (m := firstArgMember _ _) (wpAny_of_eq (a := Value.none) (by first | rfl | (simp only [firstArgMember]; rfl)) ?_)
  refine wpAny_newObj_type ?_ (by size_fits)
  simp only [raiseNew]
  refine wpAny_bind (wpAny_handled ?_)
  first | rw [show A.in1.handled = none from hh] | rw [hh]
  refine wpAny_bind (wpAny_pure (wpAny_throw ?_))
  refine wpAny_bind (wpAny_isInstance (T := "StopIteration") (b := true) ⟨_, Heap.get?_push_size _ rfl, rfl⟩ isSubtype_stop ?_)
  refine wpAny_pure (hQ _ fun b ob hb e => ?_)
  exact Heap.get?_push_of_some _ (Heap.get?_push_of_some _ ((Heap.get?_update_other _ _ (Ne.symm hb)).trans ((Heap.get?_update_other _ _ (Ne.symm hb)).trans e)))
theorem iter_self {it t : Addr} {i : Int} {Q : Value → Shared → Prop} (hit : IsRev s.heap it t i) (h : Q (.ref it) s) : wpAny (model prog w) A (pyIter (.ref it)) Q E s := by
  refine wpAny_pyIter_slot hit.typeIs slot_iter (wpAny_call_entry slot_iter hit.typeIs entry_iter ?_ (args_iter _))
  show wpAny _ _ (ret (.ref it)) _ _ s
  exact wpAny_pure ⟨_, rfl, "reversed", _, hit.typeIs, slot_next.lookup, h⟩
end
end RvT
namespace L2
open PySem PySem.Spec PyProof.Rows
/-- the tuple at a, of n items, from behind -/
def Itv (K : PySem.W.Frag) (a : Addr) (n : Nat) : It :=
  ⟨fun i H => ∃ xs x, SqT K H a xs ∧ xs.length = n ∧ xs.reverse[i]? = some x, fun i H x H' => H' = H ∧ ∀ xs, SqT K H a xs → xs.reverse[i]? = some x, fun i _ => i = n⟩
theorem turn_rev {P : Program} {w : World} {K : PySem.W.Frag} {tg : Expr} (a it : Addr) (n : Nat) (hne : a ≠ it) : Turn P w K tg (Itv K a n) [it] it (fun i h => RvT.IsRev h it a ((n : Int) - 1 - (i : Int))) where
  mem := by simp
  obj := fun i h st b hb => by
    have e : b = it := by simpa using hb
    subst e
    obtain ⟨o, e, c, d⟩ := st
    exact ⟨o, e, fun v z => by rw [d] at z; cases z⟩
  keep := fun i h h' st k => st.at fun o e => k it (by simp) o e
  item := by
    intro X hP hw hK hc i pins s σ H E I hf st hg
    subst hP hw hK
    obtain ⟨xs, x, hq, hn, hx⟩ := hg
    obtain ⟨its, rv, p, hz⟩ := I.tuple hq
    have hi : i < xs.length := by
      have := (List.getElem?_eq_some_iff.mp hx).1
      rw [List.length_reverse] at this
      exact this
    have hx' : xs[xs.length - 1 - i]? = some x := by rw [← List.getElem?_reverse hi]; exact hx
    obtain ⟨u, hu, ru⟩ := rv.get hx'
    obtain ⟨f0, f1, f2, f3, f4, f5⟩ := hf it (by simp)
    have e0 : (n : Int) - 1 - (i : Int) = ((xs.length - 1 - i : Nat) : Int) := by omega
    have hl := line63
    rw [e0] at st
    refine RvT.next_item (items := its.toArray) (x := u) st p (by omega) (by simpa using hu) hne fun h' tk st' sb => ?_
    have I1 : Inv X pins σ H { s with heap := h', toks := tk } := I.turned (fun b o hb e => (sb.2 b hb).trans e) f0 f1 f3 f4 f5
    have e1 : ((xs.length - 1 - i : Nat) : Int) - 1 = (n : Int) - 1 - ((i + 1 : Nat) : Int) := by omega
    rw [e1] at st'
    obtain ⟨o, e, c, d⟩ := id st'
    exact ⟨u, rfl, go_of (s := { s with heap := h', toks := tk }) e c d (by decide) ⟨x, H, I1, ru, ⟨rfl, fun ys hy => by rw [I.tuple_inj hy hq]; exact hx⟩, st', fun b hb => (hf b hb).1⟩⟩
  done := by
    intro X hP hw hK hc i pins s σ H E I hf st hg
    subst hP hw hK
    obtain ⟨f0, f1, f2, f3, f4, f5⟩ := hf it (by simp)
    have hg' : i = n := hg
    have e0 : (n : Int) - 1 - (i : Int) = -1 := by omega
    rw [e0] at st
    exact RvT.next_end (I.ok.hd hc) st fun h' eb => ⟨rfl, I.turned (t' := s.toks) (fun b o hb e => eb b o hb e) f0 f1 f3 f4 f5⟩
  self := fun _ _ _ _ _ st h => RvT.iter_self st h
def iRev (K : PySem.W.Frag) (te : TE) : TI := fun σ H R => te σ H fun x H1 => ∃ a xs, x = .ref a ∧ SqT K H1 a xs ∧ R (Itv K a xs.length) H1
theorem qi_revT {X : Cx} {tg e : Expr} {te : TE} {p pos : Pos} (hg : Gl X "reversed") (hm : X.mg "reversed" = none) (he : QE X e te) (hp : plainE e = true := by rfl) : QI X tg (.Call (.Name "reversed" p) [e] [] pos) (iRev X.K te) := by
  refine ⟨fun pins s σ H R I h => ?_⟩
  have hs : starEach [e] X.env = [(false, eval e X.env)] := by rw [starEach_plain hp]; rfl
  refine Call_ (ld_blt I hg hm bt_reversed (PyProof.Rows.callWith_type1 ?_ hs rfl))
  rw [hs]
  show wpAny _ _ (spliced ((false, eval e X.env) :: [])) _ _ s
  refine Calls.spliced_cons (thn (he.out pins s σ H _ I h) fun u s1 ⟨x, H1, I1, ru, q1⟩ => ?_)
  refine Calls.spliced_nil ?_
  obtain ⟨a, xs, rfl, hq, q⟩ := q1
  cases ru
  obtain ⟨its, rv, pt, hz⟩ := I1.tuple hq
  have hl := line63
  have hlen := rv.length
  refine RvT.call_rev pt (by rw [List.size_toArray]; omega) fun tk => ?_
  have I2 : Inv X pins σ H1 { s1 with heap := s1.heap.push (RvT.revObj a ((its.toArray.size : Int) - 1)), toks := tk } := I1.kept fun b o e => Heap.get?_push_of_some _ e
  have e0 : (xs.length : Int) - 1 - ((0 : Nat) : Int) = (its.toArray.size : Int) - 1 := by rw [List.size_toArray, ← hlen]; omega
  have st : RvT.IsRev (s1.heap.push (RvT.revObj a ((its.toArray.size : Int) - 1))) s1.heap.objs.size a ((xs.length : Int) - 1 - ((0 : Nat) : Int)) := by
    rw [e0]
    exact ⟨_, Heap.get?_push_size _ rfl, rfl, rfl⟩
  refine RvT.iter_self st ⟨s1.heap.objs.size, [s1.heap.objs.size], _, _, H1, rfl, I2, turn_rev a _ xs.length (Nat.ne_of_lt pt.lt), st, fun b hb => ?_, q⟩
  have e : b = s1.heap.objs.size := by simpa using hb
  subst e
  exact I1.fpOk (Nat.le_refl _) (I1.hok.fresh (Nat.le_refl _)) |> fun f => f
theorem for_rev {K : PySem.W.Frag} {a : Addr} {xs : List V} {g : TG} {tb : TS} {D : Ends} {σ : St} {H : Hp} (Pv : Nat → St → Hp → Prop) (h0 : Pv 0 σ H) (hl : ∀ i σ H, i ≤ xs.length → Pv i σ H → SqT K H a xs)
    (hs : ∀ i x σ H, xs.reverse[i]? = some x → Pv i σ H → g x σ H fun σ2 H2 => tb { D with nx := Pv (i + 1), ct := Pv (i + 1), bk := D.nx } σ2 H2) (hd : ∀ σ H, Pv xs.length σ H → D.nx σ H) :
    ∃ W : Nat → Nat → St → Hp → Prop, (∃ m, W 0 m σ H) ∧ ∀ i m σ H, W i m σ H →
      ((Itv K a xs.length).stop i H ∧ D.nx σ H) ∨ ((Itv K a xs.length).go i H ∧ ∃ N : St → Hp → Prop, (∀ σ' H', N σ' H' → ∃ m', m' < m ∧ W (i + 1) m' σ' H') ∧ ∀ x H', (Itv K a xs.length).yld i H x H' → g x σ H' fun σ2 H2 => tb { D with nx := N, ct := N, bk := D.nx } σ2 H2) := by
  refine ⟨fun i m σ H => m = xs.length - i ∧ i ≤ xs.length ∧ Pv i σ H, ⟨xs.length, by simp, Nat.zero_le _, h0⟩, ?_⟩
  rintro i m σ H ⟨rfl, hi, p⟩
  by_cases hlt : i < xs.length
  · have hlt' : i < xs.reverse.length := by rw [List.length_reverse]; exact hlt
    refine .inr ⟨⟨xs, xs.reverse[i], hl i σ H hi p, rfl, List.getElem?_eq_getElem hlt'⟩, Pv (i + 1), fun σ' H' p' => ⟨xs.length - (i + 1), by omega, rfl, hlt, p'⟩, fun x H' y => ?_⟩
    obtain ⟨e, y⟩ := y
    subst e
    exact hs i x σ _ (y xs (hl i σ _ hi p)) p
  · have e : i = xs.length := by omega
    exact .inl ⟨e, by rw [e] at p; exact hd σ H p⟩
end L2

set_option Elab.async false
set_option linter.all false
set_option maxRecDepth 100000
set_option maxHeartbeats 1000000
namespace HT
open PySem PySem.Spec PyProof.Rows
section
variable {prog : Program} {w : World} {A : Around} {E : Value → Shared → Prop} {s : Shared}
theorem getItem_tuple_whole {t sl : Addr} {items : Array Value} {vl vu : Value} {lo hi : Option Int} {Q : Value → Shared → Prop} (ht : IsTup s.heap t items) (hs : s.heap.IsSliceOf sl vl vu .none) (pl : IsPart vl lo) (pu : IsPart vu hi)
    (hw : sIx items.size 0 lo = 0 ∧ sIx items.size items.size hi = items.size) (h : Q (.ref t) s) : wpAny (model prog w) A (getItem (.ref t) (.ref sl)) Q E s := by
  obtain ⟨os, hos, hcs, hds⟩ := id hs
  have hTs : s.TypeIs (.ref sl) "slice" := ⟨os, hos, hcs⟩
  unfold getItem
  try with_reducible refine wpAny_holding ?_
  first | refine wpAny_bind (wpAny_pure ?_) | skip
  refine wpAny_bind (wpAny_sequenceKey ht.typeIs (by decide) ?_)
  refine wpAny_bind (wpAny_callSpecial?_slot (name := Str.ofString "__getitem__") ht.typeIs PyProof.Rows.slot_tuple_getitem
    (wpAny_call_entry PyProof.Rows.slot_tuple_getitem ht.typeIs entry_tuple_getitem ?_ (args_tuple_getitem _ _)))
  show wpAny _ _ (Builtin.Tuple.tupleItemsOf (.ref t) >>= _) _ _ s
  refine wpAny_bind (tupleItemsOf_ ht ?_)
  refine wpAny_bind (wpAny_typeOf hTs ?_)
  rw [if_pos (by decide)]
  refine wpAny_bind (sliceApplied_gen hs pl pu ?_)
  have hyes : (((sIx items.size 0 lo : Nat) : Int) == 0 && (1 : Int) == 1 && (sIx items.size items.size hi - sIx items.size 0 lo) == items.size) = true := by
    rw [hw.1, hw.2]
    simp
  show wpAny _ _ (if (((sIx items.size 0 lo : Nat) : Int) == 0 && (1 : Int) == 1 && (sIx items.size items.size hi - sIx items.size 0 lo) == items.size) = true then _ else _) _ _ s
  rw [if_pos hyes]
  refine wpAny_bind (m := Builtin.Tuple.tupleIsExact (.ref t)) (wpAny_bind (wpAny_typeOf ht.typeIs (wpAny_pure ?_)))
  rw [if_pos (by decide)]
  first
    | exact wpAny_bind (wpAny_rule (wpAny_bind (wpAny_pure (wpAny_pure ⟨_, rfl, wpAny_pure h⟩))))
    | exact wpAny_bind (wpAny_rule (wpAny_pure ⟨_, rfl, wpAny_pure h⟩))
    | exact wpAny_bind (wpAny_rule (wpAny_bind (wpAny_pure ⟨_, rfl, wpAny_pure h⟩)))
end
end HT
namespace L2
open PySem PySem.Spec PyProof.Rows
section
variable {X : Cx}
/-- t[lo:hi], the whole of it: t itself -/
def rSlW (K : PySem.W.Frag) : V → Option Int → Option Int → Hp → VK → Prop := fun x lo hi H Q => ∃ a xs, x = .ref a ∧ SqT K H a xs ∧ (HT.sIx xs.length 0 lo = 0 ∧ HT.sIx xs.length xs.length hi = xs.length) ∧ Q (.ref a) H
theorem sl_tupW : SlR X (rSlW X.K) := by
  intro pins s σ H x v vl vu lo hi sl Q I rx hs pl pu h
  obtain ⟨a, xs, rfl, hx, hw, q⟩ := h
  cases rx
  obtain ⟨its, r, ht, hz⟩ := I.tuple hx
  have hlen : its.toArray.size = xs.length := by rw [List.size_toArray]; exact r.length.symm
  refine ⟨"tuple", _, PyProof.Rows.slot_tuple_getitem.lookup, ht.typeIs, ?_⟩
  exact HT.getItem_tuple_whole ht hs pl pu (by rw [hlen]; exact hw) ⟨.ref a, H, I, rfl, q⟩
/-- sorted(xs) of fewer than 64 ints -/
theorem call_sortedL : CallR X (.builtin "sorted") (fun xs H Q => ∃ (p : Addr) (ns : List Int), xs = [.ref p] ∧ SqL X.K H p (ns.map V.int) ∧ ns.length < 64 ∧
    ∀ (l : Addr) (ms : List Int), H l = none → ms.Perm ns → ms.Pairwise (· ≤ ·) → Q (.ref l) (upd H l (.lst (ms.map V.int)))) := by
  intro pins s σ H xs us Q I r h
  obtain ⟨p, ns, rfl, hq, hn, q⟩ := h
  obtain ⟨u, rfl, rx⟩ := vals1 r
  cases rx
  obtain ⟨its, r', pl, hz⟩ := I.list hq
  have hlen := r'.length
  rw [List.length_map] at hlen
  refine sorted_ints pl.isList (intsAre_of r') (by omega) fun out ms hi hp hs => ?_
  obtain ⟨e, he⟩ := sortedAll_at s.heap its out
  refine ⟨.ref (s.heap.objs.size + 1), _, I.laid (t' := s.toks) (o := .lst (ms.map V.int)) (fun b o e => sortedAll_old e) (Nat.le_succ _) ?_, rfl, q _ ms (I.hok.fresh (Nat.le_succ _)) hp hs⟩
  have hm : ms.length = ns.length := hp.length_eq
  exact ⟨by rw [List.length_map]; exact Nat.le_of_lt (small1000 (by omega)), out.toList, e, vals_ints hi, by simpa using he⟩
end
end L2

set_option Elab.async false
set_option linter.all false
set_option maxRecDepth 100000
set_option maxHeartbeats 1000000
namespace L2
open PySem PySem.Spec PyProof.Rows
section
variable {X : Cx}
theorem sl_str : SlR X (fun x lo hi H Q => ∃ z, x = .str z ∧ z.length ≤ sizeLine ∧ Q (.str (Txt.slice z lo hi)) H) := by
  intro pins s σ H x v vl vu lo hi sl Q I rx hs pl pu h
  obtain ⟨z, rfl, hz, q⟩ := h
  obtain ⟨t, rfl⟩ := rx
  refine ⟨"str", _, F.slot_str_getitem.lookup, typeIs_str _ _ _, ?_⟩
  have fin : ∀ t' k, EP X pins σ Q (.str (Txt.slice z lo hi) t') { s with toks := k } := fun t' k => ⟨.str _, H, I.tok _, ⟨_, rfl⟩, q⟩
  cases pl with
  | none =>
    cases pu with
    | none => exact wpAny_getItem_str_slice (l := none) (u := none) (st := none) hs rfl (post_val_or_str ⟨Nat.le_trans (Txt.slice_le z _ _) hz, fin⟩)
    | int j uj => exact wpAny_getItem_str_slice (l := none) (u := some (j, uj)) (st := none) hs rfl (post_val_or_str ⟨Nat.le_trans (Txt.slice_le z _ _) hz, fin⟩)
  | int i ui =>
    cases pu with
    | none => exact wpAny_getItem_str_slice (l := some (i, ui)) (u := none) (st := none) hs rfl (post_val_or_str ⟨Nat.le_trans (Txt.slice_le z _ _) hz, fin⟩)
    | int j uj => exact wpAny_getItem_str_slice (l := some (i, ui)) (u := some (j, uj)) (st := none) hs rfl (post_val_or_str ⟨Nat.le_trans (Txt.slice_le z _ _) hz, fin⟩)
theorem call_strV : CallR X (.type "str") (fun xs H Q => (∃ z, xs = [.str z] ∧ Q (.str z) H) ∨ ∃ i, xs = [.int i] ∧ i.natAbs.log2 < 1920 ∧ Q (.str (toString i)) H) := by
  intro pins s σ H xs us Q I r h
  rcases h with ⟨z, rfl, q⟩ | ⟨i, rfl, hz, q⟩
  · obtain ⟨u, rfl, t, rfl⟩ := vals1 r
    exact PySem.P.str_of_str ⟨.str z, H, I, ⟨_, rfl⟩, q⟩
  · obtain ⟨u, rfl, t, rfl⟩ := vals1 r
    exact PySem.P.str_of_int hz ⟨.str _, H, I.tok _, ⟨_, rfl⟩, q⟩
theorem strsAre_of {ys : List Str} : ∀ {us : List Value}, Vals (ys.map V.str) us → StrsAre us ys := by
  induction ys with
  | nil => intro us r; rw [List.map_nil] at r; cases r; exact .nil
  | cons n ns ih =>
    intro us r
    rw [List.map_cons] at r
    cases r with
    | cons r1 r2 =>
      obtain ⟨t, e⟩ := r1
      subst e
      exact .cons n t (ih r2)
theorem mt_join : MtR X "str.join" (fun x vs H Q => ∃ (z : Str) (p : Addr) (ys : List Str), x = .str z ∧ vs = [.ref p] ∧ SqL X.K H p (ys.map V.str) ∧ (ys.map (·.length)).sum + ys.length * z.length ≤ 16777216 ∧ Q (.str (Txt.join z ys)) H) := by
  intro pins s σ H x vs v us Q I rx rv h
  obtain ⟨z, p, ys, rfl, rfl, hq, hok, q⟩ := h
  obtain ⟨t, rfl⟩ := rx
  obtain ⟨u, rfl, ru⟩ := vals1 rv
  cases ru
  obtain ⟨its, r', pl, hz⟩ := I.list hq
  exact join_list pl.isList (strsAre_of r') hok fun t' k => ⟨.str _, H, I.tok _, ⟨_, rfl⟩, q⟩
end
/-- a comprehension over a list that the block leaves as it is -/
theorem comp_list {K : PySem.W.Frag} {a : Addr} {xs : List V} {is : List Nat} {tc : TT} {te : TE} {σ : St} {H : Hp} {Q : VK} (Pv : Nat → List V → Hp → Prop) (h0 : Pv 0 [] H) (hl : ∀ i zs H, Pv i zs H → zs.length ≤ sizeLine) (hq : ∀ i zs H, Pv i zs H → SqL K H a xs)
    (hs : ∀ i x zs H (R : List V → Hp → Prop), (∀ zs H, Pv (i + 1) zs H → R zs H) → xs[i]? = some x → Pv i zs H → tc (selS is σ (some x)) H fun b H2 => if b = true then te (selS is σ (some x)) H2 fun y H3 => R (zs ++ [y]) H3 else R zs H2)
    (hd : ∀ zs H, Pv xs.length zs H → ∀ p, H p = none → Q (.ref p) (upd H p (.lst zs))) :
    CompW is tc te σ Q (Itl K a) H := by
  refine ⟨fun i m zs H => m = xs.length - i ∧ i ≤ xs.length ∧ Pv i zs H, ⟨xs.length, by simp, Nat.zero_le _, h0⟩, ?_⟩
  rintro i m zs H ⟨rfl, hi, p⟩
  by_cases hlt : i < xs.length
  · refine .inr ⟨⟨xs, xs[i], hq i zs H p, List.getElem?_eq_getElem hlt⟩, hl i zs H p, fun x H' y => ?_⟩
    obtain ⟨e, y⟩ := y
    subst e
    exact hs i x zs _ (fun zs H => ∃ m', m' < xs.length - i ∧ m' = xs.length - (i + 1) ∧ i + 1 ≤ xs.length ∧ Pv (i + 1) zs H) (fun zs H q => ⟨xs.length - (i + 1), by omega, rfl, hlt, q⟩) (y xs (hq i zs _ p)) p
  · have e : i = xs.length := by omega
    exact .inl ⟨⟨xs, hq i zs H p, by omega⟩, hl _ _ _ p, by rw [e] at p; exact hd zs H p⟩
end L2

set_option Elab.async false
set_option linter.all false
set_option maxRecDepth 100000
set_option maxHeartbeats 1000000
namespace L2
open PySem PySem.Spec PyProof.Rows
def Its (x : Str) : It := ⟨fun i _ => i < x.cps.size, fun i H v H' => H' = H ∧ ∃ c, x.cps[i]? = some c ∧ v = .str ⟨#[c]⟩, fun i _ => i = x.cps.size⟩
theorem turn_str {P : Program} {w : World} {K : PySem.W.Frag} {tg : Expr} (it : Addr) (x : Str) (t : Tok) (T : String) (hT : T = "str_ascii_iterator" ∨ T = "str_iterator") : Turn P w K tg (Its x) [it] it (fun i h => h.IsStrIter it T x t i) where
  mem := by simp
  obj := fun i h st b hb => by
    have e : b = it := by simpa using hb
    subst e
    obtain ⟨o, e, c, d⟩ := st
    exact ⟨o, e, fun v z => by rw [d] at z; cases z⟩
  keep := fun i h h' st k => let ⟨o, ho, r⟩ := st; ⟨o, k it (by simp) o ho, r⟩
  item := by
    intro X hP hw hK hc i pins s σ H E I hf st hg
    subst hP hw hK
    obtain ⟨f0, f1, f2, f3, f4, f5⟩ := hf it (by simp)
    rcases hT with rfl | rfl
    · refine (Walks.strAscii (prog := X.prog) (w := X.w) (I.ok.hd hc) it x t).item i s _ _ hg st fun v h' tk hv st' kk => ?_
      obtain ⟨c, u, hc', rfl⟩ := hv
      have I1 : Inv X pins σ H { s with heap := h', toks := tk } := I.turned (fun b o hb e => kk b o (by simpa using hb) e) f0 f1 f3 f4 f5
      obtain ⟨o, e, cc, d⟩ := id st'
      exact ⟨_, rfl, go_of (s := { s with heap := h', toks := tk }) e cc d (by decide) ⟨.str ⟨#[c]⟩, H, I1, ⟨_, rfl⟩, ⟨rfl, c, hc', rfl⟩, st', fun b hb => (hf b hb).1⟩⟩
    · refine (Walks.strWide (prog := X.prog) (w := X.w) (I.ok.hd hc) it x t).item i s _ _ hg st fun v h' tk hv st' kk => ?_
      obtain ⟨c, u, hc', rfl⟩ := hv
      have I1 : Inv X pins σ H { s with heap := h', toks := tk } := I.turned (fun b o hb e => kk b o (by simpa using hb) e) f0 f1 f3 f4 f5
      obtain ⟨o, e, cc, d⟩ := id st'
      exact ⟨_, rfl, go_of (s := { s with heap := h', toks := tk }) e cc d (by decide) ⟨.str ⟨#[c]⟩, H, I1, ⟨_, rfl⟩, ⟨rfl, c, hc', rfl⟩, st', fun b hb => (hf b hb).1⟩⟩
  done := by
    intro X hP hw hK hc i pins s σ H E I hf st hg
    subst hP hw hK
    obtain ⟨f0, f1, f2, f3, f4, f5⟩ := hf it (by simp)
    have hg' : i = x.cps.size := hg
    subst hg'
    rcases hT with rfl | rfl
    · exact (Walks.strAscii (prog := X.prog) (w := X.w) (I.ok.hd hc) it x t).done s _ _ st fun h' tk kk => ⟨rfl, I.turned (t' := tk) (fun b o hb e => kk b o (by simpa using hb) e) f0 f1 f3 f4 f5⟩
    · exact (Walks.strWide (prog := X.prog) (w := X.w) (I.ok.hd hc) it x t).done s _ _ st fun h' tk kk => ⟨rfl, I.turned (t' := tk) (fun b o hb e => kk b o (by simpa using hb) e) f0 f1 f3 f4 f5⟩
  self := fun A i s Q E st h => by
    rcases hT with rfl | rfl
    · exact wpAny_pyIter_striter_ascii st h
    · exact wpAny_pyIter_striter_wide st h
def iStr (te : TE) : TI := fun σ H R => te σ H fun v H1 => ∃ x, v = .str x ∧ R (Its x) H1
theorem qi_str {X : Cx} {tg l : Expr} {tl : TE} (hl : QE X l tl) : QI X tg l (iStr tl) := by
  refine ⟨fun pins s σ H R I h => ?_⟩
  refine thn (hl.out pins s σ H _ I h) fun v s1 ⟨y, H1, I1, r1, q1⟩ => ?_
  obtain ⟨x, rfl, q⟩ := q1
  obtain ⟨t, rfl⟩ := r1
  have go : ∀ (o : Obj) (T : String), (T = "str_ascii_iterator" ∨ T = "str_iterator") → (s1.heap.push o).IsStrIter s1.heap.objs.size T x t 0 → PIE X pins σ tg R (.ref s1.heap.objs.size) { s1 with heap := s1.heap.push o } := fun o T hT st =>
    ⟨s1.heap.objs.size, [s1.heap.objs.size], _, _, H1, rfl, I1.kept (t' := s1.toks) fun b o e => Heap.get?_push_of_some _ e, turn_str _ x t T hT, st, fun b hb => by
      have e : b = s1.heap.objs.size := by simpa using hb
      subst e
      exact I1.fpOk (Nat.le_refl _) (I1.hok.fresh (Nat.le_refl _)), q⟩
  cases ha : x.cps.all (· < 128)
  · exact wpAny_pyIter_wide ha (go _ "str_iterator" (.inr rfl) ⟨_, Heap.get?_push_size _ rfl, rfl, rfl⟩)
  · exact wpAny_pyIter_ascii ha (go _ "str_ascii_iterator" (.inl rfl) ⟨_, Heap.get?_push_size _ rfl, rfl, rfl⟩)
section
variable {X : Cx}
/-- x.index(y), y there -/
theorem mt_index : MtR X "str.index" (fun x vs H Q => ∃ (z y : Str) (i : Nat) (rest : List Nat), x = .str z ∧ vs = [.str y] ∧ Builtin.Str.occurrences z y 0 z.length 1 = i :: rest ∧ Q (.int i) H) := by
  intro pins s σ H x vs v us Q I rx rv h
  obtain ⟨z, y, i, rest, rfl, rfl, ho, q⟩ := h
  obtain ⟨t, rfl⟩ := rx
  obtain ⟨u, rfl, t', rfl⟩ := vals1 rv
  refine call_gives F.slot_str_index (typeIs_str _ _ _) F.entry_str_index (F.args_str_index_2 _ _) (gives_str_index z y t t' i rest ho) ?_
  exact ⟨.int i, H, I.tok _, ⟨_, rfl⟩, q⟩
theorem vals_strs : ∀ (l : List (Str × Tok)), Vals ((l.map (·.1)).map V.str) (strValues l)
  | [] => .nil
  | (x, t) :: r => .cons ⟨t, rfl⟩ (vals_strs r)
/-- x.split(y): a new list -/
theorem mt_split : MtR X "str.split" (fun x vs H Q => ∃ (z y : Str), x = .str z ∧ vs = [.str y] ∧ (y.length == 0) = false ∧ z.length ≤ sizeLine ∧ (Builtin.Str.partsBetween z (Builtin.Str.occurrences z y 0 z.length (z.length + 1)) y.length).length ≤ sizeLine ∧ (Txt.split z y).length ≤ sizeLine ∧
    ∀ p, H p = none → Q (.ref p) (upd H p (.lst ((Txt.split z y).map V.str)))) := by
  intro pins s σ H x vs v us Q I rx rv h
  obtain ⟨z, y, rfl, rfl, hy, hz, hz2, hz3, q⟩ := h
  obtain ⟨t, rfl⟩ := rx
  obtain ⟨u, rfl, t', rfl⟩ := vals1 rv
  have fin : ∀ (l : List (Str × Tok)) (k : Nat), l.map (·.1) = Txt.split z y → EP X pins σ Q (.ref s.heap.objs.size) { s with heap := s.heap.push { cls := .type "list", data := .seq (strValues l).toArray }, toks := k } := fun l k hl => by
    refine ⟨.ref s.heap.objs.size, _, I.laid (o := .lst ((Txt.split z y).map V.str)) (fun b o e => Heap.get?_push_of_some _ e) (Nat.le_refl _) ?_, rfl, q _ (I.hok.fresh (Nat.le_refl _))⟩
    exact ⟨by rw [List.length_map]; exact hz3, strValues l, 0, by rw [← hl]; exact vals_strs l, Heap.get?_push_size _ rfl⟩
  cases h1 : (decide (z.length < y.length) || decide (Builtin.Str.strKind z < Builtin.Str.strKind y))
  · cases hf : (Builtin.Str.occurrences z y 0 z.length (z.length + 1)).isEmpty
    · refine call_meets F.slot_str_split (typeIs_str _ _ _) F.entry_str_split (F.args_str_split_2 _ _) (meets_str_split_sep z y t t' h1 hy hf hz hz2) ?_
      show wants (EP X pins σ Q) X.xe _ { s with toks := _, heap := s.heap.push { cls := .type "list", data := .seq (strsFrom s.toks (Builtin.Str.partsBetween z (Builtin.Str.occurrences z y 0 z.length (z.length + 1)) y.length)).toArray } }
      rw [strsFrom_eq]
      exact fin (numbered s.toks _) _ ((numbered_texts _ _).trans ((if_neg (ne_true_of_eq_false h1)).trans (if_neg (ne_true_of_eq_false hf))).symm)
    · exact call_meets F.slot_str_split (typeIs_str _ _ _) F.entry_str_split (F.args_str_split_2 _ _) (meets_str_split_not_found z y t t' h1 hy hf) (fin [(z, t)] s.toks ((if_neg (ne_true_of_eq_false h1)).trans (if_pos hf)).symm)
  · exact call_meets F.slot_str_split (typeIs_str _ _ _) F.entry_str_split (F.args_str_split_2 _ _) (meets_str_split_cannot_occur z y t t' h1) (fin [(z, t)] s.toks (if_pos h1).symm)
/-- all(xs) of a list of truths -/
theorem call_allL (hc : X.calm = true) : CallR X (.builtin "all") (fun xs H Q => ∃ (p : Addr) (bs : List Bool), xs = [.ref p] ∧ SqL X.K H p (bs.map V.bl) ∧ Q (.bl (bs.all id)) H) := by
  intro pins s σ H xs us Q I r h
  obtain ⟨p, bs, rfl, hq, q⟩ := h
  obtain ⟨u, rfl, rx⟩ := vals1 r
  cases rx
  obtain ⟨its, r', pl, hz⟩ := I.list hq
  have hl := pl.isList
  have hlt : p < s.heap.objs.size := by obtain ⟨_, e, _⟩ := hl; exact Heap.lt_size e
  have hlen := r'.length
  rw [List.length_map] at hlen
  refine call_all_walk (wpAny_pyIter_list hl ?_)
  refine ⟨s.heap.objs.size, [s.heap.objs.size, p], [s.heap.objs.size], its.toArray.size, _, _, fun i => (bs[i]?).getD true, rfl, Walks.list (A := X.A.in1) (I.ok.hd hc) _ p (Nat.ne_of_lt hlt) its.toArray,
    ⟨⟨_, Heap.get?_push_size _ rfl, rfl, rfl⟩, hl.push _⟩, fun i v s' Q' E' hP hQ => ?_, fun h' tk hk => ?_⟩
  · have hi : its[i]? = some v := by simpa using hP
    have hb : i < bs.length := by rw [hlen]; exact (List.getElem?_eq_some_iff.mp hi).1
    obtain ⟨w', e1, e2⟩ := r'.get (show (bs.map V.bl)[i]? = some (V.bl bs[i]) by rw [List.getElem?_map, List.getElem?_eq_getElem hb]; rfl)
    rw [hi] at e1
    cases e1
    cases e2
    simp only [List.getElem?_eq_getElem hb, Option.getD_some] at hQ
    exact wpAny_truthy_bool hQ
  · have e : ((List.range its.toArray.size).all fun i => (bs[i]?).getD true) = bs.all id := by
      rw [List.size_toArray, ← hlen, Bool.eq_iff_iff, List.all_eq_true, List.all_eq_true]
      constructor
      · intro z b hb
        obtain ⟨i, hi, rfl⟩ := List.getElem_of_mem hb
        have := z i (List.mem_range.mpr hi)
        simpa [List.getElem?_eq_getElem hi] using this
      · intro z i hi
        have hi' := List.mem_range.mp hi
        have := z _ (List.getElem_mem hi')
        simpa [List.getElem?_eq_getElem hi'] using this
    rw [e]
    refine ⟨.bl (bs.all id), H, I.kept (t' := tk) (fun b o eb => hk b o (fun hm => ?_) (Heap.get?_push_of_some _ eb)), rfl, q⟩
    rw [List.mem_singleton.mp hm] at eb
    exact absurd (Heap.lt_size eb) (Nat.lt_irrefl _)
end
end L2

set_option Elab.async false
set_option linter.all false
set_option maxRecDepth 100000
set_option maxHeartbeats 1000000
namespace L2
open PySem PySem.Spec PyProof.Rows
section
variable {X : Cx}
theorem mt_startswith : MtR X "str.startswith" (fun x vs H Q => ∃ (z y : Str), x = .str z ∧ vs = [.str y] ∧ Q (.bl (decide (0 + y.length ≤ z.length) && Builtin.Str.subAt z y 0)) H) := by
  intro pins s σ H x vs v us Q I rx rv h
  obtain ⟨z, y, rfl, rfl, q⟩ := h
  obtain ⟨t, rfl⟩ := rx
  obtain ⟨u, rfl, t', rfl⟩ := vals1 rv
  refine call_gives F.slot_str_startswith (typeIs_str _ _ _) F.entry_str_startswith (F.args_str_startswith_2 _ _) (gives_str_startswith z y t t') ?_
  exact ⟨.bl _, H, I, rfl, q⟩
/-- int(text) -/
theorem call_int_str : CallR X (.type "int") (fun xs H Q => ∃ (z : Str) (n : Int), xs = [.str z] ∧ PySem.intText? z = some n ∧ z.length ≤ 640 ∧ Q (.int n) H) := by
  intro pins s σ H xs us Q I r h
  obtain ⟨z, n, rfl, hn, hl, q⟩ := h
  obtain ⟨u, rfl, t, rfl⟩ := vals1 r
  exact PySem.W.KIN.call_text hn hl ⟨.int n, H, I.tok _, ⟨_, rfl⟩, q⟩
theorem vals_of_strs : ∀ {us : List Value} {ys : List Str}, StrsAre us ys → Vals (ys.map V.str) us
  | _, _, .nil => .nil
  | _, _, .cons y t h => .cons ⟨t, rfl⟩ (vals_of_strs h)
end
end L2

set_option Elab.async false
set_option linter.all false
set_option maxRecDepth 100000
set_option maxHeartbeats 1000000
namespace L2
open PySem PySem.Spec PyProof.Rows
theorem bt_dict : bootBuiltins "dict" = some (.type "dict") := by decide +kernel
/-- two ways that meet again: J is what both leave -/
theorem seq_join {t u : TS} {D : Ends} {σ : St} {H : Hp} (J : St → Hp → Prop) (h1 : ∀ N : St → Hp → Prop, (∀ σ H, J σ H → N σ H) → t { D with nx := N } σ H) (h2 : ∀ σ H, J σ H → u D σ H) : tSeq t u D σ H := h1 _ h2
theorem take_snoc {α : Type} {xs : List α} {i : Nat} {x : α} (h : xs[i]? = some x) : xs.take (i + 1) = xs.take i ++ [x] := by
  rw [List.take_succ, h]
  rfl
theorem comp_filter {K : PySem.W.Frag} {a : Addr} {xs : List V} {is : List Nat} {tc : TT} {te : TE} {σ : St} {H : Hp} {Q : VK} (p : V → Bool) (f : V → V) (hx : SqL K H a xs) (hz : xs.length ≤ sizeLine)
    (hc : ∀ x ∈ xs, ∀ R : Bool → Hp → Prop, R (p x) H → tc (selS is σ (some x)) H R)
    (he : ∀ x ∈ xs, p x = true → ∀ R : VK, R (f x) H → te (selS is σ (some x)) H R)
    (hd : ∀ l, H l = none → Q (.ref l) (upd H l (.lst ((xs.filter p).map f)))) : CompW is tc te σ Q (Itl K a) H := by
  refine comp_list (xs := xs) (fun i zs H' => zs = ((xs.take i).filter p).map f ∧ H' = H) ⟨rfl, rfl⟩ ?_ ?_ ?_ ?_
  · rintro i zs H' ⟨rfl, rfl⟩
    rw [List.length_map]
    exact Nat.le_trans (List.length_filter_le _ _) (by rw [List.length_take]; omega)
  · rintro i zs H' ⟨rfl, rfl⟩
    exact hx
  · rintro i x zs H' R hR hxi ⟨rfl, rfl⟩
    have hm := List.mem_of_getElem? hxi
    have e := take_snoc hxi
    refine hc x hm _ ?_
    cases hp : p x with
    | true =>
      refine (if_pos rfl : (if true = true then _ else _) = _) ▸ he x hm hp _ (hR _ _ ⟨?_, rfl⟩)
      rw [e, List.filter_append, List.map_append, List.filter_cons, if_pos hp]
      rfl
    | false =>
      refine (if_neg Bool.false_ne_true : (if false = true then _ else _) = _) ▸ hR _ _ ⟨?_, rfl⟩
      rw [e, List.filter_append, List.map_append, List.filter_cons, if_neg (by rw [hp]; exact Bool.false_ne_true)]
      simp
  · rintro zs H' ⟨rfl, rfl⟩ l hl
    rw [List.take_length]
    exact hd l hl
theorem comp_tmap {K : PySem.W.Frag} {a : Addr} {xs : List V} {is : List Nat} {te : TE} {σ : St} {H : Hp} {Q : VK} (f : V → V) (hx : SqT K H a xs) (hz : xs.length ≤ sizeLine)
    (he : ∀ x ∈ xs, ∀ R : VK, R (f x) H → te (selS is σ (some x)) H R)
    (hd : ∀ l, H l = none → Q (.ref l) (upd H l (.lst (xs.map f)))) : CompW is tYes te σ Q (Itt K a) H := by
  refine comp_tup (xs := xs) (fun i zs H' => zs = (xs.take i).map f ∧ H' = H) ⟨rfl, rfl⟩ ?_ ?_ ?_ ?_
  · rintro i zs H' ⟨rfl, rfl⟩
    rw [List.length_map, List.length_take]
    omega
  · rintro i zs H' ⟨rfl, rfl⟩
    exact hx
  · rintro i x zs H' R hR hxi ⟨rfl, rfl⟩
    unfold tYes
    dsimp only
    rw [if_pos rfl]
    refine he x (List.mem_of_getElem? hxi) _ (hR _ _ ⟨?_, rfl⟩)
    rw [take_snoc hxi, List.map_append]
    rfl
  · rintro zs H' ⟨rfl, rfl⟩ l hl
    rw [List.take_length]
    exact hd l hl
end L2

set_option Elab.async false
set_option linter.all false
set_option maxRecDepth 100000
namespace L2
open PySem PySem.Spec PyProof.Rows

section
variable {κ : Type} [DecidableEq κ]
def valV (kvs : List (κ × V)) (k : κ) : Option V := (kvs.find? fun kv => decide (kv.1 = k)).map (·.2)
/-- in its place, or at the end -/
def putK (kvs : List (κ × V)) (k : κ) (v : V) : List (κ × V) :=
  if (kvs.any fun kv => decide (kv.1 = k)) = true then kvs.map (fun kv => if kv.1 = k then (kv.1, v) else kv) else kvs ++ [(k, v)]
def dropK (kvs : List (κ × V)) (k : κ) : List (κ × V) := kvs.filter fun kv => decide (kv.1 ≠ k)

theorem valV_pos {p : κ × V} {r : List (κ × V)} {k : κ} (e : p.1 = k) : valV (p :: r) k = some p.2 := by simp [valV, List.find?_cons, e]
theorem valV_neg {p : κ × V} {r : List (κ × V)} {k : κ} (e : ¬ p.1 = k) : valV (p :: r) k = valV r k := by simp [valV, List.find?_cons, e]
theorem valV_any (k : κ) : ∀ kvs : List (κ × V), (kvs.any fun kv => decide (kv.1 = k)) = (valV kvs k).isSome
  | [] => rfl
  | p :: r => by
    rw [List.any_cons]
    by_cases e : p.1 = k
    · simp only [valV_pos e, decide_eq_true e, Bool.true_or, Option.isSome_some]
    · rw [valV_neg e, decide_eq_false e, Bool.false_or]; exact valV_any k r
theorem valV_map (k j : κ) (y : V) : ∀ kvs : List (κ × V), valV (kvs.map fun kv => if kv.1 = k then (kv.1, y) else kv) j = (valV kvs j).map fun x => if j = k then y else x
  | [] => rfl
  | p :: r => by
    have ih := valV_map k j y r
    rw [List.map_cons]
    by_cases h : p.1 = k
    · rw [if_pos h]
      by_cases e : p.1 = j
      · rw [valV_pos (p := (p.1, y)) e, valV_pos e, Option.map_some, if_pos (e.symm.trans h)]
      · rw [valV_neg (p := (p.1, y)) e, valV_neg e, ih]
    · rw [if_neg h]
      by_cases e : p.1 = j
      · rw [valV_pos (p := p) e, valV_pos e, Option.map_some, if_neg (fun z => h (e.trans z))]
      · rw [valV_neg (p := p) e, valV_neg e, ih]
theorem valV_snoc (k j : κ) (y : V) : ∀ kvs : List (κ × V), valV kvs k = none → valV (kvs ++ [(k, y)]) j = if j = k then some y else valV kvs j
  | [], _ => by
    by_cases e : k = j
    · rw [if_pos e.symm]; exact valV_pos (p := (k, y)) e
    · rw [if_neg (fun z => e z.symm)]; exact valV_neg (p := (k, y)) e
  | p :: r, hn => by
    rw [List.cons_append]
    have hk : ¬ p.1 = k := fun z => by rw [valV_pos z] at hn; cases hn
    rw [valV_neg hk] at hn
    have ih := valV_snoc k j y r hn
    by_cases e : p.1 = j
    · rw [valV_pos e, valV_pos e, if_neg (fun z => hk (e.trans z))]
    · rw [valV_neg e, valV_neg e, ih]
theorem valV_put (kvs : List (κ × V)) (k j : κ) (y : V) : valV (putK kvs k y) j = if j = k then some y else valV kvs j := by
  unfold putK
  by_cases a : (kvs.any fun kv => decide (kv.1 = k)) = true
  · rw [if_pos a, valV_map]
    rw [valV_any] at a
    by_cases e : j = k
    · obtain ⟨x, hx⟩ := Option.isSome_iff_exists.mp a
      rw [if_pos e, e, hx, Option.map_some, if_pos rfl]
    · rw [if_neg e]
      cases valV kvs j with
      | none => rfl
      | some x => rw [Option.map_some, if_neg e]
  · rw [if_neg a]
    refine valV_snoc k j y kvs ?_
    rw [valV_any] at a
    cases q : valV kvs k with
    | none => rfl
    | some x => rw [q] at a; exact (a rfl).elim
theorem length_putK (kvs : List (κ × V)) (k : κ) (v : V) : (putK kvs k v).length ≤ kvs.length + 1 := by
  unfold putK
  split
  · rw [List.length_map]; omega
  · rw [List.length_append, List.length_cons, List.length_nil]; omega
theorem RelO.isSome_eq {o : Option V} {u : Option Value} (r : RelO o u) : o.isSome = u.isSome := by
  cases o with
  | none => cases u with
    | none => rfl
    | some _ => exact (show False from r).elim
  | some _ => cases u with
    | none => exact (show False from r).elim
    | some _ => rfl
theorem RelO.getD {o : Option V} {u : Option Value} {d : V} {d' : Value} (r : RelO o u) (rd : RelV d d') : RelV (o.getD d) (u.getD d') := by
  cases o with
  | none => cases u with
    | none => exact rd
    | some _ => exact (show False from r).elim
  | some _ => cases u with
    | none => exact (show False from r).elim
    | some _ => exact r

/-- raw tables of the same keys -/
theorem KV.val {kvs : List (κ × V)} {vs : List (κ × Value)} (r : KV kvs vs) (k : κ) : RelO (valV kvs k) (valueAt vs k) := by
  unfold KV at r
  induction r with
  | nil => exact True.intro
  | @cons p q ps qs h t ih =>
    obtain ⟨h1, h2⟩ := h
    by_cases e : p.1 = k
    · have e' : q.1 = k := h1.symm.trans e
      have b : valueAt (q :: qs) k = some q.2 := by simp [valueAt, List.find?_cons, e']
      rw [valV_pos e, b]; exact h2
    · have e' : ¬ q.1 = k := fun z => e (h1.trans z)
      have b : valueAt (q :: qs) k = valueAt qs k := by simp [valueAt, List.find?_cons, e']
      rw [valV_neg e, b]; exact ih
theorem KV.any {kvs : List (κ × V)} {vs : List (κ × Value)} (r : KV kvs vs) (k : κ) : (kvs.any fun kv => decide (kv.1 = k)) = vs.any fun kv => decide (kv.1 = k) := by
  unfold KV at r
  induction r with
  | nil => rfl
  | cons h t ih => rw [List.any_cons, List.any_cons, ih, h.1]
theorem KV.repl {kvs : List (κ × V)} {vs : List (κ × Value)} (r : KV kvs vs) (k : κ) {y : V} {u : Value} (ry : RelV y u) :
    KV (kvs.map fun kv => if kv.1 = k then (kv.1, y) else kv) (vs.map fun kv => if kv.1 = k then (kv.1, u) else kv) := by
  unfold KV at r ⊢
  induction r with
  | nil => exact .nil
  | @cons p q ps qs h t ih =>
    rw [List.map_cons, List.map_cons]
    refine .cons ?_ ih
    obtain ⟨h1, h2⟩ := h
    by_cases e : p.1 = k
    · rw [if_pos e, if_pos (h1.symm.trans e)]; exact ⟨h1, ry⟩
    · rw [if_neg e, if_neg (fun z => e (h1.trans z))]; exact ⟨h1, h2⟩
theorem KV.put {kvs : List (κ × V)} {vs : List (κ × Value)} (r : KV kvs vs) (k : κ) {y : V} {u : Value} (ry : RelV y u) : KV (putK kvs k y) (stored vs k u) := by
  unfold putK stored
  rw [r.any k]
  by_cases e : (vs.any fun kv => decide (kv.1 = k)) = true
  · rw [if_pos e, if_pos e]; exact r.repl k ry
  · rw [if_neg e, if_neg e]; exact Paired.snoc r ⟨rfl, ry⟩
theorem KV.drop {kvs : List (κ × V)} {vs : List (κ × Value)} (r : KV kvs vs) (k : κ) : KV (dropK kvs k) (without vs k) := by
  unfold KV at r ⊢
  unfold dropK without
  induction r with
  | nil => exact .nil
  | @cons p q ps qs h t ih =>
    obtain ⟨h1, h2⟩ := h
    rw [List.filter_cons, List.filter_cons]
    by_cases e : p.1 = k
    · have a : ¬ decide (p.1 ≠ k) = true := by simp [e]
      have b : ¬ decide (q.1 ≠ k) = true := by simp [h1.symm.trans e]
      rw [if_neg a, if_neg b]; exact ih
    · have e' : ¬ q.1 = k := fun z => e (h1.trans z)
      have a : decide (p.1 ≠ k) = true := by simp [e]
      have b : decide (q.1 ≠ k) = true := by simp [e']
      rw [if_pos a, if_pos b]; exact .cons ⟨h1, h2⟩ ih
theorem KV.keys {kvs : List (κ × V)} {vs : List (κ × Value)} (r : KV kvs vs) : kvs.map (·.1) = vs.map (·.1) := by
  unfold KV at r
  induction r with
  | nil => rfl
  | cons h t ih => rw [List.map_cons, List.map_cons, ih, h.1]
theorem KV.length {kvs : List (κ × V)} {vs : List (κ × Value)} (r : KV kvs vs) : kvs.length = vs.length := Paired.length r
end


theorem kV_is {P : Program} {w : World} {k : Key} {u : Value} (r : RelV (kV k) u) : (mixKind P w).is k u = true := by
  cases k with
  | inl i => obtain ⟨t, e⟩ := (show ∃ t, u = Value.int i t from r); subst e; exact mixKind_int P w i t
  | inr x => obtain ⟨t, e⟩ := (show ∃ t, u = Value.str x t from r); subst e; exact mixKind_str P w x t
theorem items_are {P : Program} {w : World} : ∀ {ks : List Key} {us : List Value}, Vals (ks.map kV) us → ItemsAre (mixKind P w) ks us
  | [], _, r => by rw [List.map_nil] at r; cases r; exact .nil
  | k :: ks, _, r => by
    rw [List.map_cons] at r
    cases r with
    | cons h t => exact .cons (kV_is h) (items_are t)

/-- raw entries of a dict with tuple keys -/
abbrev KT (H : Hp) : List (List Key × V) → List (List Key × Addr × Value) → Prop := Paired fun p q => p.1 = q.1 ∧ H q.2.1 = some (.tup (p.1.map kV)) ∧ RelV p.2 q.2.2
theorem KT.val {H : Hp} {kvs : List (List Key × V)} {xs : List (List Key × Addr × Value)} (r : KT H kvs xs) (k : List Key) : RelO (valV kvs k) ((atKey xs k).map (·.2)) := by
  induction r with
  | nil => exact True.intro
  | @cons p q ps qs h t ih =>
    obtain ⟨h1, _, h2⟩ := h
    by_cases e : p.1 = k
    · have e' : q.1 = k := h1.symm.trans e
      have b : atKey (q :: qs) k = some q.2 := by simp [atKey, List.find?_cons, e']
      rw [valV_pos e, b]; exact h2
    · have e' : ¬ q.1 = k := fun z => e (h1.trans z)
      have b : atKey (q :: qs) k = atKey qs k := by simp [atKey, List.find?_cons, e']
      rw [valV_neg e, b]; exact ih
theorem KT.repl {H : Hp} {kvs : List (List Key × V)} {xs : List (List Key × Addr × Value)} (r : KT H kvs xs) (k : List Key) {y : V} {u : Value} (ry : RelV y u) :
    KT H (kvs.map fun kv => if kv.1 = k then (kv.1, y) else kv) (xs.map (putAt k u)) := by
  induction r with
  | nil => exact .nil
  | @cons p q ps qs h t ih =>
    rw [List.map_cons, List.map_cons]
    refine .cons ?_ ih
    obtain ⟨h1, h2, h3⟩ := h
    unfold putAt
    by_cases e : p.1 = k
    · rw [if_pos e, if_pos (h1.symm.trans e)]; exact ⟨h1, h2, ry⟩
    · rw [if_neg e, if_neg (fun z => e (h1.trans z))]; exact ⟨h1, h2, h3⟩
theorem KT.put {H : Hp} {kvs : List (List Key × V)} {xs : List (List Key × Addr × Value)} (r : KT H kvs xs) (k : List Key) {b : Addr} {y : V} {u : Value} (hb : H b = some (.tup (k.map kV))) (ry : RelV y u) :
    KT H (putK kvs k y) (storedH xs k b u) := by
  have e : (kvs.any fun kv => decide (kv.1 = k)) = (atKey xs k).isSome := by
    rw [valV_any, (r.val k).isSome_eq, Option.isSome_map]
  unfold putK storedH
  rw [e]
  by_cases q : (atKey xs k).isSome = true
  · rw [if_pos q, if_pos q]; exact r.repl k ry
  · rw [if_neg q, if_neg q]; exact Paired.snoc r ⟨rfl, hb, ry⟩
theorem KT.keeps {H H' : Hp} {kvs : List (List Key × V)} {xs : List (List Key × Addr × Value)} (r : KT H kvs xs) (ht : ∀ b ys, H b = some (.tup ys) → H' b = some (.tup ys)) : KT H' kvs xs :=
  Paired.mapP r fun _ _ z => ⟨z.1, ht _ _ z.2.1, z.2.2⟩

section
variable {P : Program} {w : World} {H : Hp} {h : Heap} {a : Addr}
theorem rd_of {u : HO} (ok : HOk P w H h) (e : Rd H a u) : ObjOk P w H h a u := e.ok ok
theorem dk_rd {kvs : List (Key × V)} (ok : HOk P w H h) (e : Rd H a (.dK kvs)) : kvs.length ≤ sizeLine ∧ (a == sysModules) = false ∧ ∃ vs, KV kvs vs ∧ h.DictOf (mixKind P w) a vs :=
  show ObjOk P w H h a (.dK kvs) from rd_of ok e
theorem dk_of {kvs : List (Key × V)} (ok : HOk P w H h) (e : H a = some (.dK kvs)) : kvs.length ≤ sizeLine ∧ (a == sysModules) = false ∧ ∃ vs, KV kvs vs ∧ h.DictOf (mixKind P w) a vs := dk_rd ok (.inl e)
/-- a tracked tuple of ints and texts is a key -/
theorem key_of {ks : List Key} (ok : HOk P w H h) (e : H a = some (.tup (ks.map kV))) : (tupleKind (mixKind P w)).is h ks a := by
  obtain ⟨_, its, r, o, h1, h2, n, h3⟩ := (show ObjOk P w H h a (.tup (ks.map kV)) from ok a _ e)
  exact ⟨o, its.toArray, n, h1, h2, h3, by simpa using items_are r⟩
theorem dt_rd {kvs : List (List Key × V)} (ok : HOk P w H h) (e : Rd H a (.dT kvs)) : kvs.length ≤ sizeLine ∧ (a == sysModules) = false ∧
    ∃ xs, KT H kvs xs ∧ h.DictOfH (tupleKind (mixKind P w)) a xs := by
  obtain ⟨z, y, xs, r, o, es, ep, h1, h2, h3, h4, h5⟩ := (show ObjOk P w H h a (.dT kvs) from rd_of ok e)
  refine ⟨z, y, xs, r, o, es, ep, h1, h2, h3, h4, fun x hx => ?_, h5⟩
  have all : ∀ {l : List (List Key × V)} {m : List (List Key × Addr × Value)}, KT H l m → ∀ x ∈ m, (tupleKind (mixKind P w)).is h x.1 x.2.1 := by
    intro l m q
    induction q with
    | nil => intro x hx; exact nomatch hx
    | @cons p q ps qs hq t ih =>
      intro x hx
      rcases List.mem_cons.mp hx with e | hx
      · subst e
        exact key_of ok (by rw [← hq.1]; exact hq.2.1)
      · exact ih x hx
  exact all r x hx
theorem dt_of {kvs : List (List Key × V)} (ok : HOk P w H h) (e : H a = some (.dT kvs)) : kvs.length ≤ sizeLine ∧ (a == sysModules) = false ∧
    ∃ xs, KT H kvs xs ∧ h.DictOfH (tupleKind (mixKind P w)) a xs := dt_rd ok (.inl e)
end

/-- what the dict at a holds at the key y -/
def DGet (H : Hp) (a : Addr) (y : V) (r : Option V) : Prop :=
  (∃ kvs k, Rd H a (.dK kvs) ∧ y = kV k ∧ r = valV kvs k) ∨ ∃ kvs k b, Rd H a (.dT kvs) ∧ y = .ref b ∧ H b = some (.tup (k.map kV)) ∧ r = valV kvs k
/-- the heap behind a[y] = v -/
def DPut (H : Hp) (a : Addr) (y v : V) (H' : Hp) : Prop :=
  (∃ kvs k, H a = some (.dK kvs) ∧ y = kV k ∧ kvs.length < sizeLine ∧ H' = upd H a (.dK (putK kvs k v))) ∨
  ∃ kvs k b, H a = some (.dT kvs) ∧ y = .ref b ∧ H b = some (.tup (k.map kV)) ∧ kvs.length < sizeLine ∧ H' = upd H a (.dT (putK kvs k v))
theorem DGet.k {H : Hp} {a : Addr} {kvs : List (Key × V)} {k : Key} (e : H a = some (.dK kvs)) : DGet H a (kV k) (valV kvs k) := .inl ⟨kvs, k, .inl e, rfl, rfl⟩
theorem DGet.t {H : Hp} {a b : Addr} {kvs : List (List Key × V)} {k : List Key} (e : H a = some (.dT kvs)) (eb : H b = some (.tup (k.map kV))) : DGet H a (.ref b) (valV kvs k) := .inr ⟨kvs, k, b, .inl e, rfl, eb, rfl⟩
theorem DPut.k {H : Hp} {a : Addr} {kvs : List (Key × V)} {k : Key} {v : V} (e : H a = some (.dK kvs)) (hl : kvs.length < sizeLine) : DPut H a (kV k) v (upd H a (.dK (putK kvs k v))) := .inl ⟨kvs, k, e, rfl, hl, rfl⟩
theorem DPut.t {H : Hp} {a b : Addr} {kvs : List (List Key × V)} {k : List Key} {v : V} (e : H a = some (.dT kvs)) (eb : H b = some (.tup (k.map kV))) (hl : kvs.length < sizeLine) :
    DPut H a (.ref b) v (upd H a (.dT (putK kvs k v))) := .inr ⟨kvs, k, b, e, rfl, eb, hl, rfl⟩


section
variable {X : Cx} {pins : List (Addr × Obj)} {σ : St} {H : Hp} {s : Shared} {a : Addr} {y v : V} {u r : Value} {o : Option V} {A : Around} {E : Value → Shared → Prop}

theorem Inv.big (I : Inv X pins σ H s) : sysModules < s.heap.objs.size := by
  have h : mainGlobals < s.heap.objs.size := (I.mod.glob.keeps I.bk).lt
  exact Nat.lt_trans (by decide) h

/-- d[y], there -/
theorem d_getItem {Q : Value → Shared → Prop} (hu : A.units + 1 < cLine) (I : Inv X pins σ H s) (g : DGet H a y (some v)) (ry : RelV y u) (h : ∀ w' s', Inv X pins σ H s' → RelV v w' → Q w' s') :
    wpAny (model X.prog X.w) A (getItem (.ref a) u) Q E s := by
  rcases g with ⟨kvs, k, e, ey, l⟩ | ⟨kvs, k, b, e, ey, eb, l⟩
  · subst ey
    obtain ⟨z, hd, vs, rel, dd⟩ := dk_rd I.hok e
    obtain ⟨w', hw, rw'⟩ := RelO.some_of (v := v) (o := valueAt vs k) (by rw [l]; exact rel.val k)
    exact wpAny_getItem_of (kV_is ry) dd.mapOf hw (h w' _ (I.tok _) rw')
  · subst ey
    cases (show u = Value.ref b from ry)
    obtain ⟨z, hd, xs, rel, dd⟩ := dt_rd I.hok e
    obtain ⟨w', hw, rw'⟩ := RelO.some_of (v := v) (o := (atKey xs k).map (·.2)) (by rw [l]; exact rel.val k)
    obtain ⟨p, hp, hp2⟩ := Option.map_eq_some_iff.mp hw
    refine wpAny_getItem_heap (tupleKind_room_in1 hu) (key_of I.hok eb) dd hp ?_
    rw [hp2]
    exact h w' _ (I.tok _) rw'
theorem d_notIn {Q : Value → Shared → Prop} (hu : A.units + 1 < cLine) (I : Inv X pins σ H s) (g : DGet H a y o) (ry : RelV y u) (h : ∀ s', Inv X pins σ H s' → Q (.bool (!o.isSome)) s') :
    wpAny (model X.prog X.w) A (compareOp .NotIn u (.ref a)) Q E s := by
  rcases g with ⟨kvs, k, e, ey, l⟩ | ⟨kvs, k, b, e, ey, eb, l⟩
  · subst ey
    obtain ⟨z, hd, vs, rel, dd⟩ := dk_rd I.hok e
    refine wpAny_notIn_of (kV_is ry) hd dd.mapOf ?_
    rw [← (rel.val k).isSome_eq, ← l]
    exact h _ (I.tok _)
  · subst ey
    cases (show u = Value.ref b from ry)
    obtain ⟨z, hd, xs, rel, dd⟩ := dt_rd I.hok e
    refine wpAny_notIn_heap (tupleKind_room_in1 hu) (key_of I.hok eb) hd dd ?_
    have q := (rel.val k).isSome_eq
    rw [Option.isSome_map] at q
    rw [← q, ← l]
    exact h _ (I.tok _)
/-- a dict's object is replaced -/
theorem d_write {h' : Heap} {t' : Nat} {ob : HO} (I : Inv X pins σ H s) (mu : Mut (H a)) (hs : Heap.SameBut a s.heap h') (he : ∃ q, h'.get? a = some q) (new : ObjOk X.prog X.w (upd H a ob) h' a ob) :
    Inv X pins σ (upd H a ob) { s with heap := h', toks := t' } :=
  I.write (x := a) (e := a) mu (.inl rfl) (fun b q hb z => (hs.2 b hb).trans z) he new
theorem dk_new {P : Program} {w : World} {H' : Hp} {h' : Heap} {kvs : List (Key × V)} {vs : List (Key × Value)} (z : kvs.length ≤ sizeLine) (hd : (a == sysModules) = false) (rel : KV kvs vs) (dd : h'.DictOf (mixKind P w) a vs) :
    ObjOk P w H' h' a (.dK kvs) := ⟨z, hd, vs, rel, dd⟩
/-- d[y] = v -/
theorem d_setItem {H' : Hp} {Q : Unit → Shared → Prop} (hu : A.units + 1 < cLine) (I : Inv X pins σ H s) (g : DPut H a y v H') (ry : RelV y u) (rv : RelV v r) (h : ∀ s', Inv X pins σ H' s' → Q () s') :
    wpAny (model X.prog X.w) A (setItem (.ref a) u r) Q E s := by
  rcases g with ⟨kvs, k, e, ey, l, eH⟩ | ⟨kvs, k, b, e, ey, eb, l, eH⟩
  · subst ey eH
    obtain ⟨z, hd, vs, rel, dd⟩ := dk_of I.hok e
    have hz : vs.length ≤ sizeLine := by rw [← rel.length]; exact z
    have hl : (putK kvs k v).length ≤ sizeLine := by have := length_putK kvs k v; omega
    refine wpAny_setItem_pairs (hsz := hz) (kV_is ry) dd fun h' dd' hs => h _ ?_
    have he : ∃ q, h'.get? a = some q := let ⟨q, _, _, hq, _⟩ := dd'; ⟨q, hq⟩
    exact d_write I (by rw [e]; exact True.intro) hs he (dk_new hl hd (rel.put k rv) dd')
  · subst ey eH
    cases (show u = Value.ref b from ry)
    obtain ⟨z, hd, xs, rel, dd⟩ := dt_of I.hok e
    have hz : xs.length ≤ sizeLine := by rw [← Paired.length rel]; exact z
    have hl : (putK kvs k v).length ≤ sizeLine := by have := length_putK kvs k v; omega
    refine wpAny_setItem_heap (hsz := hz) (tupleKind_room_in1 hu) (key_of I.hok eb) dd fun h' dd' hs => h _ ?_
    obtain ⟨q, es, ep, hq, h2, h3, h4, _, h5⟩ := dd'
    refine d_write I (by rw [e]; exact True.intro) hs ⟨q, hq⟩ ⟨hl, hd, _, (rel.put k eb rv).keeps fun c ys ec => ?_, q, es, ep, hq, h2, h3, h4, h5⟩
    rw [upd_ne (ne_of ec e (fun z => nomatch z))]
    exact ec
end

section
variable {X : Cx} {pins : List (Addr × Obj)} {σ : St} {H : Hp} {s : Shared} {a : Addr} {kvs : List (Key × V)} {k : Key} {u : Value} {A : Around} {E : Value → Shared → Prop}
end


/-- the element of a subscription, not a slice -/
def NoSl (i : Expr) : Prop := ∀ ov iv, subscripted i false ov iv = operate [ov, iv] (getItem ov iv)
theorem subD_of {prog : Program} {w : World} {A : Around} {E : Value → Shared → Prop} {s : Shared} {env : Env} {value slice : Expr} {pos : Pos} {T id : String} {Q : Value → Shared → Prop}
    (hl : typeLookup (.type T) "__getitem__" = pure (some (.builtin id))) (hs : NoSl slice)
    (h : wpAny (model prog w) A (eval value env) (fun o s₁ => wpAny (model prog w) A (eval slice env) (fun i s₂ => s₂.TypeIs o T ∧ wpAny (model prog w) A (getItem o i) Q E s₂) E s₁) E s) :
    wpAny (model prog w) A (eval (.Subscript value slice pos) env) Q E s := by
  refine Subscript_ (wpAny_mono h (fun o s₁ h₁ => wpAny_mono h₁ (fun i s₂ h₂ => ?_) fun _ _ x => x) fun _ _ x => x)
  obtain ⟨hT, h₂⟩ := h₂
  unfold subscriptTail
  refine wpAny_bind ?_
  rw [getitemInPython_of_ne hT.not_modules]
  refine wpAny_bind (wpAny_specialOf hT hl ?_)
  have fin : wpAny (model prog w) A (subscripted slice false o i) (fun r s₃ => wpAny (model prog w) A (letTemporaryGo value o r >>= fun _ => pure r) Q E s₃) E s₂ := by
    rw [hs o i]
    exact wpAny_operating (wpAny_mono h₂ (fun r s₃ h₃ => wpAny_bind (wpAny_letTemporaryGo (wpAny_pure h₃))) fun _ _ x => x)
  first
    | exact wpAny_pure (wpAny_bind fin)
    | exact wpAny_bind (wpAny_pure (wpAny_bind fin))
    | exact wpAny_bind fin

theorem dict_typeIs {X : Cx} {pins : List (Addr × Obj)} {σ : St} {H : Hp} {s : Shared} {a : Addr} {y : V} {o : Option V} (I : Inv X pins σ H s) (g : DGet H a y o) : s.TypeIs (.ref a) "dict" := by
  rcases g with ⟨kvs, k, e, _, _⟩ | ⟨kvs, k, b, e, _, _, _⟩
  · obtain ⟨_, _, vs, _, dd⟩ := dk_rd I.hok e
    exact dd.typeIs
  · obtain ⟨_, _, xs, _, dd⟩ := dt_rd I.hok e
    exact dd.typeIs
/-- d[y] -/
def tDGet (td ty : TE) : TE := fun σ H Q => td σ H fun x H1 => ty σ H1 fun y H2 => ∃ a v, x = .ref a ∧ DGet H2 a y (some v) ∧ Q v H2
/-- d[y] = v -/
def sDPut (td ty tv : TE) : TS := fun D σ H => tv σ H fun v H1 => td σ H1 fun x H2 => ty σ H2 fun y H3 => ∃ a H4, x = .ref a ∧ DPut H3 a y v H4 ∧ D.nx σ H4
section
variable {X : Cx} {o i e value : Expr} {pos pos' tpos : Pos} {td ty tv : TE}
theorem pe_dget (hu : X.A.units + 1 < cLine) (ho : PE X o td) (hi : PE X i ty) (hs : NoSl i) : PE X (.Subscript o i pos) (tDGet td ty) := by
  intro pins s σ H Q I h
  refine subD_of PySem.F.slot_dict_getitem.lookup hs (thn (ho pins s σ H _ I h) fun u s1 ⟨x, H1, I1, rx, q1⟩ => thn (hi pins s1 σ H1 _ I1 q1) fun iv s2 ⟨y, H2, I2, ry, a, v, ex, g, q2⟩ => ?_)
  subst ex
  obtain rfl : u = Value.ref a := rx
  exact ⟨dict_typeIs I2 g, d_getItem hu I2 g ry fun w' s3 I3 rw' => ⟨v, H2, I3, rw', q2⟩⟩
theorem ps_dput (hu : X.A.units + 1 < cLine) (ho : PE X o td) (hi : PE X i ty) (hv : PE X value tv) (hs : swapsWith value (some (.Subscript o i pos')) pos.line X.env = pure false) :
    PS X (.Assign [.Subscript o i pos'] value pos) (sDPut td ty tv) := by
  intro pins s σ H D I h
  refine wpAny_Assign_Subscript (thn (hv pins s σ H _ I h) fun r s1 ⟨v, H1, I1, rv, q1⟩ => thn (ho pins s1 σ H1 _ I1 q1) fun u s2 ⟨x, H2, I2, rx, q2⟩ => thn (hi pins s2 σ H2 _ I2 q2) fun iv s3 ⟨y, H3, I3, ry, a, H4, ex, g, q3⟩ => ?_) hs
  subst ex
  obtain rfl : u = Value.ref a := rx
  exact d_setItem hu I3 g ry rv fun s4 I4 => ⟨σ, H4, I4, q3⟩
end


theorem dk_empty {P : Program} {w : World} {H : Hp} (h : Heap) (hb : sysModules < h.objs.size) : ObjOk P w H (h.push { cls := .type "dict", data := .dict #[] }) h.objs.size (.dK []) :=
  ⟨Nat.zero_le _, beq_eq_false_iff_ne.mpr (Ne.symm (Nat.ne_of_lt hb)), [], .nil, Heap.DictOf.new h⟩
/-- {}, to be a dict of the kind that is wanted -/
def tDNewK : TE := fun _ H Q => ∀ p, H p = none → Q (.ref p) (upd H p (.dK []))
section
variable {X : Cx} {pos : Pos}
theorem pe_dnewK : PE X (.Dict [] [] pos) tDNewK := fun pins s σ H Q I h =>
  wpAny_Dict_empty ⟨.ref s.heap.objs.size, _, I.laid (a := s.heap.objs.size) (o := .dK []) (t' := s.toks) (fun _ _ q => Heap.get?_push_of_some _ q) (Nat.le_refl _) (dk_empty s.heap I.big), rfl, h _ (I.hok.fresh (Nat.le_refl _))⟩
end

/-- the pairs of a display, from the left -/
def tPairs : List (TE × TE) → St → Hp → (List (V × V) → Hp → Prop) → Prop
  | [], _, H, Q => Q [] H
  | (tk, tv) :: r, σ, H, Q => tk σ H fun x H1 => tv σ H1 fun y H2 => tPairs r σ H2 fun ps H3 => Q ((x, y) :: ps) H3
abbrev VV : List (V × V) → List (Value × Value) → Prop := Paired fun p q => RelV p.1 q.1 ∧ RelV p.2 q.2
def PPs (X : Cx) (pos : Pos) (keys : List (Option Expr)) (values : List Expr) (trs : List (TE × TE)) : Prop :=
  ∀ (pins : List (Addr × Obj)) (s : Shared) (σ : St) (H : Hp) (Q : List (V × V) → Hp → Prop), Inv X pins σ H s → tPairs trs σ H Q →
    wpAny (model X.prog X.w) X.A (evalPairs (pairTrees keys values X.env pos)) (fun vs s' => ∃ ps H', Inv X pins σ H' s' ∧ VV ps vs ∧ Q ps H') X.xe s
theorem pps_nil {X : Cx} {pos : Pos} : PPs X pos [] [] [] := fun pins s σ H Q I h => pairTrees_nil_walk ⟨[], H, I, .nil, h⟩
theorem pps_cons {X : Cx} {pos : Pos} {k v : Expr} {ks : List (Option Expr)} {vs : List Expr} {tk tv : TE} {trs : List (TE × TE)} (hk : PE X k tk) (hv : PE X v tv) (hr : PPs X pos ks vs trs) :
    PPs X pos (some k :: ks) (v :: vs) ((tk, tv) :: trs) := fun pins s σ H Q I h =>
  pairTrees_cons_walk (thn (hk pins s σ H _ I h) fun u s1 ⟨x, H1, I1, rx, q1⟩ => thn (hv pins s1 σ H1 _ I1 q1) fun w2 s2 ⟨y, H2, I2, ry, q2⟩ =>
    thn (hr pins s2 σ H2 _ I2 q2) fun ws s3 ⟨ps, H3, I3, rel, q3⟩ => ⟨(x, y) :: ps, H3, I3, .cons ⟨rx, ry⟩ rel, q3⟩)

def mergeK (kvs more : List (Key × V)) : List (Key × V) := more.foldl (fun acc kv => putK acc kv.1 kv.2) kvs
theorem KV.merge : ∀ {more : List (Key × V)} {rs : List (Key × Value)} {kvs : List (Key × V)} {vs : List (Key × Value)}, KV more rs → KV kvs vs → KV (mergeK kvs more) (merged vs rs) := by
  intro more rs kvs vs r
  unfold KV at r
  induction r generalizing kvs vs with
  | nil => intro q; exact q
  | @cons p q ps qs h t ih =>
    intro r0
    have e : KV (putK kvs p.1 p.2) (stored vs q.1 q.2) := by
      have := r0.put p.1 h.2
      rw [← h.1]; exact this
    exact ih e
theorem length_mergeK : ∀ (more kvs : List (Key × V)), (mergeK kvs more).length ≤ kvs.length + more.length
  | [], kvs => by show kvs.length ≤ kvs.length + 0; omega
  | p :: r, kvs => by
    have h1 := length_mergeK r (putK kvs p.1 p.2)
    have h2 := length_putK kvs p.1 p.2
    show (mergeK (putK kvs p.1 p.2) r).length ≤ _
    rw [List.length_cons]; omega
theorem carries_of {P : Program} {w : World} : ∀ {kvs : List (Key × V)} {ws : List (Value × Value)}, VV (kvs.map fun kv => (kV kv.1, kv.2)) ws → ∃ rs, Carries (mixKind P w) ws rs ∧ KV kvs rs
  | [], _, r => by rw [List.map_nil] at r; cases r; exact ⟨[], True.intro, .nil⟩
  | p :: kvs, _, r => by
    rw [List.map_cons] at r
    cases r with
    | @cons a b as bs h t =>
      obtain ⟨rs, c, q⟩ := carries_of (P := P) (w := w) t
      obtain ⟨b1, b2⟩ := b
      exact ⟨(p.1, b2) :: rs, ⟨kV_is h.1, rfl, c⟩, .cons ⟨rfl, h.2⟩ q⟩
/-- {k: v, ..} with keys ints and texts; the new dict stands empty while the pairs are made -/
def tDisp (trs : List (TE × TE)) : TE := fun σ H Q => ∀ p, H p = none → tPairs trs σ (upd H p (.dK [])) fun ps H2 => H2 p = some (.dK []) ∧ ∃ kvs : List (Key × V), ps = kvs.map (fun kv => (kV kv.1, kv.2)) ∧ kvs.length ≤ 15 ∧ Q (.ref p) (upd H2 p (.dK (mergeK [] kvs)))
theorem pe_disp {X : Cx} {pos : Pos} {keys : List (Option Expr)} {values : List Expr} {trs : List (TE × TE)} (h : PPs X pos keys values trs) (hall : keys.all (·.isSome) = true) (hl : keys.length = values.length) (h0 : keys ≠ [])
    (h15 : keys.length ≤ 15) : PE X (.Dict keys values pos) (tDisp trs) := by
  intro pins s σ H Q I q
  have hn := I.hok.fresh (Nat.le_refl s.heap.objs.size)
  have I1 := I.laid (a := s.heap.objs.size) (o := .dK []) (h' := s.heap.push { cls := .type "dict", data := .dict #[] }) (t' := s.toks) (fun _ _ q => Heap.get?_push_of_some _ q) (Nat.le_refl _) (dk_empty s.heap I.big)
  refine wpAny_Dict_walk (knd := mixKind X.prog X.w) hall hl h0 h15 (thn (h pins _ σ _ _ I1 (q _ hn)) fun ws s2 ⟨ps, H2, I2, rel, e, kvs, ep, lk, q2⟩ => ?_)
  subst ep
  obtain ⟨rs, c, rk⟩ := carries_of (P := X.prog) (w := X.w) rel
  obtain ⟨z, hd, vs0, r0, dd⟩ := dk_of I2.hok e
  cases r0
  refine ⟨rs, c, dd, fun h' dd' hs => ⟨.ref s.heap.objs.size, _, ?_, rfl, q2⟩⟩
  have hz : (mergeK [] kvs).length ≤ sizeLine := by
    have h1 := length_mergeK kvs []
    rw [List.length_nil] at h1
    rw [sizeLine_eq]; omega
  have he : ∃ q, h'.get? s.heap.objs.size = some q := let ⟨q, _, _, hq, _⟩ := dd'; ⟨q, hq⟩
  exact d_write I2 (by rw [e]; exact True.intro) hs he (dk_new hz hd (rk.merge .nil) dd')


/-- a method call o.m(e) of a built-in, with one argument: what must be seen of the text -/
structure M1 (X : Cx) (o : Expr) (m : Str) (apos : Pos) (e : Expr) (cpos : Pos) : Prop where
  base : attributeBase o m X.env (eval o X.env) = eval o X.env
  few : ((backTo cpos (starEach [e] X.env)).all (fun x => !x.1) && (backToKw cpos (keywordEach [] X.env)).all (fun x => x.1.isSome)
    && decide (([e] : List Expr).length + ([] : List Keyword).length + (if ([] : List Keyword).isEmpty then 0 else 1) < 30)) = true
  line : (apos.endLine == cpos.line) = true
  trees : backTo cpos (starEach [e] X.env) = [(false, eval e X.env)]
structure M2 (X : Cx) (o : Expr) (m : Str) (apos : Pos) (e f : Expr) (cpos : Pos) : Prop where
  base : attributeBase o m X.env (eval o X.env) = eval o X.env
  few : ((backTo cpos (starEach [e, f] X.env)).all (fun x => !x.1) && (backToKw cpos (keywordEach [] X.env)).all (fun x => x.1.isSome)
    && decide (([e, f] : List Expr).length + ([] : List Keyword).length + (if ([] : List Keyword).isEmpty then 0 else 1) < 30)) = true
  line : (apos.endLine == cpos.line) = true
  trees : backTo cpos (starEach [e, f] X.env) = [(false, eval e X.env), (false, eval f X.env)]

section
variable {X : Cx} {pins : List (Addr × Obj)} {σ : St} {H : Hp} {s : Shared} {a : Addr} {y d : V} {u r : Value} {o : Option V} {A : Around} {E : Value → Shared → Prop}
end

section
variable {X : Cx} {o e f : Expr} {apos cpos : Pos} {td ty tx : TE}
end

section
variable {X : Cx} {pins : List (Addr × Obj)} {σ : St} {H : Hp} {s : Shared} {a : Addr} {kvs : List (Key × V)} {A : Around} {E : Value → Shared → Prop}
end


section
variable {X : Cx} {pins : List (Addr × Obj)} {σ : St} {H : Hp} {s : Shared} {a : Addr} {y : V} {u : Value} {A : Around} {E : Value → Shared → Prop}
end
end L2

namespace L2
open PySem PySem.Spec PyProof.Rows
section
variable {X : Cx}
end
end L2

set_option Elab.async false
set_option linter.all false
set_option maxRecDepth 100000
set_option maxHeartbeats 1000000
namespace EnT
open PySem PySem.Spec PyProof.Rows
open AutoSeq1 (wpAny_loadPart')
def tIt (l : Addr) : Obj := { cls := .type "tuple_iterator", data := .fields #[.ref l, .int 0 0] }
def enO (it : Addr) : Obj := { cls := .type "enumerate", data := .fields #[.none, .bool false, .ref it, rawInt 0, .none, .none] }
theorem meets_new (l : Addr) (items : Array Value) :
    Meets (Builtin.«enumerate.__new__» ⟨[.type "enumerate", .ref l], []⟩) (fun _ R s => s.heap.IsTuple l items ∧
      R (.ok (.ret (.ref (s.heap.push (tIt l)).objs.size))) { s with heap := (s.heap.push (tIt l)).push (enO s.heap.objs.size) }) :=
  .of_wp fun prog w A R s h => by
    obtain ⟨hp, g, d, tk, os⟩ := s; obtain ⟨hL, h⟩ := h
    have hsub := sub_enumerate
    obtain ⟨⟨oc, od, oda, osl⟩, hl, hc, n, hd⟩ := id hL
    simp only at hc hd
    subst hc hd
    wp_walk using wpAny_loadPart' hl
    refine wpAny_stack_any fun st => wpAny_pure ?_
    split
    · rename_i c _ _ _ _ _
      cases (c == Value.type "enumerate")
      · wp_walk using wpAny_loadPart' hl, wpAny_pyIter_tuple hL
        exact ⟨_, rfl, h⟩
      · wp_walk using wpAny_loadPart' hl, wpAny_pyIter_tuple hL
        exact ⟨_, rfl, h⟩
    · wp_walk using wpAny_loadPart' hl, wpAny_pyIter_tuple hL
      exact ⟨_, rfl, h⟩
section
variable {prog : Program} {w : World} {A : Around} {E : Value → Shared → Prop} {s : Shared}
theorem next_of {it l : Addr} {i : Nat} {items} {x : Value} {Q : Value → Shared → Prop} (hit : s.heap.IsTupleIter it l i) (hl : s.heap.IsTuple l items) (hx : items[i]? = some x)
    (hQ : ∀ h', h'.IsTupleIter it l (i + 1) → Heap.SameBut it s.heap h' → Q x { s with heap := h' }) : wpAny (model prog w) A (Builtin.SmallTypes.nextOf (.ref it)) Q E s := by
  obtain ⟨o, ho, hc, hd⟩ := id hit
  obtain ⟨ol, hol, _, nl, hdl⟩ := hl
  unfold Builtin.SmallTypes.nextOf
  refine wpAny_bind (wpAny_callSpecial?_slot (name := Str.ofString "__next__") hit.typeIs F.slot_tuple_iterator_next (wpAny_call_entry F.slot_tuple_iterator_next hit.typeIs F.entry_tuple_iterator_next ?_ (F.args_tuple_iterator_next_1 _)))
  show wpAny _ _ (field (.ref it) 0 >>= _) _ _ s
  refine wpAny_bind (wpAny_field ho hd (x := .ref l) rfl ?_)
  show wpAny _ _ (if (Value.ref l == Value.none) = true then _ else _) _ _ s
  rw [if_neg (show ¬ ((Value.ref l == Value.none) = true) from Bool.false_ne_true)]
  show wpAny _ _ (field (.ref it) 1 >>= _) _ _ s
  refine wpAny_bind (wpAny_field ho hd (x := .int i 0) rfl ?_)
  show wpAny _ _ (seqItems? (.ref l) >>= _) _ _ s
  refine wpAny_bind (wpAny_seqItems hol hdl ?_)
  simp only [Int.toNat_natCast, hx]
  refine wpAny_bind (wpAny_setField ho hd (by simp) (wpAny_pure ⟨x, rfl, wpAny_pure (hQ _ ⟨_, Heap.get?_update_self _ ho (Obj.isFreed_of_fields (Obj.data_mapFields hd _)), (Obj.cls_mapFields ..).trans hc, ?_⟩ (Heap.SameBut.update ..))⟩))
  rw [Obj.data_mapFields hd]
  simp [rawInt]
theorem next_no {it l : Addr} {i : Nat} {items} {Q : Value → Shared → Prop} (hh : A.handled = none) (hit : s.heap.IsTupleIter it l i) (hl : s.heap.IsTuple l items) (hx : items[i]? = none)
    (hE : ∀ h' e, Heap.ExtBut it s.heap h' → (∃ o, h'.get? e = some o ∧ o.cls = .type "StopIteration") → E (.ref e) { s with heap := h' }) : wpAny (model prog w) A (Builtin.SmallTypes.nextOf (.ref it)) Q E s := by
  obtain ⟨o, ho, hc, hd⟩ := id hit
  obtain ⟨ol, hol, _, nl, hdl⟩ := hl
  unfold Builtin.SmallTypes.nextOf
  refine wpAny_bind (wpAny_callSpecial?_slot (name := Str.ofString "__next__") hit.typeIs F.slot_tuple_iterator_next (wpAny_call_entry F.slot_tuple_iterator_next hit.typeIs F.entry_tuple_iterator_next ?_ (F.args_tuple_iterator_next_1 _)))
  show wpAny _ _ (field (.ref it) 0 >>= _) _ _ s
  refine wpAny_bind (wpAny_field ho hd (x := .ref l) rfl ?_)
  show wpAny _ _ (if (Value.ref l == Value.none) = true then _ else _) _ _ s
  rw [if_neg (show ¬ ((Value.ref l == Value.none) = true) from Bool.false_ne_true)]
  show wpAny _ _ (field (.ref it) 1 >>= _) _ _ s
  refine wpAny_bind (wpAny_field ho hd (x := .int i 0) rfl ?_)
  show wpAny _ _ (seqItems? (.ref l) >>= _) _ _ s
  refine wpAny_bind (wpAny_seqItems hol hdl ?_)
  simp only [Int.toNat_natCast, hx]
  refine wpAny_bind (wpAny_rule (wpAny_bind (wpAny_setField ho hd (by simp) ?_)))
  show wpAny _ _ (newExc (.type "StopIteration") [] >>= _) _ _ _
  refine wpAny_bind ?_
  simp only [newExc, newTuple]
  refine wpAny_bind (wpAny_newObj_type ?_ (by size_fits))
  refine wpAny_bind (m := firstArgMember _ _) (wpAny_of_eq (a := Value.none) (by first | rfl | (simp only [firstArgMember]; rfl)) ?_)
  refine wpAny_newObj_type ?_ (by size_fits)
  simp only [raiseNew]
  refine wpAny_bind (wpAny_handled ?_)
  first | rw [show A.in1.handled = none from hh] | rw [hh]
  refine wpAny_bind (wpAny_pure (wpAny_throw ?_))
  exact hE _ _ (((Heap.SameBut.update ..).extBut.push _).push _) ⟨_, Heap.get?_push_size _ rfl, rfl⟩
theorem step_in {e it l : Addr} {i : Nat} {items : Array Value} {x old : Value} {Q : Value → Shared → Prop}
    (he : IsEnum s.heap e it i old) (hit : s.heap.IsTupleIter it l i) (hl : s.heap.IsTuple l items) (hx : items[i]? = some x) (hne : e ≠ it)
    (hQ : ∀ h', IsEnumOut h' e it ((i : Int) + 1) x s.heap.objs.size → h'.IsTupleIter it l (i + 1) →
      h'.get? s.heap.objs.size = some { cls := .type "tuple", data := .seq #[.int i s.toks, x] } → h'.objs.size = s.heap.objs.size + 1 →
      (∀ b o, b ≠ e → b ≠ it → s.heap.get? b = some o → h'.get? b = some o) → Q (.ref s.heap.objs.size) { s with heap := h', toks := s.toks + 1 }) :
    wpAny (model prog w) A (Builtin.«enumerate.__next__» ⟨[.ref e], []⟩) (fun fin s' => ∃ v, fin = .done (.ret v) ∧ Q v s') E s := by
  obtain ⟨hp, g, d, tk, os⟩ := s
  show wpAny _ _ (field (.ref e) 2 >>= _) _ _ _
  refine wpAny_bind (wpAny_field he rfl (x := .ref it) rfl ?_)
  refine wpAny_bind (next_of hit hl hx fun h₁ hit₁ hs₁ => ?_)
  replace hs₁ : Heap.SameBut it hp h₁ := hs₁
  have he₁ : IsEnum h₁ e it i old := (hs₁.2 e hne).trans he
  show wpAny _ _ (field (.ref e) 3 >>= _) _ _ ⟨h₁, g, d, tk, os⟩
  refine wpAny_bind (wpAny_field he₁ rfl (x := rawInt i) rfl ?_)
  show wpAny _ _ (field (.ref e) 4 >>= _) _ _ ⟨h₁, g, d, tk, os⟩
  refine wpAny_bind (wpAny_field he₁ rfl (x := .none) rfl ?_)
  show wpAny _ _ (mkInt i >>= _) _ _ ⟨h₁, g, d, tk, os⟩
  refine wpAny_bind (wpAny_mkInt ?_)
  show wpAny _ _ (setField (.ref e) 3 (rawInt ((i : Int) + 1)) >>= _) _ _ ⟨h₁, g, d, tk + 1, os⟩
  refine wpAny_bind (wpAny_setField_rec he₁ (by simp) fun h₂ he₂ hs₂ => ?_)
  replace hs₂ : Heap.SameBut e h₁ h₂ := hs₂
  replace he₂ : IsEnum h₂ e it ((i : Int) + 1) old := he₂
  show wpAny _ _ (setField (.ref e) 4 .none >>= _) _ _ ⟨h₂, g, d, tk + 1, os⟩
  refine wpAny_bind (wpAny_setField_rec he₂ (by simp) fun h₃ he₃ hs₃ => ?_)
  replace hs₃ : Heap.SameBut e h₂ h₃ := hs₃
  replace he₃ : IsEnum h₃ e it ((i : Int) + 1) old := he₃
  show wpAny _ _ (newTuple [.int i tk, x] >>= _) _ _ ⟨h₃, g, d, tk + 1, os⟩
  refine wpAny_bind (wpAny_newTuple ?_)
  have he₄ : IsEnum (h₃.push { cls := .type "tuple", data := .seq #[.int i tk, x] }) e it ((i : Int) + 1) old := Heap.get?_push_of_some _ he₃
  generalize hh₄ : h₃.push { cls := .type "tuple", data := .seq #[.int i tk, x] } = h₄ at he₄
  have hsz : h₃.objs.size = hp.objs.size := by rw [hs₃.1, hs₂.1, hs₁.1]
  have hel : e < hp.objs.size := Heap.lt_size he
  have ht₄ : h₄.get? hp.objs.size = some { cls := .type "tuple", data := .seq #[.int i tk, x] } := by rw [← hh₄, ← hsz]; exact Heap.get?_push_size _ rfl
  have hz₄ : h₄.objs.size = hp.objs.size + 1 := by rw [← hh₄, Heap.size_push, hsz]
  have hk₄ : ∀ b o, b ≠ e → b ≠ it → hp.get? b = some o → h₄.get? b = some o := fun b o hbe hbi hb => by
    rw [← hh₄]; exact Heap.get?_push_of_some _ (hs₃.extBut b o hbe (hs₂.extBut b o hbe (hs₁.extBut b o hbi hb)))
  have hit₄ : h₄.IsTupleIter it l (i + 1) := by
    rw [← hh₄]; obtain ⟨o, ho, r⟩ := (hit₁.extBut hs₂.extBut (Ne.symm hne)).extBut hs₃.extBut (Ne.symm hne); exact ⟨o, Heap.get?_push_of_some _ ho, r⟩
  show wpAny _ _ (Builtin.SmallTypes.ownedTupleIsFree (.ref e) >>= _) _ _ ⟨h₄, g, d, tk + 1, os⟩
  rw [hsz]
  clear hh₄ he₃ hs₃ he₂ hs₂ he₁ hs₁ hit₁ hsz h₃ h₂ h₁
  refine wpAny_bind ?_
  · unfold Builtin.SmallTypes.ownedTupleIsFree
    refine wpAny_bind (wpAny_field he₄ rfl (x := .none) rfl (wpAny_pure ?_))
    simp only [if_true]
    refine wpAny_bind (wpAny_rule ?_)
    refine wpAny_bind (wpAny_field he₄ rfl (x := old) rfl ?_)
    refine wpAny_bind (wpAny_setField_rec he₄ (by simp) fun h₅ he₅ hs₅ => ?_)
    replace hs₅ : Heap.SameBut e h₄ h₅ := hs₅
    replace he₅ : IsEnum h₅ e it ((i : Int) + 1) x := he₅
    show wpAny _ _ (Builtin.SmallTypes.ownedTupleHandOut (.ref e) (.ref hp.objs.size) >>= _) _ _ ⟨h₅, g, d, tk + 1, os⟩
    refine wpAny_bind ?_
    · unfold Builtin.SmallTypes.ownedTupleHandOut
      refine wpAny_bind (wpAny_setField_rec he₅ (by simp) fun h₆ he₆ hs₆ => ?_)
      replace hs₆ : Heap.SameBut e h₅ h₆ := hs₆
      replace he₆ : IsEnumOut h₆ e it ((i : Int) + 1) x hp.objs.size := he₆
      refine wpAny_setField_rec he₆ (by simp) fun h₇ he₇ hs₇ => ?_
      replace hs₇ : Heap.SameBut e h₆ h₇ := hs₇
      replace he₇ : IsEnumOut h₇ e it ((i : Int) + 1) x hp.objs.size := he₇
      refine wpAny_bind (wpAny_letGo (wpAny_pure ⟨_, rfl, hQ h₇ he₇ ?_ ?_ ?_ ?_⟩))
      · exact ((hit₄.extBut hs₅.extBut (Ne.symm hne)).extBut hs₆.extBut (Ne.symm hne)).extBut hs₇.extBut (Ne.symm hne)
      · exact hs₇.extBut _ _ (Nat.ne_of_gt hel) (hs₆.extBut _ _ (Nat.ne_of_gt hel) (hs₅.extBut _ _ (Nat.ne_of_gt hel) ht₄))
      · rw [hs₇.1, hs₆.1, hs₅.1, hz₄]
      · exact fun b o hbe hbi hb => hs₇.extBut b o hbe (hs₆.extBut b o hbe (hs₅.extBut b o hbe (hk₄ b o hbe hbi hb)))
theorem next_item {e it l : Addr} {i : Nat} {items : Array Value} {x old : Value} {Q : Option Value → Shared → Prop}
    (he : IsEnum s.heap e it i old) (hit : s.heap.IsTupleIter it l i) (hl : s.heap.IsTuple l items) (hx : items[i]? = some x) (hne : e ≠ it)
    (hQ : ∀ h', IsEnumOut h' e it ((i : Int) + 1) x s.heap.objs.size → h'.IsTupleIter it l (i + 1) →
      h'.get? s.heap.objs.size = some { cls := .type "tuple", data := .seq #[.int i s.toks, x] } → h'.objs.size = s.heap.objs.size + 1 →
      (∀ b o, b ≠ e → b ≠ it → s.heap.get? b = some o → h'.get? b = some o) → Q (some (.ref s.heap.objs.size)) { s with heap := h', toks := s.toks + 1 }) :
    wpAny (model prog w) A (pyNext (.ref e)) Q E s := by
  have hT : s.TypeIs (.ref e) "enumerate" := ⟨_, he, rfl⟩
  unfold pyNext
  exact wpAny_bind (wpAny_attempt (wpAny_callSpecial?_slot (name := Str.ofString "__next__") hT F.slot_enumerate_next (wpAny_call_entry F.slot_enumerate_next hT F.entry_enumerate_next
      (step_in he hit hl hx hne fun h' a b c d k => wpAny_pure (hQ h' a b c d k)) (F.args_enumerate_next_1 _))))
theorem next_end {e it l : Addr} {i : Nat} {items : Array Value} {old : Value} {Q : Option Value → Shared → Prop} (hh : A.handled = none)
    (he : IsEnum s.heap e it i old) (hit : s.heap.IsTupleIter it l i) (hl : s.heap.IsTuple l items) (hx : items[i]? = none)
    (hQ : ∀ h', Heap.ExtBut it s.heap h' → Q none { s with heap := h' }) : wpAny (model prog w) A (pyNext (.ref e)) Q E s := by
  have hT : s.TypeIs (.ref e) "enumerate" := ⟨_, he, rfl⟩
  unfold pyNext
  refine wpAny_bind (wpAny_attempt (wpAny_callSpecial?_slot (name := Str.ofString "__next__") hT F.slot_enumerate_next (wpAny_call_entry F.slot_enumerate_next hT F.entry_enumerate_next ?_ (F.args_enumerate_next_1 _))))
  show wpAny _ _ (field (.ref e) 2 >>= _) _ _ _
  refine wpAny_bind (wpAny_field he rfl (x := .ref it) rfl ?_)
  refine wpAny_bind (next_no hh hit hl hx fun h' x he' hx' => ?_)
  obtain ⟨o, ho, hc⟩ := hx'
  refine wpAny_bind (wpAny_isInstance (T := "StopIteration") (b := true) ⟨o, ho, hc⟩ isSubtype_stop ?_)
  exact wpAny_pure (hQ _ he')
end
end EnT
namespace L2
open PySem PySem.Spec PyProof.Rows
end L2

set_option Elab.async false
set_option linter.all false
set_option maxRecDepth 100000
set_option maxHeartbeats 1000000
namespace L2
open PySem PySem.Spec PyProof.Rows
section
variable {X : Cx}
theorem qe_dget {o i : Expr} {td ty : TE} {pos : Pos} (hu : X.A.units + 1 < cLine) (ho : QE X o td) (hi : QE X i ty) (hs : NoSl i) : QE X (.Subscript o i pos) (tDGet td ty) := ⟨pe_dget hu ho.out hi.out hs⟩
theorem qe_dnew {pos : Pos} : QE X (.Dict [] [] pos) tDNewK := ⟨pe_dnewK⟩
theorem qs_dput {o i value : Expr} {td ty tv : TE} {pos pos' : Pos} (hu : X.A.units + 1 < cLine) (ho : QE X o td) (hi : QE X i ty) (hv : QE X value tv) (hs : swapsWith value (some (.Subscript o i pos')) pos.line X.env = pure false) :
    QS X (.Assign [.Subscript o i pos'] value pos) (sDPut td ty tv) := ⟨ps_dput hu ho.out hi.out hv.out hs⟩
def rDIn (neg : Bool) : R2 := fun y x H Q => ∃ a o, x = .ref a ∧ DGet H a y o ∧ Q (.bl (if neg then !o.isSome else o.isSome)) H
theorem op_notIn_dict (hu : X.A.units + 1 < cLine) : OpR X (compareOp .NotIn) (rDIn true) := by
  intro pins s σ H x y v u Q I rx ry h
  obtain ⟨a, o, rfl, g, q⟩ := h
  cases ry
  exact d_notIn hu I g rx fun s' I' => ⟨.bl (!o.isSome), H, I', rfl, q⟩
end
end L2

set_option Elab.async false
set_option linter.all false
set_option maxRecDepth 100000
set_option maxHeartbeats 1000000
namespace L2
open PySem PySem.Spec PyProof.Rows
inductive KTab (P : Params) : List DictEntry → List (Str × Int) → Prop
  | nil : KTab P [] []
  | cons {k : Str} {v : Int} {t u : Tok} {es : List DictEntry} {l : List (Str × Int)} : KTab P es l → KTab P ({ hash := PyData.keyHash P k, key := .str k t, val := .int v u } :: es) ((k, v) :: l)
structure KD (K : PySem.W.Frag) (w : World) (a : Addr) (l : List (Str × Int)) : Prop where
  ex : ∃ es ep, K.lookup a = some { cls := .type "dict", dict := none, data := .dict es ep, slots := #[] } ∧ KTab w.params es.toList l
  nd : (l.map (·.1)).Nodup
  ns : (a == sysModules) = false
def kvsOf (l : List (Str × Int)) : List (Key × V) := l.map fun p => ((Sum.inr p.1 : Key), V.int p.2)
theorem KTab.pairs {P : Program} {w : World} {es : List DictEntry} {l : List (Str × Int)} (h : KTab w.params es l) : (∃ vs, KV (kvsOf l) vs ∧ Pairs (mixKind P w) es vs) ∧ ∀ e ∈ es, ∃ k, (mixKind P w).is k e.key = true ∧ e.hash = (mixKind P w).hash k := by
  induction h with
  | nil => exact ⟨⟨[], .nil, .nil⟩, fun _ h => nomatch h⟩
  | @cons k v t u es l _ ih =>
    obtain ⟨⟨vs, r, p⟩, q⟩ := ih
    refine ⟨⟨(.inr k, .int v u) :: vs, .cons ⟨rfl, ⟨u, rfl⟩⟩ r, .cons (mixKind_str P w k t) rfl p⟩, fun e he => ?_⟩
    rcases List.mem_cons.mp he with rfl | he
    · exact ⟨.inr k, mixKind_str P w k t, rfl⟩
    · exact q e he
section
variable {X : Cx} {pins : List (Addr × Obj)} {σ : St} {H : Hp} {s : Shared} {a : Addr} {l : List (Str × Int)} {k : Key} {u : Value} {A : Around} {E : Value → Shared → Prop}
theorem KD.of (I : Inv X pins σ H s) (d : KD X.K X.w a l) : ∃ vs, KV (kvsOf l) vs ∧ s.heap.DictOf (mixKind X.prog X.w) a vs := by
  obtain ⟨es, ep, hk, t⟩ := d.ex
  obtain ⟨⟨vs, r, p⟩, q⟩ := t.pairs (P := X.prog)
  refine ⟨vs, r, _, es, ep, I.kIn a _ hk, ⟨rfl, rfl, rfl⟩, rfl, fun e he => q e (by simpa using he), p, ?_⟩
  rw [← r.keys]
  unfold kvsOf
  rw [List.map_map]
  have := d.nd
  rw [List.nodup_iff_pairwise_ne] at *
  rw [List.pairwise_map] at *
  exact this.imp fun h z => h (Sum.inr.inj z)
theorem kd_in {Q : Value → Shared → Prop} (I : Inv X pins σ H s) (d : KD X.K X.w a l) (ry : RelV (kV k) u) (h : ∀ s', Inv X pins σ H s' → Q (.bool (valV (kvsOf l) k).isSome) s') : wpAny (model X.prog X.w) A (compareOp .In u (.ref a)) Q E s := by
  obtain ⟨vs, rel, dd⟩ := d.of I
  refine wpAny_in_of (kV_is ry) d.ns dd.mapOf ?_
  rw [← (rel.val k).isSome_eq]
  exact h _ (I.tok _)
theorem kd_get2 {z : V} {r : Value} {Q : Value → Shared → Prop} (I : Inv X pins σ H s) (d : KD X.K X.w a l) (ry : RelV (kV k) u) (rz : RelV z r) (h : ∀ w' s', Inv X pins σ H s' → RelV ((valV (kvsOf l) k).getD z) w' → Q w' s') :
    wpAny (model X.prog X.w) A (call (.builtin "dict.get") [.ref a, u, r]) Q E s := by
  obtain ⟨vs, rel, dd⟩ := d.of I
  exact call_meetsIn PySem.F.slot_dict_get dd.typeIs PySem.F.entry_dict_get (PySem.F.args_dict_get_3 _ _ _) (meets_dict_get_default (mixKind X.prog X.w) a (kV_is ry) d.ns r) ⟨_, dd.mapOf, h _ _ (I.tok _) ((rel.val k).getD rz)⟩
end
section
variable {X : Cx}
def rKIn (K : PySem.W.Frag) (w : World) : R2 := fun y x H Q => ∃ a l k, x = .ref a ∧ KD K w a l ∧ y = kV k ∧ Q (.bl (valV (kvsOf l) k).isSome) H
theorem op_in_K : OpR X (compareOp .In) (rKIn X.K X.w) := by
  intro pins s σ H x y v u Q I rx ry h
  obtain ⟨a, l, k, rfl, d, rfl, q⟩ := h
  cases ry
  exact kd_in I d rx fun s' I' => ⟨.bl _, H, I', rfl, q⟩
def tKGet (K : PySem.W.Frag) (w : World) (td ty tx : TE) : TE := fun σ H Q => td σ H fun x H1 => ∃ a l, x = .ref a ∧ KD K w a l ∧ ty σ H1 fun y H2 => tx σ H2 fun z H3 => ∃ k, y = kV k ∧ Q ((valV (kvsOf l) k).getD z) H3
theorem m2_of {o e f : Expr} {m : Str} {apos cpos : Pos} (he : plainE e = true) (hf : plainE f = true) (hb : attributeBase o m X.env (eval o X.env) = eval o X.env) (hl : (apos.endLine == cpos.line) = true) : M2 X o m apos e f cpos where
  base := hb
  few := by
    rw [all_plain (by rw [List.all_cons, he, List.all_cons, hf]; rfl)]
    rfl
  line := hl
  trees := by
    rw [starEach_plain he, starEach_plain hf]
    rfl
theorem qe_kget {o e f : Expr} {apos cpos : Pos} {td ty tx : TE} (ho : QE X o td) (he : QE X e ty) (hf : QE X f tx) (h1 : plainE e = true := by rfl) (h2 : plainE f = true := by rfl) (hb : attributeBase o "get" X.env (eval o X.env) = eval o X.env := by rfl) (hl : (apos.endLine == cpos.line) = true := by rfl) :
    QE X (.Call (.Attribute o "get" apos) [e, f] [] cpos) (tKGet X.K X.w td ty tx) := by
  have m := m2_of (X := X) (m := "get") (o := o) h1 h2 hb hl
  refine ⟨fun pins s σ H Q I h => ?_⟩
  refine wpAny_Call_method m.base m.few m.line PySem.F.plainAttrs_dict PySem.F.slot_dict_get PySem.F.type_dict_get (thn (ho.out pins s σ H _ I h) fun u s1 ⟨x, H1, I1, rx, a, l, ex, d, q1⟩ => ?_)
  subst ex
  obtain rfl : u = Value.ref a := rx
  obtain ⟨vs, rel, dd⟩ := d.of I1
  refine ⟨dd.typeIs, fun b q => ?_, ?_⟩
  · cases q
    obtain ⟨ob, _, _, g1, g2, _⟩ := dd
    exact ⟨ob, g1, g2.2.1⟩
  rw [m.trees]
  refine Calls.callWith_builtin rfl (Calls.evalArgs_plain (Calls.spliced_cons (thn (he.out pins s1 σ H1 _ I1 q1) fun iv s2 ⟨y, H2, I2, ry, q2⟩ => Calls.spliced_cons (thn (hf.out pins s2 σ H2 _ I2 q2) fun fv s3 ⟨z, H3, I3, rz, k, ey, q3⟩ => Calls.spliced_nil ?_))))
  subst ey
  exact kd_get2 I3 d ry rz fun w' s4 I4 rw' => ⟨_, H3, I4, rw', q3⟩
end
theorem comp_str {x : Str} {is : List Nat} {te : TE} {σ : St} {H : Hp} {Q : VK} (f : Nat → V) (hz : x.cps.size ≤ sizeLine)
    (he : ∀ c ∈ x.cps.toList, ∀ R : VK, R (f c) H → te (selS is σ (some (.str ⟨#[c]⟩))) H R)
    (hd : ∀ l, H l = none → Q (.ref l) (upd H l (.lst (x.cps.toList.map f)))) : CompW is tYes te σ Q (Its x) H := by
  refine ⟨fun i m zs H' => m = x.cps.size - i ∧ i ≤ x.cps.size ∧ zs = (x.cps.toList.take i).map f ∧ H' = H, ⟨x.cps.size, by simp, Nat.zero_le _, rfl, rfl⟩, ?_⟩
  rintro i m zs H' ⟨rfl, hi, rfl, rfl⟩
  have hl : ((x.cps.toList.take i).map f).length ≤ sizeLine := by
    rw [List.length_map, List.length_take]
    omega
  by_cases hlt : i < x.cps.size
  · refine .inr ⟨hlt, hl, fun v H2 y => ?_⟩
    obtain ⟨e, c, hc, rfl⟩ := y
    subst e
    have hc' : x.cps.toList[i]? = some c := by rw [Array.getElem?_toList]; exact hc
    unfold tYes
    dsimp only
    rw [if_pos rfl]
    refine he c (List.mem_of_getElem? hc') _ ⟨x.cps.size - (i + 1), by omega, rfl, hlt, ?_, rfl⟩
    rw [take_snoc hc', List.map_append]
    rfl
  · have e : i = x.cps.size := by omega
    refine .inl ⟨e, hl, fun l hl2 => ?_⟩
    rw [List.take_of_length_le (by rw [Array.length_toList]; omega)]
    exact hd l hl2
end L2

set_option Elab.async false
set_option linter.all false
set_option maxRecDepth 100000
set_option maxHeartbeats 1000000
namespace L2
open PySem PySem.Spec PyProof.Rows
section
variable {X : Cx}
end
end L2

set_option Elab.async false
set_option linter.all false
set_option maxRecDepth 100000
set_option maxHeartbeats 1000000
namespace L2
open PySem PySem.Spec PyProof.Rows
theorem led_standIn (t : SetTable) (n : Nat) : (t.standIn n).led = t.led ∧ (t.plain = false → (t.standIn n).plain = false) := ⟨rfl, fun _ => rfl⟩
theorem led_orStandIn (t : SetTable) (n : Nat) : (t.orStandIn n).led = t.led ∧ (t.plain = false → (t.orStandIn n).plain = false) := by
  unfold SetTable.orStandIn; split
  · exact ⟨rfl, id⟩
  · exact led_standIn _ _
theorem led_layNew (t : SetTable) (es : Array (Int × Value)) (h : Int) (x : Value) : (layNew t es h x).2.1.led = t.led ∧ (t.plain = false → (layNew t es h x).2.1.plain = false) := by
  unfold layNew; split
  · exact led_orStandIn _ _
  · exact led_standIn _ _
theorem led_relayAll (t : SetTable) (es : Array (Int × Value)) (n : Nat) : (relayAll t es n).2.1.led = t.led ∧ (t.plain = false → (relayAll t es n).2.1.plain = false) := by
  unfold relayAll; split
  · rename_i t' order ht
    have ht' : t'.led = t.led ∧ (t.plain = false → t'.plain = false) := by
      unfold SetTable.relaid SetTable.laid at ht
      cases hc : SetTable.layClean (SetTable.sizeAbove n - 1) (es.map (·.1)) with
      | none => rw [hc] at ht; exact nomatch ht
      | some ow =>
        rw [hc] at ht
        simp only [Option.pure_def, Option.bind_eq_bind, Option.bind_some, Option.some.injEq, Prod.mk.injEq] at ht
        obtain ⟨rfl, _⟩ := ht
        exact ⟨rfl, id⟩
    dsimp only
    split
    · exact ht'
    · exact led_standIn _ _
  · exact led_standIn _ _

def tx : Value → Str
  | .str x _ => x
  | _ => ⟨#[]⟩

def TxSet (prog : Program) (w : World) (h : Heap) (a : Addr) (led : Bool) (S : List Str) : Prop :=
  ∃ o es ep t, h.get? a = some o ∧ o.ExactSet ∧ o.data = .set es ep t ∧ ElemsOf (strKind prog w) es.toList ∧ (es.toList.map fun e => tx e.2).Perm S ∧ t.fits es.size = true ∧ t.led = led ∧ (es.size = 0 ∨ t.plain = false)

section
variable {prog : Program} {w : World} {A : Around} {E : Value → Shared → Prop} {s : Shared}

theorem tx_is {e : Value} {k : Str} (h : (strKind prog w).is k e = true) : tx e = k := by
  obtain ⟨t, rfl⟩ := Value.isStrOf_shape h; rfl
theorem elems_tx {l : List (Int × Value)} (h : ElemsOf (strKind prog w) l) {e : Int × Value} (he : e ∈ l) : (strKind prog w).is (tx e.2) e.2 = true ∧ ∃ t, e.2 = .str (tx e.2) t := by
  obtain ⟨⟨k, hk, _⟩, _⟩ := h e he
  rw [tx_is hk]
  exact ⟨hk, Value.isStrOf_shape hk⟩

/-- a text put behind, if it is not there -/
def ins (S : List Str) (x : Str) : List Str := if x ∈ S then S else S ++ [x]

theorem find_tx {l : List (Int × Value)} (h : ElemsOf (strKind prog w) l) {x : Str} :
    (l.findIdx? (fun e => (strKind prog w).is x e.2)).isSome = true ↔ x ∈ l.map (fun e => tx e.2) := by
  rw [List.findIdx?_isSome, List.any_eq_true, List.mem_map]
  constructor
  · rintro ⟨e, he, hx⟩; exact ⟨e, he, tx_is hx⟩
  · rintro ⟨e, he, hx⟩; exact ⟨e, he, hx ▸ (elems_tx h he).1⟩

theorem txset_store {h : Heap} {a : Addr} {o : Obj} {es : Array (Int × Value)} {ep : Nat} {t : SetTable} (ho : h.get? a = some o) (hex : o.ExactSet) (hd : o.data = .set es ep t)
    {es' : Array (Int × Value)} {t' : SetTable} {S : List Str} {led : Bool} (hel : ElemsOf (strKind prog w) es'.toList) (hp : (es'.toList.map fun e => tx e.2).Perm S) (hf : t'.fits es'.size = true) (hl : t'.led = led) (hpl : es'.size = 0 ∨ t'.plain = false) :
    (h.update a (Obj.putSet es' t')).get? a = some { o with data := .set es' (ep + 1) t' } ∧ TxSet prog w (h.update a (Obj.putSet es' t')) a led S := by
  have hg : (h.update a (Obj.putSet es' t')).get? a = some { o with data := .set es' (ep + 1) t' } := by
    have := Heap.get?_update_self (Obj.putSet es' t') ho (by rw [putSet_of es' t' hd]; rfl)
    rw [putSet_of es' t' hd] at this; exact this
  exact ⟨hg, _, es', ep + 1, t', hg, hex, rfl, hel, hp, hf, hl, hpl⟩

theorem txset_add {a : Addr} {led : Bool} {S : List Str} {x : Str} {tk : Tok} {Q : Bool → Shared → Prop} (hS : TxSet prog w s.heap a led S) (hroom : S.length + 1 < scanBound)
    (h : ∀ h' b, Heap.SameBut a s.heap h' → TxSet prog w h' a led (ins S x) → Q b { s with heap := h' }) :
    wpAny (model prog w) A (setAddHashed a (.str x tk) ((strKind prog w).hash x)) Q E s := by
  obtain ⟨o, es, ep, t, ho, hex, hd, hel, hp, hf, hl, hpl⟩ := hS
  have hn : es.size = S.length := by rw [← hp.length_eq, List.length_map, Array.length_toList]
  have hkey : (strKind prog w).is x (.str x tk) = true := by show Value.isStrOf x (.str x tk) = true; simp [Value.isStrOf]
  unfold setAddHashed setAddHashedIn
  refine wpAny_holding (wpAny_bind (wpAny_setState_of ho hd hf ?_))
  dsimp only
  rw [byScan_of (knd := strKind prog w) rfl (by omega) hel]
  simp only [↓reduceIte]
  unfold setAddByScan
  refine wpAny_bind ?_
  refine wpAny_bind (wpAny_rule ?_)
  refine wpAny_bind (wpAny_setScan_of hkey ho hd hf hel ?_)
  have hfi := find_tx hel (x := x)
  cases hr : List.findIdx? (fun e => (strKind prog w).is x e.2) es.toList with
  | some j =>
    rw [hr] at hfi
    have hx : x ∈ S := hp.mem_iff.mp (hfi.mp rfl)
    refine wpAny_pure (wpAny_pure ?_)
    have := h s.heap false (Heap.SameBut.refl a s.heap) (by rw [ins, if_pos hx]; exact ⟨o, es, ep, t, ho, hex, hd, hel, hp, hf, hl, hpl⟩)
    exact this
  | none =>
    rw [hr] at hfi
    have hx : x ∉ S := fun hm => by simpa using hfi.mpr (hp.mem_iff.mpr hm)
    dsimp only
    have hled := led_layNew t es ((strKind prog w).hash x) (.str x tk)
    have hperm := layNew_perm t es ((strKind prog w).hash x) (.str x tk)
    have hfits := layNew_fits t es ((strKind prog w).hash x) (.str x tk)
    generalize hL : layNew t es ((strKind prog w).hash x) (.str x tk) = L at hled hperm hfits ⊢
    obtain ⟨es1, t1, wd, gave⟩ := L
    dsimp only at hled hperm hfits ⊢
    rw [Array.toList_push] at hperm
    have hel1 : ElemsOf (strKind prog w) es1.toList := (hel.push hkey rfl).perm hperm
    have hp1 : (es1.toList.map fun e => tx e.2).Perm (ins S x) := by
      rw [ins, if_neg hx]
      refine (hperm.map _).trans ?_
      rw [List.map_append]
      exact hp.append_right _
    have hz1 : es1.size = S.length + 1 := by
      have := hp1.length_eq
      rw [ins, if_neg hx, List.length_map, Array.length_toList, List.length_append] at this; exact this
    have hg : ∀ (b : Bool) {s₁ : Shared} {Q' : Unit → Shared → Prop}, Q' () s₁ → wpAny (model prog w) A (match b with | true => rule "set.scan.the-table-gave-way" | false => pure ()) Q' E s₁ :=
      fun b s₁ Q' hq => by cases b <;> first | exact wpAny_pure hq | exact wpAny_rule hq
    refine wpAny_bind (hg _ ?_)
    have key : ∀ (g : Bool → Sem Unit), (∀ (b : Bool) (s₁ : Shared) (Q' : Unit → Shared → Prop), Q' () s₁ → wpAny (model prog w) A (g b) Q' E s₁) → ∀ t2 : SetTable, t2.fits es1.size = true → t2.led = led → t2.plain = false →
        wpAny (model prog w) A (do
          storeSet a es1 t2
          if (!wd && t2.tooFull) = true then do
              g (relayAll t2 es1 (SetTable.grown es1.size)).2.2
              storeSet a (relayAll t2 es1 (SetTable.grown es1.size)).1 (relayAll t2 es1 (SetTable.grown es1.size)).2.1
              pure (some true)
            else pure (some true)) (fun r s' => r = some true ∧ ∀ b, Q b s') E s := by
      intro g hg t2 hf2 hl2 hp2
      refine wpAny_bind (wpAny_storeSet_of ho hd ?_ (fits_of_scanBound (by omega)))
      obtain ⟨ho1, hS1⟩ := txset_store (prog := prog) (w := w) ho hex hd hel1 hp1 hf2 hl2 (.inr hp2)
      have hsb1 := Heap.SameBut.update s.heap a (Obj.putSet es1 t2)
      split
      · have hq := relayAll_perm t2 es1 (SetTable.grown es1.size)
        have hfr := relayAll_fits t2 es1 (SetTable.grown es1.size)
        have hlr := led_relayAll t2 es1 (SetTable.grown es1.size)
        generalize relayAll t2 es1 (SetTable.grown es1.size) = Rl at hq hfr hlr ⊢
        obtain ⟨es2, t3, g2⟩ := Rl
        dsimp only at hq hfr hlr ⊢
        have hz2 : es2.size = es1.size := by rw [← Array.length_toList, hq.length_eq, Array.length_toList]
        refine wpAny_bind (hg _ _ _ ?_)
        refine wpAny_bind (wpAny_storeSet_of ho1 rfl ?_ (fits_of_scanBound (by omega)))
        obtain ⟨_, hS2⟩ := txset_store (prog := prog) (w := w) ho1 hex rfl (hel1.perm hq) ((hq.map _).trans hp1) hfr (hlr.1.trans hl2) (.inr (hlr.2 hp2))
        exact wpAny_pure ⟨rfl, fun b => h _ b (hsb1.trans (Heap.SameBut.update _ a _)) hS2⟩
      · exact wpAny_pure ⟨rfl, fun b => h _ b hsb1 hS1⟩
    split
    · rename_i hpt
      refine wpAny_bind ?_
      rw [hashByValue_scannable 8 rfl]
      refine wpAny_pure ?_
      rw [show plainKind (Value.str x tk) = false from rfl]
      simp only [Bool.false_eq_true, ↓reduceIte]
      refine wpAny_mono (key _ ?_ { t1 with plain := false } (SetTable.fits_plain_off hfits) (hled.1.trans hl) rfl) ?_ (fun _ _ e => e)
      · intro b s₁ Q' hq; cases b <;> first | exact wpAny_pure hq | exact wpAny_rule hq
      · rintro r s' ⟨rfl, hq⟩
        exact wpAny_pure (hq _)
    · rename_i hpt
      refine wpAny_bind (wpAny_pure ?_)
      simp only [↓reduceIte]
      refine wpAny_mono (key _ ?_ t1 hfits (hled.1.trans hl) (by simpa using hpt)) ?_ (fun _ _ e => e)
      · intro b s₁ Q' hq; cases b <;> first | exact wpAny_pure hq | exact wpAny_rule hq
      · rintro r s' ⟨rfl, hq⟩
        exact wpAny_pure (hq _)
end
end L2

set_option Elab.async false
set_option linter.all false
set_option maxRecDepth 100000
set_option maxHeartbeats 3200000
namespace L2
open PySem PySem.Spec PyProof.Rows
/-- the texts of a list, each once -/
def onces (ys : List Str) : List Str := ys.foldl ins []
theorem onces_snoc (ys : List Str) (y : Str) : onces (ys ++ [y]) = ins (onces ys) y := by simp [onces, List.foldl_append]
theorem ins_len (S : List Str) (x : Str) : (ins S x).length ≤ S.length + 1 := by unfold ins; split <;> simp
theorem onces_take_len (ys : List Str) : ∀ i, (onces (ys.take i)).length ≤ i
  | 0 => by simp [onces]
  | i + 1 => by
    by_cases h : i < ys.length
    · rw [List.take_add_one, List.getElem?_eq_getElem h, Option.toList_some, onces_snoc]
      have := onces_take_len ys i
      have := ins_len (onces (ys.take i)) ys[i]
      omega
    · rw [List.take_of_length_le (by omega)]
      have := onces_take_len ys i
      rw [List.take_of_length_le (by omega)] at this
      omega
theorem txset_kept {prog : Program} {w : World} {h h' : Heap} {a : Addr} {led : Bool} {S : List Str} (hS : TxSet prog w h a led S) (hk : ∀ o, h.get? a = some o → h'.get? a = some o) : TxSet prog w h' a led S := by
  obtain ⟨o, es, ep, t, ho, rest⟩ := hS
  exact ⟨o, es, ep, t, hk o ho, rest⟩

section
variable {prog : Program} {w : World} {A : Around} {R : Result → Shared → Prop} {I : Addr} {fp wr : List Addr} {G : Array GenState → Array GenState → Prop} {n : Nat} {P : Nat → Value → Prop} {St : Nat → Shared → Prop}

theorem txset_loop (W : WalksS prog w A.in1 I fp wr G n P St) (S : Addr) (hSf : S ∉ fp) {led : Bool} {ys : List Str} (hn : ys.length = n)
    (hval : ∀ i v, P i v → ∃ y t, ys[i]? = some y ∧ v = .str y t) (hb : n + 1 < scanBound) :
    ∀ (k i : Nat) (s : Shared), n - i = k → i ≤ n → St i s → TxSet prog w s.heap S led (onces (ys.take i)) →
      (∀ s', Moved (S :: wr) G s s' → TxSet prog w s'.heap S led (onces ys) → R (.ok (.ret .none)) s') →
      codeAny (model prog w) A (.builtin "set.update.loop" ⟨[.ref S, .ref I], []⟩) R s := by
  have hSw : S ∉ wr := fun h => hSf (W.sub _ h)
  have hsub : ∀ b ∈ wr, b ∈ S :: wr := fun b hb => List.mem_cons_of_mem _ hb
  intro k
  induction k with
  | zero =>
    intro i s hk hi hst hS hR
    have hin : i = n := by omega
    rw [hin, ← hn, List.take_length] at hS
    subst hin
    refine codeAny_builtin F.entry_set_update_loop ?_
    rw [Around.under_plainId F.plain_set_update_loop _]
    show wpAny _ A.in1 (pyNext (.ref I) >>= _) _ _ s
    refine wpAny_bind (W.done s _ _ hst fun s' hm => ?_)
    show wpAny _ A.in1 (ret Value.none) _ _ s'
    exact wpAny_pure (hR s' (hm.mono hsub) (txset_kept hS fun o ho => hm.heap S _ hSw ho))
  | succ k ih =>
    intro i s hk hi hst hS hR
    have hlt : i < n := by omega
    refine codeAny_builtin F.entry_set_update_loop ?_
    rw [Around.under_plainId F.plain_set_update_loop _]
    show wpAny _ A.in1 (pyNext (.ref I) >>= _) _ _ s
    refine wpAny_bind (W.item i s _ _ hlt hst fun v s' hP hst' hm => ?_)
    obtain ⟨y, t, hy, rfl⟩ := hval i v hP
    have hS' := txset_kept hS fun o ho => hm.heap S _ hSw ho
    show wpAny _ A.in1 (holding [Value.str y t] (setAdd S (.str y t)) >>= _) _ _ s'
    refine wpAny_bind (wpAny_holding ?_)
    unfold setAdd
    refine wpAny_holding ?_
    refine wpAny_bind ((PySem.strKind prog w).pyHash (k := y) (by show Value.isStrOf y (.str y t) = true; simp [Value.isStrOf]) ?_)
    have hroom : (onces (ys.take i)).length + 1 < scanBound := by have := onces_take_len ys i; omega
    refine txset_add (s := { s' with toks := s'.toks + 1 }) hS' hroom fun h' b hsb hS2 => ?_
    rw [← onces_snoc, show ys.take i ++ [y] = ys.take (i + 1) by rw [List.take_add_one, hy, Option.toList_some]] at hS2
    refine wpAny_pure ⟨plainId_quiet F.plain_set_update_loop _, ih (i + 1) _ (by omega) hlt (W.frame _ s' _ _ hst' (Nat.le_succ _) fun b hb o e => ?_) hS2 fun s'' hm'' hS'' => ?_⟩
    · rw [hsb.2 b (fun h : b = S => hSf (by rw [← h]; exact hb))]; exact e
    · refine hR s'' (Moved.trans W.gtrans ((hm.mono hsub).then_heap (Nat.le_succ _) fun b o hb e => ?_) hm'') hS''
      rw [hsb.2 b (fun h : b = S => hb (by rw [h]; exact List.mem_cons_self))]; exact e
end
end L2

set_option Elab.async false
set_option linter.all false
set_option maxRecDepth 100000
set_option maxHeartbeats 3200000
namespace L2
open PySem PySem.Spec PyProof.Rows
section
variable {prog : Program} {w : World} {A : Around} {E : Value → Shared → Prop} {s : Shared}
/-- sets walk by their table's places or by a drawn order, not by the text -/
def byTx (w : World) : Bool := w.params.followText "set-order"
def newSetObj (w : World) : Obj := { cls := .type "set", dict := none, data := .set #[] 0 (.fresh 0 0 (!byTx w)) }

theorem new_set_led (a : Value) {Q₁ : Value → Shared → Prop} (h : Q₁ (.ref s.heap.objs.size) { s with heap := s.heap.push (newSetObj w) }) :
    codeAny (model prog w) A (.call (.builtin "set.__new__") ⟨[.type "set", a], []⟩) (wants Q₁ E) s := by
  refine codeAny_of_tree ?_
  show wpAny _ A.in1 (do checkBuiltinCall "set.__new__" ⟨[.type "set", a], []⟩; again (.builtin "set.__new__" ⟨[.type "set", a], []⟩)) _ _ s
  refine wpAny_bind (wpAny_of_eq (F.newCall_set_1 a) (wpAny_pure ⟨plainId_quiet F.plain_set_new _, codeAny_builtin F.entry_set_new ?_⟩))
  rw [Around.under_plainId F.plain_set_new _]
  unfold Builtin.«set.__new__» Builtin.Frozenset.newClass
  have hsub := sub_set_self
  obtain ⟨hp, g, d, tk, os⟩ := s
  dsimp only
  wp_walk
  refine wpAny_askSetting (wpAny_pure ?_)
  dsimp only
  simp only [newObj]
  refine wpAny_bind (wpAny_alloc (wpAny_pure ?_))
  exact wpAny_pure h

theorem call_set_texts {l : Addr} {items : Array Value} {ys : List Str} {Q : Value → Shared → Prop}
    (hh : A.handled = none) (hl : s.heap.IsList l items) (hi : StrsAre items.toList ys) (hb : items.size + 1 < scanBound)
    (h : ∀ (h' : Heap) (tk : Nat), s.toks ≤ tk → TxSet prog w h' s.heap.objs.size (!byTx w) (onces ys) →
      (∀ b o, b < s.heap.objs.size → s.heap.get? b = some o → h'.get? b = some o) → Q (.ref s.heap.objs.size) { s with heap := h', toks := tk }) :
    wpAny (model prog w) A (call (.type "set") [.ref l]) Q E s := by
  obtain ⟨c, tl, hmro⟩ := F.called_set.mro
  have hmade := F.called_set.made
  have hsub := F.called_set.sub
  refine wpAny_call (codeAny_of_tree ?_)
  show wpAny _ _ (callAny (.type "set") _) _ _ _
  refine wpAny_pure ⟨Code.quiet_builtin _ (by decide +kernel), codeAny_builtin F.entry_type_call ?_⟩
  rw [Around.under_plain (weight_type_call_type "set" [.ref l] []) rfl]
  have h1 := F.called_set.notType
  have h2 := F.called_set.canCreate
  have hct := F.typeCall_set_1 (.ref l)
  repeat (any_goals (first | assumption | wp_step))
  refine codeAny_mono (new_set_led (.ref l) (E := E) (Q₁ := fun obj s₁ => obj = .ref s.heap.objs.size ∧ s₁ = { s with heap := s.heap.push (newSetObj w) }) ⟨rfl, rfl⟩) fun r s₁ hr => ?_
  cases r with
  | error e => exact hr
  | ok fl =>
    cases fl with
    | ret obj =>
      obtain ⟨rfl, rfl⟩ := hr
      have hS : (s.heap.push (newSetObj w)).get? s.heap.objs.size = some (newSetObj w) := Heap.get?_push_size _ rfl
      have hT : Shared.TypeIs { s with heap := s.heap.push (newSetObj w) } (.ref s.heap.objs.size) "set" := ⟨_, hS, rfl⟩
      have hli := F.called_set.init.lookup
      have hbi := F.called_set.init.bind (.ref s.heap.objs.size)
      repeat (any_goals (first | assumption | wp_step))
      refine codeAny_mono (codeAny_call_builtin (R := wants (fun r s₂ => r = .none ∧ ∃ h' tk, s.toks ≤ tk ∧ s₂ = { s with heap := h', toks := tk } ∧
          TxSet prog w h' s.heap.objs.size (!byTx w) (onces ys) ∧
          (∀ b o, b < s.heap.objs.size → s.heap.get? b = some o → h'.get? b = some o)) E) F.called_set.init.plain F.entry_set_init (check_set_init_1 hT ?_)) fun r₂ s₂ hr₂ => ?_
      · obtain ⟨ol, hol, hcl, nl, hdl⟩ := hl
        obtain ⟨ocls, odict, odata, oslots⟩ := ol
        simp only at hcl hdl
        subst hcl; subst hdl
        have hol' : (s.heap.push (newSetObj w)).get? l = some { cls := .type "list", dict := odict, data := .seq items nl, slots := oslots } := Heap.get?_push_of_some _ hol
        have hsls := F.sub_list_set
        have hslf := F.sub_list_frozenset
        have hne : (Value.type "list" == Value.type "dict") = false := by decide
        have hl1 : (s.heap.push (newSetObj w)).IsList l items := ⟨_, hol', rfl, nl, rfl⟩
        unfold Builtin.«set.__init__» noKeywords Builtin.Frozenset.updateFrom
        generalize hPI : pyIter = PI
        wp_walk
        subst hPI
        refine wpAny_pyIter_list hl1 ?_
        refine wpAny_bind (wpAny_runValue ?_)
        have hlS : l < s.heap.objs.size := Heap.lt_size hol
        have hh3 : A.in1.in1.in1.handled = none := by simp [hh]
        have hneI : l ≠ (s.heap.push (newSetObj w)).objs.size := by
          rw [Heap.size_push]; exact Nat.ne_of_lt (Nat.lt_succ_of_lt hlS)
        have hSf : s.heap.objs.size ∉ [(s.heap.push (newSetObj w)).objs.size, l] := by
          rw [Heap.size_push]; simp only [List.mem_cons, List.mem_singleton, List.not_mem_nil, or_false, not_or]
          exact ⟨Nat.ne_of_lt (Nat.lt_succ_self _), Nat.ne_of_gt hlS⟩
        have hval : ∀ (i : Nat) (v : Value), items[i]? = some v → ∃ y t, ys[i]? = some y ∧ v = .str y t := fun i v hv => by
          rw [← Array.getElem?_toList] at hv
          obtain ⟨y, t, e1, e2⟩ := StrsAre.item hi i v hv
          exact ⟨y, t, e2, e1⟩
        refine txset_loop ((Walks.list hh3 _ l hneI items).toS) s.heap.objs.size
          hSf (led := !byTx w) (ys := ys) (by rw [← Array.length_toList]; exact hi.length.symm) hval hb (items.size - 0) 0 _ (by omega) (Nat.zero_le _)
          ⟨⟨_, Heap.get?_push_size _ rfl, rfl, rfl⟩, (hl1.push _)⟩ ?hS0 ?hR
        case hS0 =>
          exact ⟨newSetObj w, #[], 0, .fresh 0 0 (!byTx w), Heap.get?_push_of_some _ hS, ⟨rfl, rfl, rfl⟩, rfl, fun e he => by simp at he, by simp [onces], rfl, rfl, .inl rfl⟩
        case hR =>
          intro s' hm hS'
          have htk := hm.toks
          obtain ⟨h', g', d', tk', os'⟩ := s'
          have eg : g' = s.gens := hm.gens
          have ed : d' = s.drawn := hm.drawn
          have eo : os' = s.os := hm.os
          subst eg; subst ed; subst eo
          show wpAny _ _ _ _ _ _
          refine wpAny_pure ?_
          show wpAny _ _ (ret Value.none) _ _ _
          refine wpAny_pure ⟨rfl, h', tk', htk, rfl, hS', fun b o hb e => ?_⟩
          have hb1 : b ≠ s.heap.objs.size := Nat.ne_of_lt hb
          have hb2 : b ≠ (s.heap.push (newSetObj w)).objs.size := by
            rw [Heap.size_push]; exact Nat.ne_of_lt (Nat.lt_succ_of_lt hb)
          exact hm.heap b o (by simp only [List.mem_cons, List.mem_singleton, List.not_mem_nil, or_false, not_or]; exact ⟨hb1, hb2⟩) (Heap.get?_push_of_some _ (Heap.get?_push_of_some _ e))
      · cases r₂ with
        | error e => exact hr₂
        | ok fl₂ =>
          cases fl₂ with
          | ret r =>
            obtain ⟨rfl, h', tk, htk, rfl, hS', hk'⟩ := hr₂
            repeat (any_goals (first | assumption | wp_step))
            exact h _ _ htk hS' hk'
          | _ => exact hr₂.elim
    | _ => exact hr.elim
end
end L2

set_option Elab.async false
set_option linter.all false
set_option maxRecDepth 100000
set_option maxHeartbeats 3200000
namespace L2
open PySem PySem.Spec PyProof.Rows
theorem slot_seti_next : Slot "set_iterator" "__next__" "set_iterator.__next__" :=
  .of (owner := "set_iterator") (n := "__next__") (by rw [typeLookup_type, builtinLookup_eq_fast]; kernel_rfl) (by decide +kernel) (by decide +kernel) (by decide +kernel)
    (by first | exact .inl (by decide +kernel) | exact .inr (by decide +kernel)) (by rw [isSubtype_type]; kernel_rfl)
theorem entry_seti_next : entryFor table "set_iterator.__next__" = some Builtin.«set_iterator.__next__» := entryFor_of_tree (by kernel_rfl)
theorem owner_seti : Manifest.owners.lookup (String.ofList ['r', 'o', 't', 'a', 'r', 'e', 't', 'i', '_', 't', 'e', 's'].reverse) = some Manifest.sig_set_iterator := by kernel_rfl
theorem args_seti_next (a : Value) : argsOk "set_iterator.__next__" ⟨[a], []⟩ := by
  unfold argsOk; rw [signature?_of (id := "set_iterator.__next__") (n := ['_', '_', 't', 'x', 'e', 'n', '_', '_']) (o := ['r', 'o', 't', 'a', 'r', 'e', 't', 'i', '_', 't', 'e', 's']) (by kernel_rfl) owner_seti]; kernel_rfl
theorem entry_set_iter : entryFor table "set.__iter__" = some Builtin.«frozenset.__iter__» :=
  entryFor_alias (id' := "frozenset.__iter__") (by kernel_rfl) rfl (by decide +kernel) (by kernel_rfl)

section
variable {prog : Program} {w : World} {A : Around} {E : Value → Shared → Prop} {s : Shared}
theorem choose_any {src : Source} {n : Nat} {Q : Nat → Shared → Prop} (hn : n ≠ 0) (h : ∀ i d, i < n → Q i { s with drawn := d }) : wpAny (model prog w) A (choose src n) Q E s := by
  intro Γ p hΓ
  unfold choose
  rw [Sem.wp_choose]
  exact ⟨hn, h _ _ (Nat.mod_lt _ (Nat.pos_of_ne_zero hn))⟩
theorem cons_eraseIdx_perm {α : Type} : ∀ (xs : List α) (i : Nat) (x : α), xs[i]? = some x → (x :: xs.eraseIdx i).Perm xs
  | [], i, x, h => by simp at h
  | y :: ys, 0, x, h => by simp at h; subst h; exact .rfl
  | y :: ys, i + 1, x, h => by
    simp only [List.getElem?_cons_succ] at h
    rw [List.eraseIdx_cons_succ]
    exact (List.Perm.swap y x _).trans ((cons_eraseIdx_perm ys i x h).cons y)
theorem drawOrder_any {α : Type} : ∀ (n : Nat) (xs : List α) (s : Shared) (Q : List α → Shared → Prop), xs.length ≤ n → (∀ ys d, ys.Perm xs → Q ys { s with drawn := d }) → wpAny (model prog w) A (drawOrder n xs) Q E s
  | 0, xs, s, Q, hn, h => by
    have : xs = [] := List.eq_nil_of_length_eq_zero (by omega)
    subst this
    unfold drawOrder
    exact wpAny_pure (h [] s.drawn .rfl)
  | n + 1, [], s, Q, hn, h => by
    unfold drawOrder
    exact wpAny_pure (h [] s.drawn .rfl)
  | n + 1, y :: ys, s, Q, hn, h => by
    unfold drawOrder
    refine wpAny_bind (choose_any (by simp) fun i d hi => ?_)
    obtain ⟨x, hx⟩ : ∃ x, (y :: ys)[i]? = some x := ⟨_, List.getElem?_eq_getElem hi⟩
    rw [hx]
    dsimp only
    refine wpAny_bind (drawOrder_any n ((y :: ys).eraseIdx i) _ _ (by rw [List.length_eraseIdx, if_pos hi]; simp at hn ⊢; omega) fun zs d' hz => ?_)
    exact wpAny_pure (h _ d' ((hz.cons x).trans (cons_eraseIdx_perm _ i x hx)))
end
theorem pickOrder_go {α : Type} (next : Nat → Nat) : ∀ (fuel k : Nat) (left : List α) (out : Array α), fuel = left.length → (pickOrder.go next fuel k left out).toList.Perm (out.toList ++ left)
  | 0, k, left, out, h => by
    have : left = [] := List.eq_nil_of_length_eq_zero h.symm
    subst this; unfold pickOrder.go; simp
  | fuel + 1, k, left, out, h => by
    unfold pickOrder.go
    have hi : next k % left.length < left.length := Nat.mod_lt _ (by omega)
    rw [List.getElem?_eq_getElem hi]
    dsimp only
    refine (pickOrder_go next fuel (k + 1) _ _ (by rw [List.length_eraseIdx, if_pos hi]; omega)).trans ?_
    rw [Array.toList_push, List.append_assoc]
    exact (cons_eraseIdx_perm left _ _ (List.getElem?_eq_getElem hi)).append_left _
theorem pickOrder_perm {α : Type} (next : Nat → Nat) (xs : Array α) : (pickOrder next xs).toList.Perm xs.toList := by
  unfold pickOrder
  simpa using pickOrder_go next xs.size 0 xs.toList #[] (by simp)
end L2

set_option Elab.async false
set_option linter.all false
set_option maxRecDepth 100000
set_option maxHeartbeats 3200000
namespace L2
open PySem PySem.Spec PyProof.Rows
/-- a set's object -/
def SetIs (h : Heap) (a : Addr) (es : Array (Int × Value)) (ep : Nat) (t : SetTable) : Prop := ∃ o, h.get? a = some o ∧ o.ExactSet ∧ o.data = .set es ep t ∧ t.fits es.size = true
/-- its iterator -/
def SetIter (h : Heap) (I a : Addr) (first : Value) (i n ep : Nat) : Prop := ∃ o, h.get? I = some o ∧ o.cls = .type "set_iterator" ∧ o.data = .fields #[first, .int i 0, .ref a, .int n 0, .int ep 0]

section
variable {prog : Program} {w : World} {A : Around} {E : Value → Shared → Prop} {s : Shared}
theorem SetIter.typeIs {I a : Addr} {first : Value} {i n ep : Nat} (x : SetIter s.heap I a first i n ep) : s.TypeIs (.ref I) "set_iterator" := let ⟨o, ho, hc, _⟩ := x; ⟨o, ho, hc⟩
theorem SetIter.at {h h' : Heap} {I a : Addr} {first : Value} {i n ep : Nat} (x : SetIter h I a first i n ep) (e : ∀ o, h.get? I = some o → h'.get? I = some o) : SetIter h' I a first i n ep := let ⟨o, ho, r⟩ := x; ⟨o, e _ ho, r⟩
theorem SetIs.at {h h' : Heap} {a : Addr} {es : Array (Int × Value)} {ep : Nat} {t : SetTable} (x : SetIs h a es ep t) (e : ∀ o, h.get? a = some o → h'.get? a = some o) : SetIs h' a es ep t := let ⟨o, ho, r⟩ := x; ⟨o, e _ ho, r⟩

theorem setsByText_is {Q : Bool → Shared → Prop} (h : Q (byTx w) s) : wpAny (model prog w) A setsByText Q E s := wpAny_bind (wpAny_askSetting (wpAny_pure h))
/-- what setNext tells: by the text -/
theorem setNext_text {a : Addr} {es : Array (Int × Value)} {ep : Nat} {t : SetTable} {given : Nat} {Q : Option (Value × Nat) → Shared → Prop} (hb : byTx w = true) (hs : SetIs s.heap a es ep t)
    (h : Q (((pickOrder (w.params.setOrder a ep) es)[given]?).map fun e => (e.2, 0)) s) : wpAny (model prog w) A (setNext a 0 given ep) Q E s := by
  obtain ⟨o, ho, hex, hd, hf⟩ := hs
  unfold setNext
  refine wpAny_bind (wpAny_setState_of ho hd hf ?_)
  dsimp only
  refine wpAny_bind (setsByText_is ?_)
  rw [hb]
  simp only [↓reduceIte, bne_self_eq_false, Bool.false_eq_true]
  unfold setWalk
  refine wpAny_bind (wpAny_bind (wpAny_setState_of ho hd hf ?_))
  dsimp only
  refine wpAny_bind (setsByText_is ?_)
  rw [hb]
  simp only [↓reduceIte]
  refine wpAny_bind (wpAny_askSetting (wpAny_pure ?_))
  exact wpAny_pure h

/-- by the table's places, of one that holds at most one thing -/
theorem setNext_small {a : Addr} {es : Array (Int × Value)} {ep : Nat} {t : SetTable} {slot given : Nat} {Q : Option (Value × Nat) → Shared → Prop} (hb : byTx w = false) (hs : SetIs s.heap a es ep t) (hl : t.led = true) (hz : es.size ≤ 1)
    (h : Q (match es[SetTable.below t.place slot]?, t.place[SetTable.below t.place slot]? with | some (_, x), some j => some (x, j + 1) | _, _ => none) s) : wpAny (model prog w) A (setNext a slot given ep) Q E s := by
  obtain ⟨o, ho, hex, hd, hf⟩ := hs
  unfold setNext
  refine wpAny_bind (wpAny_setState_of ho hd hf ?_)
  dsimp only
  refine wpAny_bind (setsByText_is ?_)
  rw [hb]
  simp only [Bool.false_eq_true, ↓reduceIte]
  have hz' : decide (es.size > 1) = false := by simp; omega
  show wpAny _ _ (if (!t.plain && decide (es.size > 1)) = true then _ else _) _ _ _
  rw [hz', Bool.and_false]
  simp only [Bool.false_eq_true, ↓reduceIte]
  refine wpAny_bind (m := (if (!t.led && !es.isEmpty) = true then unsupported "set:maker-not-led" else pure ())) ?_
  rw [hl]
  simp only [Bool.not_true, Bool.false_and, Bool.false_eq_true, ↓reduceIte]
  exact wpAny_pure (wpAny_pure h)

theorem setNext_drawn {a : Addr} {es : Array (Int × Value)} {ep : Nat} {t : SetTable} {place : Nat} {e : Int × Value} {Q : Value → Shared → Prop} (hs : SetIs s.heap a es ep t) (he : es[place]? = some e)
    (h : Q e.2 s) : wpAny (model prog w) A (setNextDrawn a place ep) Q E s := by
  obtain ⟨o, ho, hex, hd, hf⟩ := hs
  unfold setNextDrawn
  refine wpAny_bind (wpAny_setState_of ho hd hf ?_)
  simp only [bne_self_eq_false, Bool.false_eq_true, ↓reduceIte]
  rw [he]
  exact wpAny_pure h

/-- the iterator's own next, up to the choice of the way -/
theorem iter_field {I a : Addr} {first : Value} {i n ep : Nat} (x : SetIter s.heap I a first i n ep) {first' : Value} {i' : Nat} :
    SetIter ((s.heap.update I (Obj.mapFields (·.setIfInBounds 0 first'))).update I (Obj.mapFields (·.setIfInBounds 1 (.int i' 0)))) I a first' i' n ep := by
  obtain ⟨o, ho, hc, hd⟩ := x
  have h1 := Heap.get?_update_self (Obj.mapFields (·.setIfInBounds 0 first')) ho (Obj.isFreed_of_fields (Obj.data_mapFields hd _))
  have hd1 := Obj.data_mapFields hd (·.setIfInBounds 0 first')
  refine ⟨_, Heap.get?_update_self _ h1 (Obj.isFreed_of_fields (Obj.data_mapFields hd1 _)), (Obj.cls_mapFields ..).trans ((Obj.cls_mapFields ..).trans hc), ?_⟩
  rw [Obj.data_mapFields hd1]; simp

theorem next_slot {I a : Addr} {es : Array (Int × Value)} {ep : Nat} {t : SetTable} {slot i : Nat} {x : Value} {nx : Nat} {Q : Option Value → Shared → Prop} (hit : SetIter s.heap I a (.int slot 0) i es.size ep) (hs : SetIs s.heap a es ep t)
    (hN : ∀ (Q' : Option (Value × Nat) → Shared → Prop) (E' : Value → Shared → Prop), Q' (some (x, nx)) s → wpAny (model prog w) A.in1 (setNext a slot i ep) Q' E' s)
    (hQ : ∀ h', SetIter h' I a (.int nx 0) (i + 1) es.size ep → Heap.SameBut I s.heap h' → Q (some x) { s with heap := h' }) : wpAny (model prog w) A (pyNext (.ref I)) Q E s := by
  obtain ⟨o, ho, hc, hd⟩ := id hit
  obtain ⟨os, hos, hex, hds, hf⟩ := id hs
  unfold pyNext
  refine wpAny_bind (wpAny_attempt (wpAny_callSpecial?_slot (name := Str.ofString "__next__") hit.typeIs slot_seti_next
    (wpAny_call_entry slot_seti_next hit.typeIs entry_seti_next ?_ (args_seti_next _))))
  unfold Builtin.«set_iterator.__next__»
  refine wpAny_bind (wpAny_pure ?_)
  refine wpAny_bind (wpAny_fieldsOf ho hd ?_)
  dsimp only
  refine wpAny_bind (wpAny_setEntries_of hos hds hf ?_)
  simp only [bne_self_eq_false, Bool.false_eq_true, ↓reduceIte]
  simp only [Int.toNat_natCast]
  refine wpAny_bind (hN _ _ ?_)
  dsimp only
  refine wpAny_bind (wpAny_setField ho hd (by simp) ?_)
  have h1 := Heap.get?_update_self (Obj.mapFields (·.setIfInBounds 0 (rawInt (nx : Int)))) ho (Obj.isFreed_of_fields (Obj.data_mapFields hd _))
  refine wpAny_bind (wpAny_setField (s := { s with heap := s.heap.update I (Obj.mapFields (·.setIfInBounds 0 (rawInt (nx : Int)))) }) h1 (Obj.data_mapFields hd _) (by simp) ?_)
  exact wpAny_pure ⟨_, rfl, wpAny_pure (hQ _ (iter_field hit) ((Heap.SameBut.update ..).trans (Heap.SameBut.update ..)))⟩

theorem end_slot {I a : Addr} {es : Array (Int × Value)} {ep : Nat} {t : SetTable} {slot i : Nat} {Q : Option Value → Shared → Prop} (hh : A.handled = none) (hit : SetIter s.heap I a (.int slot 0) i es.size ep) (hs : SetIs s.heap a es ep t)
    (hN : ∀ (Q' : Option (Value × Nat) → Shared → Prop) (E' : Value → Shared → Prop), Q' none s → wpAny (model prog w) A.in1 (setNext a slot i ep) Q' E' s)
    (hQ : ∀ h', Heap.ExtBut I s.heap h' → Q none { s with heap := h' }) : wpAny (model prog w) A (pyNext (.ref I)) Q E s := by
  obtain ⟨o, ho, hc, hd⟩ := id hit
  obtain ⟨os, hos, hex, hds, hf⟩ := id hs
  unfold pyNext
  refine wpAny_bind (wpAny_attempt (wpAny_callSpecial?_slot (name := Str.ofString "__next__") hit.typeIs slot_seti_next
    (wpAny_call_entry slot_seti_next hit.typeIs entry_seti_next ?_ (args_seti_next _))))
  unfold Builtin.«set_iterator.__next__»
  refine wpAny_bind (wpAny_pure ?_)
  refine wpAny_bind (wpAny_fieldsOf ho hd ?_)
  dsimp only
  refine wpAny_bind (wpAny_setEntries_of hos hds hf ?_)
  simp only [bne_self_eq_false, Bool.false_eq_true, ↓reduceIte]
  simp only [Int.toNat_natCast]
  refine wpAny_bind (hN _ _ ?_)
  dsimp only
  refine wpAny_bind (wpAny_setField ho hd (by simp) ?_)
  show wpAny _ _ (newExc (.type "StopIteration") [] >>= _) _ _ _
  refine wpAny_bind ?_
  simp only [newExc, newTuple]
  refine wpAny_bind (wpAny_newObj_type ?_ (by size_fits))
  refine wpAny_bind (m := firstArgMember _ _) (wpAny_of_eq (a := Value.none) (by first | rfl | (simp only [firstArgMember]; rfl)) ?_)
  refine wpAny_newObj_type ?_ (by size_fits)
  simp only [raiseNew]
  refine wpAny_bind (wpAny_handled ?_)
  rw [show A.in1.handled = none from hh]
  refine wpAny_bind (wpAny_pure (wpAny_throw ?_))
  refine wpAny_bind (wpAny_isInstance (T := "StopIteration") (b := true) ⟨_, Heap.get?_push_size _ rfl, rfl⟩ isSubtype_stop ?_)
  exact wpAny_pure (hQ _ (((Heap.SameBut.update ..).extBut.push _).push _))

theorem next_place {I a p : Addr} {es : Array (Int × Value)} {ep : Nat} {t : SetTable} {ps : List Nat} {i pl : Nat} {e : Int × Value} {op : Obj} {np : Nat} {Q : Option Value → Shared → Prop} (hit : SetIter s.heap I a (.ref p) i es.size ep) (hs : SetIs s.heap a es ep t)
    (hp : s.heap.get? p = some op) (hpd : op.data = .seq (ps.map fun (k : Nat) => rawInt k).toArray np) (hi : ps[i]? = some pl) (he : es[pl]? = some e)
    (hQ : ∀ h', SetIter h' I a (.ref p) (i + 1) es.size ep → Heap.SameBut I s.heap h' → Q (some e.2) { s with heap := h' }) : wpAny (model prog w) A (pyNext (.ref I)) Q E s := by
  obtain ⟨o, ho, hc, hd⟩ := id hit
  obtain ⟨os, hos, hex, hds, hf⟩ := id hs
  unfold pyNext
  refine wpAny_bind (wpAny_attempt (wpAny_callSpecial?_slot (name := Str.ofString "__next__") hit.typeIs slot_seti_next
    (wpAny_call_entry slot_seti_next hit.typeIs entry_seti_next ?_ (args_seti_next _))))
  unfold Builtin.«set_iterator.__next__»
  refine wpAny_bind (wpAny_pure ?_)
  refine wpAny_bind (wpAny_fieldsOf ho hd ?_)
  dsimp only
  refine wpAny_bind (wpAny_setEntries_of hos hds hf ?_)
  simp only [bne_self_eq_false, Bool.false_eq_true, ↓reduceIte]
  refine wpAny_bind (wpAny_seqItems hp hpd ?_)
  dsimp only
  rw [show ((ps.map fun (k : Nat) => rawInt k).toArray)[(i : Int).toNat]? = some (rawInt pl) by simp [hi]]
  simp only [rawInt, Int.toNat_natCast]
  refine wpAny_bind (setNext_drawn hs he ?_)
  refine wpAny_bind (wpAny_setField ho hd (by simp) ?_)
  refine wpAny_pure ⟨_, rfl, wpAny_pure (hQ _ ⟨_, Heap.get?_update_self _ ho (Obj.isFreed_of_fields (Obj.data_mapFields hd _)), (Obj.cls_mapFields ..).trans hc, ?_⟩ (Heap.SameBut.update ..))⟩
  rw [Obj.data_mapFields hd]; simp

theorem end_place {I a p : Addr} {es : Array (Int × Value)} {ep : Nat} {t : SetTable} {ps : List Nat} {i : Nat} {op : Obj} {np : Nat} {Q : Option Value → Shared → Prop} (hh : A.handled = none) (hit : SetIter s.heap I a (.ref p) i es.size ep) (hs : SetIs s.heap a es ep t)
    (hp : s.heap.get? p = some op) (hpd : op.data = .seq (ps.map fun (k : Nat) => rawInt k).toArray np) (hi : ps[i]? = none)
    (hQ : ∀ h', Heap.ExtBut I s.heap h' → Q none { s with heap := h' }) : wpAny (model prog w) A (pyNext (.ref I)) Q E s := by
  obtain ⟨o, ho, hc, hd⟩ := id hit
  obtain ⟨os, hos, hex, hds, hf⟩ := id hs
  unfold pyNext
  refine wpAny_bind (wpAny_attempt (wpAny_callSpecial?_slot (name := Str.ofString "__next__") hit.typeIs slot_seti_next
    (wpAny_call_entry slot_seti_next hit.typeIs entry_seti_next ?_ (args_seti_next _))))
  unfold Builtin.«set_iterator.__next__»
  refine wpAny_bind (wpAny_pure ?_)
  refine wpAny_bind (wpAny_fieldsOf ho hd ?_)
  dsimp only
  refine wpAny_bind (wpAny_setEntries_of hos hds hf ?_)
  simp only [bne_self_eq_false, Bool.false_eq_true, ↓reduceIte]
  refine wpAny_bind (wpAny_seqItems hp hpd ?_)
  dsimp only
  rw [show ((ps.map fun (k : Nat) => rawInt k).toArray)[(i : Int).toNat]? = none by simp; simpa using hi]
  dsimp only
  refine wpAny_bind (wpAny_setField ho hd (by simp) ?_)
  have h1 := Heap.get?_update_self (Obj.mapFields (·.setIfInBounds 0 (rawInt 0))) ho (Obj.isFreed_of_fields (Obj.data_mapFields hd _))
  refine wpAny_bind (wpAny_setField (s := { s with heap := s.heap.update I (Obj.mapFields (·.setIfInBounds 0 (rawInt 0))) }) h1 (Obj.data_mapFields hd _) (by simp) ?_)
  show wpAny _ _ (newExc (.type "StopIteration") [] >>= _) _ _ _
  refine wpAny_bind ?_
  simp only [newExc, newTuple]
  refine wpAny_bind (wpAny_newObj_type ?_ (by size_fits))
  refine wpAny_bind (m := firstArgMember _ _) (wpAny_of_eq (a := Value.none) (by first | rfl | (simp only [firstArgMember]; rfl)) ?_)
  refine wpAny_newObj_type ?_ (by size_fits)
  simp only [raiseNew]
  refine wpAny_bind (wpAny_handled ?_)
  rw [show A.in1.handled = none from hh]
  refine wpAny_bind (wpAny_pure (wpAny_throw ?_))
  refine wpAny_bind (wpAny_isInstance (T := "StopIteration") (b := true) ⟨_, Heap.get?_push_size _ rfl, rfl⟩ isSubtype_stop ?_)
  exact wpAny_pure (hQ _ ((((Heap.SameBut.update ..).trans (Heap.SameBut.update ..)).extBut.push _).push _))
end
end L2

set_option Elab.async false
set_option linter.all false
set_option maxRecDepth 100000
set_option maxHeartbeats 3200000
namespace L2
open PySem PySem.Spec PyProof.Rows
theorem slot_seti_iter : Slot "set_iterator" "__iter__" "set_iterator.__iter__" :=
  .of (owner := "set_iterator") (n := "__iter__") (by rw [typeLookup_type, builtinLookup_eq_fast]; kernel_rfl) (by decide +kernel) (by decide +kernel) (by decide +kernel)
    (by first | exact .inl (by decide +kernel) | exact .inr (by decide +kernel)) (by rw [isSubtype_type]; kernel_rfl)
theorem entry_seti_iter : entryFor table "set_iterator.__iter__" = some Builtin.«dict_keyiterator.__iter__» :=
  entryFor_alias (id' := "dict_keyiterator.__iter__") (by kernel_rfl) rfl (by decide +kernel) (by kernel_rfl)
theorem args_seti_iter (a : Value) : argsOk "set_iterator.__iter__" ⟨[a], []⟩ := by
  unfold argsOk; rw [signature?_of (id := "set_iterator.__iter__") (n := ['_', '_', 'r', 'e', 't', 'i', '_', '_']) (o := ['r', 'o', 't', 'a', 'r', 'e', 't', 'i', '_', 't', 'e', 's']) (by kernel_rfl) owner_seti]; kernel_rfl

section
variable {prog : Program} {w : World} {A : Around} {E : Value → Shared → Prop} {s : Shared}
theorem iter_seti {I a : Addr} {first : Value} {i n ep : Nat} {Q : Value → Shared → Prop} (hit : SetIter s.heap I a first i n ep) (h : Q (.ref I) s) : wpAny (model prog w) A (pyIter (.ref I)) Q E s := by
  refine wpAny_pyIter_slot hit.typeIs slot_seti_iter (wpAny_call_entry slot_seti_iter hit.typeIs entry_seti_iter ?_ (args_seti_iter _))
  show wpAny _ _ (ret (.ref I)) _ _ s
  exact wpAny_pure ⟨_, rfl, "set_iterator", _, hit.typeIs, slot_seti_next.lookup, h⟩

/-- the texts of an order, one by one -/
def Txs (ord : List (Int × Value)) (i : Nat) (v : Value) : Prop := ∃ e, ord[i]? = some e ∧ v = e.2

theorem walks_text {I a : Addr} {es : Array (Int × Value)} {ep : Nat} {t : SetTable} (hb : byTx w = true) (hh : A.handled = none) (hne : a ≠ I) :
    Walks prog w A I [I, a] [I] es.size (Txs (pickOrder (w.params.setOrder a ep) es).toList) (fun i h => SetIter h I a (.int (0 : Nat) 0) i es.size ep ∧ SetIs h a es ep t) where
  sub := fun b hb => by simp at hb; simp [hb]
  frame := fun _ _ _ st hk => ⟨st.1.at fun o e => hk I (by simp) o e, st.2.at fun o e => hk a (by simp) o e⟩
  item := fun i s Q E hi st hQ => by
    have hsz : (pickOrder (w.params.setOrder a ep) es).size = es.size := by simpa using (pickOrder_perm (w.params.setOrder a ep) es).length_eq
    obtain ⟨e, he⟩ : ∃ e, (pickOrder (w.params.setOrder a ep) es)[i]? = some e := ⟨_, Array.getElem?_eq_getElem (by omega)⟩
    refine next_slot st.1 st.2 (x := e.2) (nx := 0) (fun Q' E' q => setNext_text hb st.2 (by rw [he]; exact q)) fun h' hit' hs' => ?_
    exact hQ e.2 h' s.toks ⟨e, by simpa using he, rfl⟩ ⟨hit', st.2.at fun o e => hs'.extBut a o hne e⟩ fun b o hb e => hs'.extBut b o (fun h => hb (by simp [h])) e
  done := fun s Q E st hQ => by
    have hsz : (pickOrder (w.params.setOrder a ep) es).size = es.size := by simpa using (pickOrder_perm (w.params.setOrder a ep) es).length_eq
    exact end_slot hh st.1 st.2 (fun Q' E' q => setNext_text hb st.2 (by rw [Array.getElem?_eq_none (by omega)]; exact q)) fun h' he' => hQ h' s.toks fun b o hb e => he' b o (fun h => hb (by simp [h])) e
  self := fun _ _ _ _ st hQ => iter_seti st.1 hQ

theorem walks_drawn {I a p : Addr} {es : Array (Int × Value)} {ep : Nat} {t : SetTable} {ps : List Nat} (hps : ps.Perm (List.range es.size)) (hh : A.handled = none) (hne : a ≠ I) (hnp : p ≠ I) :
    Walks prog w A I [I, a, p] [I] es.size (Txs (ps.filterMap (es[·]?))) (fun i h => SetIter h I a (.ref p) i es.size ep ∧ SetIs h a es ep t ∧ ∃ op np, h.get? p = some op ∧ op.data = .seq (ps.map fun (k : Nat) => rawInt k).toArray np) where
  sub := fun b hb => by simp at hb; simp [hb]
  frame := fun _ _ _ st hk => ⟨st.1.at fun o e => hk I (by simp) o e, st.2.1.at fun o e => hk a (by simp) o e, let ⟨op, np, h1, h2⟩ := st.2.2; ⟨op, np, hk p (by simp) op h1, h2⟩⟩
  item := fun i s Q E hi st hQ => by
    obtain ⟨op, np, h1, h2⟩ := st.2.2
    have hlen : ps.length = es.size := by simpa using hps.length_eq
    have hall : ∀ k ∈ ps, k < es.size := fun k hk => by simpa using hps.mem_iff.mp hk
    have hpl : ps[i]? = some (ps[i]'(by omega)) := List.getElem?_eq_getElem _
    have hk : ps[i]'(by omega) < es.size := hall _ (List.getElem_mem _)
    have hfm : ps.filterMap (es[·]?) = ps.map (fun k => es.getD k (0, .none)) := by
      clear hpl hps hlen hk hi h1 h2 st hQ
      induction ps with
      | nil => rfl
      | cons k ks ih =>
        have := hall k (by simp)
        rw [List.filterMap_cons_some (b := es.getD k (0, .none)) (by simp [Array.getD, this]), ih fun k hk => hall k (by simp [hk]), List.map_cons]
    refine next_place st.1 st.2.1 h1 h2 hpl (Array.getElem?_eq_getElem hk) fun h' hit' hs' => ?_
    refine hQ _ h' s.toks ⟨_, ?_, rfl⟩ ⟨hit', st.2.1.at fun o e => hs'.extBut a o hne e, op, np, hs'.extBut p op hnp h1, h2⟩ fun b o hb e => hs'.extBut b o (fun h => hb (by simp [h])) e
    rw [hfm, List.getElem?_map, hpl]
    simp [Array.getD, hk]
  done := fun s Q E st hQ => by
    obtain ⟨op, np, h1, h2⟩ := st.2.2
    have hlen : ps.length = es.size := by simpa using hps.length_eq
    exact end_place hh st.1 st.2.1 h1 h2 (by simp; omega) fun h' he' => hQ h' s.toks fun b o hb e => he' b o (fun h => hb (by simp [h])) e
  self := fun _ _ _ _ st hQ => iter_seti st.1 hQ

theorem below_one (j : Nat) : SetTable.below #[j] 0 = 0 ∧ SetTable.below #[j] (j + 1) = 1 := by
  constructor <;> simp [SetTable.below, SetTable.below.go]

theorem walks_small {I a : Addr} {es : Array (Int × Value)} {ep : Nat} {t : SetTable} (hb : byTx w = false) (hl : t.led = true) (hz : es.size ≤ 1) (hh : A.handled = none) (hne : a ≠ I) :
    Walks prog w A I [I, a] [I] es.size (Txs es.toList) (fun i h => ∃ slot : Nat, (i = 0 → slot = 0) ∧ (i = 1 → ∃ j, t.place = #[j] ∧ slot = j + 1) ∧ SetIter h I a (.int slot 0) i es.size ep ∧ SetIs h a es ep t) where
  sub := fun b hb => by simp at hb; simp [hb]
  frame := fun _ _ _ st hk => by
    obtain ⟨slot, z0, z1, h1, h2⟩ := st
    exact ⟨slot, z0, z1, h1.at fun o e => hk I (by simp) o e, h2.at fun o e => hk a (by simp) o e⟩
  item := fun i s Q E hi st hQ => by
    obtain ⟨slot, z0, z1, h1, h2⟩ := st
    have hi0 : i = 0 := by omega
    subst hi0
    obtain rfl := z0 rfl
    have hes : es.size = 1 := by omega
    have hps : t.place.size = 1 := by
      obtain ⟨o, ho, hex, hd, hf⟩ := h2
      simp only [SetTable.fits, Bool.and_eq_true, beq_iff_eq, decide_eq_true_eq] at hf
      omega
    obtain ⟨j, hj⟩ : ∃ j, t.place = #[j] := ⟨t.place[0], by apply Array.ext <;> simp [hps]; intro i h1; subst h1; rfl⟩
    obtain ⟨e, he⟩ : ∃ e, es[0]? = some e := ⟨_, Array.getElem?_eq_getElem (by omega)⟩
    refine next_slot h1 h2 (x := e.2) (nx := j + 1) (fun Q' E' q => setNext_small hb h2 hl hz (by rw [hj, (below_one j).1, he]; exact q)) fun h' hit' hs' => ?_
    exact hQ e.2 h' s.toks ⟨e, by simpa using he, rfl⟩ ⟨j + 1, fun z => absurd z (by omega), fun _ => ⟨j, hj, rfl⟩, hit', h2.at fun o e => hs'.extBut a o hne e⟩ fun b o hb e => hs'.extBut b o (fun h => hb (by simp [h])) e
  done := fun s Q E st hQ => by
    obtain ⟨slot, z0, z1, h1, h2⟩ := st
    refine end_slot hh h1 h2 (fun Q' E' q => setNext_small hb h2 hl hz ?_) fun h' he' => hQ h' s.toks fun b o hb e => he' b o (fun h => hb (by simp [h])) e
    by_cases h0 : es.size = 0
    · have : es = #[] := Array.eq_empty_of_size_eq_zero h0
      subst this
      simpa using q
    · obtain ⟨j, hj, rfl⟩ := z1 (by omega)
      rw [hj, (below_one j).2, Array.getElem?_eq_none (by omega)]
      exact q
  self := fun _ _ _ _ st hQ => by
    obtain ⟨slot, z0, z1, h1, h2⟩ := st
    exact iter_seti h1 hQ
end
end L2

set_option Elab.async false
set_option linter.all false
set_option maxRecDepth 100000
set_option maxHeartbeats 3200000
namespace L2
open PySem PySem.Spec PyProof.Rows
section
variable {prog : Program} {w : World} {A : Around} {E : Value → Shared → Prop} {s : Shared}

theorem setDrawn_is {a : Addr} {es : Array (Int × Value)} {ep : Nat} {t : SetTable} {Q : Bool → Shared → Prop} (hs : SetIs s.heap a es ep t) (h : Q (!byTx w && (!t.plain && decide (es.size > 1))) s) : wpAny (model prog w) A (setDrawn a) Q E s := by
  obtain ⟨o, ho, hex, hd, hf⟩ := hs
  unfold setDrawn
  refine wpAny_bind (wpAny_setState_of ho hd hf ?_)
  dsimp only
  refine wpAny_bind (setsByText_is ?_)
  exact wpAny_pure h

/-- what a walk of a set is -/
structure SetW (prog : Program) (w : World) (h h' : Heap) (I a : Addr) (es : Array (Int × Value)) (ord : List (Int × Value)) (fp : List Addr) (St : Nat → Heap → Prop) : Prop where
  old : ∀ b o, h.get? b = some o → h'.get? b = some o
  new : h.objs.size ≤ I
  perm : ord.Perm es.toList
  lt : ∀ b ∈ fp, b < h'.objs.size
  mem : I ∈ fp
  st : St 0 h'
  walks : ∀ A : Around, A.handled = none → Walks prog w A I fp [I] es.size (Txs ord) St
  apart : ∀ b ∈ fp, b = a ∨ h.objs.size ≤ b

theorem iter_set {a : Addr} {es : Array (Int × Value)} {ep : Nat} {t : SetTable} {Q : Value → Shared → Prop} (hs : SetIs s.heap a es ep t) (hl : t.led = !byTx w) (hp : es.size = 0 ∨ t.plain = false) (hz : es.size ≤ sizeLine)
    (hQ : ∀ h' d I ord fp St, SetW prog w s.heap h' I a es ord fp St → Q (.ref I) { s with heap := h', drawn := d }) : wpAny (model prog w) A (pyIter (.ref a)) Q E s := by
  obtain ⟨o, ho, hex, hd, hf⟩ := id hs
  have hT : s.TypeIs (.ref a) "set" := ⟨o, ho, hex.1⟩
  have hlt := Heap.lt_size ho
  refine wpAny_pyIter_slot hT F.slot_set_iter (wpAny_call_entry F.slot_set_iter hT entry_set_iter ?_ (F.args_set_iter_1 _))
  unfold Builtin.«frozenset.__iter__» Builtin.Frozenset.slot0 slotArgs
  simp only [List.isEmpty_nil, Bool.not_true, Bool.false_eq_true, ↓reduceIte, bind_assoc, List.length_nil, bne_self_eq_false]
  unfold Builtin.Frozenset.addrOf Builtin.Frozenset.sizeOf
  refine wpAny_bind (wpAny_pure ?_)
  try dsimp only
  refine wpAny_bind (wpAny_pure ?_)
  refine wpAny_bind (wpAny_bind (wpAny_setEntries_of ho hd hf (wpAny_pure ?_)))
  refine wpAny_bind (setDrawn_is hs ?_)
  cases hb : byTx w with
  | true =>
    simp only [Bool.not_true, Bool.false_and, Bool.false_eq_true, ↓reduceIte]
    refine wpAny_bind (wpAny_pure ?_)
    refine wpAny_bind (wpAny_setEpoch_of ho hd hf ?_)
    have hg : (s.heap.push { cls := .type "set_iterator", data := .fields #[rawInt 0, rawInt 0, .ref a, rawInt es.size, rawInt ep] }).get? s.heap.objs.size = some { cls := .type "set_iterator", data := .fields #[rawInt 0, rawInt 0, .ref a, rawInt es.size, rawInt ep] } := Heap.get?_push_size _ rfl
    refine wpAny_bind (wpAny_newObj_type (wpAny_pure ⟨_, rfl, "set_iterator", _, ⟨_, hg, rfl⟩, slot_seti_next.lookup, ?_⟩))
    refine hQ _ s.drawn s.heap.objs.size _ _ _ ⟨fun b o e => Heap.get?_push_of_some _ e, Nat.le_refl _, pickOrder_perm (w.params.setOrder a ep) es, fun b hm => ?_, List.mem_cons_self, ⟨⟨_, hg, rfl, rfl⟩, hs.at fun o e => Heap.get?_push_of_some _ e⟩, fun A' hh => walks_text hb hh (Nat.ne_of_lt hlt), fun b hm => (List.mem_cons.mp hm).elim (fun e => .inr (e ▸ Nat.le_refl _)) fun hm => .inl (List.mem_singleton.mp hm)⟩
    rw [Heap.size_push]
    rcases List.mem_cons.mp hm with rfl | hm
    · exact Nat.lt_succ_self _
    · rw [List.mem_singleton.mp hm]; exact Nat.lt_succ_of_lt hlt
  | false =>
    rw [hb] at hl
    simp only [Bool.not_false, Bool.true_and]
    by_cases hd1 : es.size > 1
    · have hpl : t.plain = false := hp.resolve_left (by omega)
      rw [hpl, decide_eq_true hd1]
      simp only [Bool.not_false, Bool.true_and, ↓reduceIte]
      refine wpAny_bind (drawOrder_any _ _ _ _ (Nat.le_of_eq List.length_range) fun ps d hps => ?_)
      have hpn : ps.length = es.size := by simpa using hps.length_eq
      refine wpAny_bind (wpAny_newTuple ?_ (by rw [List.length_map]; omega))
      refine wpAny_bind (wpAny_setEpoch_of (Heap.get?_push_of_some _ ho) hd hf ?_)
      generalize hH : s.heap.push { cls := .type "tuple", data := .seq (ps.map fun (i : Nat) => rawInt i).toArray } = H
      have hHs : H.objs.size = s.heap.objs.size + 1 := by rw [← hH, Heap.size_push]
      have hold : ∀ b o, s.heap.get? b = some o → H.get? b = some o := fun b o e => hH ▸ Heap.get?_push_of_some _ e
      have htp : H.get? s.heap.objs.size = some { cls := .type "tuple", data := .seq (ps.map fun (i : Nat) => rawInt i).toArray } := hH ▸ Heap.get?_push_size _ rfl
      have hg : (H.push { cls := .type "set_iterator", data := .fields #[.ref s.heap.objs.size, rawInt 0, .ref a, rawInt es.size, rawInt ep] }).get? H.objs.size = some { cls := .type "set_iterator", data := .fields #[.ref s.heap.objs.size, rawInt 0, .ref a, rawInt es.size, rawInt ep] } := Heap.get?_push_size _ rfl
      refine wpAny_bind (wpAny_newObj_type (s := { s with heap := H, drawn := d }) (wpAny_pure ⟨_, rfl, "set_iterator", _, ⟨_, hg, rfl⟩, slot_seti_next.lookup, ?_⟩))
      refine hQ _ d H.objs.size _ _ _ ⟨fun b o e => Heap.get?_push_of_some _ (hold b o e), by rw [hHs]; exact Nat.le_succ _, ?_, fun b hm => ?_, List.mem_cons_self, ⟨⟨_, hg, rfl, rfl⟩, hs.at fun o e => Heap.get?_push_of_some _ (hold a o e), _, _, Heap.get?_push_of_some _ htp, rfl⟩, fun A' hh => walks_drawn (p := s.heap.objs.size) hps hh (fun e => by rw [e, hHs] at hlt; exact absurd hlt (Nat.not_lt.mpr (Nat.le_succ _))) (fun e => by rw [hHs] at e; exact absurd e (Nat.ne_of_lt (Nat.lt_succ_self _))), fun b hm => (List.mem_cons.mp hm).elim (fun e => .inr (by rw [e, hHs]; exact Nat.le_succ _)) fun hm => (List.mem_cons.mp hm).elim .inl fun hm => .inr (by rw [List.mem_singleton.mp hm]; exact Nat.le_refl _)⟩
      · exact (hps.filterMap _).trans (by rw [filterMap_getElem?_range])
      · rw [Heap.size_push]
        rcases List.mem_cons.mp hm with rfl | hm
        · exact Nat.lt_succ_self _
        · rcases List.mem_cons.mp hm with rfl | hm
          · exact Nat.lt_succ_of_lt (hHs ▸ Nat.lt_succ_of_lt hlt)
          · rw [List.mem_singleton.mp hm, hHs]; exact Nat.lt_succ_of_lt (Nat.lt_succ_self _)
    · have hd2 : decide (es.size > 1) = false := by simp; omega
      rw [hd2, Bool.and_false]
      simp only [Bool.false_eq_true, ↓reduceIte]
      refine wpAny_bind (wpAny_pure ?_)
      refine wpAny_bind (wpAny_setEpoch_of ho hd hf ?_)
      have hg : (s.heap.push { cls := .type "set_iterator", data := .fields #[rawInt 0, rawInt 0, .ref a, rawInt es.size, rawInt ep] }).get? s.heap.objs.size = some { cls := .type "set_iterator", data := .fields #[rawInt 0, rawInt 0, .ref a, rawInt es.size, rawInt ep] } := Heap.get?_push_size _ rfl
      refine wpAny_bind (wpAny_newObj_type (wpAny_pure ⟨_, rfl, "set_iterator", _, ⟨_, hg, rfl⟩, slot_seti_next.lookup, ?_⟩))
      refine hQ _ s.drawn s.heap.objs.size _ _ _ ⟨fun b o e => Heap.get?_push_of_some _ e, Nat.le_refl _, .rfl, fun b hm => ?_, List.mem_cons_self, ⟨0, fun _ => rfl, fun z => absurd z (by omega), ⟨_, hg, rfl, rfl⟩, hs.at fun o e => Heap.get?_push_of_some _ e⟩, fun A' hh => walks_small hb (by simpa using hl) (by omega) hh (Nat.ne_of_lt hlt), fun b hm => (List.mem_cons.mp hm).elim (fun e => .inr (e ▸ Nat.le_refl _)) fun hm => .inl (List.mem_singleton.mp hm)⟩
      rw [Heap.size_push]
      rcases List.mem_cons.mp hm with rfl | hm
      · exact Nat.lt_succ_self _
      · rw [List.mem_singleton.mp hm]; exact Nat.lt_succ_of_lt hlt
end
end L2

set_option Elab.async false
set_option linter.all false
set_option maxRecDepth 100000
set_option maxHeartbeats 3200000
namespace L2
open PySem PySem.Spec PyProof.Rows
section
variable {prog : Program} {w : World} {A : Around} {E : Value → Shared → Prop} {s : Shared}

theorem collect_set {a : Addr} {es : Array (Int × Value)} {ep : Nat} {t : SetTable} {Q : List Value → Shared → Prop} (hh : A.handled = none) (hs : SetIs s.heap a es ep t) (hl : t.led = !byTx w) (hp : es.size = 0 ∨ t.plain = false) (hz : es.size ≤ sizeLine)
    (hQ : ∀ (h' : Heap) (d : Drawn) (tk : Nat) (ord : List (Int × Value)), (∀ b o, s.heap.get? b = some o → h'.get? b = some o) → s.heap.objs.size ≤ h'.objs.size → ord.Perm es.toList → Q (ord.map (·.2)) { s with heap := h', drawn := d, toks := tk }) : wpAny (model prog w) A (collect (.ref a)) Q E s := by
  obtain ⟨o, ho, hex, hd, hf⟩ := id hs
  have hlt := Heap.lt_size ho
  unfold collect
  refine wpAny_bind (wpAny_runValue (codeAny_builtin F.entry_proto_collect ?_))
  rw [Around.under_plainId F.plain_proto_collect _]
  show wpAny _ A.in1 (newList [] >>= fun l => again (.builtin "list.__iadd__" ⟨[l, .ref a], []⟩)) _ _ s
  refine wpAny_bind (wpAny_newObj_type ?_)
  refine wpAny_pure ⟨plainId_quiet F.plain_list_iadd _, codeAny_builtin F.entry_list_iadd ?_⟩
  rw [Around.under_plainId F.plain_list_iadd _]
  generalize hH : s.heap.push { cls := .type "list", data := .seq ([] : List Value).toArray } = H
  have hHs : H.objs.size = s.heap.objs.size + 1 := by rw [← hH, Heap.size_push]
  have hold : ∀ b o, s.heap.get? b = some o → H.get? b = some o := fun b o e => hH ▸ Heap.get?_push_of_some _ e
  have hS : H.get? s.heap.objs.size = some { cls := .type "list", data := .seq ([] : List Value).toArray } := hH ▸ Heap.get?_push_size _ rfl
  have hs1 : SetIs H a es ep t := hs.at fun o e => hold a o e
  have hT : Shared.TypeIs { s with heap := H } (.ref a) "set" := ⟨o, hold a o ho, hex.1⟩
  show wpAny _ A.in1 (Builtin.List.listExtendWith (.ref s.heap.objs.size) (.ref a) (.ref s.heap.objs.size)) _ _ _
  unfold Builtin.List.listExtendWith
  refine wpAny_bind (wpAny_typeOf hT ?_)
  have h1 : Builtin.List.listSameRef (.ref s.heap.objs.size) (.ref a) = false := by simp [Builtin.List.listSameRef]; exact Nat.ne_of_gt hlt
  have h2 : (Value.type "set" == Value.type "list") = false := by decide
  have h3 : (Value.type "set" == Value.type "tuple") = false := by decide
  simp only [h1, h2, h3, Bool.or_false, Bool.false_eq_true, if_false]
  refine wpAny_bind (iter_set (s := { s with heap := H }) hs1 hl hp hz fun h1 d I ord fp St W => ?_)
  refine wpAny_bind (wpAny_holding ?_)
  unfold Builtin.List.listLengthHint
  have hT1 : Shared.TypeIs { s with heap := h1, drawn := d } (.ref a) "set" := ⟨o, W.old a o (hold a o ho), hex.1⟩
  refine wpAny_bind (wpAny_specialOf hT1 F.slot_set_len.lookup ?_)
  wp_delta
  refine wpAny_bind (wpAny_isInstance (b := true) hT1 (by rw [isSubtype_type]; kernel_rfl) ?_)
  show wpAny _ A.in1 (typeOf (Value.ref a) >>= _) _ _ _
  refine wpAny_bind (wpAny_typeOf hT1 ?_)
  refine wpAny_pure ?_
  show wpAny _ A.in1 (rule "list.extend.makes-room" >>= fun _ => Builtin.List.listTouch (.ref s.heap.objs.size) >>= fun _ =>
    again (.builtin "list.extend.loop" ⟨[.ref s.heap.objs.size, .ref I, .ref s.heap.objs.size], []⟩)) _ _ _
  refine wpAny_bind (wpAny_rule ?_)
  have hnf : s.heap.objs.size ∉ fp := fun hm => by
    rcases W.apart _ hm with e | e
    · exact absurd hlt (e ▸ Nat.lt_irrefl _)
    · exact absurd e (by show ¬ H.objs.size ≤ _; rw [hHs]; exact Nat.not_succ_le_self _)
  have hS1 := W.old _ _ hS
  refine wpAny_bind ?_
  show wpAny _ A.in1 (updateSeq s.heap.objs.size (·.push .none) >>= fun _ => updateSeq s.heap.objs.size (·.pop)) _ _ _
  refine wpAny_bind (wpAny_updateSeq (s := { s with heap := h1, drawn := d }) hS1 rfl ?_)
  have hS2 := Heap.get?_update_self (Obj.mapSeq (·.push Value.none)) hS1 rfl
  refine wpAny_updateSeq (s := { s with heap := h1.update s.heap.objs.size (Obj.mapSeq (·.push Value.none)), drawn := d }) hS2 rfl ?_
  have hS3 := Heap.get?_update_self (Obj.mapSeq (·.pop)) hS2 rfl
  have oth : ∀ b o, b ≠ s.heap.objs.size → h1.get? b = some o →
      ((h1.update s.heap.objs.size (Obj.mapSeq (·.push Value.none))).update s.heap.objs.size (Obj.mapSeq (·.pop))).get? b = some o :=
    fun b o hb e => (Heap.get?_update_other _ _ (Ne.symm hb)).trans ((Heap.get?_update_other _ _ (Ne.symm hb)).trans e)
  refine wpAny_pure ⟨plainId_quiet F.plain_extend_loop _, codeAny_extend_loopS (W.walks A.in1 hh).toS hz _ hnf _ es.size 0 _ _ _ rfl (Nat.zero_le _)
    ((W.walks A hh).frame 0 _ _ W.st fun b hb o e => oth b o (fun h => hnf (h ▸ hb)) e) hS3 (ItemsOf.nil _) fun s' acc' c' hm hS' hacc => ?_⟩
  show wpAny _ A (load s.heap.objs.size >>= _) _ _ s'
  refine wpAny_bind (wpAny_load hS' ?_)
  have hacc2 : acc'.toList = ord.map (·.2) := by
    have hol : ord.length = es.size := by simpa using W.perm.length_eq
    apply List.ext_getElem
    · rw [List.length_map, Array.length_toList, hacc.1, hol]
    · intro i i1 i2
      rw [Array.length_toList] at i1
      obtain ⟨e, he, hv⟩ := hacc.2 i acc'[i] (Array.getElem?_eq_getElem i1)
      rw [Array.getElem_toList, hv, List.getElem_map]
      rw [List.length_map] at i2
      rw [List.getElem?_eq_getElem i2] at he
      rw [Option.some.inj he]
  have eg : s'.gens = s.gens := hm.gens
  have ed : s'.drawn = d := hm.drawn
  have eo : s'.os = s.os := hm.os
  refine wpAny_pure ?_
  have := hQ s'.heap s'.drawn s'.toks ord (fun b ob e => ?_) ?_ W.perm
  · rw [← hacc2, ← eg, ← eo] at this; exact this
  · have hlb := Heap.lt_size e
    refine hm.heap b ob (fun hb => ?_) (oth b ob (Nat.ne_of_lt hlb) (W.old b ob (hold b ob e)))
    rcases List.mem_cons.mp hb with h | h
    · exact absurd hlb (h ▸ Nat.lt_irrefl _)
    · rw [List.mem_singleton.mp h] at hlb
      have := W.new
      exact absurd hlb (Nat.not_lt.mpr (Nat.le_trans (by rw [hHs]; exact Nat.le_succ _) this))
  · exact Nat.le_of_lt (Heap.lt_size hS')
end
end L2

set_option Elab.async false
set_option linter.all false
set_option maxRecDepth 100000
set_option maxHeartbeats 3200000
namespace L2
open PySem PySem.Spec PyProof.Rows
section
variable {prog : Program} {w : World} {A : Around} {E : Value → Shared → Prop} {s : Shared}

theorem strs_of_elems : ∀ {l : List (Int × Value)}, ElemsOf (PySem.strKind prog w) l → StrsAre (l.map (·.2)) (l.map fun e => tx e.2)
  | [], _ => .nil
  | e :: l, h => by
    obtain ⟨_, t, ht⟩ := elems_tx h (List.mem_cons_self)
    rw [List.map_cons, List.map_cons, ht]
    exact .cons _ t (strs_of_elems h.tail)

theorem sorted_set {a : Addr} {led : Bool} {S : List Str} {Q : Value → Shared → Prop} (hh : A.handled = none) (hS : TxSet prog w s.heap a (!byTx w) S) (h64 : S.length < 64)
    (h : ∀ (h' : Heap) (d : Drawn) (tk : Nat) (l : Addr) (out : Array Value) (ss : List Str) (e : Nat), StrsAre out.toList ss → ss.Perm S → sortedS ss = true → (∀ b o, s.heap.get? b = some o → h'.get? b = some o) → s.heap.objs.size ≤ l →
      h'.get? l = some (seqObj "list" out e) → Q (.ref l) { s with heap := h', drawn := d, toks := tk }) :
    wpAny (model prog w) A (call (.builtin "sorted") [.ref a]) Q E s := by
  obtain ⟨o, es, ep, t, ho, hex, hd, hel, hp, hf, hl, hpl⟩ := hS
  have hn : es.size = S.length := by rw [← hp.length_eq, List.length_map, Array.length_toList]
  refine Calls.call_function_entry kind_sorted plain_sorted entry_sorted (args_sorted1 _) ?_
  unfold Builtin.«sorted»
  refine wpAny_bind (m := checkCount "sorted" 1 1 _) (wpAny_pure ?_)
  refine wpAny_bind (collect_set (A := A.in1) hh ⟨o, ho, hex, hd, hf⟩ hl hpl (fits_of_scanBound (by unfold scanBound; omega)) fun h1 d tk ord hold hsz hord => ?_)
  have hvl : (ord.map (·.2)).length < 64 := by rw [List.length_map, hord.length_eq, Array.length_toList]; omega
  have hSA : StrsAre (ord.map (·.2)) (ord.map fun e => tx e.2) := strs_of_elems (hel.perm hord)
  have hpS : (ord.map fun e => tx e.2).Perm S := (hord.map _).trans hp
  generalize hV : ord.map (·.2) = vs at hvl hSA ⊢
  refine wpAny_bind (wpAny_newList ?_)
  have hoL : (h1.push (seqObj "list" vs.toArray 0)).get? h1.objs.size = some (seqObj "list" vs.toArray 0) := Heap.get?_push_size _ rfl
  refine wpAny_bind (wpAny_holding (wpAny_call_entry slot_list_sort ⟨_, hoL, rfl⟩ entry_list_sort (list_sort_treeK strKind_oneLt hoL hSA.keysOf (fun v₁ v₂ rest e => keyKind_strs (by rw [← e]; exact hSA)) hvl fun st' a1 a2 => ⟨_, rfl, ?_⟩) (args_list_sort _)))
  obtain ⟨ss, b1, b2, b3⟩ := sorted_out_str hSA a1 a2
  obtain ⟨e, he⟩ := sortedHeap_at (vs := vs) (out := (arrOf st').map (·.2)) (n := 0) hoL
  refine wpAny_pure ⟨_, rfl, h _ d tk h1.objs.size _ ss e b1 (b2.trans hpS) b3 (fun b ob hb => ?_) hsz he⟩
  have hlt := Nat.lt_of_lt_of_le (Heap.lt_size hb) hsz
  rw [sortedHeap_old (Nat.ne_of_lt hlt) (by rw [size_push']; exact Nat.lt_succ_of_lt hlt)]
  exact Heap.get?_push_of_some _ (hold b ob hb)
end
end L2

set_option Elab.async false
set_option linter.all false
set_option maxRecDepth 100000
set_option maxHeartbeats 3200000
namespace L2
open PySem PySem.Spec PyProof.Rows
/-- a set of texts -/
def TxO (P : Program) (w : World) (a : Addr) (S : List Str) : HO := .ext fun h => TxSet P w h a (!byTx w) S
section
variable {X : Cx}
theorem Inv.drew {pins : List (Addr × Obj)} {σ : St} {H : Hp} {s : Shared} (I : Inv X pins σ H s) (d : Drawn) : Inv X pins σ H { s with drawn := d } :=
  ⟨I.ok, I.os, I.bare, I.base, I.loc, I.cell, I.free, I.freeC, I.pin, I.hok, I.len⟩
/-- set(xs) of a list of texts -/
theorem call_setS (hc : X.calm = true) : CallR X (.type "set") (fun xs H Q => ∃ (p : Addr) (ss : List Str), xs = [.ref p] ∧ SqL X.K H p (ss.map V.str) ∧ ss.length < 4000 ∧
    ∀ a : Addr, H a = none → Q (.ref a) (upd H a (TxO X.prog X.w a (onces ss)))) := by
  intro pins s σ H xs us Q I r h
  obtain ⟨p, ss, rfl, hq, hn, q⟩ := h
  obtain ⟨u, rfl, rx⟩ := vals1 r
  cases rx
  obtain ⟨its, r', pl, hz⟩ := I.list hq
  have hlen := r'.length
  rw [List.length_map] at hlen
  refine call_set_texts (I.ok.hd hc) pl.isList (by simpa using strsAre_of r') (by rw [List.size_toArray]; unfold scanBound; omega) fun h' tk htk hS hk => ?_
  refine ⟨.ref s.heap.objs.size, _, I.laid (t' := tk) (o := TxO X.prog X.w s.heap.objs.size (onces ss)) (fun b o e => hk b o (Heap.lt_size e) e) (Nat.le_refl _) ?_, rfl, q _ (I.hok.fresh (Nat.le_refl _))⟩
  obtain ⟨o, es, ep, t, ho, rest⟩ := id hS
  exact ⟨hS, ⟨o, ho⟩, fun h1 h2 x k => txset_kept x k⟩
/-- sorted of such a set -/
theorem call_sortedTx (hc : X.calm = true) : CallR X (.builtin "sorted") (fun xs H Q => ∃ (a : Addr) (S : List Str), xs = [.ref a] ∧ H a = some (TxO X.prog X.w a S) ∧ S.length < 64 ∧
    ∀ (l : Addr) (ms : List Str), H l = none → ms.Perm S → sortedS ms = true → Q (.ref l) (upd H l (.lst (ms.map V.str)))) := by
  intro pins s σ H xs us Q I r h
  obtain ⟨a, S, rfl, hq, hn, q⟩ := h
  obtain ⟨u, rfl, rx⟩ := vals1 r
  cases rx
  have hS : TxSet X.prog X.w s.heap a (!byTx X.w) S := (I.hok a _ hq).1
  refine sorted_set (led := true) (I.ok.hd hc) hS hn fun h' d tk l out ss e hi hp hs hk hl he => ?_
  refine ⟨.ref l, _, (I.drew d).laid (t' := tk) (o := .lst (ss.map V.str)) hk hl ?_, rfl, q _ ss (I.hok.fresh hl) hp hs⟩
  have hm : ss.length = S.length := hp.length_eq
  exact ⟨by rw [List.length_map]; exact Nat.le_of_lt (small1000 (by omega)), out.toList, e, vals_of_strs hi, by simpa using he⟩
end
end L2

set_option Elab.async false
set_option linter.all false
set_option maxRecDepth 100000
set_option maxHeartbeats 3200000
namespace L2
open PySem PySem.Spec PyProof.Rows
theorem str_ext {x y : Str} (h : x.cps.toList = y.cps.toList) : x = y := by
  cases x; cases y; simp only [Str.mk.injEq]; exact Array.toList_inj.mp h
theorem mem_ins {S : List Str} {x y : Str} : y ∈ ins S x ↔ y ∈ S ∨ y = x := by
  unfold ins; split
  · rename_i h
    exact ⟨.inl, fun z => z.elim id fun e => e ▸ h⟩
  · simp
theorem ins_nodup {S : List Str} {x : Str} (h : S.Nodup) : (ins S x).Nodup := by
  unfold ins; split
  · exact h
  · rename_i hx
    rw [List.nodup_append]
    exact ⟨h, by simp, fun a ha b hb => by rw [List.mem_singleton.mp hb]; exact fun e => hx (e ▸ ha)⟩
theorem onces_go : ∀ (ys S : List Str), S.Nodup → (ys.foldl ins S).Nodup ∧ ∀ y, y ∈ ys.foldl ins S ↔ y ∈ S ∨ y ∈ ys
  | [], S, h => ⟨h, fun y => by simp⟩
  | x :: r, S, h => by
    obtain ⟨a, b⟩ := onces_go r (ins S x) (ins_nodup h)
    refine ⟨a, fun y => (b y).trans ?_⟩
    rw [mem_ins, List.mem_cons, or_assoc]
theorem onces_nodup (ys : List Str) : (onces ys).Nodup := (onces_go ys [] List.nodup_nil).1
theorem mem_onces {ys : List Str} {y : Str} : y ∈ onces ys ↔ y ∈ ys := ((onces_go ys [] List.nodup_nil).2 y).trans (by simp)
theorem nodup_perm : ∀ {l m : List Str}, l.Nodup → m.Nodup → (∀ y, y ∈ l ↔ y ∈ m) → l.Perm m := fun h1 h2 h => (List.perm_ext_iff_of_nodup h1 h2).mpr h
end L2

set_option Elab.async false
set_option linter.all false
set_option maxRecDepth 100000
set_option maxHeartbeats 3200000
namespace L2
open PySem PySem.Spec PyProof.Rows
section
variable {prog : Program} {w : World} {A : Around} {E : Value → Shared → Prop} {s : Shared}
end
section
variable {X : Cx}
end
end L2

set_option Elab.async false
set_option linter.all false
set_option maxRecDepth 100000
set_option maxHeartbeats 3200000
namespace L2
open PySem PySem.Spec PyProof.Rows
/-- a filter over a tuple whose test may lay things -/
theorem comp_tfil {K : PySem.W.Frag} {a : Addr} {xs : List V} {is : List Nat} {tc : TT} {te : TE} {σ : St} {H : Hp} {Q : VK} (p : V → Bool) (S : Hp → Hp → Prop) (sr : ∀ H, S H H) (st : ∀ H1 H2 H3, S H1 H2 → S H2 H3 → S H1 H3) (hx : ∀ H1, S H H1 → SqT K H1 a xs) (hz : xs.length ≤ sizeLine)
    (hc : ∀ x ∈ xs, ∀ H1, S H H1 → ∀ R : Bool → Hp → Prop, (∀ H2, S H1 H2 → R (p x) H2) → tc (selS is σ (some x)) H1 R)
    (he : ∀ x ∈ xs, ∀ H1, ∀ R : VK, R x H1 → te (selS is σ (some x)) H1 R)
    (hd : ∀ H1 l, S H H1 → H1 l = none → Q (.ref l) (upd H1 l (.lst (xs.filter p)))) : CompW is tc te σ Q (Itt K a) H := by
  refine comp_tup (xs := xs) (fun i zs H' => zs = (xs.take i).filter p ∧ S H H') ⟨rfl, sr H⟩ ?_ ?_ ?_ ?_
  · rintro i zs H' ⟨rfl, _⟩
    exact Nat.le_trans (List.length_filter_le _ _) (by rw [List.length_take]; omega)
  · rintro i zs H' ⟨rfl, s1⟩
    exact hx _ s1
  · rintro i x zs H' R hR hxi ⟨rfl, s1⟩
    have hm := List.mem_of_getElem? hxi
    have e := take_snoc hxi
    refine hc x hm H' s1 _ fun H2 s2 => ?_
    cases hp : p x with
    | true =>
      refine (if_pos rfl : (if true = true then _ else _) = _) ▸ he x hm H2 _ (hR _ _ ⟨?_, st _ _ _ s1 s2⟩)
      rw [e, List.filter_append, List.filter_cons, if_pos hp]
      rfl
    | false =>
      refine (if_neg Bool.false_ne_true : (if false = true then _ else _) = _) ▸ hR _ _ ⟨?_, st _ _ _ s1 s2⟩
      rw [e, List.filter_append, List.filter_cons, if_neg (by rw [hp]; exact Bool.false_ne_true)]
      simp
  · rintro zs H' ⟨rfl, s1⟩ l hl
    rw [List.take_length]
    exact hd H' l s1 hl
end L2
namespace L2
open PySem PySem.Spec PyProof.Rows
end L2

set_option Elab.async false
set_option linter.all false
set_option maxRecDepth 100000
set_option maxHeartbeats 3200000
namespace L2
open PySem PySem.Spec PyProof.Rows
section
variable {X : Cx}
end
end L2

set_option Elab.async false
set_option linter.all false
set_option maxRecDepth 100000
set_option maxHeartbeats 3200000
namespace L2
open PySem PySem.Spec PyProof.Rows
abbrev frzA (o : Obj) : HO := .frz o (.ext fun _ => True)
theorem frzA_ok {P : Program} {w : World} {H : Hp} {h : Heap} {a : Addr} {o : Obj} (e : h.get? a = some o) : ObjOk P w H h a (frzA o) := ⟨e, trivial, ⟨o, e⟩, fun _ _ _ _ => trivial⟩
def hide (cs : List Addr) (H : Hp) : Hp := fun b => if b ∈ cs then none else H b
def unhide (cs : List Addr) (H H' : Hp) : Hp := fun b => if b ∈ cs then H b else H' b
theorem hide_in {cs : List Addr} {H : Hp} {b : Addr} (h : b ∈ cs) : hide cs H b = none := if_pos h
theorem hide_out {cs : List Addr} {H : Hp} {b : Addr} (h : b ∉ cs) : hide cs H b = H b := if_neg h
theorem unhide_in {cs : List Addr} {H H' : Hp} {b : Addr} (h : b ∈ cs) : unhide cs H H' b = H b := if_pos h
theorem unhide_out {cs : List Addr} {H H' : Hp} {b : Addr} (h : b ∉ cs) : unhide cs H H' b = H' b := if_neg h
theorem of_hide {cs : List Addr} {H : Hp} {b : Addr} {o : HO} (h : hide cs H b = some o) : b ∉ cs ∧ H b = some o := by
  by_cases m : b ∈ cs
  · rw [hide_in m] at h; cases h
  · rw [hide_out m] at h; exact ⟨m, h⟩
def FrzIn (H H1 : Hp) : Prop := ∀ b o u, H b = some (.frz o u) → H1 b = some (.frz o u)
theorem FrzIn.refl (H : Hp) : FrzIn H H := fun _ _ _ h => h
theorem FrzIn.trans {H H1 H2 : Hp} (a : FrzIn H H1) (b : FrzIn H1 H2) : FrzIn H H2 := fun c o u h => b c o u (a c o u h)
theorem Same.frz {H H1 : Hp} (a : Same H H1) : FrzIn H H1 := fun b o u h => a b _ h
/-- what can be called with the promise τ -/
def Callable (P : Program) (w : World) (K : PySem.W.Frag) (mg : Str → Option Value) (base : Heap) (k : Nat) (f : Addr) (H : Hp) (τ : Sp) : Prop :=
  (∃ o fd, H f = some (frzA o) ∧ o.data = .func fd) ∧
  ∀ (A : Around) (outer : List Env) (s : Shared) (H1 : Hp) (us : List Value) (vs : List V) (Q : VK) (E : XK), FrzIn H H1 → Room k A → Env0 P w K mg base A outer s H1 → Vals vs us → τ vs H1 Q E →
    codeAny (model P w) A (.call (.ref f) ⟨us, []⟩) (CR CX0 outer P w H1 s Q E) s
theorem Callable.frz {P : Program} {w : World} {K : PySem.W.Frag} {mg : Str → Option Value} {base : Heap} {k : Nat} {f : Addr} {H H1 : Hp} {τ : Sp} (c : Callable P w K mg base k f H τ) (h : FrzIn H H1) : Callable P w K mg base k f H1 τ :=
  ⟨let ⟨o, fd, e, d⟩ := c.1; ⟨o, fd, h _ _ _ e, d⟩, fun A outer s H2 us vs Q E fz => c.2 A outer s H2 us vs Q E (h.trans fz)⟩
section
variable {P : Program} {w : World} {H H' : Hp} {h h' : Heap} {cs : List Addr}
theorem hide_ok (x : HOk P w H h) (hcs : ∀ c ∈ cs, ∃ o, H c = some (frzA o)) : HOk P w (hide cs H) h := fun a o e => by
  obtain ⟨_, e'⟩ := of_hide e
  refine (x a o e').stay (fun _ _ _ q => q) (fun d q => ?_) fun d xs q => ?_
  · by_cases m : d ∈ cs
    · obtain ⟨ob, z⟩ := hcs d m
      rw [q] at z; cases z
    · rw [hide_out m]; exact q
  · by_cases m : d ∈ cs
    · obtain ⟨ob, z⟩ := hcs d m
      rw [q] at z; cases z
    · rw [hide_out m]; exact q
theorem unhide_ok (x : HOk P w H' h') (hn : ∀ c ∈ cs, H' c = none) (hcs : ∀ c ∈ cs, ∃ o, H c = some (frzA o) ∧ h'.get? c = some o) : HOk P w (unhide cs H H') h' := fun a o e => by
  by_cases m : a ∈ cs
  · rw [unhide_in m] at e
    obtain ⟨ob, z, g⟩ := hcs a m
    rw [z] at e; cases e
    exact frzA_ok g
  · rw [unhide_out m] at e
    refine (x a o e).stay (fun _ _ _ q => q) (fun d q => ?_) fun d xs q => ?_
    · by_cases m : d ∈ cs
      · rw [hn d m] at q; cases q
      · rw [unhide_out m]; exact q
    · by_cases m : d ∈ cs
      · rw [hn d m] at q; cases q
      · rw [unhide_out m]; exact q
end
structure LamSc (scope : Scope) (ps ys : List Str) : Prop where
  kind : scope.kind = .function
  co : scope.isCoroutine = false
  gen : scope.isGenerator = false
  cell : ∀ y ∈ scope.names, y.2 ≠ .cell
  par : ∀ p ∈ ps, scope.names.lookup p = some .local
  free : ∀ y ∈ ys, scope.names.lookup y = some .free
  nd : (ps ++ ys).Nodup
def cxL (P : Program) (w : World) (K : PySem.W.Frag) (mg : Str → Option Value) (base : Heap) (N : List Str) (qual : Str) (scope : Scope) (f : Addr) (cd : Value) (cl : List (Str × Addr)) (A : Around) (outer : List Env) (s : Shared) (H : Hp) : Cx where
  prog := P
  w := w
  K := K
  mg := mg
  base := base
  A := A.deeper (PySem.W.envX qual scope s.heap.objs.size f cd cl)
  N := N
  s₀ := s
  H₀ := H
  env := PySem.W.envX qual scope s.heap.objs.size f cd cl
  outer := outer
  stack := PySem.W.envX qual scope s.heap.objs.size f cd cl :: outer
  ex := []
  calm := true
  fn := fun _ => false
  pn := []
  xe := fun _ _ => False
/-- a lambda's promise: its body's reading, the cells hidden -/
def lamSp (n : Nat) (te : TE) (cs : List Addr) (cv : List (Option V)) : Sp := fun vs H Q _ => vs.length = n ∧ te (vs.map some ++ cv) (hide cs H) fun v H' => Q v (unhide cs H H')
theorem rev_lookup {ps : List Str} {us : List Value} (nd : ps.Nodup) {i : Nat} {x : Str} {u : Value} (h1 : ps[i]? = some x) (h2 : us[i]? = some u) (hl : ps.length = us.length) : (ps.zip us).reverse.lookup x = some u := by
  have hm : (x, u) ∈ ps.zip us := by
    obtain ⟨a1, e1⟩ := List.getElem?_eq_some_iff.mp h1
    obtain ⟨a2, e2⟩ := List.getElem?_eq_some_iff.mp h2
    rw [← e1, ← e2, ← List.getElem_zip (h := by rw [List.length_zip]; omega)]
    exact List.getElem_mem _
  have ndz : ((ps.zip us).map (·.1)).Nodup := by
    rw [List.map_fst_zip (by omega)]
    exact nd
  have ndr : ((ps.zip us).reverse.map (·.1)).Nodup := by
    rw [List.map_reverse]
    unfold List.Nodup at ndz ⊢
    rw [List.pairwise_reverse]
    exact ndz.imp fun h => h.symm
  have hr : (x, u) ∈ (ps.zip us).reverse := List.mem_reverse.mpr hm
  generalize (ps.zip us).reverse = l at ndr hr
  induction l with
  | nil => cases hr
  | cons p r ih =>
    obtain ⟨n, v⟩ := p
    rw [List.lookup_cons]
    rcases List.mem_cons.mp hr with e | hr'
    · injection e with e1 e2
      subst e1; subst e2
      simp
    · have hne : x ≠ n := fun e => by
        rw [List.map_cons, List.nodup_cons] at ndr
        exact ndr.1 (by rw [← e]; exact List.mem_map_of_mem (f := (·.1)) hr')
      have : (x == n) = false := by simpa using hne
      rw [this]
      rw [List.map_cons, List.nodup_cons] at ndr
      exact ih ndr.2 hr'
section
variable {P : Program} {w : World} {K : PySem.W.Frag} {mg : Str → Option Value} {base : Heap}
theorem lam_callable {k : Nat} {f c' : Addr} {name qual : Str} {params : Arguments} {body : Expr} {scope : Scope} {cl : List (Str × Addr)} {pm ctv : Value} {oc : Obj} {ps ys : List Str} {cv : List (Option V)} {te : TE} {H : Hp} {cs : List Addr}
    (S : LamSc scope ps ys) (hf : H f = some (frzA (PySem.W.kla_obj name qual params body scope cl pm c' ctv))) (hc : H c' = some (frzA oc)) (hoc : ∃ vs t, oc.data = .fields vs ∧ vs[1]? = some (.str qual t))
    (hcl : ∀ x c, cl.lookup x = some c → c ∈ cs) (hcs : ∀ c ∈ cs, ∃ o v, H c = some (frzA o) ∧ o.data = .cell v)
    (inj : ∀ x y c, cl.lookup x = some c → cl.lookup y = some c → x = y) (has : ∀ x, scope.names.lookup x = some .free → ∃ c, cl.lookup x = some c)
    (hcv : cv.length = ys.length) (hval : ∀ (i : Nat) (y : Str) (v : V), ys[i]? = some y → cv[i]? = some (some v) → ∃ c o u, cl.lookup y = some c ∧ H c = some (frzA o) ∧ o.data = .cell (some u) ∧ RelV v u)
    (hb : ∀ us : List Value, us.length = ps.length → bindArgs (PySem.W.kla_fn name qual params body scope cl pm (.ref c') ctv) ⟨us, []⟩ = pure (ps.zip us))
    (hbody : ∀ (A : Around) (outer : List Env) (s : Shared) (H1 : Hp), Room k (A.deeper (PySem.W.envX qual scope s.heap.objs.size f (.ref c') cl)) → PE (cxL P w K mg base (ps ++ ys) qual scope f (.ref c') cl A outer s H1) body te) :
    Callable P w K mg base (k + 1) f H (lamSp ps.length te cs cv) := by
  refine ⟨⟨_, _, hf, rfl⟩, ?_⟩
  intro A outer s H1 us vs Q E fz hr e0 r ht
  obtain ⟨hl, ht⟩ := ht
  have gf : s.heap.get? f = some (PySem.W.kla_obj name qual params body scope cl pm c' ctv) := (e0.hok f _ (fz _ _ _ hf)).1
  have hcs1 : ∀ c ∈ cs, ∃ o v, H1 c = some (frzA o) ∧ o.data = .cell v ∧ s.heap.get? c = some o := fun c m => by
    obtain ⟨o, v, e, d⟩ := hcs c m
    exact ⟨o, v, fz _ _ _ e, d, (e0.hok c _ (fz _ _ _ e)).1⟩
  have hcs2 : ∀ c ∈ cs, ∃ o, H1 c = some (frzA o) := fun c m => let ⟨o, _, e, _⟩ := hcs1 c m; ⟨o, e⟩
  obtain ⟨vs0, t0, hd0, hv0⟩ := hoc
  have lim : s.heap.NoLimit := e0.mod.nolimit.keeps fun b o e => (e0.bs b o e).1
  have lus : us.length = ps.length := by rw [← r.length]; exact hl
  refine PySem.W.kla_callFunE hr.depth gf rfl S.co S.gen rfl ⟨c', oc, vs0, t0, rfl, (e0.hok c' _ (fz _ _ _ hc)).1, hd0, hv0⟩ ?_
  rw [hb us lus]
  refine wpAny_pure (wpAny_newFunctionEnv S.cell (fun x hx => S.par _ (List.of_mem_zip hx).1) (fun h₁ hns hsb => ⟨lim.fresh _ hsb, ?_⟩) S.kind)
  have old : ∀ b o, s.heap.get? b = some o → h₁.get? b = some o := fun b o e => hsb.extBut b o (Nat.ne_of_lt (Heap.lt_size e)) (Heap.get?_push_of_some _ e)
  show codeAny _ _ (.expr body (PySem.W.envX qual scope s.heap.objs.size f (.ref c') cl)) _ _
  have ndp : ps.Nodup := (List.nodup_append.mp S.nd).1
  have I : Inv (cxL P w K mg base (ps ++ ys) qual scope f (.ref c') cl A outer s (hide cs H1)) [] (vs.map some ++ cv) (hide cs H1) { s with heap := h₁, toks := s.toks + (ps.zip us).length } := by
    have noA : ∀ b : Addr, b ∉ ([] : List Addr) := fun b z => nomatch z
    refine ⟨⟨e0.mod, S.kind, rfl, rfl, Nat.le_refl _, inj, fun y hy => ?_, (fun y c h => by cases h), fun _ => hr.hd, Around.frames_deeper e0.frames, .inr ⟨rfl, rfl⟩, fun b z => absurd z (noA b), fun b o e => ⟨(e0.bs b o e).1, ?_⟩, e0.bsz, fun b _ _ => noA b, fun b z => absurd z (noA b), e0.funs, fun b hb => ?_⟩,
      rfl, e0.bare, Un.kept old, ⟨_, hns, fun i y v h1 h2 h3 => ?_⟩, fun y c h => ?_, ?_, fun y c h => hide_in (hcl y c h), fun p hp => absurd (show p ∈ ([] : List (Addr × Obj)) from hp) (by simp), (hide_ok e0.hok hcs2).kept old, ?_⟩
    · have hy : scope.names.lookup y = some .cell ∨ scope.names.lookup y = some .free := hy
      rcases hy with hy | hy
      · exact absurd rfl (S.cell _ (PySem.mem_of_lookup hy))
      · exact has y hy
    · by_cases m : b ∈ cs
      · exact hide_in m
      · exact (hide_out m).trans (e0.bs b o e).2
    · by_cases m : b ∈ cs
      · exact hide_in m
      · exact (hide_out m).trans (e0.frf b hb)
    · by_cases hi : i < vs.length
      · rw [List.getElem?_append_left (by simpa using hi), List.getElem?_map] at h2
        have ha : vs[i]? = some v := by
          cases e : vs[i]? with
          | none => rw [e] at h2; cases h2
          | some a => rw [e] at h2; cases h2; rfl
        obtain ⟨u, hu, rv⟩ := r.get ha
        have h1' : (ps ++ ys)[i]? = some y := h1
        rw [List.getElem?_append_left (by omega)] at h1'
        exact ⟨u, rv, .inl ⟨S.par y (List.mem_of_getElem? h1'), rev_lookup ndp h1' hu lus.symm⟩⟩
      · rw [List.getElem?_append_right (by simpa using hi), List.length_map] at h2
        have h1' : (ps ++ ys)[i]? = some y := h1
        rw [List.getElem?_append_right (by omega), ← hl] at h1'
        obtain ⟨c, o, u, e1, e2, e3, rv⟩ := hval _ y v h1' h2
        refine ⟨u, rv, .inr ⟨.inr (S.free y (List.mem_of_getElem? h1')), c, e1, o, old _ _ (e0.hok c _ (fz _ _ _ e2)).1, e3⟩⟩
    · obtain ⟨o, v, _, d, g⟩ := hcs1 c (hcl y c h)
      exact ⟨v, o, old _ _ g, d⟩
    · show hide cs H1 s.heap.objs.size = none
      by_cases m : s.heap.objs.size ∈ cs
      · exact hide_in m
      · rw [hide_out m]; exact e0.hok.fresh (Nat.le_refl _)
    · show (vs.map some ++ cv).length = (ps ++ ys).length
      rw [List.length_append, List.length_append, List.length_map, hl, hcv]
  refine PySem.W.kla_codeExpr (wpAny_mono (hbody A outer s (hide cs H1) (hr.deeper _) [] _ _ _ _ I ht) (fun u s' hs => ?_) fun _ _ z => z.elim)
  obtain ⟨v, H', J, rv, q⟩ := hs
  have b : Un (frs outer) [] (hide cs H1) H' s.heap s'.heap := J.base
  have nfr : ∀ c ∈ cs, c ∉ frs outer := fun c m z => by
    obtain ⟨o, e⟩ := hcs2 c m
    rw [e0.frf c z] at e; cases e
  have Hn : ∀ c ∈ cs, H' c = none := fun c m => by
    obtain ⟨o, v, e, d, g⟩ := hcs1 c m
    exact b.free c o g (hide_in m) (fun z => nomatch z)
  have hh : ∀ d, H1 d = none → hide cs H1 d = none := fun d n => by
    by_cases m : d ∈ cs
    · exact hide_in m
    · rw [hide_out m]; exact n
  have nm : ∀ d o, H1 d = some o → (∀ ob, o ≠ frzA ob) → d ∉ cs := fun d o e ne m => by
    obtain ⟨ob, z⟩ := hcs2 d m
    rw [e] at z
    exact ne ob (Option.some.inj z)
  refine ⟨v, unhide cs H1 H', J.os, J.bare, ⟨fun d o e n hb hx => b.keep d o e (hh d n) hb hx, fun d o e n hb hx => b.slot d o e (hh d n) hb hx, fun d o e n hx => ?_, b.there, fun d xs e => ?_, fun d o u e => ?_, fun d pz e => ?_⟩, unhide_ok J.hok Hn fun c m => ?_, rv, q⟩
  · by_cases m : d ∈ cs
    · rw [unhide_in m]; exact n
    · rw [unhide_out m]; exact b.free d o e (hh d n) hx
  · have m := nm d _ e (fun ob z => nomatch z)
    rw [unhide_out m]; exact b.tups d xs (by rw [hide_out m]; exact e)
  · by_cases m : d ∈ cs
    · rw [unhide_in m]; exact e
    · rw [unhide_out m]; exact b.frzs d o u (by rw [hide_out m]; exact e)
  · have m := nm d _ e (fun ob z => nomatch z)
    rw [unhide_out m]; exact b.tbls d pz (by rw [hide_out m]; exact e)
  · obtain ⟨o, v, e, d, g⟩ := hcs1 c m
    exact ⟨o, e, b.keep c o g (hide_in m) (nfr c m) (fun z => nomatch z)⟩
end
end L2

set_option Elab.async false
set_option linter.all false
set_option maxRecDepth 100000
set_option maxHeartbeats 3200000
namespace L2
open PySem PySem.Spec PyProof.Rows
def CodeOk (oc : Obj) (qual : Str) : Prop := ∃ vs t, oc.data = .fields vs ∧ vs[1]? = some (.str qual t)
def TabOk (H : Hp) (P : Addr) (pos : Pos) (qual : Str) : Prop :=
  H P = some (.tbl #[]) ∨ ∃ c' oc, H P = some (.tbl #[rawInt pos.line, rawInt pos.col, .ref c']) ∧ H c' = some (frzA oc) ∧ CodeOk oc qual
theorem TabOk.ex {H : Hp} {P : Addr} {pos : Pos} {qual : Str} (h : TabOk H P pos qual) : ∃ ps, H P = some (.tbl ps) := by
  rcases h with h | ⟨_, _, h, _⟩ <;> exact ⟨_, h⟩
/-- the module __builtins__ as it stands -/
structure BltAt (mg : Str → Option Value) (base : Heap) : Prop where
  ex : ∃ bm ob, mg "__builtins__" = some (.ref bm) ∧ bm ≠ builtinsNs ∧ base.get? bm = some ob ∧ ob.cls = .type "module" ∧ ob.dict = some builtinsNs ∧ ob.data = .plain
def tLam (P : Addr) (lpos : Pos) (qual : Str) (obj : Addr → Value → Obj) : TE := fun _ H Q => TabOk H P lpos qual ∧
  ∀ (f c' : Addr) (oc : Obj) (ctv : Value) (H2 : Hp), H f = none → H2 f = some (frzA (obj c' ctv)) → H2 c' = some (frzA oc) → CodeOk oc qual → TabOk H2 P lpos qual → (∀ b o, H b = some o → b ≠ P → H2 b = some o) → Q (.ref f) H2
section
variable {X : Cx} {params : Arguments} {body : Expr} {scope : Scope} {lpos : Pos} {c P : Addr} {qual : Str}
abbrev lamObj (X : Cx) (qual : Str) (params : Arguments) (body : Expr) (scope : Scope) : Addr → Value → Obj := fun c' ctv => PySem.W.kla_obj "<lambda>" qual params body scope (clOf X.env.cells scope.names []) ((X.mg "__name__").getD .none) c' ctv
theorem pe_lambda (hcode : X.env.code = .ref c) (C : PySem.W.CodeHd X.base c P) (B : BltAt X.mg X.base) (hdef : defaultsOf params X.env = ([], [])) (hq : X.env.qual ++ "<lambda>" = qual)
    (hfree : ∀ y ∈ scope.names, y.2 = .free → X.env.scope.names.lookup y.1 = some .cell) :
    PE X (.Lambda params body scope lpos) (tLam P lpos qual (lamObj X qual params body scope)) := by
  intro pins s σ H Q I hw
  obtain ⟨hT, hq2⟩ := hw
  refine PySem.W.kla_eval hdef ?_
  rw [hq]
  have hcl : closureFor scope X.env = pure (clOf X.env.cells scope.names []) := closure_of fun y hy h => I.ok.has y.1 (.inl (hfree y hy h))
  have hg : s.heap.Ns mainGlobals X.mg := I.mod.glob.keeps I.bk
  obtain ⟨pz, hPs⟩ := hT.ex
  have baseP : X.base.get? P = none := by
    cases e : X.base.get? P with
    | none => rfl
    | some o => rw [(I.bs P o e).2] at hPs; cases hPs
  have hgP : mainGlobals ≠ P := fun e => by
    obtain ⟨o, es, ep, g, _⟩ := I.mod.glob
    rw [e, baseP] at g; cases g
  have hb : s.heap.BuiltinsAt X.mg P := by
    obtain ⟨bm, ob, b1, b2, b3, b4, b5, b6⟩ := B.ex
    refine ⟨bm, ob, b1, b2, fun e => ?_, (fun e => by rw [e, baseP] at b3; cases b3), I.bk _ _ b3, b4, b5, b6⟩
    obtain ⟨o, es, ep, g, hd, _⟩ := I.mod.glob
    rw [← e, b3] at g; cases g
    rw [b6] at hd; cases hd
  rcases hT with hT | ⟨c', oc, hT, hc', hoc⟩
  · have hP : s.heap.get? P = some (PySem.W.tabObj #[]) := I.hok P _ hT
    refine PySem.W.kla_makeFunction (mg := X.mg) (ps := #[]) hcl I.ok.glob hg hcode (C.keeps I.bk) hP trivial rfl hgP hb fun c' ctv h' tk hx hge hlt hrec htb => ?_
    obtain ⟨c₂, oc, vs, t, e2, hoc, hd, hv⟩ := hrec
    cases e2
    have cn : H c' = none := I.hok.fresh hge
    have cP : c' ≠ P := fun e => by rw [e, hT] at cn; cases cn
    have hsz : s.heap.objs.size ≤ h'.objs.size := Nat.le_trans hge (Nat.le_of_lt hlt)
    have lo : ∀ {b : Addr} {o : Obj}, s.heap.get? b = some o → b ≠ c' := fun e z => absurd (Heap.lt_size e) (by rw [z]; exact Nat.not_lt.mpr hge)
    have I1 : Inv X pins σ (upd (upd H P (.tbl #[rawInt lpos.line, rawInt lpos.col, .ref c'])) c' (frzA oc)) { s with heap := h', toks := tk } := by
      refine I.un ⟨fun b o e n _ _ => hx b o (fun z => by rw [z, hT] at n; cases n) e, fun b o e n _ _ => ⟨o.slots, hx b o (fun z => by rw [z, hT] at n; cases n) e⟩, fun b o e n _ => ?_, fun b o e _ => ?_, fun b xs e => ?_, fun b o u e => ?_, fun b pz e => ?_⟩ fun b u e => ?_
      · rw [upd_ne (lo e), upd_ne (fun z => by rw [z, hT] at n; cases n)]; exact n
      · by_cases hbP : b = P
        · rw [hbP]; exact ⟨_, htb⟩
        · exact ⟨o, hx b o hbP e⟩
      · rw [upd_ne (ne_of_none e cn), upd_ne (ne_of e hT (fun z => nomatch z))]; exact e
      · rw [upd_ne (ne_of_none e cn), upd_ne (ne_of e hT (fun z => nomatch z))]; exact e
      · by_cases hbP : b = P
        · subst hbP
          rw [hT] at e
          cases e
          exact ⟨#[rawInt lpos.line, rawInt lpos.col, .ref c'], by rw [upd_ne cP.symm, upd_same]; rfl⟩
        · exact ⟨#[], by rw [upd_ne (ne_of_none e cn), upd_ne hbP, e]; simp⟩
      · by_cases hbc : b = c'
        · subst hbc
          rw [upd_same] at e; cases e
          exact frzA_ok hoc
        · rw [upd_ne hbc] at e
          by_cases hbP : b = P
          · subst hbP
            rw [upd_same] at e; cases e
            exact htb
          · rw [upd_ne hbP] at e
            refine (I.hok b u e).stay (fun d v hd q => hx d v ?_ q) (fun d q => ?_) fun d xs q => ?_
            · rcases hd with z | z
              · rw [z]; exact hbP
              · exact ne_of z hT (fun z => nomatch z)
            · rw [upd_ne (ne_of_none q cn), upd_ne (ne_of q hT (fun z => nomatch z))]; exact q
            · rw [upd_ne (ne_of_none q cn), upd_ne (ne_of q hT (fun z => nomatch z))]; exact q
    have I2 := I1.laid (h' := h'.push (lamObj X qual params body scope c' ctv)) (t' := tk) (a := h'.objs.size) (o := frzA (lamObj X qual params body scope c' ctv)) (fun b u e => Heap.get?_push_of_some _ e) (Nat.le_refl _) (frzA_ok (Heap.get?_push_size _ rfl))
    have fn : H h'.objs.size = none := I.hok.fresh hsz
    have fc : c' ≠ h'.objs.size := Nat.ne_of_lt hlt
    have fP : P ≠ h'.objs.size := ne_of_none hT fn
    refine ⟨.ref h'.objs.size, _, I2, rfl, hq2 _ c' oc ctv _ fn upd_same ?_ ⟨vs, t, hd, hv⟩ (.inr ⟨c', oc, ?_, ?_, ⟨vs, t, hd, hv⟩⟩) fun b o e hbP => ?_⟩
    · rw [upd_ne fc]; exact upd_same
    · rw [upd_ne fP, upd_ne cP.symm]; exact upd_same
    · rw [upd_ne fc]; exact upd_same
    · rw [upd_ne (ne_of_none e fn), upd_ne (ne_of_none e cn), upd_ne hbP]; exact e
  · have hP : s.heap.get? P = some (PySem.W.tabObj #[rawInt lpos.line, rawInt lpos.col, .ref c']) := I.hok P _ hT
    have hf : codeAmong lpos (#[rawInt lpos.line, rawInt lpos.col, .ref c'] : Array Value).toList = some (.ref c') := by
      show (if ((lpos.line : Int) == lpos.line && (lpos.col : Int) == lpos.col) = true then some (Value.ref c') else _) = _
      rw [beq_self_eq_true, beq_self_eq_true]
      rfl
    refine PySem.W.kla_makeFunctionHit (mg := X.mg) hcl I.ok.glob hg hcode (C.keeps I.bk) hP trivial hf hb fun ctv h' tk hk hsz => ?_
    have I2 := I.laid (h' := h'.push (lamObj X qual params body scope c' ctv)) (t' := tk) (a := h'.objs.size) (o := frzA (lamObj X qual params body scope c' ctv)) (fun b u e => Heap.get?_push_of_some _ (hk b u e)) hsz (frzA_ok (Heap.get?_push_size _ rfl))
    have fn : H h'.objs.size = none := I.hok.fresh hsz
    have sm : ∀ b o, H b = some o → upd H h'.objs.size (frzA (lamObj X qual params body scope c' ctv)) b = some o := fun b o e => by rw [upd_ne (ne_of_none e fn)]; exact e
    exact ⟨.ref h'.objs.size, _, I2, rfl, hq2 _ c' oc ctv _ fn upd_same (sm _ _ hc') hoc (.inr ⟨c', oc, sm _ _ hT, sm _ _ hc', hoc⟩) fun b o e _ => sm b o e⟩
end
end L2

set_option Elab.async false
set_option linter.all false
set_option maxRecDepth 100000
set_option maxHeartbeats 3200000
namespace L2
open PySem PySem.Spec PyProof.Rows
def cellsOf (cells : List (Str × Addr)) : List Addr := (cells.map (·.1)).filterMap fun x => cells.lookup x
theorem mem_cellsOf {cells : List (Str × Addr)} {c : Addr} : c ∈ cellsOf cells ↔ ∃ x, cells.lookup x = some c := by
  unfold cellsOf
  rw [List.mem_filterMap]
  constructor
  · rintro ⟨x, _, h⟩
    exact ⟨x, h⟩
  · rintro ⟨x, h⟩
    exact ⟨x, List.mem_map.mpr ⟨(x, c), PySem.mem_of_lookup h, rfl⟩, h⟩
def tCallL (Pg : Program) (w : World) (K : PySem.W.Frag) (mg : Str → Option Value) (base : Heap) (k : Nat) (sp : Sp) (P : Addr) (lpos : Pos) (qual : Str) (ta : TE) (n : Nat) (is : List Nat) (te : TE) : TE := fun σ H Q => ta σ H fun x H1 => TabOk H1 P lpos qual ∧
  ∀ (cs : List Addr) (f : Addr) (H2 : Hp), (∀ c ∈ cs, H1 c = none) → (∀ c ∈ cs, ∃ o, H2 c = some (frzA o)) → H1 f = none → (∀ H3, Same H2 H3 → TabOk (hide cs H3) P lpos qual) → (∀ b o, H1 b = some o → b ≠ P → H2 b = some o) →
    Callable Pg w K mg base k f H2 (lamSp n te cs (is.map fun i => (σ[i]?).getD none)) → sp [x, .ref f] H2 (fun v H3 => Q v (hide cs H3)) E0
structure LamAt (S0 scope : Scope) (N0 ps ys : List Str) (is : List Nat) : Prop where
  sc : LamSc scope ps ys
  free : ∀ y ∈ scope.names, y.2 = .free → S0.names.lookup y.1 = some .cell
  vis : ∀ q ∈ ys.zip is, N0[q.2]? = some q.1
  len : ys.length = is.length
section
variable {X : Cx} {params : Arguments} {body a : Expr} {scope : Scope} {lpos p pos : Pos} {c P g : Addr} {qual x : Str} {k kl : Nat} {gd : FuncData} {pg ps ys : List Str} {is : List Nat} {sp : Sp} {ta te : TE}
theorem qe_callL (F : FnOk X.prog X.w X.K X.mg X.base CX0 k g gd pg sp) (hr : Room k X.A) (hg : Gl X x) (hm : X.mg x = some (.ref g)) (hk : PySem.W.keepIn X.K (.ref g) = true) (hb : Binds X.K gd pg []) (hfn : X.fn = fun _ => true)
    (ha : QE X a ta) (hcode : X.env.code = .ref c) (C : PySem.W.CodeHd X.base c P) (B : BltAt X.mg X.base) (hdef : defaultsOf params X.env = ([], [])) (hq : X.env.qual ++ "<lambda>" = qual)
    {S0 : Scope} {N0 : List Str} (hX : X.env.scope = S0) (hXN : X.N = N0) (LL : LamAt S0 scope N0 ps ys is)
    (hbind : ∀ (cl : List (Str × Addr)) (pm cv ctv : Value) (us : List Value), us.length = ps.length → bindArgs (PySem.W.kla_fn "<lambda>" qual params body scope cl pm cv ctv) ⟨us, []⟩ = pure (ps.zip us))
    (hbody : ∀ (f c' : Addr) (cl : List (Str × Addr)) (A : Around) (outer : List Env) (s : Shared) (H1 : Hp), Room kl (A.deeper (PySem.W.envX qual scope s.heap.objs.size f (.ref c') cl)) → QE (cxL X.prog X.w X.K X.mg X.base (ps ++ ys) qual scope f (.ref c') cl A outer s H1) body te)
    (hdb : (x == ("__debug__" : Str)) = false := by decide) (he : starEach [a, .Lambda params body scope lpos] X.env = (false, eval a X.env) :: starEach [.Lambda params body scope lpos] X.env := by rfl)
    (hs2 : starEach [.Lambda params body scope lpos] X.env = (false, eval (.Lambda params body scope lpos) X.env) :: starEach [] X.env := by rfl) (hpl : (backTo pos (starEach [.Lambda params body scope lpos] X.env)).any (·.1) = false := by rfl) :
    QE X (.Call (.Name x p) [a, .Lambda params body scope lpos] [] pos) (tCallL X.prog X.w X.K X.mg X.base (kl + 1) sp P lpos qual ta ps.length is te) := by
  have S := LL.sc
  have hfree : ∀ y ∈ scope.names, y.2 = .free → X.env.scope.names.lookup y.1 = some .cell := fun y hy h => by rw [hX]; exact LL.free y hy h
  have hN : ∀ q ∈ ys.zip is, X.N[q.2]? = some q.1 := fun q hq => by rw [hXN]; exact LL.vis q hq
  have hlen := LL.len
  refine ⟨?_⟩
  intro pins s σ H Q I hw
  refine wpAny_Call_Name_kw (ld_glob I hg hm ?_ hdb)
  have hlam := pe_lambda (X := X) (lpos := lpos) (params := params) (body := body) (scope := scope) hcode C B hdef hq hfree
  refine PySem.W.callWith_K (h₀ := X.base) I.ok.mod.kin hk ?_ he hpl
  rw [he]
  show wpAny _ _ (spliced ((false, eval a X.env) :: backTo pos (starEach [.Lambda params body scope lpos] X.env))) _ _ s
  refine Calls.spliced_cons (thn (ha.out pins s σ H _ I hw) fun u s1 ⟨x0, H1, I1, r1, hT, q1⟩ => ?_)
  rw [hs2]
  show wpAny _ _ (spliced ((false, eval (.Lambda params body scope lpos) X.env) :: backTo pos (starEach [] X.env))) _ _ s1
  refine Calls.spliced_cons (thn (hlam pins s1 σ H1 (fun v H2 => ∃ (f c' : Addr) (oc : Obj) (ctv : Value), v = .ref f ∧ H1 f = none ∧ H2 f = some (frzA (lamObj X qual params body scope c' ctv)) ∧ H2 c' = some (frzA oc) ∧ CodeOk oc qual ∧ TabOk H2 P lpos qual ∧ ∀ b o, H1 b = some o → b ≠ P → H2 b = some o) I1 ⟨hT, fun f c' oc ctv H2 a1 a2 a3 a4 a5 a6 => ⟨f, c', oc, ctv, rfl, a1, a2, a3, a4, a5, a6⟩⟩) fun u2 s2 ⟨y, H2, I2, r2, f, c', oc, ctv, hy, f1, f2, f3, f4, f5, f6⟩ => ?_)
  subst hy
  cases r2
  refine Calls.spliced_nil ⟨I2.kIn, ?_⟩
  -- the cells of this frame
  have hcell : ∀ d ∈ cellsOf X.env.cells, ∃ o v, s2.heap.get? d = some o ∧ o.data = .cell v := fun d m => by
    obtain ⟨y, hy⟩ := mem_cellsOf.mp m
    obtain ⟨v, o, ho, hd⟩ := I2.cell y d hy
    exact ⟨o, v, ho, hd⟩
  have hnone : ∀ d ∈ cellsOf X.env.cells, H2 d = none := fun d m => by
    obtain ⟨y, hy⟩ := mem_cellsOf.mp m
    exact I2.freeC y d hy
  have hn1 : ∀ d ∈ cellsOf X.env.cells, H1 d = none := fun d m => by
    obtain ⟨y, hy⟩ := mem_cellsOf.mp m
    exact I1.freeC y d hy
  let H3 : Hp := fun b => if b ∈ cellsOf X.env.cells then (s2.heap.get? b).map frzA else H2 b
  have h3in : ∀ d ∈ cellsOf X.env.cells, ∃ o v, H3 d = some (frzA o) ∧ o.data = .cell v ∧ s2.heap.get? d = some o := fun d m => by
    obtain ⟨o, v, e, hd⟩ := hcell d m
    exact ⟨o, v, by show (if d ∈ cellsOf X.env.cells then _ else _) = _; rw [if_pos m, e]; rfl, hd, e⟩
  have h3out : ∀ d, d ∉ cellsOf X.env.cells → H3 d = H2 d := fun d m => if_neg m
  have h3sub : ∀ b o, H2 b = some o → H3 b = some o := fun b o e => by
    rw [h3out b (fun m => by rw [hnone b m] at e; cases e)]
    exact e
  have nloc : ∀ d ∈ cellsOf X.env.cells, d ≠ X.env.locals := fun d m e => by
    obtain ⟨o, v, g, hd⟩ := hcell d m
    obtain ⟨m', ⟨o', es, ep, g', hd', _⟩, _⟩ := I2.loc
    rw [e, g'] at g
    cases g
    rw [hd'] at hd
    cases hd
  have above : ∀ d ∈ cellsOf X.env.cells, X.s₀.heap.objs.size ≤ d := fun d m => by
    obtain ⟨y, hy⟩ := mem_cellsOf.mp m
    exact I2.ok.cab y d (by rw [hfn]) hy
  have nfr : ∀ d ∈ cellsOf X.env.cells, d ∉ frs X.stack := fun d m z => by
    rcases List.mem_cons.mp (I2.stkSub d z) with e | e
    · exact nloc d m e
    · obtain ⟨_, o, g, _⟩ := I2.ok.funs.mem e
      exact absurd (Heap.lt_size g) (Nat.not_lt.mpr (above d m))
  have hok3 : HOk X.prog X.w H3 s2.heap := fun b o e => by
    by_cases m : b ∈ cellsOf X.env.cells
    · obtain ⟨ob, v, e', hd, g⟩ := h3in b m
      rw [e'] at e; cases e
      exact frzA_ok g
    · rw [h3out b m] at e
      exact (I2.hok b o e).stay (fun _ _ _ q => q) (fun d q => h3sub _ _ q) fun d xs q => h3sub _ _ q
  have e0 : Env0 X.prog X.w X.K X.mg X.base X.A X.stack s2 H3 := by
    have z := I2.env0
    refine ⟨z.frames, z.mod, fun b o e => ⟨(z.bs b o e).1, ?_⟩, z.bsz, z.funs, fun b hb => ?_, hok3, z.bare⟩
    · rw [h3out b fun m => ?_]
      · exact (z.bs b o e).2
      · exact absurd (Heap.lt_size e) (Nat.not_lt.mpr (Nat.le_trans I2.ok.bsz (above b m)))
    · rw [h3out b fun m => nfr b m hb]
      exact z.frf b hb
  have hcl : ∀ y d, (clOf X.env.cells scope.names []).lookup y = some d → X.env.cells.lookup y = some d :=
    clOf_get (fun y hy h => I2.ok.has y.1 (.inl (hfree y hy h))) fun _ _ z => by cases z
  have hcall : Callable X.prog X.w X.K X.mg X.base (kl + 1) f H3 (lamSp ps.length te (cellsOf X.env.cells) (is.map fun i => (σ[i]?).getD none)) := by
    refine lam_callable (ys := ys) S (h3sub _ _ f2) (h3sub _ _ f3) f4 (fun y d h => mem_cellsOf.mpr ⟨y, hcl y d h⟩) (fun d m => let ⟨o, v, e, hd, _⟩ := h3in d m; ⟨o, v, e, hd⟩) (fun y z d h1 h2 => I2.ok.inj y z d (hcl y d h1) (hcl z d h2)) (fun y h => clOf_has h) (by rw [List.length_map, hlen]) (fun i y v h1 h2 => ?_) (fun us hl => hbind _ _ _ _ us hl) fun A outer s H1 hr => (hbody f c' _ A outer s H1 hr).out
    rw [List.getElem?_map] at h2
    cases hj : is[i]? with
    | none => rw [hj] at h2; cases h2
    | some j =>
      rw [hj] at h2
      have h2'' : (σ[j]?).getD none = some v := Option.some.inj h2
      have hσ : σ[j]? = some (some v) := by
        cases q : σ[j]? with
        | none => rw [q] at h2''; cases h2''
        | some z => rw [q] at h2''; exact congrArg some h2''
      have hz : (y, j) ∈ ys.zip is := by
        obtain ⟨a1, e1⟩ := List.getElem?_eq_some_iff.mp h1
        obtain ⟨a2, e2⟩ := List.getElem?_eq_some_iff.mp hj
        rw [← e1, ← e2, ← List.getElem_zip (h := by rw [List.length_zip]; omega)]
        exact List.getElem_mem _
      have hfr := S.free y (List.mem_of_getElem? h1)
      have kc : X.env.kindOf y = some .cell := hfree _ (mem_free hfr) rfl
      obtain ⟨m, hm', hl⟩ := I2.loc
      obtain ⟨u, r, l⟩ := hl j y v (hN _ hz) hσ (.inr (.inl kc))
      rcases l with ⟨l1, _⟩ | ⟨_, d, l2, l3⟩
      · rw [kc] at l1; cases l1
      · obtain ⟨d', hd'⟩ := clOf_has (cells := X.env.cells) (acc := []) hfr
        have e : d' = d := by have := hcl y d' hd'; rw [l2] at this; exact (Option.some.inj this).symm
        subst e
        obtain ⟨o, ho, hd⟩ := l3
        obtain ⟨o', v', e', _, g'⟩ := h3in d' (mem_cellsOf.mpr ⟨y, l2⟩)
        rw [ho] at g'; cases g'
        exact ⟨d', o, u, hd', e', hd, r⟩
  have hsp := q1 (cellsOf X.env.cells) f H3 hn1 (fun d m => let ⟨o, _, e, _⟩ := h3in d m; ⟨o, e⟩) f1 ?_ (fun b o e hbP => h3sub _ _ (f6 b o e hbP)) hcall
  · have hl := F.len _ _ _ _ hsp
    have rv : Vals [x0, V.ref f] [u, Value.ref f] := .cons r1 (.cons rfl .nil)
    have hlu : ([u, Value.ref f] ++ []).length = pg.length := hl
    refine wpAny_call (codeAny_mono (F.run X.A X.stack s2 H3 ⟨[u, .ref f], []⟩ [u, .ref f] [x0, .ref f] _ _ hr e0 (by simpa using hb s2 [u, .ref f] I2.kIn hlu) rv hsp) fun r s' hq => ?_)
    cases r with
    | error e => exact hq.elim
    | ok fl =>
      cases fl with
      | next => exact False.elim hq
      | brk => exact False.elim hq
      | cont => exact False.elim hq
      | ret uu =>
        obtain ⟨v, H4, os, bare, un, hok4, rv4, q4⟩ := hq
        have h4in : ∀ d ∈ cellsOf X.env.cells, ∃ o, H4 d = some (frzA o) ∧ s2.heap.get? d = some o ∧ s'.heap.get? d = some o := fun d m => by
          obtain ⟨o, v, e, hd, g⟩ := h3in d m
          have e4 := un.frzs d o _ e
          exact ⟨o, e4, g, (hok4 d _ e4).1⟩
        have h3none : ∀ d, H2 d = none → d ∉ cellsOf X.env.cells → H3 d = none := fun d n m => by rw [h3out d m]; exact n
        have nm : ∀ d o, H2 d = some o → d ∉ cellsOf X.env.cells := fun d o e m => by rw [hnone d m] at e; cases e
        refine ⟨v, hide (cellsOf X.env.cells) H4, I2.call' os ⟨fun d o e n hb hx => ?_, fun d o e n hb hx => ?_, fun d o e n hx => ?_, fun d o e hx => un.there d o e hx, fun d xs e => ?_, fun d o u e => ?_, fun d pz e => ?_⟩ (hide_ok hok4 fun d m => let ⟨o, e, _⟩ := h4in d m; ⟨o, e⟩) bare (fun _ z => nomatch z), rv4, q4⟩
        · by_cases m : d ∈ cellsOf X.env.cells
          · obtain ⟨o', _, g, g'⟩ := h4in d m
            rw [e] at g; cases g
            exact g'
          · exact un.keep d o e (h3none d n m) hb hx
        · by_cases m : d ∈ cellsOf X.env.cells
          · obtain ⟨o', _, g, g'⟩ := h4in d m
            rw [e] at g; cases g
            exact ⟨o.slots, g'⟩
          · exact un.slot d o e (h3none d n m) hb hx
        · by_cases m : d ∈ cellsOf X.env.cells
          · exact hide_in m
          · rw [hide_out m]; exact un.free d o e (h3none d n m) hx
        · rw [hide_out (nm d _ e)]; exact un.tups d xs (h3sub _ _ e)
        · rw [hide_out (nm d _ e)]; exact un.frzs d o u (h3sub _ _ e)
        · rw [hide_out (nm d _ e)]; exact un.tbls d pz (h3sub _ _ e)
  · intro H4 s4
    have out : ∀ b o, H2 b = some o → hide (cellsOf X.env.cells) H4 b = some o := fun b o e => by
      rw [hide_out (fun m => by rw [hnone b m] at e; cases e)]
      exact s4 _ _ (h3sub _ _ e)
    rcases f5 with z | ⟨c2, oc2, z1, z2, z3⟩
    · exact .inl (out _ _ z)
    · exact .inr ⟨c2, oc2, out _ _ z1, out _ _ z2, z3⟩
theorem hide_keep {cs : List Addr} {H2 H1 : Hp} {b : Addr} {u : HO} (hcs : ∀ c ∈ cs, ∃ o, H2 c = some (frzA o)) (s : Same H2 H1) (h : H1 b = some u) (hu : ∀ o, u ≠ frzA o) : hide cs H1 b = some u := by
  rw [hide_out fun m => ?_]
  · exact h
  · obtain ⟨o, e⟩ := hcs b m
    rw [s _ _ e] at h
    exact hu o (Option.some.inj h).symm
theorem unhide_hide (cs : List Addr) (H : Hp) : unhide cs H (hide cs H) = H := by
  funext b
  by_cases m : b ∈ cs
  · rw [unhide_in m]
  · rw [unhide_out m, hide_out m]
theorem TabOk.other {H H' : Hp} {P P' : Addr} {pos : Pos} {qual : Str} (h : TabOk H P pos qual) (hne : P ≠ P') (hP' : ∃ ps, H P' = some (.tbl ps)) (s : ∀ b o, H b = some o → b ≠ P' → H' b = some o) : TabOk H' P pos qual := by
  rcases h with h | ⟨c, oc, h1, h2, h3⟩
  · exact .inl (s _ _ h hne)
  · obtain ⟨ps, e⟩ := hP'
    exact .inr ⟨c, oc, s _ _ h1 hne, s _ _ h2 (ne_of h2 e (fun z => nomatch z)), h3⟩
theorem TabOk.same {H H' : Hp} {P : Addr} {pos : Pos} {qual : Str} (h : TabOk H P pos qual) (s : Same H H') : TabOk H' P pos qual := by
  rcases h with h | ⟨c, oc, h1, h2, h3⟩
  · exact .inl (s _ _ h)
  · exact .inr ⟨c, oc, s _ _ h1, s _ _ h2, h3⟩
def tCallV (Pg : Program) (w : World) (K : PySem.W.Frag) (mg : Str → Option Value) (base : Heap) (k : Nat) (i : Nat) (t : TA) : TE := fun σ H Q => ∃ (f : Addr) (τ : Sp), σ[i]? = some (some (.ref f)) ∧ Callable Pg w K mg base k f H τ ∧
  t σ H fun vs H1 => FrzIn H H1 ∧ τ vs H1 Q E0
theorem fnAt_of {P : Program} {w : World} {K : PySem.W.Frag} {mg : Str → Option Value} {base : Heap} {k : Nat} {f : Addr} {H H1 : Hp} {τ : Sp} {h : Heap} (c : Callable P w K mg base k f H τ) (fz : FrzIn H H1) (hok : HOk P w H1 h) : PySem.W.FnAt f h := by
  obtain ⟨o, fd, e, d⟩ := c.1
  have g := (hok f _ (fz _ _ _ e)).1
  obtain ⟨oc, od, dt, sl⟩ := o
  cases d
  exact ⟨oc, od, fd, sl, g⟩
theorem qe_callV (i : Nat) {e : Expr} {es : List Expr} {t : TA} (hr : Room k X.A) (ha : QA X (e :: es) t) (hN : X.N[i]? = some x := by rfl) (hv : Vis X.env.scope x := by first | exact Or.inl rfl | exact Or.inr (Or.inl rfl) | exact Or.inr (Or.inr rfl))
    (hdb : (x == ("__debug__" : Str)) = false := by decide) (hcd : (x == ("__classdict__" : Str)) = false := by decide) (he : starEach (e :: es) X.env = (false, eval e X.env) :: starEach es X.env := by rfl) (hpl : (backTo pos (starEach es X.env)).any (·.1) = false := by rfl) :
    QE X (.Call (.Name x p) (e :: es) [] pos) (tCallV X.prog X.w X.K X.mg X.base k i t) := by
  refine ⟨?_⟩
  intro pins s σ H Q I hw
  obtain ⟨f, τ, hσ, hc, ht⟩ := hw
  refine wpAny_Call_Name_kw (thn (pe_var hN hv hdb hcd pins s σ H (fun v H' => v = .ref f ∧ H' = H) I ⟨.ref f, hσ, rfl, rfl⟩) fun u s1 ⟨v, H', I1, r, hv', hH⟩ => ?_)
  subst hv'
  subst hH
  cases r
  refine PySem.W.callWith_F (fnAt_of hc (FrzIn.refl _) I1.hok) (thn (ha.out pos pins s1 σ H' _ I1 ht) fun us s2 ⟨vs, H1, I2, rv, fz, hτ⟩ => ⟨fnAt_of hc fz I2.hok, ?_⟩) he hpl
  refine wpAny_call (codeAny_mono (hc.2 X.A X.stack s2 H1 us vs Q E0 fz hr I2.env0 rv hτ) fun r s' hq => ?_)
  cases r with
  | error e => exact hq.elim
  | ok fl =>
    cases fl with
    | ret u => exact I2.after hq
    | next => exact False.elim hq
    | brk => exact False.elim hq
    | cont => exact False.elim hq
end
end L2

set_option Elab.async false
set_option linter.all false
set_option maxRecDepth 100000
set_option maxHeartbeats 3200000
namespace L2
open PySem PySem.Spec PyProof.Rows
theorem law_callT {P : Program} {w : World} {K : PySem.W.Frag} {mg mb : Str → Option Value} {CX : CXT} {k : Nat} {fa a : Addr} {fd : FuncData} {x : Str} {sp : Sp} {s₁ : Shared} {vs : List Value} {ns : List Int} {tabs : List (Addr × Addr)}
    (KX : K.In s₁.heap) (hns : s₁.heap.Ns mainGlobals mg) (hb : s₁.heap.Ns builtinsNs mb) (hbb : ∀ x : Str, x ≠ "__name__" → mb x = bootBuiltins x) (hlim : s₁.heap.NoLimit) (hg : s₁.gens = #[])
    (ha : s₁.heap.get? a = some { cls := .type "list", data := .seq vs.toArray }) (hi : IntsAre vs ns) (hl : ns.length ≤ sizeLine) (hr : Room k callerA)
    (hT : PySem.W.TabsAt tabs s₁.heap) (hKt : PySem.W.noTabs K = true) (hbm : BltAt mg s₁.heap)
    (F : ∀ base : Heap, K.In base → base.Ns mainGlobals mg → (∀ q ∈ tabs, PySem.W.CodeHd base q.1 q.2) → BltAt mg base → FnOk P w K mg base CX k fa fd [x] sp) (hbind : ∀ (s : Shared) (u : Value), BindsTo s fd ⟨[u], []⟩ [(x, u)])
    (hsp : ∀ H : Hp, (∀ q ∈ tabs, H q.2 = some (.tbl #[])) → SqL K H a (ns.map V.int) → sp [.ref a] H (fun v _ => v = .bl true) fun _ _ _ => False)
    (hCX : ∀ H e s', CX [] H s₁ (fun _ _ _ => False) e s' → False) :
    codeAny (model P w) callerA (.call (.ref fa) ⟨[.ref a], []⟩) (fun r s' => r = .ok (.ret (.bool true)) ∧ OldK s₁.heap s'.heap ∧ s'.os = s₁.os ∧ AllBare s'.gens) s₁ := by
  have rv := vals_ints hi
  have lenV := hi.length
  have tabGet : ∀ b, b ∈ tabs.map (·.2) → s₁.heap.get? b = some (PySem.W.tabObj #[]) := fun b m => by
    obtain ⟨q, hq, rfl⟩ := List.mem_map.mp m
    exact (hT q hq).2
  have aT : a ∉ tabs.map (·.2) := fun m => by
    have e := tabGet a m
    rw [ha] at e
    cases e
  have core : ∀ H : Hp, (∀ q ∈ tabs, H q.2 = some (.tbl #[])) → (∀ b, H b = none ∨ (b = a ∧ ∃ o xs, H b = some (.frz o (.lst xs))) ∨ (b ∈ tabs.map (·.2) ∧ H b = some (.tbl #[]))) → SqL K H a (ns.map V.int) → HOk P w H s₁.heap → (H a ≠ none → K.lookup a = none) →
      codeAny (model P w) callerA (.call (.ref fa) ⟨[.ref a], []⟩) (fun r s' => r = .ok (.ret (.bool true)) ∧ OldK s₁.heap s'.heap ∧ s'.os = s₁.os ∧ AllBare s'.gens) s₁ := by
    intro H hTb hO hS hok hK
    have base_of : ∀ {b : Addr} {o : Obj}, s₁.heap.get? b = some o → H b = none → (hidT s₁.heap H).get? b = some o := fun e n => hidT_get e n
    have noA : ∀ {b : Addr} {o : Obj}, s₁.heap.get? b = some o → (∀ its n, o.data ≠ .seq its n) → o.cls ≠ .none → H b = none := fun {b o} e d1 d2 => by
      rcases hO b with z | ⟨rfl, _⟩ | ⟨m, _⟩
      · exact z
      · rw [ha] at e; cases e
        exact absurd rfl (d1 _ _)
      · rw [tabGet b m] at e; cases e
        exact absurd rfl d2
    have nsK : ∀ {b : Addr} {m : Str → Option Value}, s₁.heap.Ns b m → (hidT s₁.heap H).Ns b m := fun {b m} ⟨o, es, ep, e, d, r⟩ => ⟨o, es, ep, base_of e (by
      rcases hO b with z | ⟨rfl, _⟩ | ⟨m, _⟩
      · exact z
      · rw [ha] at e; cases e
        have d' : Data.seq vs.toArray _ = Data.dict es ep := d
        cases d'
      · rw [tabGet b m] at e; cases e
        have d' : Data.fields #[] = Data.dict es ep := d
        cases d'), d, r⟩
    have hKb : K.In (hidT s₁.heap H) := fun b o e => base_of (KX b o e) (by
      rcases hO b with z | ⟨rfl, ob, xs, z⟩ | ⟨m, _⟩
      · exact z
      · rw [hK (by rw [z]; simp)] at e; cases e
      · have g := KX b o e
        rw [tabGet b m] at g
        cases g
        have h2 := List.all_eq_true.mp hKt (b, _) (PySem.W.mem_of_lookupK e)
        exact absurd (show false = true from h2) Bool.false_ne_true)
    have hM : Mod K mg (hidT s₁.heap H) := ⟨hKb, nsK hns, ⟨mb, nsK hb, hbb⟩, let ⟨mc, h1, h2⟩ := hlim; ⟨mc, nsK h1, h2⟩⟩
    have hB : BltAt mg (hidT s₁.heap H) := by
      obtain ⟨bm, ob, b1, b2, b3, b4, b5, b6⟩ := hbm.ex
      exact ⟨bm, ob, b1, b2, base_of b3 (noA b3 (fun its n z => by rw [b6] at z; cases z) (fun z => by rw [b4] at z; cases z)), b4, b5, b6⟩
    have hC : ∀ q ∈ tabs, PySem.W.CodeHd (hidT s₁.heap H) q.1 q.2 := fun q hq => by
      obtain ⟨o, vs', file, tf, flags, tg, inF, text, tt, e1, r1, r2, r3⟩ := (hT q hq).1
      exact ⟨o, vs', file, tf, flags, tg, inF, text, tt, base_of e1 (noA e1 (fun its n z => by rw [r2] at z; cases z) (fun z => by rw [r1] at z; cases z)), r1, r2, r3⟩
    have e0 : Env0 P w K mg (hidT s₁.heap H) callerA [] s₁ H := ⟨rfl, hM, fun b o e => of_hidT e, Nat.le_of_eq (hidT_size _ _), trivial, fun b hb => absurd (show b ∈ ([] : List Addr) from hb) (by simp), hok, .of_eq hg⟩
    refine codeAny_mono ((F _ hKb (nsK hns) hC hB).run callerA [] s₁ H ⟨[.ref a], []⟩ [.ref a] [.ref a] _ _ hr e0 (hbind s₁ (.ref a)) (.cons rfl .nil) (hsp H hTb hS)) fun r s' h => ?_
    cases r with
    | error e => exact (hCX H e s' h).elim
    | ok fl =>
      cases fl with
      | next => exact False.elim h
      | brk => exact False.elim h
      | cont => exact False.elim h
      | ret u =>
        obtain ⟨v, H', os, bare, un, hok', r', q⟩ := h
        have q' : v = .bl true := q
        subst q'
        obtain rfl : u = Value.bool true := r'
        have all : ∀ b o, s₁.heap.get? b = some o → s'.heap.get? b = some o ∨ ∃ more, b ∈ tabs.map (·.2) ∧ o = PySem.W.tabObj #[] ∧ s'.heap.get? b = some (PySem.W.tabObj (#[] ++ more)) := fun b o e => by
          rcases hO b with z | ⟨_, ob, xs, z⟩ | ⟨m, z⟩
          · exact .inl (un.keep b o e z (by intro z; exact absurd (show b ∈ ([] : List Addr) from z) (by simp)) (by simp))
          · have z2 := un.frzs b ob _ z
            obtain ⟨e1, _⟩ := hok b _ z
            obtain ⟨e2, _⟩ := hok' b _ z2
            rw [e] at e1; cases e1
            exact .inl e2
          · obtain ⟨more, z2⟩ := un.tbls b _ z
            rw [tabGet b m] at e
            cases e
            exact .inr ⟨more, m, rfl, hok' b _ z2⟩
        refine ⟨rfl, ⟨fun b o e => ?_, fun b o e => ?_⟩, os, bare⟩
        · rcases all b o e with z | ⟨more, m, rfl, z⟩
          · exact .inl z
          · obtain ⟨q, hq, rfl⟩ := List.mem_map.mp m
            exact .inr (.inl ⟨((hT q hq).1.tab (hT q hq).2).isCodeTable, rfl, #[], more, rfl, z⟩)
        · rcases all b o e with z | ⟨more, _, _, z⟩
          · exact ⟨_, z⟩
          · exact ⟨_, z⟩
  have tm : ∀ q ∈ tabs, q.2 ∈ tabs.map (·.2) := fun q hq => List.mem_map_of_mem hq
  cases hk : K.lookup a with
  | some o =>
    have e := KX a o hk
    rw [ha] at e
    cases e
    refine core (fun b => if b ∈ tabs.map (·.2) then some (.tbl #[]) else none) (fun q hq => if_pos (tm q hq)) (fun b => ?_) (.inr ⟨_, vs.toArray, _, hk, rfl, rfl, rfl, by rw [List.size_toArray, lenV]; exact hl, by simpa using rv⟩) (fun b u z => ?_) (fun z => absurd (if_neg aT) z)
    · by_cases m : b ∈ tabs.map (·.2)
      · exact .inr (.inr ⟨m, if_pos m⟩)
      · exact .inl (if_neg m)
    · by_cases m : b ∈ tabs.map (·.2)
      · have z' := (if_pos m).symm.trans z
        cases z'
        exact tabGet b m
      · have z' := (if_neg m).symm.trans z
        cases z'
  | none =>
    refine core (fun b => if b ∈ tabs.map (·.2) then some (.tbl #[]) else if b = a then some (.frz { cls := .type "list", data := .seq vs.toArray } (.lst (ns.map V.int))) else none) (fun q hq => if_pos (tm q hq)) (fun b => ?_) (.inl (.inr ⟨{ cls := .type "list", data := .seq vs.toArray }, (if_neg aT).trans (if_pos rfl)⟩)) (fun b u z => ?_) fun _ => hk
    · by_cases m : b ∈ tabs.map (·.2)
      · exact .inr (.inr ⟨m, if_pos m⟩)
      · by_cases hb : b = a
        · exact .inr (.inl ⟨hb, _, _, (if_neg m).trans (if_pos hb)⟩)
        · exact .inl ((if_neg m).trans (if_neg hb))
    · by_cases m : b ∈ tabs.map (·.2)
      · have z' := (if_pos m).symm.trans z
        cases z'
        exact tabGet b m
      · by_cases hb : b = a
        · have z' := ((if_neg m).trans (if_pos hb)).symm.trans z
          cases z'
          subst hb
          exact ⟨ha, by rw [List.length_map]; exact hl, vs, _, rv, ha⟩
        · have z' := ((if_neg m).trans (if_neg hb)).symm.trans z
          cases z'
/-- walk_of with tables -/
theorem walk_ofT {l : PySem.W.OpenLaw} {n k : Nat} {q : Program} {loose : List Str} {XP : (Str → Option Value) → Heap → Prop} {YP : World → Heap → Prop} {d : DefRec} {K : Params → PySem.W.Frag} {CX : World → CXT} {sp : World → Sp} {x : Str} {tabs : List (Addr × Addr)}
    (hn : l.most = some n) (hn2 : n ≤ sizeLine) (hdf : d.params.defaults = []) (hr : Room k callerA)
    (hY : ∀ (w : World) (h : Heap), YP w h → (K w.params).In h)
    (hTab : ∀ (w : World) (mean : ExcName → Option Value) (mg mb : Str → Option Value) (h : Heap), Top q (PySem.W.looseW q loose) mean mg mb h → (K w.params).In h → PySem.W.TabsAt tabs h) (hKt : ∀ w : World, PySem.W.noTabs (K w.params) = true)
    (F : ∀ (w : World) (mg : Str → Option Value) (fa : Addr) (h : Heap), (K w.params).In h → h.Ns mainGlobals mg → mg d.name = some (.ref fa) →
      ∃ fd : FuncData, (∀ (s : Shared) (u : Value), BindsTo s fd ⟨[u], []⟩ [(x, u)]) ∧
        ∀ base : Heap, (K w.params).In base → base.Ns mainGlobals mg → (∀ q ∈ tabs, PySem.W.CodeHd base q.1 q.2) → BltAt mg base → FnOk l.prog w (K w.params) mg base (CX w) k fa fd [x] (sp w))
    (hsp : ∀ (w : World) (H : Hp) (a : Addr) (ns : List Int), ns.length ≤ n → (∀ q ∈ tabs, H q.2 = some (.tbl #[])) → SqL (K w.params) H a (ns.map V.int) → sp w [.ref a] H (fun v _ => v = .bl true) fun _ _ _ => False)
    (hCX : ∀ (w : World) (H : Hp) (s : Shared) (e : Value) (s' : Shared), CX w [] H s (fun _ _ _ => False) e s' → False) :
    PySem.W.WalkO q loose XP YP l.row.toRowW d [] (fun f vs => PySem.call f vs) := by
  refine Att.attach_call hn hdf fun w s₀ s₁ mg mb fa o pm cd doc a vs ns G Y ho hd hcd hmg hobj hints hlen hg => ?_
  have KX := hY w _ Y
  obtain ⟨fd, hb, hF⟩ := F w mg fa _ KX G.T.g hmg
  exact law_callT KX G.T.g G.T.b G.T.builtins G.T.nolimit hg hobj hints (Nat.le_trans hlen hn2) hr (hTab w _ mg mb _ G.T KX) (hKt w) ⟨G.T.bmain⟩ hF hb (fun H hTb hS => hsp w H a ns hlen hTb hS) fun H e s' => hCX w H s₁ e s'
/-- a def whose code is known -/
theorem Fun.okC {P : Program} {w : World} {K : PySem.W.Frag} {mg : Str → Option Value} {base : Heap} {x qual : Str} {st : Stmt} {f : Addr} {fd : FuncData} {N ps : List Str} {k : Nat} {sp : Sp} (F : Fun K x qual st f fd) (S : FnScope N ps (defScope st)) (len : ∀ vs H Q E, sp vs H Q E → vs.length = ps.length)
    (hbody : ∀ (A : Around) (outer : List Env) (s : Shared) (H : Hp) (vs : List V) (Q : VK) (E : XK), Room k (A.deeper (envOfC qual (defScope st) s.heap.objs.size f fd.code)) → sp vs H Q E →
      ∃ t, PSs (cxOf CX0 P w K mg base N qual (defScope st) f fd.code A outer s H E).nox (defBody st) t ∧ t { nx := fun _ H' => Q .non H', rt := Q } (start N vs) H) : FnOk P w K mg base CX0 (k + 1) f fd ps sp := by
  obtain ⟨oc, od, kV, doc, pm, an, cdv, ct, osl, rfl, lk, hcd⟩ := F.ex
  refine fn_of lk hcd S len fun A outer s H vs Q E hr hsp => ?_
  obtain ⟨t, h, q⟩ := hbody A outer s H vs Q E hr hsp
  exact ⟨t, h.nox, q⟩
end L2

set_option Elab.async false
set_option linter.all false
set_option maxRecDepth 100000
set_option maxHeartbeats 3200000
namespace L2
open PySem PySem.Spec PyProof.Rows
section
variable {X : Cx}
end
section
variable {prog : Program} {w : World} {A : Around} {E : Value → Shared → Prop} {s : Shared}
end
section
variable {X : Cx}
end
end L2

set_option Elab.async false
set_option linter.all false
set_option maxRecDepth 100000
set_option maxHeartbeats 3200000
namespace L2
open PySem PySem.Spec PyProof.Rows
theorem list_keys_none : typeLookup (.type "list") "keys" = pure none := by rw [typeLookup_type, builtinLookup_eq_fast]; kernel_rfl
theorem getAttr?_miss_list {prog : Program} {w : World} {A : Around} {E : Value → Shared → Prop} {s : Shared} {a : Addr} {o : Obj} {xs : Array Value} {k : Nat} {name : Str} {Q : Option Value → Shared → Prop}
    (hx : s.heap.get? a = some o) (hc : o.cls = .type "list") (hdat : o.data = .seq xs k) (hd : o.dict = none) (hmiss : typeLookup (.type "list") name = pure none) (hname : (["__module__", "__name__", "__qualname__", "__doc__", "__annotations__"] : List Str).contains name = false) (hA : A.handled = none)
    (h : ∀ h' tk, (∀ b o, s.heap.get? b = some o → h'.get? b = some o) → Q none { s with heap := h', toks := tk }) (hsz : name.length + 100 ≤ sizeLine := by size_fits) :
    wpAny (model prog w) A (getAttr? (.ref a) name) Q E s := by
  obtain ⟨c, dct, dat, sl⟩ := o
  simp only at hc hdat hd
  subst hc hdat hd
  obtain ⟨hp, g, d, tk, os⟩ := s
  have hT : ∀ tk', (⟨hp, g, d, tk', os⟩ : Shared).TypeIs (.ref a) "list" := fun _ => ⟨_, hx, rfl⟩
  have f1 := sub_AttributeError
  have f3 := F.slot_list_getattribute.lookup
  have f4 := F.slot_list_getattribute.bind (.ref a)
  have f5 := am_list_getattr_none
  unfold getAttr? getAttrBy? getAttrBy
  repeat (any_goals (first | assumption | exact hT _ | ((with_reducible show wpAny _ _ (call (Value.builtin "list.__getattribute__") _ _) _ _ _); refine call_meets F.slot_list_getattribute (hT _) am_entry_list_getattribute (F.args_list_getattribute_2 _ _) (meets_getattribute_miss_list a xs k sl name _ hmiss hname hsz) ⟨hx, hA, fun h' tk' e hx' => ?_⟩) | wp_step))
  obtain ⟨t', u', he⟩ := hx'.there
  show wpAny _ _ (getattributeRaised _ _ _ _ _ _ _) _ _ _
  unfold getattributeRaised
  repeat (any_goals (first | assumption | wp_step))
  exact h _ _ hx'.of.keeps
end L2

set_option Elab.async false
set_option linter.all false
set_option maxRecDepth 100000
set_option maxHeartbeats 3200000
namespace L2
open PySem PySem.Spec PyProof.Rows
theorem plain_upd_loop : plainId "dict.update.loop" = true := by decide +kernel
theorem entry_upd_loop : entryFor table "dict.update.loop" = some Builtin.«dict.update.loop» := entryFor_of_fast (by kernel_rfl)
section
variable {prog : Program} {w : World} {K : Type} [DecidableEq K] {knd : KeyKind prog w K} {A : Around} {R : Result → Shared → Prop} {d l it : Addr} {items : List Value}
def storeP (kvs rest : List (K × Value)) : List (K × Value) := rest.foldl (fun a p => stored a p.1 p.2) kvs
theorem upd_loop (hh : A.handled = none) (hld : l ≠ d) (hli : l ≠ it) (hid : it ≠ d) : ∀ (rest : List (K × Value)) (i : Nat) (s : Shared) (kvs : List (K × Value)), s.heap.IsListIter it l i → s.heap.IsList l items.toArray → i + rest.length = items.length →
    (∀ (j : Nat) (p : K × Value), rest[j]? = some p → ∃ a key, items[i + j]? = some (.ref a) ∧ IsTup s.heap a #[key, p.2] ∧ knd.is p.1 key = true ∧ a ≠ d ∧ a ≠ it) → s.heap.DictOf knd d kvs → kvs.length + rest.length ≤ sizeLine →
    (∀ h' tk, h'.DictOf knd d (storeP kvs rest) → (∀ b o, b ≠ d → b ≠ it → s.heap.get? b = some o → h'.get? b = some o) → R (.ok (.ret .none)) { s with heap := h', toks := tk }) →
    codeAny (model prog w) A (.builtin "dict.update.loop" ⟨[.ref d, .ref it, rawInt i, .none], []⟩) R s
  | [], i, s, kvs, hit, hl, hlen, _, hm, hz, hR => by
    refine codeAny_builtin entry_upd_loop ?_
    rw [Around.under_plainId plain_upd_loop _]
    show wpAny _ A.in1 (pyNext (.ref it) >>= _) _ _ s
    refine wpAny_bind (wpAny_pyNext_list_end hh hit hl (by rw [List.getElem?_toArray]; exact List.getElem?_eq_none (by rw [List.length_nil] at hlen; omega)) fun h' hx => ?_)
    exact wpAny_pure (hR h' s.toks (by
      obtain ⟨o, es, ep, ho, r⟩ := hm
      exact ⟨o, es, ep, hx _ _ hid.symm ho, r⟩) fun b o _ hb e => hx b o hb e)
  | p :: rest, i, s, kvs, hit, hl, hlen, hitems, hm, hz, hR => by
    refine codeAny_builtin entry_upd_loop ?_
    rw [Around.under_plainId plain_upd_loop _]
    show wpAny _ A.in1 (pyNext (.ref it) >>= _) _ _ s
    obtain ⟨a, key, e1, e2, e3, e4, e5⟩ := hitems 0 p rfl
    refine wpAny_bind (wpAny_pyNext_list_item hit hl (x := .ref a) (by simpa using e1) fun h1 hit1 sb1 => ?_)
    have keep1 : ∀ b o, b ≠ it → s.heap.get? b = some o → h1.get? b = some o := fun b o hb e => (sb1.2 b hb).trans e
    have tup1 : IsTup h1 a #[key, p.2] := by
      obtain ⟨o, ho, r⟩ := e2
      exact ⟨o, keep1 _ _ e5 ho, r⟩
    obtain ⟨ot, hot, hct, nt, hdt⟩ := id tup1
    have hm1 : h1.DictOf knd d kvs := by
      obtain ⟨o, es, ep, ho, r⟩ := hm
      exact ⟨o, es, ep, keep1 _ _ hid.symm ho, r⟩
    show wpAny _ A.in1 (holding [Value.ref a] (tryCatch (Builtin.Dict.pairItems (.ref a)) _ >>= _) >>= _) _ _ _
    refine wpAny_bind (wpAny_holding (wpAny_bind (wpAny_tryCatch ?_)))
    unfold Builtin.Dict.pairItems
    refine wpAny_bind (wpAny_typeOf (s := { s with heap := h1 }) tup1.typeIs ?_)
    rw [if_pos (by decide)]
    refine wpAny_bind (wpAny_seqItems (s := { s with heap := h1 }) hot hdt (wpAny_pure ?_))
    show wpAny _ A.in1 (holding [key, p.2] (dictSet d key p.2)) _ _ _
    rw [List.length_cons] at hlen hz
    refine wpAny_holding (wpAny_dictSet_pairs (s := { s with heap := h1 }) e3 hm1 (fun h2 hm2 sb2 => ?_) (by omega))
    have keep2 : ∀ b o, b ≠ d → h1.get? b = some o → h2.get? b = some o := fun b o hb e => (sb2.2 b hb).trans e
    have sl := stored_length_le kvs p.1 p.2
    refine wpAny_pure ⟨plainId_quiet plain_upd_loop _, ?_⟩
    refine upd_loop hh hld hli hid rest (i + 1) { s with heap := h2, toks := s.toks + 1 } (stored kvs p.1 p.2) ?_ ?_ (by omega) (fun j q hq => ?_) hm2 (by omega) fun h' tk hD hk => ?_
    · obtain ⟨o, ho, r⟩ := hit1
      exact ⟨o, keep2 _ _ hid ho, r⟩
    · obtain ⟨o, ho, r⟩ := hl
      exact ⟨o, keep2 _ _ hld (keep1 _ _ hli ho), r⟩
    · obtain ⟨b, kb, g1, g2, g3, g4, g5⟩ := hitems (j + 1) q (by simpa using hq)
      refine ⟨b, kb, by rw [← g1]; congr 1; omega, ?_, g3, g4, g5⟩
      obtain ⟨o, ho, r⟩ := g2
      exact ⟨o, keep2 _ _ g4 (keep1 _ _ g5 ho), r⟩
    · exact hR h' tk hD fun b o h1' h2' e => hk b o h1' h2' (keep2 _ _ h1' (keep1 _ _ h2' e))
end
/-- the pairs that stand in a list: (text, value) each -/
def PairsAt (H : Hp) (ps : List (Str × V)) (rs : List V) : Prop := Paired (fun (p : Str × V) (r : V) => ∃ a, r = .ref a ∧ H a = some (.tup [.str p.1, p.2])) ps rs
def putP (ps : List (Str × V)) : List (Key × V) := ps.foldl (fun a p => putK a (.inr p.1) p.2) []
theorem two_vals {x y : V} {its : List Value} (r : Vals [x, y] its) : ∃ a b, its = [a, b] ∧ RelV x a ∧ RelV y b := by
  cases r with
  | cons h1 t =>
    cases t with
    | cons h2 t =>
      cases t
      exact ⟨_, _, rfl, h1, h2⟩
theorem pairs_vals {P : Program} {w : World} {H : Hp} {h : Heap} (hok : HOk P w H h) (ps : List (Str × V)) : ∀ {rs : List V} {its : List Value}, PairsAt H ps rs → Vals rs its →
    ∃ vps : List (Key × Value), KV (ps.map fun p => ((Sum.inr p.1 : Key), p.2)) vps ∧ vps.length = its.length ∧ ∀ (j : Nat) (q : Key × Value), vps[j]? = some q → ∃ a key, its[j]? = some (.ref a) ∧ IsTup h a #[key, q.2] ∧ (mixKind P w).is q.1 key = true := by
  induction ps with
  | nil =>
    intro rs its hp hv
    cases hp
    cases hv
    exact ⟨[], .nil, rfl, fun j q h => by simp at h⟩
  | cons p ps ih =>
    intro rs its hp hv
    cases hp with
    | cons hx t =>
      obtain ⟨a, e, ha⟩ := hx
      subst e
      cases hv with
      | cons r t2 =>
        obtain ⟨vps, k1, k2, k3⟩ := ih t t2
        have hob : ObjOk P w H h a (.tup [.str p.1, p.2]) := hok a _ ha
        obtain ⟨_, its2, r2, tp⟩ := hob
        obtain ⟨key, u, e2, rk, ru⟩ := two_vals r2
        subst e2
        have r' := r
        cases r'
        refine ⟨(.inr p.1, u) :: vps, .cons ⟨rfl, ru⟩ k1, by rw [List.length_cons, List.length_cons, k2], fun j q hq => ?_⟩
        cases j with
        | zero =>
          have e : ((Sum.inr p.1 : Key), u) = q := by simpa using hq
          subst e
          exact ⟨a, key, rfl, tp, kV_is (k := .inr p.1) rk⟩
        | succ j => exact k3 j q (by simpa using hq)
theorem KV.putAll : ∀ {ps : List (Str × V)} {vps : List (Key × Value)} {kvs : List (Key × V)} {vs : List (Key × Value)}, KV kvs vs → KV (ps.map fun p => ((Sum.inr p.1 : Key), p.2)) vps → KV (ps.foldl (fun a p => putK a (.inr p.1) p.2) kvs) (storeP vs vps)
  | [], _, _, _, r, .nil => r
  | p :: ps, q :: vps, kvs, vs, r, .cons ⟨e, rq⟩ t => by
    have e' : (Sum.inr p.1 : Key) = q.1 := e
    have := r.put q.1 rq
    rw [← e'] at this
    show KV (ps.foldl _ (putK kvs (.inr p.1) p.2)) (storeP (stored vs q.1 q.2) vps)
    rw [← e']
    exact KV.putAll this t
theorem putP_len (ps : List (Str × V)) : ∀ kvs : List (Key × V), (ps.foldl (fun a p => putK a (.inr p.1) p.2) kvs).length ≤ kvs.length + ps.length := by
  induction ps with
  | nil => intro kvs; exact Nat.le_refl _
  | cons p r ih =>
    intro kvs
    have h1 := ih (putK kvs (.inr p.1) p.2)
    have h2 := length_putK kvs (.inr p.1 : Key) p.2
    rw [List.foldl_cons, List.length_cons]
    omega
section
variable {X : Cx}
theorem call_dictP (hc : X.calm = true) : CallR X (.type "dict") (fun xs H Q => ∃ (p : Addr) (rs : List V) (ps : List (Str × V)), xs = [V.ref p] ∧ H p = some (.lst rs) ∧ PairsAt H ps rs ∧ ps.length ≤ 1000 ∧ ∀ a, H a = none → Q (.ref a) (upd H a (.dK (putP ps)))) := by
  intro pins s σ H xs us Q I r h
  obtain ⟨p, rs, ps, rfl, hp, hps, hz, q⟩ := h
  obtain ⟨u, rfl, ru⟩ := vals1 r
  cases ru
  have hh : X.A.handled = none := I.ok.hd hc
  obtain ⟨hzl, its, n, rv, hl⟩ := (show ObjOk X.prog X.w H s.heap p (.lst rs) from I.hok p _ hp)
  refine callType_codes (Q₁ := fun obj s₁ => obj = .ref s.heap.objs.size ∧ s₁ = { s with heap := s.heap.push { cls := .type "dict", data := .dict #[] } }) F.kt_called_dict (F.kt_typeCall_dict_1 _) F.entry_dict_init (kt_code_dict_new _ ⟨rfl, rfl⟩) ?_
  rintro obj s₁ ⟨rfl, rfl⟩
  have hnew : (s.heap.push { cls := .type "dict", data := .dict #[] }).DictOf (mixKind X.prog X.w) s.heap.objs.size [] := Heap.DictOf.new s.heap
  refine ⟨hnew.typeIs, F.args_dict_init_2 _ _, ?_⟩
  unfold Builtin.«dict.__init__»
  refine wpAny_bind ?_
  unfold Builtin.Dict.selfAndRest
  refine wpAny_bind (wpAny_notOrdered_dict hnew.typeIs ?_)
  show wpAny _ _ (pure (s.heap.objs.size, [Value.ref p])) _ _ _
  refine wpAny_pure ?_
  show wpAny _ _ (Builtin.Dict.updateFrom "dict.__init__" s.heap.objs.size (.ref p) [] .none) _ _ _
  unfold Builtin.Dict.updateFrom
  have hl0 : (s.heap.push { cls := .type "dict", data := .dict #[] }).get? p = some { cls := .type "list", data := .seq its.toArray n } := Heap.get?_push_of_some _ hl
  refine wpAny_bind (wpAny_typeOf (T := "list") ⟨_, hl0, rfl⟩ ?_)
  rw [if_pos (by decide)]
  obtain ⟨vps, w1, w2, w3⟩ := pairs_vals I.hok ps hps rv
  have big := I.big
  refine wpAny_bind (getAttr?_miss_list (A := X.A.in1.in1) hl0 rfl rfl rfl list_keys_none (by decide +kernel) hh fun h1 tk1 k1 => ?_)
  simp only [Option.isNone_none, if_true]
  have old1 : ∀ b o, s.heap.get? b = some o → h1.get? b = some o := fun b o e => k1 b o (Heap.get?_push_of_some _ e)
  have hD1 : h1.DictOf (mixKind X.prog X.w) s.heap.objs.size [] := by
    obtain ⟨o, es, ep, ho, r⟩ := hnew
    exact ⟨o, es, ep, k1 _ _ ho, r⟩
  have hl1 : h1.IsList p its.toArray := ⟨_, old1 _ _ hl, rfl, _, rfl⟩
  refine wpAny_bind (wpAny_rule ?_)
  refine wpAny_bind (wpAny_pyIter_list (s := { s with heap := h1, toks := tk1 }) hl1 ?_)
  have itn : h1.get? h1.objs.size = none := Heap.get?_none_of_le (Nat.le_refl _)
  have lt1 : ∀ {b : Addr} {o : Obj}, h1.get? b = some o → b ≠ h1.objs.size := fun e z => by rw [z, itn] at e; cases e
  have hDg : ∃ o, h1.get? s.heap.objs.size = some o := by
    obtain ⟨o, es, ep, ho, r⟩ := hD1
    exact ⟨o, ho⟩
  obtain ⟨oD, hoD⟩ := hDg
  have lenv : its.length = ps.length := by rw [← w2, ← w1.length, List.length_map]
  refine wpAny_pure ⟨plainId_quiet plain_upd_loop _, upd_loop (knd := mixKind X.prog X.w) (A := X.A.in1) (l := p) (items := its) hh (Nat.ne_of_lt (Heap.lt_size hl)) (lt1 (old1 _ _ hl)) (lt1 hoD).symm vps 0 _ [] ⟨_, Heap.get?_push_size _ rfl, rfl, rfl⟩ ?_ (by omega) (fun j q hq => ?_) ?_ (by rw [w2, lenv, List.length_nil]; exact Nat.le_of_lt (small1000 (by omega))) fun h' tk hDD hk => ?_⟩
  · obtain ⟨o, ho, r⟩ := hl1
    exact ⟨o, Heap.get?_push_of_some _ ho, r⟩
  · obtain ⟨b, key, g1, g2, g3⟩ := w3 j q hq
    obtain ⟨o, ho, r⟩ := g2
    refine ⟨b, key, by rw [Nat.zero_add]; exact g1, ⟨o, Heap.get?_push_of_some _ (old1 _ _ ho), r⟩, g3, Nat.ne_of_lt (Heap.lt_size ho), lt1 (old1 _ _ ho)⟩
  · obtain ⟨o, es, ep, ho, r⟩ := hD1
    exact ⟨o, es, ep, Heap.get?_push_of_some _ ho, r⟩
  · have old : ∀ b o, s.heap.get? b = some o → h'.get? b = some o := fun b o e => hk b o (Nat.ne_of_lt (Heap.lt_size e)) (lt1 (old1 _ _ e)) (Heap.get?_push_of_some _ (old1 _ _ e))
    have pl := putP_len ps []
    refine ⟨rfl, .ref s.heap.objs.size, _, I.laid (a := s.heap.objs.size) (o := .dK (putP ps)) (t' := tk) old (Nat.le_refl _) (dk_new (Nat.le_of_lt (small1000 (by rw [List.length_nil] at pl; exact Nat.le_trans pl (by omega)))) (beq_eq_false_iff_ne.mpr (Ne.symm (Nat.ne_of_lt big))) (KV.putAll .nil w1) hDD), rfl, q _ (I.hok.fresh (Nat.le_refl _))⟩
end
end L2

set_option Elab.async false
set_option linter.all false
set_option maxRecDepth 100000
set_option maxHeartbeats 1000000
namespace L2
open PySem PySem.Spec PyProof.Rows
structure QPs (X : Cx) (pos : Pos) (keys : List (Option Expr)) (values : List Expr) (trs : List (TE × TE)) : Prop where
  out : PPs X pos keys values trs
section
variable {X : Cx}
theorem qps_nil {pos : Pos} : QPs X pos [] [] [] := ⟨pps_nil⟩
theorem qps_cons {pos : Pos} {k v : Expr} {ks : List (Option Expr)} {vs : List Expr} {tk tv : TE} {trs : List (TE × TE)} (hk : QE X k tk) (hv : QE X v tv) (hr : QPs X pos ks vs trs) : QPs X pos (some k :: ks) (v :: vs) ((tk, tv) :: trs) := ⟨pps_cons hk.out hv.out hr.out⟩
theorem qe_disp {pos : Pos} {keys : List (Option Expr)} {values : List Expr} {trs : List (TE × TE)} (h : QPs X pos keys values trs) (hall : keys.all (·.isSome) = true) (hl : keys.length = values.length) (h0 : keys ≠ []) (h15 : keys.length ≤ 15) : QE X (.Dict keys values pos) (tDisp trs) := ⟨pe_disp h.out hall hl h0 h15⟩
end
theorem PairsAt.same {H H' : Hp} {ps : List (Str × V)} {rs : List V} (h : PairsAt H ps rs) (s : Same H H') : PairsAt H' ps rs := Paired.mapP h fun _ _ ⟨a, e, q⟩ => ⟨a, e, s _ _ q⟩
theorem PairsAt.snoc {H : Hp} {ps : List (Str × V)} {rs : List V} (h : PairsAt H ps rs) {y : Str} {v : V} {a : Addr} (e : H a = some (.tup [.str y, v])) : PairsAt H (ps ++ [(y, v)]) (rs ++ [.ref a]) := by
  unfold PairsAt at h ⊢
  induction h with
  | nil => exact .cons ⟨a, rfl, e⟩ .nil
  | cons r _ ih => exact .cons r ih
theorem putP_snoc (ps : List (Str × V)) (y : Str) (v : V) : putP (ps ++ [(y, v)]) = putK (putP ps) (.inr y) v := by
  unfold putP
  rw [List.foldl_append]
  rfl
/-- what stands in the dict of such pairs -/
theorem putP_get (f : Str → V) : ∀ {ys : List Str} {y : Str}, y ∈ ys → valV (putP (ys.map fun y => (y, f y))) (.inr y) = some (f y) := by
  intro ys
  have h : ∀ n, n ≤ ys.length → ∀ y ∈ ys.take n, valV (putP ((ys.take n).map fun y => (y, f y))) (.inr y) = some (f y) := by
    intro n
    induction n with
    | zero => intro _ y hy; rw [List.take_zero] at hy; cases hy
    | succ n ih =>
      intro hn y hy
      have e := take_snoc (List.getElem?_eq_getElem (show n < ys.length by omega))
      rw [e] at hy ⊢
      rw [List.map_append]
      show valV (putP (_ ++ [_])) _ = _
      rw [putP_snoc, valV_put]
      by_cases hyn : y = ys[n]
      · rw [if_pos (by rw [hyn]), hyn]
      · rw [if_neg (fun z => hyn (Sum.inr.inj z))]
        rcases List.mem_append.mp hy with h | h
        · exact ih (by omega) y h
        · exact absurd (List.mem_singleton.mp h) hyn
  intro y hy
  have := h ys.length (Nat.le_refl _) y (by rw [List.take_length]; exact hy)
  rw [List.take_length] at this
  exact this
theorem comp_pairsL {K : PySem.W.Frag} {a : Addr} {ys : List Str} {is : List Nat} {te : TE} {σ : St} {H : Hp} {Q : VK} (f : Str → V) (hx : H a = some (.lst (ys.map V.str))) (hz : ys.length ≤ sizeLine)
    (he : ∀ y ∈ ys, ∀ H1, Same H H1 → ∀ R : VK, (∀ b H2, H2 b = some (.tup [.str y, f y]) → Same H1 H2 → R (.ref b) H2) → te (selS is σ (some (.str y))) H1 R)
    (hd : ∀ zs H1, PairsAt H1 (ys.map fun y => (y, f y)) zs → Same H H1 → ∀ l, H1 l = none → Q (.ref l) (upd H1 l (.lst zs))) : CompW is tYes te σ Q (Itl K a) H := by
  refine comp_list (xs := ys.map V.str) (fun i zs H' => PairsAt H' ((ys.take i).map fun y => (y, f y)) zs ∧ Same H H' ∧ zs.length = i ∧ i ≤ ys.length) ⟨.nil, Same.refl H, rfl, Nat.zero_le _⟩ ?_ ?_ ?_ ?_
  · rintro i zs H' ⟨_, _, hl, hi⟩
    omega
  · rintro i zs H' ⟨_, s, _⟩
    exact SqL.of (s _ _ hx)
  · rintro i x zs H' R hR hxi ⟨hp, s, hl, _⟩
    rw [List.getElem?_map] at hxi
    obtain ⟨y, hy, rfl⟩ := Option.map_eq_some_iff.mp hxi
    unfold tYes
    dsimp only
    rw [if_pos rfl]
    refine he y (List.mem_of_getElem? hy) H' s _ fun b H2 hb s2 => hR _ _ ⟨?_, s.trans s2, by rw [List.length_append, hl]; rfl, (List.getElem?_eq_some_iff.mp hy).1⟩
    rw [take_snoc hy, List.map_append]
    exact (hp.same s2).snoc hb
  · rintro zs H' ⟨hp, s, _, _⟩ l hl
    rw [List.length_map, List.take_length] at hp
    exact hd zs H' hp s l hl
theorem comp_pairsT {K : PySem.W.Frag} {a : Addr} {ys : List Str} {is : List Nat} {te : TE} {σ : St} {H : Hp} {Q : VK} (f : Str → V) (hx : H a = some (.tup (ys.map V.str))) (hz : ys.length ≤ sizeLine)
    (he : ∀ y ∈ ys, ∀ H1, Same H H1 → ∀ R : VK, (∀ b H2, H2 b = some (.tup [.str y, f y]) → Same H1 H2 → R (.ref b) H2) → te (selS is σ (some (.str y))) H1 R)
    (hd : ∀ zs H1, PairsAt H1 (ys.map fun y => (y, f y)) zs → Same H H1 → ∀ l, H1 l = none → Q (.ref l) (upd H1 l (.lst zs))) : CompW is tYes te σ Q (Itt K a) H := by
  refine comp_tup (xs := ys.map V.str) (fun i zs H' => PairsAt H' ((ys.take i).map fun y => (y, f y)) zs ∧ Same H H' ∧ zs.length = i ∧ i ≤ ys.length) ⟨.nil, Same.refl H, rfl, Nat.zero_le _⟩ ?_ ?_ ?_ ?_
  · rintro i zs H' ⟨_, _, hl, hi⟩
    omega
  · rintro i zs H' ⟨_, s, _⟩
    exact SqT.of (s _ _ hx)
  · rintro i x zs H' R hR hxi ⟨hp, s, hl, _⟩
    rw [List.getElem?_map] at hxi
    obtain ⟨y, hy, rfl⟩ := Option.map_eq_some_iff.mp hxi
    unfold tYes
    dsimp only
    rw [if_pos rfl]
    refine he y (List.mem_of_getElem? hy) H' s _ fun b H2 hb s2 => hR _ _ ⟨?_, s.trans s2, by rw [List.length_append, hl]; rfl, (List.getElem?_eq_some_iff.mp hy).1⟩
    rw [take_snoc hy, List.map_append]
    exact (hp.same s2).snoc hb
  · rintro zs H' ⟨hp, s, _, _⟩ l hl
    rw [List.length_map, List.take_length] at hp
    exact hd zs H' hp s l hl
end L2

set_option Elab.async false
set_option linter.all false
set_option maxRecDepth 100000
set_option maxHeartbeats 4000000
namespace Lw
open PySem L2
def top (i : Nat) : Stmt := PySem.Challenge.pw_everywidth_k08_whole_sums_at_widths.main.body.getD i (.Pass ⟨0, 0, 0, 0⟩)
abbrev s_words_at : Stmt := top 1
abbrev s_is_sum_word : Stmt := top 14
abbrev s_is_claim_word : Stmt := top 15
abbrev s_sums_behind : Stmt := top 16
abbrev s_claims_behind : Stmt := top 17
abbrev s_is_made_of : Stmt := top 19
abbrev s_worth_of_one : Stmt := top 29
abbrev s_worth_of_two : Stmt := top 30
abbrev s_sum_shown : Stmt := top 34
abbrev s_law_deck : Stmt := top 37
abbrev s_law_take : Stmt := top 38
abbrev s_law_power : Stmt := top 39
abbrev s_law_kept : Stmt := top 41
abbrev s_cut : Stmt := top 2
abbrev s_parts_of : Stmt := top 18
abbrev s_is_name : Stmt := top 20
abbrev s_is_figures : Stmt := top 21
abbrev s_word_worth : Stmt := top 28
abbrev s_law_width : Stmt := top 40
abbrev s_law_names : Stmt := top 42
abbrev s_law_leaf : Stmt := top 43
abbrev s_law_values : Stmt := top 45
abbrev s_parts_taken : Stmt := top 24
abbrev s_refuse_lacking : Stmt := top 25
abbrev s_sum_word_read : Stmt := top 33
abbrev s_names_of : Stmt := top 35
abbrev s_law_sum : Stmt := top 44
abbrev s_read_sum : Stmt := top 32
abbrev s_folded : Stmt := top 23
abbrev s_worth : Stmt := top 27
abbrev s_law_together : Stmt := top 46
abbrev s_law : Stmt := top 47
def lpos_worth : Pos := ⟨60, 25, 60, 83⟩
def qual_worth : Str := (("worth" : Str) ++ ".<locals>.") ++ "<lambda>"
theorem same_upd {H : Hp} {p : Addr} {o : HO} (h : H p = none) : Same H (upd H p o) := fun b u e => by rw [upd_ne (ne_of_none e h)]; exact e
/-- all that was tracked is as it was, but for what stands at d and c -/
def Off (d c : Addr) (H H' : Hp) : Prop := ∀ b o, H b = some o → b ≠ d → b ≠ c → H' b = some o
theorem Off.refl (d c : Addr) (H : Hp) : Off d c H H := fun _ _ h _ _ => h
theorem Off.trans {d c : Addr} {H H1 H2 : Hp} (x : Off d c H H1) (y : Off d c H1 H2) : Off d c H H2 := fun b o h h1 h2 => y b o (x b o h h1 h2) h1 h2
theorem same_off {H H' : Hp} (d c : Addr) (x : Same H H') : Off d c H H' := fun b o h _ _ => x b o h
theorem off_upd1 {d c : Addr} {H : Hp} {o : HO} : Off d c H (upd H d o) := fun b u e h1 _ => by rw [upd_ne h1]; exact e
theorem off_upd2 {d c : Addr} {H : Hp} {o : HO} : Off d c H (upd H c o) := fun b u e _ h2 => by rw [upd_ne h2]; exact e
/-- a deck at d: its cells at c -/
structure DeckAt (H : Hp) (d c : Addr) : Prop where
  ex : ∃ (n : Int) (cs : List Int), H d = some (.lst [.ref c, .int n]) ∧ H c = some (.lst (cs.map V.int)) ∧ 1 ≤ cs.length ∧ cs.length ≤ 64
theorem DeckAt.ne {H : Hp} {d c : Addr} (D : DeckAt H d c) : d ≠ c := by
  obtain ⟨n, cs, hd, hc, _, _⟩ := D.ex
  refine ne_of hd hc ?_
  intro z
  injection z with z
  cases cs with
  | nil => cases z
  | cons x r =>
    rw [List.map_cons] at z
    injection z with z1 _
    cases z1
theorem DeckAt.same {H H' : Hp} {d c : Addr} (D : DeckAt H d c) (s : Same H H') : DeckAt H' d c := by
  obtain ⟨n, cs, hd, hc, h1, h2⟩ := D.ex
  exact ⟨n, cs, s _ _ hd, s _ _ hc, h1, h2⟩
theorem small_pow {w : Nat} (h : w ≤ 60) : (2 : Int) ^ w < 2 ^ 64 := by
  have h1 : (2 : Nat) ^ w ≤ 2 ^ 60 := Nat.pow_le_pow_right (by decide) h
  have h2 : ((2 : Int) ^ w) = (((2 : Nat) ^ w : Nat) : Int) := by rw [Int.natCast_pow]; rfl
  rw [h2]
  omega
theorem pow_pos' (w : Nat) : (0 : Int) < 2 ^ w := by
  have h2 : ((2 : Int) ^ w) = (((2 : Nat) ^ w : Nat) : Int) := by rw [Int.natCast_pow]; rfl
  have := Nat.two_pow_pos w
  rw [h2]
  omega
theorem pow_succ' (w : Nat) : (2 : Int) ^ (w + 1) = 2 ^ w * 2 := Int.pow_succ 2 w
theorem nx_join {t u : TS} {D : Ends} {r : VK} {b c : St → Hp → Prop} {σ : St} {H : Hp} (J : St → Hp → Prop) (h1 : ∀ N : St → Hp → Prop, (∀ σ H, J σ H → N σ H) → t { D with nx := N } σ H) (h2 : ∀ σ H, J σ H → u D σ H) : ({ nx := tSeq t u D, rt := r, bk := b, ct := c } : Ends).nx σ H := h1 _ h2
theorem gName_go {i : Nat} {v : V} {σ : St} {H : Hp} {Q : St → Hp → Prop} (h : Q (σ.set i (some v)) H) : gName i v σ H Q := h
theorem snoc_all {α : Type} {P : α → Prop} {l : List α} {y : α} (h : ∀ x ∈ l, P x) (hy : P y) : ∀ x ∈ l ++ [y], P x := by
  intro x hx
  rcases List.mem_append.mp hx with z | z
  · exact h x z
  · rw [List.mem_singleton.mp z]
    exact hy
theorem same_put {H H2 : Hp} {p : Addr} {o : HO} (s : Same H H2) (hp : H p = none) : Same H (upd H2 p o) := fun b u e => by
  rw [upd_ne (ne_of_none e hp)]
  exact s b u e
theorem atI_ints {ns : List Int} {z : Int} (j : Nat) (hz : z = (j : Int)) (hj : j < ns.length) : atI (ns.map V.int) z = some (.int (ns.getD j 0)) := by
  subst hz
  refine atI_nat ?_
  rw [List.getElem?_map, List.getElem?_eq_getElem hj, List.getD_eq_getElem?_getD, List.getElem?_eq_getElem hj]
  rfl
theorem atI_str {z : Str} {i : Int} (n : Nat) (hn : z.cps.toList.length = n) (h0 : 0 ≤ i) (h1 : i < (n : Int)) : ∃ c, c ∈ z.cps.toList ∧ atI z.cps.toList i = some c := by
  obtain ⟨j, rfl⟩ : ∃ j : Nat, i = (j : Int) := ⟨i.toNat, by omega⟩
  have hj : j < z.cps.toList.length := by omega
  exact ⟨z.cps.toList[j], List.getElem_mem hj, atI_nat (List.getElem?_eq_getElem hj)⟩
theorem atI_strs {ys : List Str} {i : Int} (h0 : 0 ≤ i) (h1 : i < (ys.length : Int)) : ∃ y, y ∈ ys ∧ atI (ys.map V.str) i = some (.str y) := by
  obtain ⟨j, rfl⟩ : ∃ j : Nat, i = (j : Int) := ⟨i.toNat, by omega⟩
  have hj : j < ys.length := by omega
  refine ⟨ys[j], List.getElem_mem hj, atI_nat ?_⟩
  rw [List.getElem?_map, List.getElem?_eq_getElem hj]
  rfl
theorem app_signs (a b : Str) : (a ++ b).cps.toList = a.cps.toList ++ b.cps.toList := by
  rw [PySem.Str.cps_append, Array.toList_append]
theorem len_signs (a : Str) : a.length = a.cps.toList.length := by
  unfold Str.length
  rw [Array.length_toList]
theorem slice_to {x : Str} {j : Nat} (h : j ≤ x.length) : (Txt.slice x none (some (j : Int))).cps.toList = x.cps.toList.take j := by
  have e := beq_iff_eq.mp (PyProof.Rows.slice_closes_to (x := x) (j := (j : Int)) ⟨by omega, by rw [← len_signs]; omega⟩)
  rw [e]
  simp
theorem slice_from {x : Str} {i : Nat} (h : i ≤ x.length) : (Txt.slice x (some (i : Int)) none).cps.toList = x.cps.toList.drop i := by
  rw [PyProof.Rows.slice_from_eq (b := (x.length : Int)) (by omega) (by omega) rfl]
  simp only [Int.toNat_natCast]
  rw [List.take_of_length_le (by rw [List.length_drop, ← len_signs]; omega)]
theorem join_signs (sep : Str) (hs : sep.cps = #[]) : ∀ ys : List Str, (Txt.join sep ys).cps.toList = (ys.map (·.cps.toList)).flatten := by
  intro ys
  show (Builtin.Str.glued sep ys).cps.toList = _
  rw [StrLaws.glued_eq_join]
  induction ys with
  | nil => rfl
  | cons x r ih =>
    cases r with
    | nil =>
      show x.cps.toList = _
      simp
    | cons y r =>
      show (x ++ sep ++ Str.join sep (y :: r)).cps.toList = _
      rw [app_signs, app_signs, ih, hs]
      simp
theorem ones_flat {ys : List Str} {P : Nat → Prop} (h : ∀ y ∈ ys, ∃ c, y = ⟨#[c]⟩ ∧ P c) : (ys.map (·.cps.toList)).flatten.length = ys.length ∧ (∀ c ∈ (ys.map (·.cps.toList)).flatten, P c) ∧ (ys.map (·.length)).sum = ys.length := by
  induction ys with
  | nil => exact ⟨rfl, fun c h => absurd h (List.not_mem_nil), rfl⟩
  | cons y r ih =>
    obtain ⟨c, rfl, hc⟩ := h _ List.mem_cons_self
    obtain ⟨h1, h2, h3⟩ := ih fun z hz => h z (List.mem_cons_of_mem _ hz)
    refine ⟨?_, ?_, ?_⟩
    · rw [List.map_cons, List.flatten_cons, List.length_append, h1]
      show 1 + r.length = r.length + 1
      omega
    · intro d hd
      rw [List.map_cons, List.flatten_cons] at hd
      rcases List.mem_append.mp hd with z | z
      · have : d = c := by simpa using z
        rw [this]
        exact hc
      · exact h2 d z
    · rw [List.map_cons, List.sum_cons, h3]
      show 1 + r.length = r.length + 1
      omega

def lowS : Str := "abcdefghijklmnopqrstuvwxyz"
def Low (c : Nat) : Prop := c ∈ lowS.cps.toList
instance (c : Nat) : Decidable (Low c) := inferInstanceAs (Decidable (c ∈ _))
def keptS : List Str := ["not", "neg", "twice", "low", "and", "or", "odd", "add", "sub", "pick", "same", "under", "beneath", "sign", "nought", "both", "either", "so", "never", "yes"]
/-- one to eight letters -/
def NmL (y : Str) : Prop := (1 ≤ y.length ∧ y.length ≤ 8) ∧ ∀ c ∈ y.cps.toList, Low c
instance (y : Str) : Decidable (NmL y) := inferInstanceAs (Decidable (_ ∧ _))
structure NmS (y : Str) : Prop where
  l : NmL y
  k : y ∉ keptS
theorem low_len : lowS.cps.toList.length = 26 := by decide +kernel
theorem low_size : lowS.length ≤ sizeLine := by decide +kernel
theorem kept_low : ∀ y ∈ keptS, (1 ≤ y.length ∧ y.length ≤ 7) ∧ ∀ c ∈ y.cps.toList, Low c := by decide +kernel
theorem low_at {i : Int} (h0 : 0 ≤ i) (h1 : i < 26) : ∃ c, Low c ∧ atI lowS.cps.toList i = some c := by
  obtain ⟨c, hc, e⟩ := atI_str (z := lowS) (i := i) 26 low_len h0 h1
  exact ⟨c, hc, e⟩
theorem low_index : ∀ c ∈ lowS.cps.toList, ∃ i rest, Builtin.Str.occurrences lowS ⟨#[c]⟩ 0 lowS.length 1 = i :: rest := by
  have h : ∀ c ∈ lowS.cps.toList, (Builtin.Str.occurrences lowS ⟨#[c]⟩ 0 lowS.length 1).isEmpty = false := by decide +kernel
  intro c hc
  have := h c hc
  cases e : Builtin.Str.occurrences lowS ⟨#[c]⟩ 0 lowS.length 1 with
  | nil => rw [e] at this; cases this
  | cons i r => exact ⟨i, r, rfl⟩
theorem one_len (c : Nat) : (⟨#[c]⟩ : Str).length = 1 := rfl
theorem slice_neg1 {x : Str} (h : 1 ≤ x.length) : Txt.slice x none (some (-1)) = Txt.slice x none (some ((x.length - 1 : Nat) : Int)) := by
  unfold Txt.slice
  have e : Builtin.Str.strSliceIndices none (some (-1)) 1 x.length = Builtin.Str.strSliceIndices none (some ((x.length - 1 : Nat) : Int)) 1 x.length := by
    unfold Builtin.Str.strSliceIndices
    have h1 : ((-1 : Int) < 0) := by decide
    have h2 : ¬ (((x.length - 1 : Nat) : Int) < 0) := by omega
    have h3 : (-1 : Int) + (x.length : Int) = ((x.length - 1 : Nat) : Int) := by omega
    simp only [h1, h2, if_true, if_false, h3]
  rw [e]
theorem mem_slice1 {B : Str} {j : Nat} {d : Nat} (hj : j < B.length) {c : Nat} (hc : c ∈ (Txt.slice B none (some (j : Int)) ++ ⟨#[d]⟩ ++ Txt.slice B (some ((j : Int) + 1)) none).cps.toList) : c ∈ B.cps.toList ∨ c = d := by
  rw [app_signs, app_signs, slice_to (by omega), show ((j : Int) + 1) = ((j + 1 : Nat) : Int) by omega, slice_from (by omega)] at hc
  rcases List.mem_append.mp hc with z | z
  · rcases List.mem_append.mp z with z | z
    · exact .inl (List.mem_of_mem_take z)
    · exact .inr (by simpa using z)
  · exact .inl (List.mem_of_mem_drop z)
theorem len_slice1 {B : Str} {j : Nat} {d : Nat} (hj : j < B.length) : (Txt.slice B none (some (j : Int)) ++ ⟨#[d]⟩ ++ Txt.slice B (some ((j : Int) + 1)) none).length = B.length := by
  rw [len_signs, app_signs, app_signs, slice_to (by omega), show ((j : Int) + 1) = ((j + 1 : Nat) : Int) by omega, slice_from (by omega)]
  simp only [List.length_append, List.length_take, List.length_drop, ← len_signs]
  show min j B.length + 1 + (B.length - (j + 1)) = B.length
  omega
theorem NmL.cut {y : Str} (h : NmL y) (h8 : y.length = 8) : NmL (Txt.slice y none (some (-1))) := by
  rw [slice_neg1 (by omega)]
  have e := slice_to (x := y) (j := y.length - 1) (by omega)
  refine ⟨?_, fun c hc => h.2 c (by rw [e] at hc; exact List.mem_of_mem_take hc)⟩
  rw [len_signs, e, List.length_take, ← len_signs]
  omega
theorem NmL.more {y : Str} (h : NmL y) (h7 : y.length ≤ 7) {c : Nat} (hc : Low c) : NmL (y ++ ⟨#[c]⟩) := by
  have h1 := h.1
  refine ⟨by rw [Str.length_append, one_len]; omega, fun d hd => ?_⟩
  rw [app_signs] at hd
  rcases List.mem_append.mp hd with z | z
  · exact h.2 d z
  · have : d = c := by simpa using z
    rw [this]
    exact hc
theorem inV_strs (y : Str) : ∀ ys : List Str, inV (.str y) (ys.map V.str) = decide (y ∈ ys)
  | [] => rfl
  | z :: r => by
    have e : inV (.str y) ((z :: r).map V.str) = ((z == y) || inV (.str y) (r.map V.str)) := rfl
    rw [e, inV_strs y r]
    by_cases h : z = y
    · rw [h, beq_self_eq_true, Bool.true_or]
      exact (decide_eq_true List.mem_cons_self).symm
    · rw [beq_eq_false_iff_ne.mpr h, Bool.false_or]
      by_cases m : y ∈ r
      · rw [decide_eq_true m, decide_eq_true (List.mem_cons_of_mem _ m)]
      · rw [decide_eq_false m, decide_eq_false (fun z => (List.mem_cons.mp z).elim (fun q => h q.symm) m)]
theorem all_flatS (ys : List Str) : (ys.map V.str).all flatV = true := by
  rw [List.all_map]
  exact List.all_eq_true.mpr fun _ _ => rfl
def spareS : List Str := ["qa", "rb", "sc", "td"]
theorem spare_ok : ∀ y ∈ spareS, NmL y ∧ y ∉ keptS := by decide +kernel
theorem spare_left {ys : List Str} (h : ys.length ≤ 2) : ∃ y r, spareS.filter (fun y => !decide (y ∈ ys)) = y :: r ∧ y ∈ spareS ∧ y ∉ ys := by
  cases e : spareS.filter (fun y => !decide (y ∈ ys)) with
  | cons y r =>
    have hm : y ∈ spareS.filter (fun y => !decide (y ∈ ys)) := by rw [e]; exact List.mem_cons_self
    rw [List.mem_filter] at hm
    exact ⟨y, r, rfl, hm.1, by simpa using hm.2⟩
  | nil =>
    exfalso
    have all : ∀ y ∈ spareS, y ∈ ys := fun y hy => by
      have := List.filter_eq_nil_iff.mp e y hy
      simpa using this
    have h1 := all "qa" (by decide +kernel)
    have h2 := all "rb" (by decide +kernel)
    have h3 := all "sc" (by decide +kernel)
    have n1 : ("qa" : Str) ≠ "rb" := by decide +kernel
    have n2 : ("qa" : Str) ≠ "sc" := by decide +kernel
    have n3 : ("rb" : Str) ≠ "sc" := by decide +kernel
    match ys, h with
    | [], _ => cases h1
    | [a], _ =>
      simp only [List.mem_cons, List.not_mem_nil, or_false] at h1 h2
      exact n1 (h1.trans h2.symm)
    | [a, b], _ =>
      simp only [List.mem_cons, List.not_mem_nil, or_false] at h1 h2 h3
      rcases h1 with h1 | h1 <;> rcases h2 with h2 | h2 <;> rcases h3 with h3 | h3 <;> first
        | exact n1 (h1.trans h2.symm)
        | exact n2 (h1.trans h3.symm)
        | exact n3 (h2.trans h3.symm)
/-- names that are drawn: one to three, unlike -/
structure Nms (ys : List Str) : Prop where
  l1 : 1 ≤ ys.length
  l3 : ys.length ≤ 3
  nd : ys.Nodup
  ok : ∀ y ∈ ys, NmS y
theorem deck_ne {H : Hp} {d c p : Addr} (D : DeckAt H d c) (hp : H p = none) : p ≠ d ∧ p ≠ c := by
  obtain ⟨n, cs, hd, hc, _⟩ := D.ex
  exact ⟨(fun e => by rw [← e, hp] at hd; cases hd), (fun e => by rw [← e, hp] at hc; cases hc)⟩
theorem off_put {d c p : Addr} {H H2 : Hp} {o : HO} (h : Off d c H H2) (hp : H p = none) : Off d c H (upd H2 p o) := fun b u e h1 h2 => by
  rw [upd_ne (ne_of_none e hp)]
  exact h b u e h1 h2
theorem deck_put {d c p : Addr} {H : Hp} {o : HO} (D : DeckAt H d c) (h : p ≠ d ∧ p ≠ c) : DeckAt (upd H p o) d c := by
  obtain ⟨n, cs, hd, hc, h1, h2⟩ := D.ex
  exact ⟨n, cs, by rw [upd_ne h.1.symm]; exact hd, by rw [upd_ne h.2.symm]; exact hc, h1, h2⟩
/-- while, the word told of each turn -/
theorem while_w {c : TT} {tb : TS} {D : Ends} {σ : St} {H : Hp} (Pv : St → Hp → Prop) (μ : St → Hp → Nat) (h0 : Pv σ H)
    (hs : ∀ σ H, Pv σ H → c σ H fun b H1 => if b = true then ∃ N : St → Hp → Prop, (∀ σ' H', N σ' H' → ∃ m', m' < μ σ H ∧ m' = μ σ' H' ∧ Pv σ' H') ∧ tb { D with nx := N, ct := N, bk := D.nx } σ H1 else D.nx σ H1) : tWhile c tb D σ H := by
  refine ⟨fun m σ H => m = μ σ H ∧ Pv σ H, ⟨_, rfl, h0⟩, ?_⟩
  rintro m σ H ⟨rfl, p⟩
  exact hs σ H p
/-- all that was tracked is as it was, but for the deck and what stands at hv -/
def Off3 (d c hv : Addr) (H H' : Hp) : Prop := ∀ b o, H b = some o → b ≠ d → b ≠ c → b ≠ hv → H' b = some o
theorem off3_trans {d c hv : Addr} {H H1 H2 : Hp} (x : Off3 d c hv H H1) (y : Off d c H1 H2) : Off3 d c hv H H2 := fun b o h h1 h2 h3 => y b o (x b o h h1 h2 h3) h1 h2
theorem off3_put {d c hv p : Addr} {H H2 : Hp} {o : HO} (h : Off3 d c hv H H2) (hp : H p = none) : Off3 d c hv H (upd H2 p o) := fun b u e h1 h2 h3 => by
  rw [upd_ne (ne_of_none e hp)]
  exact h b u e h1 h2 h3
theorem off3_hv {d c hv : Addr} {H H2 : Hp} {o : HO} (h : Off3 d c hv H H2) : Off3 d c hv H (upd H2 hv o) := fun b u e h1 h2 h3 => by
  rw [upd_ne h3]
  exact h b u e h1 h2 h3
theorem deck_strs {H : Hp} {d c p : Addr} {ys : List Str} (D : DeckAt H d c) (hp : H p = some (.lst (ys.map V.str))) (h1 : 1 ≤ ys.length) : p ≠ d ∧ p ≠ c := by
  obtain ⟨n, cs, hd, hc, c1, _⟩ := D.ex
  match ys, h1 with
  | y :: r, _ =>
    constructor
    · refine ne_of hp hd ?_
      intro z
      injection z with z
      rw [List.map_cons] at z
      injection z with z _
      cases z
    · refine ne_of hp hc ?_
      intro z
      injection z with z
      match cs, c1 with
      | q :: cs, _ =>
        rw [List.map_cons, List.map_cons] at z
        injection z with z _
        cases z
theorem deck_one {H : Hp} {d c p : Addr} {n : Int} (D : DeckAt H d c) (hp : H p = some (.lst [.int n])) (hne : p ≠ c) : p ≠ d ∧ p ≠ c := by
  obtain ⟨m, cs, hd, hc, c1, _⟩ := D.ex
  exact ⟨ne_of hp hd (by intro z; injection z with z; injection z with z _; cases z), hne⟩
/-- a leaf: a name, or a number below 1000 -/
def LeafOk (ys : List Str) (v : V) : Prop := (∃ y ∈ ys, v = .str y) ∨ ∃ z : Int, v = .int z ∧ 0 ≤ z ∧ z < 1000
def sumT : List (Str × Nat) := [("not", 1), ("neg", 1), ("twice", 1), ("low", 1), ("and", 2), ("or", 2), ("odd", 2), ("add", 2), ("sub", 2), ("pick", 3)]
def sumW : List Str := sumT.map (·.1)
def partsS (y : Str) : Nat := ((sumT.find? fun p => decide (p.1 = y)).map (·.2)).getD 0
def partsV : V → Nat
  | .str y => partsS y
  | _ => 0
def WordOk (ys : List Str) (v : V) : Prop := (∃ y, v = .str y ∧ y ∈ sumW) ∨ LeafOk ys v
theorem LeafOk.word {ys : List Str} {v : V} (h : LeafOk ys v) : WordOk ys v := .inr h
theorem sum_kept : ∀ y ∈ sumW, y ∈ keptS := by decide +kernel
theorem parts_name {y : Str} (h : y ∉ keptS) : partsS y = 0 := by
  unfold partsS
  have e : sumT.find? (fun p => decide (p.1 = y)) = none := by
    rw [List.find?_eq_none]
    intro p hp hq
    exact h (sum_kept y (by rw [← of_decide_eq_true hq]; exact List.mem_map_of_mem hp))
  rw [e]
  rfl
theorem LeafOk.parts {ys : List Str} {v : V} (h : LeafOk ys v) (N : Nms ys) : partsV v = 0 := by
  rcases h with ⟨y, hy, rfl⟩ | ⟨z, rfl, _⟩
  · exact parts_name (N.ok y hy).k
  · rfl
/-- the words ws lead from d sums that lack to e of them -/
inductive Pre : Nat → List V → Nat → Prop
  | nil {d : Nat} : Pre d [] d
  | cons {d e : Nat} {w : V} {r : List V} : 0 < d → Pre (d - 1 + partsV w) r e → Pre d (w :: r) e
theorem Pre.snoc {d e : Nat} {ws : List V} {w : V} (h : Pre d ws e) (he : 0 < e) : Pre d (ws ++ [w]) (e - 1 + partsV w) := by
  induction h with
  | nil => exact .cons he .nil
  | cons hd _ ih => exact .cons hd (ih he)
structure SumW (ys : List Str) (ws : List V) : Prop where
  pre : Pre 1 ws 0
  ok : ∀ w ∈ ws, WordOk ys w
def drawW : List Str := ["pick", "and", "or", "odd", "add", "sub", "not", "neg", "twice", "low", ""]
def drawM : List Int := [3, 2, 2, 2, 2, 2, 1, 1, 1, 1, 99]
def heavyW : List Str := ["add", "sub", "neg", "twice", "low"]
theorem atI_drawW {j : Nat} (hj : j < 11) : atI (drawW.map V.str) (j : Int) = some (.str (drawW.getD j "")) := by
  refine atI_nat ?_
  rw [List.getElem?_map, List.getElem?_eq_getElem (show j < drawW.length from hj), List.getD_eq_getElem?_getD, List.getElem?_eq_getElem (show j < drawW.length from hj)]
  rfl
theorem atI_drawM {j : Nat} (hj : j < 11) : atI (drawM.map V.int) (j : Int) = some (.int (drawM.getD j 0)) := atI_ints j rfl hj
theorem draw_fact : ∀ j, j < 11 → (drawW.getD j "" = "" ∧ drawM.getD j 0 = 99) ∨ ∃ m3 : Nat, drawM.getD j 0 = (m3 : Int) ∧ partsV (.str (drawW.getD j "")) = m3 ∧ drawW.getD j "" ∈ sumW ∧ m3 ≤ 3 := by
  have h : ∀ j, j < 11 → (drawW.getD j "" = "" ∧ drawM.getD j 0 = 99) ∨ (drawM.getD j 0 = ((partsS (drawW.getD j "") : Nat) : Int) ∧ drawW.getD j "" ∈ sumW ∧ partsS (drawW.getD j "") ≤ 3) := by decide +kernel
  intro j hj
  rcases h j hj with z | ⟨h1, h2, h3⟩
  · exact .inl z
  · exact .inr ⟨_, h1, rfl, h2, h3⟩

def T1 : List (Str × Int) := [("not", 1), ("neg", 1), ("twice", 1), ("low", 1), ("and", 2), ("or", 2), ("odd", 2), ("add", 2), ("sub", 2), ("pick", 3)]
def T2 : List (Str × Int) := [("same", 2), ("under", 2), ("beneath", 2), ("sign", 1), ("nought", 1)]
def T3 : List (Str × Int) := [("both", 2), ("either", 2), ("so", 2), ("never", 1), ("yes", 0)]
def claimW : List Str := ["same", "under", "beneath", "sign", "nought", "both", "either", "so", "never", "yes"]
theorem kv_has (l : List (Str × Int)) (y : Str) : (valV (kvsOf l) (.inr y)).isSome = decide (y ∈ l.map (·.1)) := by
  induction l with
  | nil => rfl
  | cons p r ih =>
    by_cases h : p.1 = y
    · have e : valV (kvsOf (p :: r)) (.inr y) = some (.int p.2) := valV_pos (p := ((Sum.inr p.1 : Key), V.int p.2)) (by rw [h])
      rw [e, List.map_cons, decide_eq_true (by rw [h]; exact List.mem_cons_self)]
      rfl
    · have e : valV (kvsOf (p :: r)) (.inr y) = valV (kvsOf r) (.inr y) := valV_neg (p := ((Sum.inr p.1 : Key), V.int p.2)) (fun z => h (Sum.inr.inj z))
      rw [e, ih, List.map_cons]
      by_cases m : y ∈ r.map (·.1)
      · rw [decide_eq_true m, decide_eq_true (List.mem_cons_of_mem _ m)]
      · rw [decide_eq_false m, decide_eq_false (fun z => (List.mem_cons.mp z).elim (fun q => h q.symm) m)]
/-- what D.get(word, 0) tells -/
def getN : List (Str × Int) → Key → Int
  | [], _ => 0
  | p :: r, k => if (Sum.inr p.1 : Key) = k then p.2 else getN r k
theorem kget (l : List (Str × Int)) (k : Key) : (valV (kvsOf l) k).getD (.int 0) = .int (getN l k) := by
  induction l with
  | nil => rfl
  | cons p r ih =>
    unfold getN
    by_cases h : (Sum.inr p.1 : Key) = k
    · have e : valV (kvsOf (p :: r)) k = some (.int p.2) := valV_pos (p := ((Sum.inr p.1 : Key), V.int p.2)) h
      rw [e, if_pos h]
      rfl
    · have e : valV (kvsOf (p :: r)) k = valV (kvsOf r) k := valV_neg (p := ((Sum.inr p.1 : Key), V.int p.2)) h
      rw [e, ih, if_neg h]
theorem getN_int (l : List (Str × Int)) (i : Int) : getN l (.inl i) = 0 := by
  induction l with
  | nil => rfl
  | cons p r ih =>
    unfold getN
    rw [if_neg (fun z => nomatch z), ih]
theorem getN_none {l : List (Str × Int)} {y : Str} (h : y ∉ l.map (·.1)) : getN l (.inr y) = 0 := by
  induction l with
  | nil => rfl
  | cons p r ih =>
    unfold getN
    rw [List.map_cons] at h
    rw [if_neg (fun z => h (by rw [← Sum.inr.inj z]; exact List.mem_cons_self)), ih (fun z => h (List.mem_cons_of_mem _ z))]
def allParts (k : Key) : Int := getN T1 k + getN T2 k + getN T3 k
theorem tw1 : T1.map (·.1) = sumW := by decide +kernel
theorem kept_of : ∀ y, y ∈ keptS ↔ y ∈ sumW ∨ y ∈ claimW := by
  intro y
  have e : keptS = sumW ++ claimW := by decide +kernel
  rw [e, List.mem_append]
theorem tab_kept : (∀ y ∈ T1.map (·.1), y ∈ keptS) ∧ (∀ y ∈ T2.map (·.1), y ∈ keptS) ∧ ∀ y ∈ T3.map (·.1), y ∈ keptS := by decide +kernel
theorem parts_sum : ∀ y ∈ sumW, allParts (.inr y) = partsS y := by decide +kernel
def keyOf : V → Key
  | .int i => .inl i
  | .str y => .inr y
  | _ => .inl 0
theorem allParts_word {ys : List Str} (N : Nms ys) {w : V} (h : WordOk ys w) : w = kV (keyOf w) ∧ allParts (keyOf w) = partsV w := by
  rcases h with ⟨y, rfl, hy⟩ | ⟨y, hy, rfl⟩ | ⟨z, rfl, _⟩
  · exact ⟨rfl, parts_sum y hy⟩
  · have hk := (N.ok y hy).k
    refine ⟨rfl, ?_⟩
    show allParts (.inr y) = partsS y
    rw [parts_name hk]
    unfold allParts
    rw [getN_none fun z => hk (tab_kept.1 y z), getN_none fun z => hk (tab_kept.2.1 y z), getN_none fun z => hk (tab_kept.2.2 y z)]
    rfl
  · refine ⟨rfl, ?_⟩
    show allParts (.inl z) = 0
    unfold allParts
    rw [getN_int, getN_int, getN_int]
    rfl
/-- a sign in a text -/
theorem occ_mem (x : Str) (c : Nat) : (!(Builtin.Str.occurrences x ⟨#[c]⟩ 0 x.length 1).isEmpty) = decide (c ∈ x.cps.toList) := by
  have h := PyProof.Rows.in_closes (x := x) (c := c) rfl rfl
  rw [beq_iff_eq] at h
  rw [h]
  by_cases m : c ∈ x.cps.toList
  · rw [decide_eq_true m, decide_eq_true ((PyProof.Rows.countIn_signs c _).mpr m)]
  · rw [decide_eq_false m, decide_eq_false (fun z => m ((PyProof.Rows.countIn_signs c _).mp z))]
def figS : Str := "0123456789"
def MadeOf (y sg : Str) : Prop := y.cps.toList ≠ [] ∧ ∀ c ∈ y.cps.toList, c ∈ sg.cps.toList
instance (y sg : Str) : Decidable (MadeOf y sg) := inferInstanceAs (Decidable (_ ∧ _))
theorem all_bs (l : List Nat) (p : Nat → Bool) : (l.map p).all id = decide (∀ c ∈ l, p c = true) := by
  rw [Bool.eq_iff_iff, List.all_eq_true, decide_eq_true_iff]
  constructor
  · intro h c hc
    exact h _ (List.mem_map_of_mem hc)
  · intro h b hb
    obtain ⟨c, hc, rfl⟩ := List.mem_map.mp hb
    exact h c hc
theorem nil_signs {y : Str} : y.cps.toList = [] ↔ y = ("" : Str) := by
  constructor
  · intro h
    obtain ⟨a⟩ := y
    have : a = #[] := by
      apply Array.toList_inj.mp
      simpa using h
    subst this
    decide +kernel
  · rintro rfl
    decide +kernel
def figB (y : Str) : Bool := decide (MadeOf y figS) && (decide (V.str y = V.str "0") || !(decide (0 + ("0" : Str).length ≤ y.length) && Builtin.Str.subAt y "0" 0))

def shw : V → Str
  | .str y => y
  | .int z => Str.ofString (toString z)
  | _ => ""
theorem low_fig : ∀ c ∈ lowS.cps.toList, c ∉ figS.cps.toList := by decide +kernel
theorem fig_sum : ∀ y ∈ sumW, figB y = false := by decide +kernel
theorem fig_name {y : Str} (h : NmL y) : figB y = false := by
  unfold figB
  rw [decide_eq_false, Bool.false_and]
  rintro ⟨h1, h2⟩
  cases e : y.cps.toList with
  | nil => exact h1 e
  | cons c r =>
    have hc : c ∈ y.cps.toList := by rw [e]; exact List.mem_cons_self
    exact low_fig c (h.2 c hc) (h2 c hc)
theorem fig_num : ∀ n, n < 1000 → figB (Str.ofString (toString ((n : Nat) : Int))) = true := by decide +kernel
theorem num_short : ∀ n, n < 1000 → (Str.ofString (toString ((n : Nat) : Int))).length ≤ 3 := by decide +kernel
theorem num_free : ∀ n, n < 1000 → 32 ∉ (Str.ofString (toString ((n : Nat) : Int))).cps.toList := by decide +kernel
theorem sum_free : ∀ y ∈ sumW, 32 ∉ y.cps.toList ∧ y.length ≤ 5 := by decide +kernel
theorem low_32 : ¬ Low 32 := by decide +kernel
theorem shw_ok {ys : List Str} (N : Nms ys) {w : V} (h : WordOk ys w) : 32 ∉ (shw w).cps.toList ∧ (shw w).length ≤ 8 := by
  rcases h with ⟨y, rfl, hy⟩ | ⟨y, hy, rfl⟩ | ⟨z, rfl, h0, h1⟩
  · have := sum_free y hy
    exact ⟨this.1, by show y.length ≤ 8; omega⟩
  · have := (N.ok y hy).l
    exact ⟨fun z => low_32 (this.2 _ z), this.1.2⟩
  · obtain ⟨n, rfl⟩ : ∃ n : Nat, z = (n : Int) := ⟨z.toNat, by omega⟩
    have := num_short n (by omega)
    exact ⟨num_free n (by omega), by show (Str.ofString (toString ((n : Nat) : Int))).length ≤ 8; omega⟩
def blank : Str := " "
theorem blank_is : blank = ⟨#[32]⟩ := by decide +kernel
theorem cut_first {a b a' b' : List Nat} (h : a ++ 32 :: b = a' ++ 32 :: b') (ha : 32 ∉ a) (ha' : 32 ∉ a') : a = a' ∧ b = b' := by
  induction a generalizing a' with
  | nil =>
    cases a' with
    | nil =>
      injection h with _ h
      exact ⟨rfl, h⟩
    | cons c r =>
      rw [List.nil_append, List.cons_append] at h
      injection h with h _
      exact absurd (by rw [← h]; exact List.mem_cons_self) ha'
  | cons c r ih =>
    cases a' with
    | nil =>
      rw [List.nil_append, List.cons_append] at h
      injection h with h _
      exact absurd (by rw [h]; exact List.mem_cons_self) ha
    | cons c' r' =>
      rw [List.cons_append, List.cons_append] at h
      injection h with h1 h2
      obtain ⟨e1, e2⟩ := ih h2 (fun z => ha (List.mem_cons_of_mem _ z)) (fun z => ha' (List.mem_cons_of_mem _ z))
      exact ⟨by rw [h1, e1], e2⟩
theorem str_ext {a b : Str} (h : a.cps.toList = b.cps.toList) : a = b := by
  obtain ⟨x⟩ := a
  obtain ⟨y⟩ := b
  have : x = y := Array.toList_inj.mp h
  rw [this]
theorem join_two (x y : Str) (r : List Str) : (Str.join blank (x :: y :: r)).cps.toList = x.cps.toList ++ 32 :: (Str.join blank (y :: r)).cps.toList := by
  show (x ++ blank ++ Str.join blank (y :: r)).cps.toList = _
  rw [app_signs, app_signs, blank_is, List.append_assoc]
  rfl
theorem join_inj : ∀ {ys zs : List Str}, ys ≠ [] → zs ≠ [] → (∀ y ∈ ys, 32 ∉ y.cps.toList) → (∀ z ∈ zs, 32 ∉ z.cps.toList) → Str.join blank ys = Str.join blank zs → ys = zs
  | [], _, h, _, _, _, _ => absurd rfl h
  | _, [], _, h, _, _, _ => absurd rfl h
  | [y], [z], _, _, _, _, e => by
    have : y = z := e
    rw [this]
  | [y], z :: z' :: r, _, _, hy, _, e => by
    exfalso
    have e' : y.cps.toList = (Str.join blank (z :: z' :: r)).cps.toList := by rw [← e]; rfl
    rw [join_two] at e'
    exact hy y List.mem_cons_self (by rw [e']; exact List.mem_append_right _ List.mem_cons_self)
  | y :: y' :: r, [z], _, _, _, hz, e => by
    exfalso
    have e' : (Str.join blank (y :: y' :: r)).cps.toList = z.cps.toList := by rw [e]; rfl
    rw [join_two] at e'
    exact hz z List.mem_cons_self (by rw [← e']; exact List.mem_append_right _ List.mem_cons_self)
  | y :: y' :: r, z :: z' :: r', _, _, hy, hz, e => by
    have e' : (Str.join blank (y :: y' :: r)).cps.toList = (Str.join blank (z :: z' :: r')).cps.toList := by rw [e]
    rw [join_two, join_two] at e'
    obtain ⟨e1, e2⟩ := cut_first e' (hy y List.mem_cons_self) (hz z List.mem_cons_self)
    have ih := join_inj (ys := y' :: r) (zs := z' :: r') (fun z => nomatch z) (fun z => nomatch z) (fun y h => hy y (List.mem_cons_of_mem _ h)) (fun y h => hz y (List.mem_cons_of_mem _ h)) (str_ext e2)
    rw [str_ext e1, ih]
theorem split_ne (x y : Str) : Txt.split x y ≠ [] := by
  intro h
  have := PySem.StrLaws.join_split x y
  unfold Txt.split at h
  split at h
  · cases h
  · split at h
    · cases h
    · have e := congrArg List.length h
      rw [PyProof.Rows.len_partsBetween] at e
      cases e
theorem split_join {ys : List Str} (h1 : ys ≠ []) (h2 : ∀ y ∈ ys, 32 ∉ y.cps.toList) : Txt.split (Txt.join blank ys) blank = ys := by
  have ej : Txt.join blank ys = Str.join blank ys := StrLaws.glued_eq_join blank ys
  rw [ej]
  refine join_inj (split_ne _ _) h1 ?_ h2 (PySem.StrLaws.join_split _ _)
  rw [blank_is]
  exact PySem.StrLaws.split_free _ 32
def dueN (d : Nat) (ws : List V) : Nat := ws.foldl (fun d w => d - 1 + partsV w) d
theorem dueN_snoc (d : Nat) (ws : List V) (w : V) : dueN d (ws ++ [w]) = dueN d ws - 1 + partsV w := by
  unfold dueN
  rw [List.foldl_append]
  rfl
theorem Pre.due {d e : Nat} {ws : List V} (h : Pre d ws e) : dueN d ws = e ∧ ∀ i, i < ws.length → 0 < dueN d (ws.take i) := by
  induction h with
  | nil => exact ⟨rfl, fun i hi => absurd hi (Nat.not_lt_zero _)⟩
  | @cons d e w r hd _ ih =>
    refine ⟨ih.1, fun i hi => ?_⟩
    cases i with
    | zero => exact hd
    | succ i => exact ih.2 i (Nat.lt_of_succ_lt_succ hi)
theorem parts_short {x y : Str} (h : x.length ≤ 1000) : (Builtin.Str.partsBetween x (Builtin.Str.occurrences x y 0 x.length (x.length + 1)) y.length).length ≤ sizeLine := by
  rw [PyProof.Rows.len_partsBetween]
  have := PySem.StrLaws.occ_length_le x y 0 x.length (x.length + 1)
  exact Nat.le_trans (show _ ≤ 2000 by omega) (by decide)

def nmB : V → Bool
  | .str y => decide (y ∉ keptS ∧ NmL y)
  | _ => false
def strV : V → Str
  | .str y => y
  | _ => ""
def StrInt (w : V) : Prop := (∃ y, w = .str y ∧ y.length ≤ 1000) ∨ ∃ z, w = .int z
theorem onces_len (ys : List Str) : (onces ys).length ≤ ys.length := by
  have h : ∀ (ys S : List Str), (ys.foldl ins S).length ≤ S.length + ys.length := by
    intro ys
    induction ys with
    | nil => intro S; exact Nat.le_refl _
    | cons y r ih =>
      intro S
      have h1 := ih (ins S y)
      have h2 : (ins S y).length ≤ S.length + 1 := by
        unfold ins; split
        · omega
        · rw [List.length_append]; exact Nat.le_refl _
      rw [List.foldl_cons, List.length_cons]
      omega
  have := h ys []
  rw [List.length_nil, Nat.zero_add] at this
  exact this
theorem nm_strs (ws : List V) : ((ws.filter nmB).map strV).map V.str = ws.filter nmB := by
  rw [List.map_map]
  refine (List.map_congr_left (g := id) fun w hw => ?_).trans (List.map_id _)
  have h := (List.mem_filter.mp hw).2
  cases w with
  | str y => rfl
  | _ => cases h
theorem flat_si {ws : List V} (h : ∀ w ∈ ws, StrInt w) : ws.all flatV = true := by
  rw [List.all_eq_true]
  intro w hw
  rcases h w hw with ⟨y, rfl, _⟩ | ⟨z, rfl⟩ <;> rfl
theorem SumW.si {ys : List Str} {ws : List V} (W : SumW ys ws) (N : Nms ys) : ∀ w ∈ ws, StrInt w := by
  intro w hw
  rcases W.ok w hw with ⟨y, rfl, hy⟩ | ⟨y, hy, rfl⟩ | ⟨z, rfl, _⟩
  · have := (sum_free y hy).2
    exact .inl ⟨y, rfl, by omega⟩
  · have := (N.ok y hy).l.1.2
    exact .inl ⟨y, rfl, by omega⟩
  · exact .inr ⟨z, rfl⟩
theorem num_log {z : Int} (h0 : 0 ≤ z) (h1 : z < 1000) : z.natAbs.log2 < 1920 := by
  by_cases h : z.natAbs = 0
  · rw [h]; decide
  · rw [Nat.log2_lt h]
    have : z.natAbs < 2 ^ 10 := by omega
    exact Nat.lt_of_lt_of_le this (Nat.pow_le_pow_right (by decide) (by decide))
theorem shw_read {ys : List Str} {w : V} (h : WordOk ys w) {H : Hp} {R : VK} (hR : R (.str (shw w)) H) : (∃ z, [w] = [V.str z] ∧ R (.str z) H) ∨ ∃ i, [w] = [V.int i] ∧ i.natAbs.log2 < 1920 ∧ R (.str (Str.ofString (toString i))) H := by
  rcases h with ⟨y, rfl, hy⟩ | ⟨y, hy, rfl⟩ | ⟨z, rfl, h0, h1⟩
  · exact .inl ⟨y, rfl, hR⟩
  · exact .inl ⟨y, rfl, hR⟩
  · exact .inr ⟨z, rfl, num_log h0 h1, hR⟩
theorem sum_le8 : ∀ {ys : List Str}, (∀ y ∈ ys, y.length ≤ 8) → (ys.map (·.length)).sum ≤ 8 * ys.length
  | [], _ => Nat.le_refl _
  | y :: r, h => by
    have h1 := h y List.mem_cons_self
    have h2 := sum_le8 (ys := r) fun z hz => h z (List.mem_cons_of_mem _ hz)
    rw [List.map_cons, List.sum_cons, List.length_cons]
    omega
theorem shw_size {ys : List Str} (N : Nms ys) {ws : List V} (h : ∀ w ∈ ws, WordOk ys w) (hl : ws.length ≤ 100) : ((ws.map shw).map (fun x => x.length)).sum + (ws.map shw).length * (" " : Str).length ≤ 16777216 := by
  have h1 := sum_le8 (ys := ws.map shw) (fun y hy => by
    obtain ⟨w, hw, rfl⟩ := List.mem_map.mp hy
    exact (shw_ok N (h w hw)).2)
  have h2 : (" " : Str).length = 1 := by decide +kernel
  rw [List.length_map] at h1
  rw [List.length_map, h2]
  show ((ws.map shw).map (·.length)).sum + _ ≤ _
  omega
theorem inV_mem {y : Str} : ∀ {ws : List V}, inV (.str y) ws = true ↔ V.str y ∈ ws
  | [] => ⟨(fun h => nomatch h), (fun h => nomatch h)⟩
  | w :: r => by
    have e : inV (.str y) (w :: r) = (eqV w (.str y) || inV (.str y) r) := rfl
    have h1 : eqV w (.str y) = true ↔ V.str y = w := by
      cases w with
      | str z =>
        show (z == y) = true ↔ _
        rw [beq_iff_eq]
        exact ⟨fun h => by rw [h], fun h => by injection h with h; exact h.symm⟩
      | _ => exact ⟨(fun h => nomatch h), (fun h => nomatch h)⟩
    rw [e, Bool.or_eq_true, h1, inV_mem (ws := r), List.mem_cons]
theorem due_perm {ys : List Str} {ws : List V} (N : Nms ys) (W : SumW ys ws) : (ys.filter fun y => inV (.str y) ws).Perm (onces ((ws.filter nmB).map strV)) := by
  refine nodup_perm (N.nd.filter _) (onces_nodup _) fun y => ?_
  rw [List.mem_filter, mem_onces, inV_mem]
  constructor
  · rintro ⟨h1, h2⟩
    refine List.mem_map.mpr ⟨.str y, List.mem_filter.mpr ⟨h2, ?_⟩, rfl⟩
    exact decide_eq_true ⟨(N.ok y h1).k, (N.ok y h1).l⟩
  · intro h
    obtain ⟨w, hw, rfl⟩ := List.mem_map.mp h
    obtain ⟨h1, h2⟩ := List.mem_filter.mp hw
    rcases W.ok w h1 with ⟨y, rfl, hy⟩ | ⟨y, hy, rfl⟩ | ⟨z, rfl, _⟩
    · exact absurd (sum_kept y hy) (of_decide_eq_true h2 : _ ∧ _).1
    · exact ⟨hy, h1⟩
    · cases h2
theorem nms_of {ys : List Str} (h1 : 1 ≤ ys.length) (h3 : ys.length ≤ 3) (hn : ys.Nodup) (h : ∀ y ∈ ys, NmL y ∧ y ∉ keptS) : Nms ys := ⟨h1, h3, hn, fun y hy => ⟨(h y hy).1, (h y hy).2⟩⟩
def CWord (ys : List Str) (w : V) : Prop := WordOk ys w ∨ ∃ y, w = .str y ∧ y ∈ claimW
theorem claim_free : ∀ y ∈ claimW, 32 ∉ y.cps.toList ∧ y.length ≤ 8 := by decide +kernel
theorem cshw_ok {ys : List Str} (N : Nms ys) {w : V} (h : CWord ys w) : 32 ∉ (shw w).cps.toList ∧ (shw w).length ≤ 8 := by
  rcases h with h | ⟨y, rfl, hy⟩
  · exact shw_ok N h
  · exact claim_free y hy
theorem word_si {ys : List Str} (N : Nms ys) {w : V} (h : WordOk ys w) : StrInt w := by
  rcases h with ⟨y, rfl, hy⟩ | ⟨y, hy, rfl⟩ | ⟨z, rfl, _⟩
  · have := (sum_free y hy).2
    exact .inl ⟨y, rfl, by omega⟩
  · have := (N.ok y hy).l.1.2
    exact .inl ⟨y, rfl, by omega⟩
  · exact .inr ⟨z, rfl⟩
theorem cshw_read {ys : List Str} {w : V} (h : CWord ys w) {H : Hp} {R : VK} (hR : R (.str (shw w)) H) : (∃ z, [w] = [V.str z] ∧ R (.str z) H) ∨ ∃ i, [w] = [V.int i] ∧ i.natAbs.log2 < 1920 ∧ R (.str (Str.ofString (toString i))) H := by
  rcases h with h | ⟨y, rfl, hy⟩
  · exact shw_read h hR
  · exact .inl ⟨y, rfl, hR⟩
theorem cshw_size {ys : List Str} (N : Nms ys) {ws : List V} (h : ∀ w ∈ ws, CWord ys w) (hl : ws.length ≤ 100) : ((ws.map shw).map (fun x => x.length)).sum + (ws.map shw).length * (" " : Str).length ≤ 16777216 := by
  have h1 := sum_le8 (ys := ws.map shw) (fun y hy => by
    obtain ⟨w, hw, rfl⟩ := List.mem_map.mp hy
    exact (cshw_ok N (h w hw)).2)
  have h2 : (" " : Str).length = 1 := by decide +kernel
  rw [List.length_map] at h1
  rw [List.length_map, h2]
  show ((ws.map shw).map (·.length)).sum + _ ≤ _
  omega
theorem claim_kept : ∀ y ∈ claimW, y ∈ keptS := by decide +kernel
def WB (ys : List Str) : Bool → V → Prop
  | true, w => ∃ y, w = .str y ∧ y ∈ claimW
  | false, w => WordOk ys w
theorem WB.cw {ys : List Str} {b : Bool} {w : V} (h : WB ys b w) : CWord ys w := by
  cases b with
  | true => exact .inr h
  | false => exact .inl h
def nSum (w : V) : Nat := (getN T1 (keyOf w) + getN T2 (keyOf w)).toNat
def nClm (w : V) : Nat := (getN T3 (keyOf w)).toNat
def nextK (w : V) : List Bool := List.replicate (nSum w) false ++ List.replicate (nClm w) true
inductive PreK (ys : List Str) : List Bool → List V → List Bool → Prop
  | nil {ls : List Bool} : PreK ys ls [] ls
  | cons {ls e : List Bool} {b : Bool} {w : V} {r : List V} : WB ys b w → PreK ys (ls ++ nextK w) r e → PreK ys (ls ++ [b]) (w :: r) e
theorem PreK.app {ys : List Str} {a b c : List Bool} {u v : List V} (h : PreK ys a u b) (g : PreK ys b v c) : PreK ys a (u ++ v) c := by
  induction h with
  | nil => exact g
  | cons hw _ ih => exact .cons hw (ih g)
theorem PreK.under {ys : List Str} {a b : List Bool} {u : List V} (p : List Bool) (h : PreK ys a u b) : PreK ys (p ++ a) u (p ++ b) := by
  induction h with
  | nil => exact .nil
  | cons hw _ ih =>
    rw [← List.append_assoc] at ih ⊢
    exact .cons hw ih
theorem PreK.words {ys : List Str} {a b : List Bool} {u : List V} (h : PreK ys a u b) : ∀ w ∈ u, CWord ys w := by
  induction h with
  | nil => exact fun _ h => nomatch h
  | cons hw _ ih =>
    intro x hx
    rcases List.mem_cons.mp hx with rfl | hx
    · exact hw.cw
    · exact ih x hx
theorem PreK.len {ys : List Str} {a b : List Bool} {u : List V} (h : PreK ys a u b) : a.length ≤ u.length + b.length := by
  induction h with
  | nil => omega
  | cons hw _ ih =>
    rw [List.length_append] at ih ⊢
    rw [List.length_cons, List.length_cons, List.length_nil]
    omega
theorem getN_bd {l : List (Str × Int)} (h : ∀ p ∈ l, 0 ≤ p.2 ∧ p.2 ≤ 3) (k : Key) : 0 ≤ getN l k ∧ getN l k ≤ 3 := by
  induction l with
  | nil => exact ⟨Int.le_refl _, (by decide : (0 : Int) ≤ 3)⟩
  | cons p r ih =>
    unfold getN
    split
    · exact h p List.mem_cons_self
    · exact ih fun q hq => h q (List.mem_cons_of_mem _ hq)
theorem T1_bd (k : Key) : 0 ≤ getN T1 k ∧ getN T1 k ≤ 3 := getN_bd (by decide +kernel) k
theorem T2_bd (k : Key) : 0 ≤ getN T2 k ∧ getN T2 k ≤ 3 := getN_bd (by decide +kernel) k
theorem T3_bd (k : Key) : 0 ≤ getN T3 k ∧ getN T3 k ≤ 3 := getN_bd (by decide +kernel) k
theorem sum_next : ∀ y ∈ sumW, nSum (.str y) = partsS y ∧ nClm (.str y) = 0 := by decide +kernel
theorem word_next {ys : List Str} (N : Nms ys) {w : V} (h : WordOk ys w) : nextK w = List.replicate (partsV w) false := by
  have hh : nSum w = partsV w ∧ nClm w = 0 := by
    rcases h with ⟨y, rfl, hy⟩ | ⟨y, hy, rfl⟩ | ⟨z, rfl, _⟩
    · exact sum_next y hy
    · have hk := (N.ok y hy).k
      have e1 := getN_none fun z => hk (tab_kept.1 y z)
      have e2 := getN_none fun z => hk (tab_kept.2.1 y z)
      have e3 := getN_none fun z => hk (tab_kept.2.2 y z)
      constructor
      · show (getN T1 (.inr y) + getN T2 (.inr y)).toNat = partsS y
        rw [parts_name hk, e1, e2]
        rfl
      · show (getN T3 (.inr y)).toNat = 0
        rw [e3]
        rfl
    · constructor
      · show (getN T1 (.inl z) + getN T2 (.inl z)).toNat = 0
        rw [getN_int, getN_int]
        rfl
      · show (getN T3 (.inl z)).toNat = 0
        rw [getN_int]
        rfl
  unfold nextK
  rw [hh.1, hh.2, List.replicate_zero, List.append_nil]
theorem cword_key {ys : List Str} {w : V} (h : CWord ys w) : w = kV (keyOf w) := by
  rcases h with (⟨y, rfl, hy⟩ | ⟨y, hy, rfl⟩ | ⟨z, rfl, _⟩) | ⟨y, rfl, hy⟩ <;> rfl
theorem pre_preK {ys : List Str} (N : Nms ys) {d e : Nat} {ws : List V} (h : Pre d ws e) (ok : ∀ w ∈ ws, WordOk ys w) : PreK ys (List.replicate d false) ws (List.replicate e false) := by
  induction h with
  | nil => exact .nil
  | @cons d e w r hd _ ih =>
    have hw := ok w List.mem_cons_self
    have e1 : List.replicate d false = List.replicate (d - 1) false ++ [false] := by
      rw [← List.replicate_succ', Nat.sub_add_cancel hd]
    rw [e1]
    refine .cons (b := false) hw ?_
    rw [word_next N hw, List.replicate_append_replicate]
    exact ih fun x hx => ok x (List.mem_cons_of_mem _ hx)
theorem SumW.preK {ys : List Str} {ws : List V} (W : SumW ys ws) (N : Nms ys) : PreK ys [false] ws [] := pre_preK N W.pre W.ok
def ClaimW (ys : List Str) (ws : List V) : Prop := PreK ys [true] ws []
theorem PreK.ne {ys : List Str} {a : List Bool} {ws : List V} (h : PreK ys a ws []) (ha : a ≠ []) : ws ≠ [] := by
  intro e
  subst e
  cases h
  exact ha rfl
theorem ClaimW.ne {ys : List Str} {ws : List V} (h : ClaimW ys ws) : ws ≠ [] := PreK.ne h (by simp)
theorem cw_one {ys : List Str} {y : Str} (hy : y ∈ claimW) : PreK ys [true] [.str y] (nextK (.str y)) := PreK.cons (ls := []) (b := true) ⟨y, rfl, hy⟩ .nil
def joinW : List Str := ["both", "either", "so"]
theorem join_fact : ∀ y ∈ joinW, y ∈ claimW ∧ nextK (.str y) = [true, true] := by decide +kernel
theorem never_fact : ("never" : Str) ∈ claimW ∧ nextK (.str "never") = [true] := by decide +kernel
theorem yes_fact : ("yes" : Str) ∈ claimW ∧ nextK (.str "yes") = [] := by decide +kernel
theorem ClaimW.never {ys : List Str} {ws : List V} (h : ClaimW ys ws) : ClaimW ys (.str "never" :: ws) := by
  refine PreK.cons (ls := []) (b := true) ⟨_, rfl, never_fact.1⟩ ?_
  rw [never_fact.2]
  exact h
theorem ClaimW.yes {ys : List Str} : ClaimW ys [.str "yes"] := by
  have := cw_one (ys := ys) yes_fact.1
  rw [yes_fact.2] at this
  exact this
theorem ClaimW.join {ys : List Str} {y : Str} (hy : y ∈ joinW) {us vs : List V} (h : ClaimW ys us) (g : ClaimW ys vs) : ClaimW ys (.str y :: (us ++ vs)) := by
  refine PreK.cons (ls := []) (b := true) ⟨_, rfl, (join_fact y hy).1⟩ ?_
  rw [(join_fact y hy).2]
  exact (PreK.under [true] h).app g
theorem tup_ne {H : Hp} {d c t : Addr} {ws : List V} (D : DeckAt H d c) (h : H t = some (.tup ws)) : t ≠ d ∧ t ≠ c := by
  obtain ⟨n, cs, hd, hc, _⟩ := D.ex
  exact ⟨ne_of h hd (fun z => nomatch z), ne_of h hc (fun z => nomatch z)⟩
/-- what a drawing keeps: the deck, the list of names, the room for heavy words -/
structure Dr (d c p hv : Addr) (ys : List Str) (H0 H : Hp) : Prop where
  D : DeckAt H d c
  p : H p = some (.lst (ys.map V.str))
  h : ∃ n : Int, H hv = some (.lst [.int n])
  o : Off3 d c hv H0 H
theorem Dr.tup {d c p hv : Addr} {ys : List Str} {H0 H H' : Hp} (R : Dr d c p hv ys H0 H) {t : Addr} {ws : List V} (h : H t = some (.tup ws)) (R' : Off3 d c hv H H') : H' t = some (.tup ws) := by
  obtain ⟨n, hn⟩ := R.h
  exact R' _ _ h (tup_ne R.D h).1 (tup_ne R.D h).2 (ne_of h hn (fun z => nomatch z))
theorem strs_ne_one {H : Hp} {p hv : Addr} {ys : List Str} {n : Int} (h1 : 1 ≤ ys.length) (hp : H p = some (.lst (ys.map V.str))) (hh : H hv = some (.lst [.int n])) : p ≠ hv := ne_of hp hh (by
  intro z
  injection z with z
  match ys, h1 with
  | y :: r, _ =>
    rw [List.map_cons] at z
    injection z with z _
    cases z)
theorem Dr.same {d c p hv : Addr} {ys : List Str} {H0 H H' : Hp} (R : Dr d c p hv ys H0 H) (s : Same H H') : Dr d c p hv ys H0 H' := by
  obtain ⟨n, hn⟩ := R.h
  exact ⟨R.D.same s, s _ _ R.p, ⟨n, s _ _ hn⟩, off3_trans R.o (same_off d c s)⟩
theorem Dr.off {d c p hv : Addr} {ys : List Str} {H0 H H' : Hp} (N : Nms ys) (hvc : hv ≠ c) (R : Dr d c p hv ys H0 H) (D' : DeckAt H' d c) (s : Off d c H H') : Dr d c p hv ys H0 H' := by
  obtain ⟨n, hn⟩ := R.h
  have pn := deck_strs R.D R.p N.l1
  have hvn := deck_one R.D hn hvc
  exact ⟨D', s _ _ R.p pn.1 pn.2, ⟨n, s _ _ hn hvn.1 hvn.2⟩, off3_trans R.o s⟩
theorem off3_two {d c hv : Addr} {H H1 H2 : Hp} (x : Off3 d c hv H H1) (y : Off3 d c hv H1 H2) : Off3 d c hv H H2 := fun b o h h1 h2 h3 => y b o (x b o h h1 h2 h3) h1 h2 h3
theorem Dr.off3 {d c p hv : Addr} {ys : List Str} {H0 H H' : Hp} (N : Nms ys) (R : Dr d c p hv ys H0 H) (D' : DeckAt H' d c) (h' : ∃ n : Int, H' hv = some (.lst [.int n])) (s : Off3 d c hv H H') : Dr d c p hv ys H0 H' := by
  obtain ⟨n, hn⟩ := R.h
  have pn := deck_strs R.D R.p N.l1
  exact ⟨D', s _ _ R.p pn.1 pn.2 (strs_ne_one N.l1 R.p hn), h', off3_two R.o s⟩
/-- two tuples put together -/
theorem cat_read {K : PySem.W.Frag} {H : Hp} {a b : Addr} {xs ys : List V} {Q : VK} (ha : H a = some (.tup xs)) (hb : H b = some (.tup ys)) (hx : xs ≠ []) (hy : ys ≠ []) (hl : xs.length + ys.length ≤ 1000)
    (k : ∀ t H', H' t = some (.tup (xs ++ ys)) → Same H H' → Q (.ref t) H') : rCatT K (.ref a) (.ref b) H Q :=
  ⟨a, b, xs, ys, rfl, rfl, SqT.of ha, SqT.of hb, hx, Nat.le_of_lt (small1000 hl), (fun z => absurd z hy), fun _ p hp => k p _ upd_same (same_upd hp)⟩
theorem Dr.self {d c p hv : Addr} {ys : List Str} {H0 H : Hp} (R : Dr d c p hv ys H0 H) : Dr d c p hv ys H H := ⟨R.D, R.p, R.h, fun _ _ e _ _ _ => e⟩

def npw (w : V) : Nat := (allParts (keyOf w)).toNat
theorem allParts_bd (k : Key) : 0 ≤ allParts k ∧ allParts k ≤ 9 := by
  have h1 := T1_bd k
  have h2 := T2_bd k
  have h3 := T3_bd k
  unfold allParts
  omega
theorem npw_next (w : V) : (nextK w).length = npw w := by
  have h1 := T1_bd (keyOf w)
  have h2 := T2_bd (keyOf w)
  have h3 := T3_bd (keyOf w)
  unfold nextK npw nSum nClm allParts
  rw [List.length_append, List.length_replicate, List.length_replicate]
  omega
theorem rev_pop {stk : List V} {i : Nat} (h : i < stk.length) : (stk.drop i).reverse = (stk.drop (i + 1)).reverse ++ [stk[i]] := by
  rw [List.drop_eq_getElem_cons h, List.reverse_cons]
theorem last_snoc (l : List V) (y : V) : (l ++ [y])[(l ++ [y]).length - 1]? = some y := by
  rw [List.length_append, show ([y] : List V).length = 1 from rfl, Nat.add_sub_cancel, List.getElem?_append_right (Nat.le_refl _), Nat.sub_self]
  rfl
theorem rev_at {ws : List V} {i : Nat} {x : V} (h : ws.reverse[i]? = some x) : i < ws.length ∧ ws[ws.length - 1 - i]? = some x := by
  have hi : i < ws.length := by
    have := (List.getElem?_eq_some_iff.mp h).1
    rw [List.length_reverse] at this
    exact this
  refine ⟨hi, ?_⟩
  rw [List.getElem?_reverse hi] at h
  exact h
def LsAt (ys : List Str) (ws : List V) (ls : Nat → List Bool) : Prop := ls ws.length = [] ∧ ∀ i x, ws[i]? = some x → ∃ l0 b, ls i = l0 ++ [b] ∧ WB ys b x ∧ ls (i + 1) = l0 ++ nextK x
theorem PreK.at {ys : List Str} {a e : List Bool} {ws : List V} (h : PreK ys a ws e) (he : e = []) : ∃ ls, LsAt ys ws ls ∧ ls 0 = a := by
  induction h with
  | @nil ls =>
    subst he
    exact ⟨fun _ => [], ⟨rfl, fun i x hx => by simp at hx⟩, rfl⟩
  | @cons l0 e b w r hw _ ih =>
    obtain ⟨ls, ⟨h1, h2⟩, h0⟩ := ih he
    refine ⟨fun i => match i with | 0 => l0 ++ [b] | i + 1 => ls i, ⟨h1, fun i x hx => ?_⟩, rfl⟩
    cases i with
    | zero =>
      have : w = x := by simpa using hx
      subst this
      exact ⟨l0, b, rfl, hw, h0⟩
    | succ i => exact h2 i x (by simpa using hx)
def iV : V → Int
  | .int a => a
  | _ => 0
def bV : V → Bool
  | .bl b => b
  | _ => false
def oneV (y : Str) (a : Int) : Int := if y = "not" then Builtin.bitNot a else if y = "neg" then -a else if y = "twice" then a + a else Builtin.bitAnd a (-a)
def twoV (y : Str) (a b : Int) : Int := if y = "and" then Builtin.bitAnd a b else if y = "or" then Builtin.bitOr a b else if y = "odd" then Builtin.bitXor a b else if y = "add" then a + b else a - b
def wwv (ρ : Str → Int) : V → List Int → Int
  | .int z, _ => z
  | .str y, [] => ρ y
  | .str y, [a] => oneV y a
  | .str y, [a, b] => twoV y a b
  | .str _, a :: b :: c :: _ => Builtin.bitOr (Builtin.bitAnd a b) (Builtin.bitAnd (Builtin.bitNot a) c)
  | _, _ => 0
def sgn (m a : Int) : Int := if a * 2 ≥ m then a - m else a
def sumsV (m : Int) (y : Str) (xs : List Int) : Bool :=
  if y = "nought" then decide (xs.getD 0 0 = 0) else if y = "sign" then decide (sgn m (xs.getD 0 0) < 0) else if y = "same" then decide (xs.getD 0 0 = xs.getD 1 0)
  else if y = "under" then decide (xs.getD 0 0 < xs.getD 1 0) else decide (sgn m (xs.getD 0 0) < sgn m (xs.getD 1 0))
def clmV (y : Str) (bs : List Bool) : Bool :=
  if y = "yes" then true else if y = "never" then !(bs.getD 0 false) else if y = "both" then bs.getD 0 false && bs.getD 1 false else if y = "either" then bs.getD 0 false || bs.getD 1 false else bs.getD 1 false || !(bs.getD 0 false)
def cvV (m : Int) (ρ : Str → Int) (w : V) (xs : List V) : V :=
  match w with
  | .str y => if y ∈ claimW then (if 0 < nSum w then .bl (sumsV m y (xs.map iV)) else .bl (clmV y (xs.map bV))) else .int (wwv ρ w (xs.map iV) % m)
  | _ => .int (wwv ρ w (xs.map iV) % m)
def runV (m : Int) (ρ : Str → Int) (ws : List V) (stk : List V) : List V := ws.foldr (fun w s => cvV m ρ w (s.take (npw w)) :: s.drop (npw w)) stk
theorem runV_cons (m : Int) (ρ : Str → Int) (w : V) (r stk : List V) : runV m ρ (w :: r) stk = cvV m ρ w ((runV m ρ r stk).take (npw w)) :: (runV m ρ r stk).drop (npw w) := rfl
theorem runV_app (m : Int) (ρ : Str → Int) (u v stk : List V) : runV m ρ (u ++ v) stk = runV m ρ u (runV m ρ v stk) := List.foldr_append
def clK : Key → Bool
  | .inr y => decide (y ∈ claimW)
  | .inl _ => false
inductive CvOk (kvs : List (Key × V)) (ρ : Str → Int) : V → List V → Prop
  | sum {x : V} {is : List Int} : clK (keyOf x) = false → x = kV (keyOf x) → ((∃ z, x = .int z) ∨ ∃ y, x = .str y ∧ is.length ≤ 3 ∧ (is = [] → valV kvs (.inr y) = some (.int (ρ y)))) → CvOk kvs ρ x (is.map V.int)
  | rel {y : Str} {is : List Int} : y ∈ claimW → 0 < nSum (.str y) → 1 ≤ is.length → (y ≠ "nought" → y ≠ "sign" → 2 ≤ is.length) → CvOk kvs ρ (.str y) (is.map V.int)
  | clm {y : Str} {bs : List Bool} : y ∈ claimW → nSum (.str y) = 0 → (y ≠ "yes" → 1 ≤ bs.length) → (y ≠ "yes" → y ≠ "never" → 2 ≤ bs.length) → CvOk kvs ρ (.str y) (bs.map V.bl)
theorem map_iV (is : List Int) : (is.map V.int).map iV = is := by
  rw [List.map_map]
  exact (List.map_congr_left fun b _ => rfl).trans (List.map_id _)
/-- a worth, or a truth -/
def Ty (m : Int) : Bool → V → Prop
  | false, v => ∃ a : Int, v = .int a ∧ 0 ≤ a ∧ a < m
  | true, v => ∃ b : Bool, v = .bl b
inductive TyS (m : Int) : List Bool → List V → Prop
  | nil : TyS m [] []
  | cons {b : Bool} {v : V} {bs : List Bool} {vs : List V} : Ty m b v → TyS m bs vs → TyS m (b :: bs) (v :: vs)
theorem TyS.len {m : Int} {bs : List Bool} {vs : List V} (h : TyS m bs vs) : vs.length = bs.length := by
  induction h with
  | nil => rfl
  | cons _ _ ih => rw [List.length_cons, List.length_cons, ih]
theorem TyS.split {m : Int} : ∀ {as bs : List Bool} {vs : List V}, TyS m (as ++ bs) vs → TyS m as (vs.take as.length) ∧ TyS m bs (vs.drop as.length)
  | [], _, _, h => ⟨.nil, h⟩
  | a :: as, bs, _, .cons hv t => by
    obtain ⟨h1, h2⟩ := TyS.split (as := as) t
    exact ⟨.cons hv h1, h2⟩
theorem cv_ty {m : Int} (hm : 0 < m) (ρ : Str → Int) {ys : List Str} {b : Bool} {w : V} (hw : WB ys b w) (N : Nms ys) (xs : List V) : Ty m b (cvV m ρ w xs) := by
  cases b with
  | true =>
    obtain ⟨y, rfl, hy⟩ := hw
    show Ty m true (if y ∈ claimW then _ else _)
    rw [if_pos hy]
    split
    · exact ⟨_, rfl⟩
    · exact ⟨_, rfl⟩
  | false =>
    have e : cvV m ρ w xs = .int (wwv ρ w (xs.map iV) % m) := by
      rcases hw with ⟨y, rfl, hy⟩ | ⟨y, hy, rfl⟩ | ⟨z, rfl, _⟩
      · show (if y ∈ claimW then _ else _) = _
        have : y ∉ claimW := by
          have h : ∀ y ∈ sumW, y ∉ claimW := by decide +kernel
          exact h y hy
        rw [if_neg this]
      · show (if y ∈ claimW then _ else _) = _
        rw [if_neg fun z => (N.ok y hy).k (claim_kept y z)]
      · rfl
    rw [e]
    exact ⟨_, rfl, Int.emod_nonneg _ (by omega), Int.emod_lt_of_pos _ hm⟩
theorem sum_cv (m : Int) (ρ : Str → Int) {ys : List Str} {w : V} (hw : WordOk ys w) (N : Nms ys) (xs : List V) : cvV m ρ w xs = .int (wwv ρ w (xs.map iV) % m) := by
  rcases hw with ⟨y, rfl, hy⟩ | ⟨y, hy, rfl⟩ | ⟨z, rfl, _⟩
  · show (if y ∈ claimW then _ else _) = _
    have : y ∉ claimW := by
      have h : ∀ y ∈ sumW, y ∉ claimW := by decide +kernel
      exact h y hy
    rw [if_neg this]
  · show (if y ∈ claimW then _ else _) = _
    rw [if_neg fun z => (N.ok y hy).k (claim_kept y z)]
  · rfl
theorem run_ty {m : Int} (hm : 0 < m) (ρ : Str → Int) {ys : List Str} (N : Nms ys) {a e : List Bool} {ws : List V} (h : PreK ys a ws e) {stk : List V} (hs : TyS m e.reverse stk) : TyS m a.reverse (runV m ρ ws stk) ∧ ∀ rest, runV m ρ ws (stk ++ rest) = runV m ρ ws stk ++ rest := by
  induction h with
  | nil => exact ⟨hs, fun _ => rfl⟩
  | @cons l0 e b w r hw _ ih =>
    obtain ⟨i1, i2⟩ := ih hs
    rw [List.reverse_append] at i1
    have sp := i1.split
    rw [List.length_reverse, npw_next] at sp
    have hle : npw w ≤ (runV m ρ r stk).length := by
      rw [i1.len, List.length_append, List.length_reverse, npw_next]
      omega
    refine ⟨?_, fun rest => ?_⟩
    · rw [List.reverse_append, runV_cons]
      exact .cons (cv_ty hm ρ hw N _) sp.2
    · rw [runV_cons, i2, runV_cons, List.take_append_of_le_length hle, List.drop_append_of_le_length hle]
      rfl
/-- the one value of a whole row -/
def val1 (m : Int) (ρ : Str → Int) (ws : List V) : V := (runV m ρ ws []).headD .non
theorem val_of {m : Int} (hm : 0 < m) (ρ : Str → Int) {ys : List Str} (N : Nms ys) {b : Bool} {ws : List V} (h : PreK ys [b] ws []) : Ty m b (val1 m ρ ws) ∧ ∀ stk, runV m ρ ws stk = val1 m ρ ws :: stk := by
  obtain ⟨h1, h2⟩ := run_ty hm ρ N h (stk := []) .nil
  have h3 := h2
  unfold val1
  generalize runV m ρ ws [] = r at *
  cases h1 with
  | cons hv t =>
    cases t
    exact ⟨hv, fun stk => h2 stk⟩

structure Tb (H : Hp) (pw : Addr) : Prop where
  w : TabOk H pw lpos_worth qual_worth
def OffT (pw : Addr) (H H' : Hp) : Prop := ∀ b o, H b = some o → b ≠ pw → H' b = some o
theorem OffT.trans {pw : Addr} {H H1 H2 : Hp} (a : OffT pw H H1) (b : OffT pw H1 H2) : OffT pw H H2 := fun c o e h1 => b c o (a c o e h1) h1
theorem Same.offT {pw : Addr} {H H1 : Hp} (a : Same H H1) : OffT pw H H1 := fun c o e _ => a c o e
theorem Tb.same {pw : Addr} {H H1 : Hp} (a : Tb H pw) (s : Same H H1) : Tb H1 pw := ⟨a.w.same s⟩
theorem Tb.keep {pw : Addr} {H H' : Hp} (T : Tb H pw) (a : OffT pw H H') {b : Addr} {u : HO} (h : H b = some u) (hu : ∀ ps, u ≠ .tbl ps) : H' b = some u := by
  obtain ⟨ps, e1⟩ := T.w.ex
  exact a b u h (ne_of h e1 (hu ps))
theorem Tb.tup {pw : Addr} {H H' : Hp} (T : Tb H pw) (a : OffT pw H H') {b : Addr} {xs : List V} (h : H b = some (.tup xs)) : H' b = some (.tup xs) := T.keep a h (fun _ z => nomatch z)
theorem Tb.lst {pw : Addr} {H H' : Hp} (T : Tb H pw) (a : OffT pw H H') {b : Addr} {xs : List V} (h : H b = some (.lst xs)) : H' b = some (.lst xs) := T.keep a h (fun _ z => nomatch z)
theorem Tb.dK {pw : Addr} {H H' : Hp} (T : Tb H pw) (a : OffT pw H H') {b : Addr} {kvs : List (Key × V)} (h : H b = some (.dK kvs)) : H' b = some (.dK kvs) := T.keep a h (fun _ z => nomatch z)
theorem TabOk.off {H H' : Hp} {d c P : Addr} {pos : Pos} {qual : Str} (h : TabOk H P pos qual) (D : DeckAt H d c) (o : Off d c H H') : TabOk H' P pos qual := by
  obtain ⟨n, cs, hd, hc, _⟩ := D.ex
  rcases h with h | ⟨c', oc, h1, h2, h3⟩
  · exact .inl (o _ _ h (ne_of h hd (fun z => nomatch z)) (ne_of h hc (fun z => nomatch z)))
  · exact .inr ⟨c', oc, o _ _ h1 (ne_of h1 hd (fun z => nomatch z)) (ne_of h1 hc (fun z => nomatch z)), o _ _ h2 (ne_of h2 hd (fun z => nomatch z)) (ne_of h2 hc (fun z => nomatch z)), h3⟩
theorem Tb.off {H H' : Hp} {d c pw : Addr} (T : Tb H pw) (D : DeckAt H d c) (o : Off d c H H') : Tb H' pw := ⟨TabOk.off T.w D o⟩
theorem TabOk.put {H : Hp} {p P : Addr} {kvs : List (Key × V)} {o' : HO} {pos : Pos} {qual : Str} (h : TabOk H P pos qual) (e : H p = some (.dK kvs)) : TabOk (upd H p o') P pos qual := by
  rcases h with h | ⟨c', oc, h1, h2, h3⟩
  · exact .inl (by rw [upd_ne (ne_of h e (fun z => nomatch z))]; exact h)
  · exact .inr ⟨c', oc, by rw [upd_ne (ne_of h1 e (fun z => nomatch z))]; exact h1, by rw [upd_ne (ne_of h2 e (fun z => nomatch z))]; exact h2, h3⟩
theorem Tb.put {H : Hp} {p pw : Addr} {kvs : List (Key × V)} {o' : HO} (T : Tb H pw) (e : H p = some (.dK kvs)) : Tb (upd H p o') pw := ⟨TabOk.put T.w e⟩
/-- words of the names that a row has -/
def ValIn (kvs : List (Key × V)) (ys : List Str) (ws : List V) (ρ : Str → Int) : Prop := ∀ y ∈ ys, V.str y ∈ ws → valV kvs (.inr y) = some (.int (ρ y))
theorem names_in1 {ys : List Str} {ws : List V} {kvs : List (Key × V)} {ρ : Str → Int} (W : ∀ w ∈ ws, WordOk ys w) (h : ValIn kvs ys ws ρ) : ∀ y, V.str y ∈ ws → nmB (.str y) = true → (valV kvs (.inr y)).isSome = true := by
  intro y hy hb
  have hb' := (of_decide_eq_true hb : _ ∧ _)
  rcases W _ hy with ⟨z, e, hz⟩ | ⟨z, hz, e⟩ | ⟨z, e, _⟩
  · injection e with e
    subst e
    exact absurd (sum_kept _ hz) hb'.1
  · injection e with e
    subst e
    rw [h _ hz hy]
    rfl
  · cases e

/-- words of names as a dict has them -/
def ValOk (kvs : List (Key × V)) (ys : List Str) (ρ : Str → Int) : Prop := ∀ y ∈ ys, valV kvs (.inr y) = some (.int (ρ y))
theorem TyS.ints {m : Int} : ∀ {n : Nat} {xs : List V}, TyS m (List.replicate n false) xs → ∃ is : List Int, xs = is.map V.int ∧ is.length = n
  | 0, _, .nil => ⟨[], rfl, rfl⟩
  | n + 1, _, .cons ⟨a, e, _⟩ t => by
    obtain ⟨is, rfl, hl⟩ := TyS.ints (n := n) t
    exact ⟨a :: is, by rw [e]; rfl, by rw [List.length_cons, hl]⟩
theorem sum_parts3 : ∀ y ∈ sumW, partsS y ≤ 3 ∧ 1 ≤ partsS y := by decide +kernel
/-- the stack behind the words from the i-th on -/
def StkAt (m : Int) (ρ : Str → Int) (ws : List V) (ls : Nat → List Bool) (i : Nat) (stk : List V) : Prop := stk = runV m ρ (ws.drop i) [] ∧ TyS m (ls i).reverse stk
theorem stk_step {m : Int} (hm : 0 < m) {ρ : Str → Int} {ys : List Str} (N : Nms ys) {ws : List V} {ls : Nat → List Bool} (L : LsAt ys ws ls) {i : Nat} {x : V} {stk : List V} (hx : ws[i]? = some x) (hI : StkAt m ρ ws ls (i + 1) stk) :
    npw x ≤ stk.length ∧ StkAt m ρ ws ls i (cvV m ρ x (stk.take (npw x)) :: stk.drop (npw x)) ∧ ∃ b, WB ys b x ∧ TyS m (nextK x).reverse (stk.take (npw x)) := by
  obtain ⟨l0, b, e1, hw, e2⟩ := L.2 i x hx
  obtain ⟨hr, ht⟩ := hI
  rw [e2, List.reverse_append] at ht
  have sp := ht.split
  rw [List.length_reverse, npw_next] at sp
  have hle : npw x ≤ stk.length := by
    rw [ht.len, List.length_append, List.length_reverse, npw_next]
    omega
  have hi : i < ws.length := (List.getElem?_eq_some_iff.mp hx).1
  refine ⟨hle, ⟨?_, ?_⟩, b, hw, sp.1⟩
  · have ed : ws.drop i = x :: ws.drop (i + 1) := by
      rw [List.drop_eq_getElem_cons hi]
      congr 1
      exact (List.getElem?_eq_some_iff.mp hx).2
    rw [ed, runV_cons, ← hr]
  · rw [e1, List.reverse_append]
    exact .cons (cv_ty hm ρ hw N _) sp.2
theorem sum_cond1 {ys : List Str} {ws : List V} {x : V} (N : Nms ys) (hw : WordOk ys x) (hm : x ∈ ws) {is : List Int} (hl : is.length = partsV x) {kvs : List (Key × V)} {ρ : Str → Int} (hv : ValIn kvs ys ws ρ) : (∃ z, x = .int z) ∨ ∃ y, x = .str y ∧ is.length ≤ 3 ∧ (is = [] → valV kvs (.inr y) = some (.int (ρ y))) := by
  rcases hw with ⟨y, rfl, hy⟩ | ⟨y, hy, rfl⟩ | ⟨z, rfl, _⟩
  · have h3 := sum_parts3 y hy
    have hl' : is.length = partsS y := hl
    exact .inr ⟨y, rfl, by omega, fun e => by rw [e] at hl'; have : (0 : Nat) = partsS y := hl'; omega⟩
  · have hl' : is.length = partsS y := hl
    rw [parts_name (N.ok y hy).k] at hl'
    exact .inr ⟨y, rfl, by omega, fun _ => hv y hy hm⟩
  · exact .inl ⟨z, rfl⟩

structure Adr where
  a_words_at : Addr
  f_words_at : FuncData
  a_is_sum_word : Addr
  f_is_sum_word : FuncData
  a_is_claim_word : Addr
  f_is_claim_word : FuncData
  a_sums_behind : Addr
  f_sums_behind : FuncData
  a_claims_behind : Addr
  f_claims_behind : FuncData
  a_is_made_of : Addr
  f_is_made_of : FuncData
  a_worth_of_one : Addr
  f_worth_of_one : FuncData
  a_worth_of_two : Addr
  f_worth_of_two : FuncData
  a_sum_shown : Addr
  f_sum_shown : FuncData
  a_law_deck : Addr
  f_law_deck : FuncData
  a_law_take : Addr
  f_law_take : FuncData
  a_law_power : Addr
  f_law_power : FuncData
  a_law_kept : Addr
  f_law_kept : FuncData
  a_cut : Addr
  f_cut : FuncData
  a_parts_of : Addr
  f_parts_of : FuncData
  a_is_name : Addr
  f_is_name : FuncData
  a_is_figures : Addr
  f_is_figures : FuncData
  a_word_worth : Addr
  f_word_worth : FuncData
  a_law_width : Addr
  f_law_width : FuncData
  a_law_names : Addr
  f_law_names : FuncData
  a_law_leaf : Addr
  f_law_leaf : FuncData
  a_law_values : Addr
  f_law_values : FuncData
  a_parts_taken : Addr
  f_parts_taken : FuncData
  a_refuse_lacking : Addr
  f_refuse_lacking : FuncData
  a_sum_word_read : Addr
  f_sum_word_read : FuncData
  a_names_of : Addr
  f_names_of : FuncData
  a_law_sum : Addr
  f_law_sum : FuncData
  a_read_sum : Addr
  f_read_sum : FuncData
  a_folded : Addr
  f_folded : FuncData
  a_worth : Addr
  f_worth : FuncData
  a_law_together : Addr
  f_law_together : FuncData
  a_law : Addr
  f_law : FuncData
  c_worth : Addr
  p_worth : Addr
  g_SUM_PARTS : Addr
  g_SUMS_IN_CLAIM : Addr
  g_CLAIMS_IN_CLAIM : Addr
  k_LETTERS : Tok
  k_FIGURES : Tok
  k_LONGEST_NAME : Tok
structure Kg (K : PySem.W.Frag) (w : World) (mg : Str → Option Value) (x : Str) (a : Addr) (l : List (Str × Int)) : Prop where
  m : mg x = some (.ref a)
  d : KD K w a l
structure Df (K : PySem.W.Frag) (mg : Str → Option Value) (x : Str) (st : Stmt) (ps : List Str) (f : Addr) (fd : FuncData) : Prop where
  F : Fun K x x st f fd
  m : mg x = some (.ref f)
  b : Binds K fd ps []
structure Txt (K : PySem.W.Frag) (w : World) (mg : Str → Option Value) (t : Adr) : Prop where
  g_SUM_PARTS : Kg K w mg "SUM_PARTS" t.g_SUM_PARTS [("not", 1), ("neg", 1), ("twice", 1), ("low", 1), ("and", 2), ("or", 2), ("odd", 2), ("add", 2), ("sub", 2), ("pick", 3)]
  g_SUMS_IN_CLAIM : Kg K w mg "SUMS_IN_CLAIM" t.g_SUMS_IN_CLAIM [("same", 2), ("under", 2), ("beneath", 2), ("sign", 1), ("nought", 1)]
  g_CLAIMS_IN_CLAIM : Kg K w mg "CLAIMS_IN_CLAIM" t.g_CLAIMS_IN_CLAIM [("both", 2), ("either", 2), ("so", 2), ("never", 1), ("yes", 0)]
  g_LETTERS : mg "LETTERS" = some (.str "abcdefghijklmnopqrstuvwxyz" t.k_LETTERS)
  g_FIGURES : mg "FIGURES" = some (.str "0123456789" t.k_FIGURES)
  g_LONGEST_NAME : mg "LONGEST_NAME" = some (.int 8 t.k_LONGEST_NAME)
  d_words_at : Df K mg "words_at" s_words_at ["width"] t.a_words_at t.f_words_at
  d_is_sum_word : Df K mg "is_sum_word" s_is_sum_word ["text"] t.a_is_sum_word t.f_is_sum_word
  d_is_claim_word : Df K mg "is_claim_word" s_is_claim_word ["text"] t.a_is_claim_word t.f_is_claim_word
  d_sums_behind : Df K mg "sums_behind" s_sums_behind ["word"] t.a_sums_behind t.f_sums_behind
  d_claims_behind : Df K mg "claims_behind" s_claims_behind ["word"] t.a_claims_behind t.f_claims_behind
  d_is_made_of : Df K mg "is_made_of" s_is_made_of ["text", "signs"] t.a_is_made_of t.f_is_made_of
  d_worth_of_one : Df K mg "worth_of_one" s_worth_of_one ["word", "part"] t.a_worth_of_one t.f_worth_of_one
  d_worth_of_two : Df K mg "worth_of_two" s_worth_of_two ["word", "one", "other"] t.a_worth_of_two t.f_worth_of_two
  d_sum_shown : Df K mg "sum_shown" s_sum_shown ["words"] t.a_sum_shown t.f_sum_shown
  d_law_deck : Df K mg "_law_deck" s_law_deck ["script"] t.a_law_deck t.f_law_deck
  d_law_take : Df K mg "_law_take" s_law_take ["deck", "many"] t.a_law_take t.f_law_take
  d_law_power : Df K mg "_law_power" s_law_power ["width"] t.a_law_power t.f_law_power
  d_law_kept : Df K mg "_law_kept" s_law_kept [] t.a_law_kept t.f_law_kept
  d_cut : Df K mg "cut" s_cut ["number", "width"] t.a_cut t.f_cut
  d_parts_of : Df K mg "parts_of" s_parts_of ["word"] t.a_parts_of t.f_parts_of
  d_is_name : Df K mg "is_name" s_is_name ["text"] t.a_is_name t.f_is_name
  d_is_figures : Df K mg "is_figures" s_is_figures ["text"] t.a_is_figures t.f_is_figures
  d_word_worth : Df K mg "word_worth" s_word_worth ["word", "parts", "values"] t.a_word_worth t.f_word_worth
  d_law_width : Df K mg "_law_width" s_law_width ["deck"] t.a_law_width t.f_law_width
  d_law_names : Df K mg "_law_names" s_law_names ["deck"] t.a_law_names t.f_law_names
  d_law_leaf : Df K mg "_law_leaf" s_law_leaf ["deck", "names"] t.a_law_leaf t.f_law_leaf
  d_law_values : Df K mg "_law_values" s_law_values ["deck", "names", "width"] t.a_law_values t.f_law_values
  d_parts_taken : Df K mg "parts_taken" s_parts_taken ["stack", "word"] t.a_parts_taken t.f_parts_taken
  d_refuse_lacking : Df K mg "refuse_lacking" s_refuse_lacking ["words", "values"] t.a_refuse_lacking t.f_refuse_lacking
  d_sum_word_read : Df K mg "sum_word_read" s_sum_word_read ["part"] t.a_sum_word_read t.f_sum_word_read
  d_names_of : Df K mg "names_of" s_names_of ["words"] t.a_names_of t.f_names_of
  d_law_sum : Df K mg "_law_sum" s_law_sum ["deck", "names", "most", "heavy"] t.a_law_sum t.f_law_sum
  d_read_sum : Df K mg "read_sum" s_read_sum ["text"] t.a_read_sum t.f_read_sum
  d_folded : Df K mg "folded" s_folded ["words", "told_of"] t.a_folded t.f_folded
  d_worth : Df K mg "worth" s_worth ["words", "width", "values"] t.a_worth t.f_worth
  d_law_together : Df K mg "_law_together" s_law_together ["one", "other", "width", "values"] t.a_law_together t.f_law_together
  d_law : Df K mg "law" s_law ["script"] t.a_law t.f_law
  k_worth : t.f_worth.code = .ref t.c_worth
  z_all : mg "all" = none
  z_dict : mg "dict" = none
  z_int : mg "int" = none
  z_isinstance : mg "isinstance" = none
  z_len : mg "len" = none
  z_range : mg "range" = none
  z_reversed : mg "reversed" = none
  z_set : mg "set" = none
  z_sorted : mg "sorted" = none
  z_str : mg "str" = none
  z_sum : mg "sum" = none
  z_tuple : mg "tuple" = none
structure Tbs (mg : Str → Option Value) (base : Heap) (t : Adr) : Prop where
  c_worth : PySem.W.CodeHd base t.c_worth t.p_worth
  B : BltAt mg base
theorem sc_words_at : FnScope ["width", "many", "bit_number"] ["width"] (defScope s_words_at) := ⟨rfl, rfl, rfl, by decide +kernel, rfl, by decide +kernel, by decide +kernel⟩
theorem sc_is_sum_word : FnScope ["text"] ["text"] (defScope s_is_sum_word) := ⟨rfl, rfl, rfl, by decide +kernel, rfl, by decide +kernel, by decide +kernel⟩
theorem sc_is_claim_word : FnScope ["text"] ["text"] (defScope s_is_claim_word) := ⟨rfl, rfl, rfl, by decide +kernel, rfl, by decide +kernel, by decide +kernel⟩
theorem sc_sums_behind : FnScope ["word"] ["word"] (defScope s_sums_behind) := ⟨rfl, rfl, rfl, by decide +kernel, rfl, by decide +kernel, by decide +kernel⟩
theorem sc_claims_behind : FnScope ["word"] ["word"] (defScope s_claims_behind) := ⟨rfl, rfl, rfl, by decide +kernel, rfl, by decide +kernel, by decide +kernel⟩
theorem sc_is_made_of : FnScope ["text", "signs"] ["text", "signs"] (defScope s_is_made_of) := ⟨rfl, rfl, rfl, by decide +kernel, rfl, by decide +kernel, by decide +kernel⟩
theorem sc_worth_of_one : FnScope ["word", "part"] ["word", "part"] (defScope s_worth_of_one) := ⟨rfl, rfl, rfl, by decide +kernel, rfl, by decide +kernel, by decide +kernel⟩
theorem sc_worth_of_two : FnScope ["word", "one", "other"] ["word", "one", "other"] (defScope s_worth_of_two) := ⟨rfl, rfl, rfl, by decide +kernel, rfl, by decide +kernel, by decide +kernel⟩
theorem sc_sum_shown : FnScope ["words"] ["words"] (defScope s_sum_shown) := ⟨rfl, rfl, rfl, by decide +kernel, rfl, by decide +kernel, by decide +kernel⟩
theorem sc_law_deck : FnScope ["script", "cells", "k", "mixed"] ["script"] (defScope s_law_deck) := ⟨rfl, rfl, rfl, by decide +kernel, rfl, by decide +kernel, by decide +kernel⟩
theorem sc_law_take : FnScope ["deck", "many", "at", "cell"] ["deck", "many"] (defScope s_law_take) := ⟨rfl, rfl, rfl, by decide +kernel, rfl, by decide +kernel, by decide +kernel⟩
theorem sc_law_power : FnScope ["width", "number", "k"] ["width"] (defScope s_law_power) := ⟨rfl, rfl, rfl, by decide +kernel, rfl, by decide +kernel, by decide +kernel⟩
theorem sc_law_kept : FnScope ["some"] [] (defScope s_law_kept) := ⟨rfl, rfl, rfl, by decide +kernel, rfl, by decide +kernel, by decide +kernel⟩
theorem sc_cut : FnScope ["number", "width"] ["number", "width"] (defScope s_cut) := ⟨rfl, rfl, rfl, by decide +kernel, rfl, by decide +kernel, by decide +kernel⟩
theorem sc_parts_of : FnScope ["word"] ["word"] (defScope s_parts_of) := ⟨rfl, rfl, rfl, by decide +kernel, rfl, by decide +kernel, by decide +kernel⟩
theorem sc_is_name : FnScope ["text"] ["text"] (defScope s_is_name) := ⟨rfl, rfl, rfl, by decide +kernel, rfl, by decide +kernel, by decide +kernel⟩
theorem sc_is_figures : FnScope ["text"] ["text"] (defScope s_is_figures) := ⟨rfl, rfl, rfl, by decide +kernel, rfl, by decide +kernel, by decide +kernel⟩
theorem sc_word_worth : FnScope ["word", "parts", "values"] ["word", "parts", "values"] (defScope s_word_worth) := ⟨rfl, rfl, rfl, by decide +kernel, rfl, by decide +kernel, by decide +kernel⟩
theorem sc_law_width : FnScope ["deck"] ["deck"] (defScope s_law_width) := ⟨rfl, rfl, rfl, by decide +kernel, rfl, by decide +kernel, by decide +kernel⟩
theorem sc_law_names : FnScope ["deck", "letters", "base", "at", "names", "k", "place", "name"] ["deck"] (defScope s_law_names) := ⟨rfl, rfl, rfl, by decide +kernel, rfl, by decide +kernel, by decide +kernel⟩
theorem sc_law_leaf : FnScope ["deck", "names", "kind"] ["deck", "names"] (defScope s_law_leaf) := ⟨rfl, rfl, rfl, by decide +kernel, rfl, by decide +kernel, by decide +kernel⟩
theorem sc_law_values : FnScope ["deck", "names", "width", "values", "full", "name", "some"] ["deck", "names", "width"] (defScope s_law_values) := ⟨rfl, rfl, rfl, by decide +kernel, rfl, by decide +kernel, by decide +kernel⟩
theorem sc_parts_taken : FnScope ["stack", "word"] ["stack", "word"] (defScope s_parts_taken) := ⟨rfl, rfl, rfl, by decide +kernel, rfl, by decide +kernel, by decide +kernel⟩
theorem sc_refuse_lacking : FnScope ["words", "values", "word"] ["words", "values"] (defScope s_refuse_lacking) := ⟨rfl, rfl, rfl, by decide +kernel, rfl, by decide +kernel, by decide +kernel⟩
theorem sc_sum_word_read : FnScope ["part"] ["part"] (defScope s_sum_word_read) := ⟨rfl, rfl, rfl, by decide +kernel, rfl, by decide +kernel, by decide +kernel⟩
theorem sc_names_of : FnScope ["words"] ["words"] (defScope s_names_of) := ⟨rfl, rfl, rfl, by decide +kernel, rfl, by decide +kernel, by decide +kernel⟩
theorem sc_law_sum : FnScope ["deck", "names", "most", "heavy", "words", "due", "room", "kind", "word", "many"] ["deck", "names", "most", "heavy"] (defScope s_law_sum) := ⟨rfl, rfl, rfl, by decide +kernel, rfl, by decide +kernel, by decide +kernel⟩
theorem sc_read_sum : FnScope ["text", "words", "lacking", "part", "word"] ["text"] (defScope s_read_sum) := ⟨rfl, rfl, rfl, by decide +kernel, rfl, by decide +kernel, by decide +kernel⟩
theorem sc_folded : FnScope ["words", "told_of", "stack", "word", "parts"] ["words", "told_of"] (defScope s_folded) := ⟨rfl, rfl, rfl, by decide +kernel, rfl, by decide +kernel, by decide +kernel⟩
theorem sc_worth : FnScope ["words", "width", "values", "many"] ["words", "width", "values"] (defScope s_worth) := ⟨rfl, rfl, rfl, by decide +kernel, rfl, by decide +kernel, by decide +kernel⟩
theorem sc_law_together : FnScope ["one", "other", "width", "values", "sums_in", "word", "whole", "due"] ["one", "other", "width", "values"] (defScope s_law_together) := ⟨rfl, rfl, rfl, by decide +kernel, rfl, by decide +kernel, by decide +kernel⟩
theorem sc_law : FnScope ["script", "deck", "names", "widths", "values", "lesser", "words", "one", "other", "some", "text", "own"] ["script"] (defScope s_law) := ⟨rfl, rfl, rfl, by decide +kernel, rfl, by decide +kernel, by decide +kernel⟩
section
variable {P : Program} {w : World} {K : PySem.W.Frag} {mg : Str → Option Value} {base : Heap} {t : Adr}
def sp_words_at (K : PySem.W.Frag) : Sp := fun vs H Q _ => ∃ w : Nat, vs = [.int w] ∧ w ≤ 1000 ∧ Q (.int (2 ^ w)) H
theorem ok_words_at (T : Txt K w mg t) (TB : Tbs mg base t) : FnOk P w K mg base CX0 1 t.a_words_at t.f_words_at ["width"] (sp_words_at K) := by
  refine T.d_words_at.F.ok sc_words_at (fun vs H Q E h => ?_) (fun cdv A outer s H vs Q E hr h => ?_)
  · obtain ⟨w, rfl, hw, k⟩ := h
    rfl
  · obtain ⟨w, rfl, hw, k⟩ := h
    have hu := hu_of hr
    refine ⟨_, @QSs.out _ _ _ (qss_cons (qs_set (i := 1) sc_words_at.nd rfl (Or.inl rfl) qe_int)
        (qss_cons (qs_for PassesOwn.never rfl (qi_rangeF rfl T.z_range (qa_c (qv 0) qa_nil)) (qg_name (i := 2) sc_words_at.nd rfl (Or.inl rfl))
        (qss_one (qs_set (i := 1) sc_words_at.nd rfl (Or.inl rfl) (qe_op op_mulB (qv 1) qe_int))))
        (qss_one (qs_ret (qv 1))))), ?_⟩
    refine ⟨_, rfl, (w : Int), rfl, by omega, by omega, for_range (fun i σ H2 => ∃ v, σ = [some (.int w), some (.int (2 ^ i)), v] ∧ H2 = H) ⟨none, rfl, rfl⟩ ?_ ?_⟩
    · rintro i σ H2 hi ⟨v, rfl, rfl⟩
      refine ⟨_, rfl, _, _, rfl, rfl, .inr (.inr ⟨by decide, by decide⟩), some (.int (0 + (i : Int))), ?_, rfl⟩
      rw [pow_succ']
      rfl
    · rintro σ H2 ⟨v, rfl, rfl⟩
      refine ⟨_, rfl, ?_⟩
      rw [Int.toNat_natCast]
      exact k
def sp_is_sum_word (K : PySem.W.Frag) : Sp := fun vs H Q _ => ∃ (y : Str), vs = [.str y] ∧ Q (.bl (decide (y ∈ sumW))) H
theorem ok_is_sum_word (T : Txt K w mg t) (TB : Tbs mg base t) : FnOk P w K mg base CX0 1 t.a_is_sum_word t.f_is_sum_word ["text"] (sp_is_sum_word K) := by
  refine T.d_is_sum_word.F.ok sc_is_sum_word (fun vs H Q E h => ?_) (fun cdv A outer s H vs Q E hr h => ?_)
  · obtain ⟨y, rfl, k⟩ := h
    rfl
  · obtain ⟨y, rfl, k⟩ := h
    have hu := hu_of hr
    refine ⟨_, @QSs.out _ _ _ (qss_one (qs_ret (qe_cmpR op_in_K (qv 0) (qe_glob (v := .ref t.g_SUM_PARTS) rfl T.g_SUM_PARTS.m rfl) (by with_unfolding_all rfl)))), ?_⟩
    refine ⟨_, rfl, t.g_SUM_PARTS, T1, .inr y, rfl, T.g_SUM_PARTS.d, rfl, ?_⟩
    rw [kv_has, tw1]
    exact k
def sp_is_claim_word (K : PySem.W.Frag) : Sp := fun vs H Q _ => ∃ (y : Str), vs = [.str y] ∧ Q (.bl (decide (y ∈ claimW))) H
theorem claim_or (y : Str) : decide (y ∈ claimW) = (decide (y ∈ T2.map (·.1)) || decide (y ∈ T3.map (·.1))) := by
  have e : claimW = T2.map (·.1) ++ T3.map (·.1) := by decide +kernel
  rw [e]
  by_cases h1 : y ∈ T2.map (·.1)
  · rw [decide_eq_true h1, decide_eq_true (List.mem_append_left _ h1)]
    rfl
  · by_cases h2 : y ∈ T3.map (·.1)
    · rw [decide_eq_true h2, decide_eq_true (List.mem_append_right _ h2), Bool.or_true]
    · rw [decide_eq_false h1, decide_eq_false h2, decide_eq_false (fun z => (List.mem_append.mp z).elim h1 h2)]
      rfl
theorem ok_is_claim_word (T : Txt K w mg t) (TB : Tbs mg base t) : FnOk P w K mg base CX0 1 t.a_is_claim_word t.f_is_claim_word ["text"] (sp_is_claim_word K) := by
  refine T.d_is_claim_word.F.ok sc_is_claim_word (fun vs H Q E h => ?_) (fun cdv A outer s H vs Q E hr h => ?_)
  · obtain ⟨y, rfl, k⟩ := h
    rfl
  · obtain ⟨y, rfl, k⟩ := h
    have hu := hu_of hr
    refine ⟨_, @QSs.out _ _ _ (qss_one (qs_ret (qe_or (qe_cmpR op_in_K (qv 0) (qe_glob (v := .ref t.g_SUMS_IN_CLAIM) rfl T.g_SUMS_IN_CLAIM.m rfl) (by with_unfolding_all rfl)) (qe_one (qe_cmpR op_in_K (qv 0) (qe_glob (v := .ref t.g_CLAIMS_IN_CLAIM) rfl T.g_CLAIMS_IN_CLAIM.m rfl) (by with_unfolding_all rfl)))))), ?_⟩
    rw [claim_or] at k
    refine ⟨_, rfl, t.g_SUMS_IN_CLAIM, T2, .inr y, rfl, T.g_SUMS_IN_CLAIM.d, rfl, _, rfl, ?_⟩
    rw [kv_has]
    cases h : decide (y ∈ T2.map (·.1)) with
    | true =>
      rw [h] at k
      exact iteT k
    | false =>
      rw [h] at k
      refine iteF ⟨_, rfl, t.g_CLAIMS_IN_CLAIM, T3, .inr y, rfl, T.g_CLAIMS_IN_CLAIM.d, rfl, ?_⟩
      rw [kv_has]
      exact k
def sp_sums_behind (K : PySem.W.Frag) : Sp := fun vs H Q _ => ∃ (k : Key), vs = [kV k] ∧ Q (.int (getN T1 k + getN T2 k)) H
theorem ok_sums_behind (T : Txt K w mg t) (TB : Tbs mg base t) : FnOk P w K mg base CX0 1 t.a_sums_behind t.f_sums_behind ["word"] (sp_sums_behind K) := by
  refine T.d_sums_behind.F.ok sc_sums_behind (fun vs H Q E h => ?_) (fun cdv A outer s H vs Q E hr h => ?_)
  · obtain ⟨kk, rfl, k⟩ := h
    rfl
  · obtain ⟨kk, rfl, k⟩ := h
    have hu := hu_of hr
    refine ⟨_, @QSs.out _ _ _ (qss_one (qs_ret (qe_op op_add (qe_kget (qe_glob (v := .ref t.g_SUM_PARTS) rfl T.g_SUM_PARTS.m rfl) (qv 0) qe_int) (qe_kget (qe_glob (v := .ref t.g_SUMS_IN_CLAIM) rfl T.g_SUMS_IN_CLAIM.m rfl) (qv 0) qe_int)))), ?_⟩
    refine ⟨t.g_SUM_PARTS, T1, rfl, T.g_SUM_PARTS.d, _, rfl, kk, rfl, t.g_SUMS_IN_CLAIM, T2, rfl, T.g_SUMS_IN_CLAIM.d, _, rfl, kk, rfl, ?_⟩
    rw [kget, kget]
    exact ⟨_, _, rfl, rfl, k⟩
def sp_claims_behind (K : PySem.W.Frag) : Sp := fun vs H Q _ => ∃ (k : Key), vs = [kV k] ∧ Q (.int (getN T3 k)) H
theorem ok_claims_behind (T : Txt K w mg t) (TB : Tbs mg base t) : FnOk P w K mg base CX0 1 t.a_claims_behind t.f_claims_behind ["word"] (sp_claims_behind K) := by
  refine T.d_claims_behind.F.ok sc_claims_behind (fun vs H Q E h => ?_) (fun cdv A outer s H vs Q E hr h => ?_)
  · obtain ⟨kk, rfl, k⟩ := h
    rfl
  · obtain ⟨kk, rfl, k⟩ := h
    have hu := hu_of hr
    refine ⟨_, @QSs.out _ _ _ (qss_one (qs_ret (qe_kget (qe_glob (v := .ref t.g_CLAIMS_IN_CLAIM) rfl T.g_CLAIMS_IN_CLAIM.m rfl) (qv 0) qe_int))), ?_⟩
    refine ⟨t.g_CLAIMS_IN_CLAIM, T3, rfl, T.g_CLAIMS_IN_CLAIM.d, _, rfl, kk, rfl, ?_⟩
    rw [kget]
    exact k
def sp_is_made_of (K : PySem.W.Frag) : Sp := fun vs H Q _ => ∃ (y sg : Str), vs = [.str y, .str sg] ∧ y.length ≤ 100000 ∧ ∀ H', Same H H' → Q (.bl (decide (MadeOf y sg))) H'
theorem ok_is_made_of (T : Txt K w mg t) (TB : Tbs mg base t) : FnOk P w K mg base CX0 1 t.a_is_made_of t.f_is_made_of ["text", "signs"] (sp_is_made_of K) := by
  refine T.d_is_made_of.F.ok sc_is_made_of (fun vs H Q E h => ?_) (fun cdv A outer s H vs Q E hr h => ?_)
  · obtain ⟨y, sg, rfl, hl, k⟩ := h
    rfl
  · obtain ⟨y, sg, rfl, hl, k⟩ := h
    have hu := hu_of hr
    refine ⟨_, @QSs.out _ _ _ (qss_one (qs_ret (qe_and (qe_cmpR op_ne (qv 0) qe_str (nomark _)) (qe_one (qe_callBF (call_allL rfl) (by rfl) T.z_all bt_all (qa_c (qe_comp (⟨by rfl, by decide +kernel, by decide +kernel, by rfl, by decide +kernel, by decide +kernel, by rfl, by decide +kernel⟩ : CompSc (defScope s_is_made_of) _ ["text", "signs"] "sign" ["signs"] [1]) (qi_str (qv 0)) (fun _ _ _ _ => qf_nil) (fun _ _ _ _ => (qe_cmpR op_in_str (qv 0) (qv 1) (by with_unfolding_all rfl)))) qa_nil)))))), ?_⟩
    refine ⟨_, rfl, rfl, _, rfl, ?_⟩
    by_cases hy : y.cps.toList = []
    · have e := nil_signs.mp hy
      subst e
      rw [decide_eq_true (rfl : V.str ("" : Str) = V.str ("" : Str))]
      refine iteF ?_
      have e2 : decide (MadeOf ("" : Str) sg) = false := decide_eq_false fun z => z.1 (nil_signs.mpr rfl)
      have := k H (Same.refl H)
      rw [e2] at this
      exact this
    have hne : ¬ V.str y = V.str ("" : Str) := fun z => hy (nil_signs.mpr (by injection z))
    rw [decide_eq_false hne]
    refine iteT ?_
    refine ⟨_, rfl, y, rfl, comp_str (fun c => .bl (decide (c ∈ sg.cps.toList))) (Nat.le_trans (show y.length ≤ 100000 from hl) (by decide)) (fun c _ R hR => ?_) (fun l hl2 => ?_)⟩
    · refine ⟨_, rfl, _, rfl, _, _, rfl, rfl, ?_⟩
      rw [occ_mem]
      exact hR
    have e1 : (y.cps.toList.map fun c => V.bl (decide (c ∈ sg.cps.toList))) = (y.cps.toList.map fun c => decide (c ∈ sg.cps.toList)).map V.bl := by rw [List.map_map]; rfl
    rw [e1]
    refine ⟨l, _, rfl, SqL.of upd_same, ?_⟩
    rw [all_bs]
    have e2 : decide (MadeOf y sg) = decide (∀ c ∈ y.cps.toList, decide (c ∈ sg.cps.toList) = true) := by
      rw [Bool.eq_iff_iff, decide_eq_true_iff, decide_eq_true_iff]
      constructor
      · intro z c hc
        exact decide_eq_true (z.2 c hc)
      · intro z
        exact ⟨hy, fun c hc => of_decide_eq_true (z c hc)⟩
    rw [← e2]
    exact k _ (same_upd hl2)
def sp_worth_of_one (K : PySem.W.Frag) : Sp := fun vs H Q _ => ∃ (y : Str) (a : Int), vs = [.str y, .int a] ∧ Q (.int (oneV y a)) H
theorem ok_worth_of_one (T : Txt K w mg t) (TB : Tbs mg base t) : FnOk P w K mg base CX0 1 t.a_worth_of_one t.f_worth_of_one ["word", "part"] (sp_worth_of_one K) := by
  refine T.d_worth_of_one.F.ok sc_worth_of_one (fun vs H Q E h => ?_) (fun cdv A outer s H vs Q E hr h => ?_)
  · obtain ⟨y, a, rfl, k⟩ := h
    rfl
  · obtain ⟨y, a, rfl, k⟩ := h
    have hu := hu_of hr
    refine ⟨_, @QSs.out _ _ _ (qss_cons (qs_if (qt_cmpR op_eq (qv 0) qe_str (nomark _))
        (qss_one (qs_ret (qe_un un_inv (qv 1)))) qss_nil)
        (qss_cons (qs_if (qt_cmpR op_eq (qv 0) qe_str (nomark _))
        (qss_one (qs_ret (qe_un un_neg (qv 1)))) qss_nil)
        (qss_cons (qs_if (qt_cmpR op_eq (qv 0) qe_str (nomark _))
        (qss_one (qs_ret (qe_op op_add (qv 1) (qv 1)))) qss_nil)
        (qss_one (qs_ret (qe_op op_and (qv 1) (qe_un un_neg (qv 1)))))))), ?_⟩
    unfold oneV at k
    refine ⟨_, rfl, rfl, _, rfl, ?_⟩
    by_cases h1 : y = "not"
    · rw [decide_eq_true (congrArg V.str h1)]
      rw [if_pos h1] at k
      exact iteT ⟨_, rfl, _, rfl, k⟩
    rw [decide_eq_false (fun z => h1 (by injection z))]
    rw [if_neg h1] at k
    refine iteF ⟨_, rfl, rfl, _, rfl, ?_⟩
    by_cases h2 : y = "neg"
    · rw [decide_eq_true (congrArg V.str h2)]
      rw [if_pos h2] at k
      exact iteT ⟨_, rfl, _, rfl, k⟩
    rw [decide_eq_false (fun z => h2 (by injection z))]
    rw [if_neg h2] at k
    refine iteF ⟨_, rfl, rfl, _, rfl, ?_⟩
    by_cases h3 : y = "twice"
    · rw [decide_eq_true (congrArg V.str h3)]
      rw [if_pos h3] at k
      exact iteT ⟨_, rfl, _, rfl, _, _, rfl, rfl, k⟩
    rw [decide_eq_false (fun z => h3 (by injection z))]
    rw [if_neg h3] at k
    exact iteF ⟨_, rfl, _, rfl, _, rfl, _, _, rfl, rfl, k⟩
def sp_worth_of_two (K : PySem.W.Frag) : Sp := fun vs H Q _ => ∃ (y : Str) (a b : Int), vs = [.str y, .int a, .int b] ∧ Q (.int (twoV y a b)) H
theorem ok_worth_of_two (T : Txt K w mg t) (TB : Tbs mg base t) : FnOk P w K mg base CX0 1 t.a_worth_of_two t.f_worth_of_two ["word", "one", "other"] (sp_worth_of_two K) := by
  refine T.d_worth_of_two.F.ok sc_worth_of_two (fun vs H Q E h => ?_) (fun cdv A outer s H vs Q E hr h => ?_)
  · obtain ⟨y, a, b, rfl, k⟩ := h
    rfl
  · obtain ⟨y, a, b, rfl, k⟩ := h
    have hu := hu_of hr
    refine ⟨_, @QSs.out _ _ _ (qss_cons (qs_if (qt_cmpR op_eq (qv 0) qe_str (nomark _))
        (qss_one (qs_ret (qe_op op_and (qv 1) (qv 2)))) qss_nil)
        (qss_cons (qs_if (qt_cmpR op_eq (qv 0) qe_str (nomark _))
        (qss_one (qs_ret (qe_op op_or (qv 1) (qv 2)))) qss_nil)
        (qss_cons (qs_if (qt_cmpR op_eq (qv 0) qe_str (nomark _))
        (qss_one (qs_ret (qe_op op_xor (qv 1) (qv 2)))) qss_nil)
        (qss_cons (qs_if (qt_cmpR op_eq (qv 0) qe_str (nomark _))
        (qss_one (qs_ret (qe_op op_add (qv 1) (qv 2)))) qss_nil)
        (qss_one (qs_ret (qe_op op_sub (qv 1) (qv 2)))))))), ?_⟩
    unfold twoV at k
    refine ⟨_, rfl, rfl, _, rfl, ?_⟩
    by_cases h1 : y = "and"
    · rw [decide_eq_true (congrArg V.str h1)]
      rw [if_pos h1] at k
      exact iteT ⟨_, rfl, _, rfl, _, _, rfl, rfl, k⟩
    rw [decide_eq_false (fun z => h1 (by injection z))]
    rw [if_neg h1] at k
    refine iteF ⟨_, rfl, rfl, _, rfl, ?_⟩
    by_cases h2 : y = "or"
    · rw [decide_eq_true (congrArg V.str h2)]
      rw [if_pos h2] at k
      exact iteT ⟨_, rfl, _, rfl, _, _, rfl, rfl, k⟩
    rw [decide_eq_false (fun z => h2 (by injection z))]
    rw [if_neg h2] at k
    refine iteF ⟨_, rfl, rfl, _, rfl, ?_⟩
    by_cases h3 : y = "odd"
    · rw [decide_eq_true (congrArg V.str h3)]
      rw [if_pos h3] at k
      exact iteT ⟨_, rfl, _, rfl, _, _, rfl, rfl, k⟩
    rw [decide_eq_false (fun z => h3 (by injection z))]
    rw [if_neg h3] at k
    refine iteF ⟨_, rfl, rfl, _, rfl, ?_⟩
    by_cases h4 : y = "add"
    · rw [decide_eq_true (congrArg V.str h4)]
      rw [if_pos h4] at k
      exact iteT ⟨_, rfl, _, rfl, _, _, rfl, rfl, k⟩
    rw [decide_eq_false (fun z => h4 (by injection z))]
    rw [if_neg h4] at k
    exact iteF ⟨_, rfl, _, rfl, _, _, rfl, rfl, k⟩
def sp_sum_shown (K : PySem.W.Frag) : Sp := fun vs H Q _ => ∃ (t : Addr) (ys : List Str) (ws : List V), vs = [.ref t] ∧ H t = some (.tup ws) ∧ Nms ys ∧ (∀ w ∈ ws, CWord ys w) ∧ ws.length ≤ 100 ∧ ∀ H', Same H H' → Q (.str (Txt.join blank (ws.map shw))) H'
theorem ok_sum_shown (T : Txt K w mg t) (TB : Tbs mg base t) : FnOk P w K mg base CX0 1 t.a_sum_shown t.f_sum_shown ["words"] (sp_sum_shown K) := by
  refine T.d_sum_shown.F.ok sc_sum_shown (fun vs H Q E h => ?_) (fun cdv A outer s H vs Q E hr h => ?_)
  · obtain ⟨tw, ys, ws, rfl, ht, N, W, wl, k⟩ := h
    rfl
  · obtain ⟨tw, ys, ws, rfl, ht, N, W, wl, k⟩ := h
    have hu := hu_of hr
    refine ⟨_, @QSs.out _ _ _ (qss_one (qs_ret (qe_bmF PySem.F.plainAttrs_str PySem.F.slot_str_join PySem.F.type_str_join mt_join qe_str (qa_c (qe_comp (⟨by rfl, by decide +kernel, by decide +kernel, by rfl, by decide +kernel, by decide +kernel, by rfl, by decide +kernel⟩ : CompSc (defScope s_sum_shown) _ ["words"] "word" [] []) (qi_tup (qv 0)) (fun _ _ _ _ => qf_nil) (fun _ _ _ _ => (qe_callTF call_strV (by rfl) T.z_str bt_str (qa_c (qv 0) qa_nil)))) qa_nil)))), ?_⟩
    refine ⟨rfl, _, rfl, tw, rfl, ⟨_, SqT.of ht⟩, comp_tmap (xs := ws) (fun w => .str (shw w)) (SqT.of ht) (Nat.le_of_lt (small1000 (by omega))) (fun x hx R hR => ⟨_, rfl, cshw_read (W x hx) hR⟩) (fun l hl => ?_)⟩
    have e5 : (ws.map fun w => V.str (shw w)) = (ws.map shw).map V.str := by rw [List.map_map]; rfl
    exact ⟨_, l, ws.map shw, rfl, rfl, SqL.of (by rw [upd_same, e5]), cshw_size N W wl, k _ (same_upd hl)⟩
def sp_law_deck (K : PySem.W.Frag) : Sp := fun vs H Q _ => ∃ (a : Addr) (ns : List Int), vs = [.ref a] ∧ SqL K H a (ns.map V.int) ∧ ns.length ≤ 63 ∧ ∀ d c H', H d = none → H c = none → DeckAt H' d c → Same H H' → Q (.ref d) H'
theorem cut63 {ns : List Int} (h : ns.length ≤ 63) : cutV (ns.map V.int) none (some 63) = ns.map V.int := by
  unfold cutV
  have e : HT.sIx (ns.map V.int).length 0 none = 0 := rfl
  rw [e, List.drop_zero]
  apply List.take_of_length_le
  rw [List.length_map]
  simp only [HT.sIx, show ¬ ((63 : Int) < 0) by decide, if_false]
  omega
theorem ok_law_deck (T : Txt K w mg t) (TB : Tbs mg base t) : FnOk P w K mg base CX0 1 t.a_law_deck t.f_law_deck ["script"] (sp_law_deck K) := by
  refine T.d_law_deck.F.ok sc_law_deck (fun vs H Q E h => ?_) (fun cdv A outer s H vs Q E hr h => ?_)
  · obtain ⟨a, ns, rfl, hS, hl, k⟩ := h
    rfl
  · obtain ⟨a, ns, rfl, hS, hl, k⟩ := h
    have hu := hu_of hr
    refine ⟨_, @QSs.out _ _ _ (qss_cons (qs_set (i := 1) sc_law_deck.nd rfl (Or.inl rfl) (qe_op op_cat (qe_slice sl_list (qv 0) qo_none (qo_some qe_int)) (qe_lst (qa_c (qe_callBF call_len_seq (by rfl) T.z_len bt_len (qa_c (qv 0) qa_nil)) qa_nil))))
        (qss_cons (qs_if (qt_cmpR op_eq (qe_op op_mod (qe_callBF (call_sumL rfl) (by rfl) T.z_sum bt_sum (qa_c (qe_slice sl_list (qv 0) qo_none (qo_some qe_int)) qa_nil)) qe_int) qe_int (nomark _))
        (qss_one (qs_for PassesOwn.never rfl (qi_rangeF rfl T.z_range (qa_c (qe_callBF call_len_seq (by rfl) T.z_len bt_len (qa_c (qv 1) qa_nil)) qa_nil)) (qg_name (i := 2) sc_law_deck.nd rfl (Or.inl rfl))
        (qss_cons (qs_set (i := 3) sc_law_deck.nd rfl (Or.inl rfl) (qe_op op_mod (qe_op op_mulB (qe_op op_add (qe_op op_add (qe_op op_mod (qe_ix ix_list (qv 1) (qv 2) (fun _ _ => rfl)) qe_int) (qe_op op_mulB qe_int (qv 2))) qe_int) qe_int) qe_int))
        (qss_cons (qs_set (i := 3) sc_law_deck.nd rfl (Or.inl rfl) (qe_op op_mod (qe_op op_mulB (qe_op op_mod (qe_op op_add (qe_op op_mulB (qv 3) (qv 3)) (qe_op op_mulB qe_int (qv 2))) qe_int) qe_int) qe_int))
        (qss_one (qs_asg (qe_op op_add (qe_op op_mulB (qe_op op_mulB (qv 3) (qv 3)) qe_int) (qe_op op_mod (qe_op op_mulB (qv 3) qe_int) qe_int)) (qg_sub (qv 1) (qv 2) set_list))))))) qss_nil)
        (qss_one (qs_ret (qe_lst (qa_c (qv 1) (qa_c qe_int qa_nil))))))), ?_⟩
    refine ⟨_, rfl, 63, rfl, a, _, rfl, hS, fun p hp => ?_⟩
    rw [cut63 hl]
    have s1 := same_upd (o := .lst (ns.map V.int)) hp
    refine ⟨_, rfl, a, _, rfl, .inl (s1.seq hS), by show 1 ≤ sizeLine; decide, fun l hl2 => ?_⟩
    have s2 := same_upd (o := .lst [.int (ns.map V.int).length]) hl2
    refine ⟨p, l, _, _, rfl, rfl, s2 _ _ upd_same, upd_same, ?_, fun c hc => ?_⟩
    · rw [List.length_map]
      exact Nat.le_of_lt (small1000 (by show ns.length + 1 ≤ 1000; omega))
    have s3 := (s1.trans s2).trans (same_upd (o := .lst (ns.map V.int ++ [.int (ns.map V.int).length])) hc)
    have hc0 : H c = none := (s1.trans s2).free hc
    -- what is left: the cells at c, any ints, 1 to 64 of them
    have fin : ∀ (σ : St) (H2 : Hp) (cs : List Int), σ = [some (.ref a), some (.ref c), σ.getD 2 none, σ.getD 3 none] → H2 c = some (.lst (cs.map V.int)) → 1 ≤ cs.length → cs.length ≤ 64 → Same H H2 →
        (tRet (tLst (tCons (tVar 1) (tCons (tC (.int 0)) tNil)))) { nx := fun _ H' => Q .non H', rt := Q } σ H2 := by
      intro σ H2 cs hσ h2 c1 c2 sm
      rw [hσ]
      refine ⟨_, rfl, by show 2 ≤ sizeLine; decide, fun d hd => ?_⟩
      exact k d c _ (sm.free hd) hc0 ⟨_, cs, upd_same, by rw [upd_ne (ne_of_none h2 hd)]; exact h2, c1, c2⟩ (sm.trans (same_upd hd))
    have h0 : (upd (upd (upd H p (.lst (ns.map V.int))) l (.lst [.int (ns.map V.int).length])) c (.lst (ns.map V.int ++ [.int (ns.map V.int).length]))) c = some (.lst ((ns ++ [(ns.length : Int)]).map V.int)) := by
      rw [upd_same, List.map_append, List.length_map]
      rfl
    refine ⟨_, rfl, 63, rfl, a, _, rfl, s3.seq hS, fun q hq => ?_⟩
    rw [cut63 hl]
    have s4 := same_upd (o := .lst (ns.map V.int)) hq
    refine ⟨q, ns, rfl, SqL.of upd_same, _, _, rfl, rfl, (by show (0 : Int) < 2; decide), rfl, _, rfl, ?_⟩
    refine ite2 (fun _ => ?_) (fun _ => ?_)
    · refine ⟨_, rfl, c, _, rfl, .inl (SqL.of (s4 _ _ h0)), _, rfl, ?_, ?_, for_range (fun i σ H2 => ∃ (cs : List Int) (u v : Option V), σ = [some (.ref a), some (.ref c), u, v] ∧ H2 c = some (.lst (cs.map V.int)) ∧ cs.length = ns.length + 1 ∧ Same H H2) ⟨_, none, none, rfl, s4 _ _ h0, by simp, s3.trans s4⟩ ?_ ?_⟩
      · omega
      · rw [List.length_map, List.length_append]
        show ((ns.length + 1 : Nat) : Int) < 2 ^ 62
        omega
      · rintro i σ H2 hi ⟨cs, u, v, rfl, h2, hcs, sm⟩
        rw [List.length_map, List.length_append, Int.toNat_natCast] at hi
        have hi' : i < cs.length := by rw [hcs]; exact hi
        have hat : ∀ {xs : List Int} (h : i < xs.length), atI (xs.map V.int) (0 + (i : Int)) = some (V.int xs[i]) := fun {xs} h => by
          rw [Int.zero_add]
          exact atI_nat (by rw [List.getElem?_map, List.getElem?_eq_getElem h]; rfl)
        refine ⟨_, rfl, _, rfl, c, _, _, _, rfl, rfl, SqL.of h2, hat hi', _, _, rfl, rfl, (by show (0 : Int) < 2147483587; decide), _, rfl, _, _, rfl, rfl, .inr (.inl ⟨by decide, by decide⟩), _, _, rfl, rfl, _, _, rfl, rfl, _, _, rfl, rfl, .inr (.inr ⟨by decide, by decide⟩), _, _, rfl, rfl, (by show (0 : Int) < 2147483629; decide), ?_⟩
        dsimp only
        generalize hm1 : (cs[i] % 2147483587 + 853 * (0 + (i : Int)) + 11) * 69621 % 2147483629 = m1
        have m1a : 0 ≤ m1 := by omega
        have m1b : m1 < 2147483629 := by omega
        refine ⟨_, rfl, _, rfl, _, _, rfl, rfl, .inr (.inl ⟨by omega, by omega⟩), _, rfl, _, _, rfl, rfl, .inr (.inl ⟨by decide, by decide⟩), _, _, rfl, rfl, _, _, rfl, rfl, (by show (0 : Int) < 2147483563; decide), _, _, rfl, rfl, .inr (.inr ⟨by decide, by decide⟩), _, _, rfl, rfl, (by show (0 : Int) < 2147483549; decide), ?_⟩
        dsimp only
        generalize hm2 : (m1 * m1 + 31 * (0 + (i : Int))) % 2147483563 * 16807 % 2147483549 = m2
        have m2a : 0 ≤ m2 := by omega
        have m2b : m2 < 2147483549 := by omega
        refine ⟨_, rfl, _, rfl, _, _, rfl, rfl, .inr (.inl ⟨by omega, by omega⟩), _, _, rfl, rfl, .inr (.inr ⟨by decide, by decide⟩), _, rfl, _, _, rfl, rfl, .inr (.inl ⟨by omega, by omega⟩), _, _, rfl, rfl, (by show (0 : Int) < 2147483579; decide), _, _, rfl, rfl, _, rfl, _, rfl, c, _, _, i, rfl, rfl, h2, ?_, ?_⟩
        · unfold ixN
          rw [if_pos (by omega), if_pos (by rw [List.length_map]; omega)]
          congr 1
          omega
        · refine ⟨cs.set i (m2 * m2 * 2147483543 + m2 * 48271 % 2147483579), _, _, rfl, ?_, by rw [List.length_set]; exact hcs, fun b o e => ?_⟩
          · rw [upd_same, List.map_set]
          · rw [upd_ne (ne_of_none e hc0)]
            exact sm b o e
      · rintro σ H2 ⟨cs, u, v, rfl, h2, hcs, sm⟩
        exact fin _ H2 cs rfl h2 (by omega) (by omega) sm
    · exact fin _ _ (ns ++ [(ns.length : Int)]) rfl (s4 _ _ h0) (by simp) (by simp; omega) (s3.trans s4)
def sp_law_take (K : PySem.W.Frag) : Sp := fun vs H Q _ => ∃ (d c : Addr) (m : Int), vs = [.ref d, .int m] ∧ DeckAt H d c ∧ 0 < m ∧ m ≤ 100000000000000000000 ∧ ∀ r H', 0 ≤ r → r < m → DeckAt H' d c → Off d c H H' → Q (.int r) H'
theorem ok_law_take (T : Txt K w mg t) (TB : Tbs mg base t) : FnOk P w K mg base CX0 1 t.a_law_take t.f_law_take ["deck", "many"] (sp_law_take K) := by
  refine T.d_law_take.F.ok sc_law_take (fun vs H Q E h => ?_) (fun cdv A outer s H vs Q E hr h => ?_)
  · obtain ⟨d, c, m, rfl, D, hm, hm2, k⟩ := h
    rfl
  · obtain ⟨d, c, m, rfl, D, hm, hm2, k⟩ := h
    have hu := hu_of hr
    refine ⟨_, @QSs.out _ _ _ (qss_cons (qs_set (i := 2) sc_law_take.nd rfl (Or.inl rfl) (qe_op op_mod (qe_ix ix_list (qv 0) qe_int (fun _ _ => rfl)) (qe_callBF call_len_seq (by rfl) T.z_len bt_len (qa_c (qe_ix ix_list (qv 0) qe_int (fun _ _ => rfl)) qa_nil))))
        (qss_cons (qs_asg (qe_op op_add (qe_ix ix_list (qv 0) qe_int (fun _ _ => rfl)) qe_int) (qg_sub (qv 0) qe_int set_list))
        (qss_cons (qs_set (i := 3) sc_law_take.nd rfl (Or.inl rfl) (qe_ix ix_list (qe_ix ix_list (qv 0) qe_int (fun _ _ => rfl)) (qv 2) (fun _ _ => rfl)))
        (qss_cons (qs_asg (qe_op op_fdivB (qv 3) (qv 1)) (qg_sub (qe_ix ix_list (qv 0) qe_int (fun _ _ => rfl)) (qv 2) set_list))
        (qss_one (qs_ret (qe_op op_mod (qv 3) (qv 1)))))))), ?_⟩
    have hdc := D.ne
    obtain ⟨n, cs, hd, hc, c1, c2⟩ := D.ex
    refine ⟨_, rfl, d, _, 1, _, rfl, rfl, SqL.of hd, rfl, _, rfl, d, _, 0, _, rfl, rfl, SqL.of hd, rfl, c, _, rfl, .inl (SqL.of hc), _, _, rfl, rfl, ?_, ?_⟩
    · rw [List.length_map]
      omega
    dsimp only
    rw [List.length_map]
    generalize hat : n % (cs.length : Int) = at0
    have a0 : 0 ≤ at0 := by rw [← hat]; exact Int.emod_nonneg _ (by omega)
    have a1 : at0 < cs.length := by rw [← hat]; exact Int.emod_lt_of_pos _ (by omega)
    refine ⟨_, rfl, d, _, 1, _, rfl, rfl, SqL.of hd, rfl, _, _, rfl, rfl, _, rfl, d, _, 1, 1, rfl, rfl, hd, rfl, ?_⟩
    have hc' : ∀ o, (upd H d o) c = some (.lst (cs.map V.int)) := fun o => by rw [upd_ne hdc.symm]; exact hc
    obtain ⟨j, rfl⟩ : ∃ j : Nat, at0 = (j : Int) := ⟨at0.toNat, by omega⟩
    have hg : j < cs.length := by omega
    have hix : atI (cs.map V.int) (j : Int) = some (V.int cs[j]) := by
      refine atI_nat ?_
      rw [List.getElem?_map, List.getElem?_eq_getElem hg]
      rfl
    refine ⟨_, rfl, d, _, 0, _, rfl, rfl, SqL.of upd_same, rfl, _, rfl, c, _, _, _, rfl, rfl, SqL.of (hc' _), hix, ?_⟩
    refine ⟨_, rfl, _, rfl, _, _, rfl, rfl, .of hm (by omega), _, rfl, d, _, 0, _, rfl, rfl, SqL.of upd_same, rfl, _, rfl, c, _, _, j, rfl, rfl, hc' _, ?_, ?_⟩
    · unfold ixN
      rw [if_pos a0, if_pos (by rw [List.length_map]; exact a1), Int.toNat_natCast]
    refine ⟨_, rfl, _, rfl, _, _, rfl, rfl, hm, k _ _ (Int.emod_nonneg _ (by omega)) (Int.emod_lt_of_pos _ hm) ⟨n + 1, cs.set j (cs[j] / m), ?_, ?_, ?_, ?_⟩ (off_upd1.trans off_upd2)⟩
    · rw [upd_ne hdc, upd_same]
      rfl
    · rw [upd_same, List.map_set]
    · rw [List.length_set]; exact c1
    · rw [List.length_set]; exact c2
def sp_law_power (K : PySem.W.Frag) : Sp := fun vs H Q _ => ∃ w : Nat, vs = [.int w] ∧ w ≤ 1000 ∧ Q (.int (2 ^ w)) H
theorem ok_law_power (T : Txt K w mg t) (TB : Tbs mg base t) : FnOk P w K mg base CX0 1 t.a_law_power t.f_law_power ["width"] (sp_law_power K) := by
  refine T.d_law_power.F.ok sc_law_power (fun vs H Q E h => ?_) (fun cdv A outer s H vs Q E hr h => ?_)
  · obtain ⟨w, rfl, hw, k⟩ := h
    rfl
  · obtain ⟨w, rfl, hw, k⟩ := h
    have hu := hu_of hr
    refine ⟨_, @QSs.out _ _ _ (qss_cons (qs_set (i := 1) sc_law_power.nd rfl (Or.inl rfl) qe_int)
        (qss_cons (qs_for PassesOwn.never rfl (qi_rangeF rfl T.z_range (qa_c (qv 0) qa_nil)) (qg_name (i := 2) sc_law_power.nd rfl (Or.inl rfl))
        (qss_one (qs_set (i := 1) sc_law_power.nd rfl (Or.inl rfl) (qe_op op_add (qv 1) (qv 1)))))
        (qss_one (qs_ret (qv 1))))), ?_⟩
    refine ⟨_, rfl, (w : Int), rfl, by omega, by omega, for_range (fun i σ H2 => ∃ v, σ = [some (.int w), some (.int (2 ^ i)), v] ∧ H2 = H) ⟨none, rfl, rfl⟩ ?_ ?_⟩
    · rintro i σ H2 hi ⟨v, rfl, rfl⟩
      refine ⟨_, rfl, _, rfl, _, _, rfl, rfl, some (.int (0 + (i : Int))), ?_, rfl⟩
      rw [pow_succ', Int.mul_comm, Int.two_mul]
      rfl
    · rintro σ H2 ⟨v, rfl, rfl⟩
      refine ⟨_, rfl, ?_⟩
      rw [Int.toNat_natCast]
      exact k
def sp_law_kept (K : PySem.W.Frag) : Sp := fun vs H Q _ => vs = [] ∧ ∀ p H', H p = none → H' p = some (.lst (keptS.map V.str)) → Same H H' → Q (.ref p) H'
theorem ok_law_kept (T : Txt K w mg t) (TB : Tbs mg base t) : FnOk P w K mg base CX0 1 t.a_law_kept t.f_law_kept [] (sp_law_kept K) := by
  refine T.d_law_kept.F.ok sc_law_kept (fun vs H Q E h => ?_) (fun cdv A outer s H vs Q E hr h => ?_)
  · obtain ⟨rfl, k⟩ := h
    rfl
  · obtain ⟨rfl, k⟩ := h
    have hu := hu_of hr
    refine ⟨_, @QSs.out _ _ _ (qss_cons (qs_set (i := 0) sc_law_kept.nd rfl (Or.inl rfl) (qe_lst (qa_c qe_str (qa_c qe_str (qa_c qe_str (qa_c qe_str (qa_c qe_str (qa_c qe_str (qa_c qe_str (qa_c qe_str (qa_c qe_str (qa_c qe_str qa_nil))))))))))))
        (qss_one (qs_ret (qe_op op_cat (qv 0) (qe_lst (qa_c qe_str (qa_c qe_str (qa_c qe_str (qa_c qe_str (qa_c qe_str (qa_c qe_str (qa_c qe_str (qa_c qe_str (qa_c qe_str (qa_c qe_str qa_nil))))))))))))))), ?_⟩
    refine ⟨by show 10 ≤ sizeLine; decide, fun a ha => ?_⟩
    refine ⟨_, rfl, by show 10 ≤ sizeLine; decide, fun b hb => ⟨a, b, _, _, rfl, rfl, same_upd hb _ _ upd_same, upd_same, by show 20 ≤ sizeLine; decide, fun p hp => ?_⟩⟩
    exact k p _ (Same.free (Same.trans (same_upd ha) (same_upd hb)) hp) upd_same (Same.trans (Same.trans (same_upd ha) (same_upd hb)) (same_upd hp))
def sp_cut (K : PySem.W.Frag) : Sp := fun vs H Q _ => ∃ (n : Int) (w : Nat), vs = [.int n, .int w] ∧ w ≤ 1000 ∧ Q (.int (n % 2 ^ w)) H
theorem ok_cut (T : Txt K w mg t) (TB : Tbs mg base t) : FnOk P w K mg base CX0 2 t.a_cut t.f_cut ["number", "width"] (sp_cut K) := by
  have G_words_at : FnOk P w K mg base CX0 1 t.a_words_at t.f_words_at ["width"] (sp_words_at K) := ok_words_at T TB
  refine T.d_cut.F.ok sc_cut (fun vs H Q E h => ?_) (fun cdv A outer s H vs Q E hr h => ?_)
  · obtain ⟨n, w, rfl, hw, k⟩ := h
    rfl
  · obtain ⟨n, w, rfl, hw, k⟩ := h
    have hu := hu_of hr
    refine ⟨_, @QSs.out _ _ _ (qss_one (qs_ret (qe_op op_mod (qv 0) (qe_callF G_words_at (hr.mono (by decide)) rfl T.d_words_at.m T.d_words_at.F.kp T.d_words_at.b .nil pass0 (qa_c (qv 1) qa_nil))))), ?_⟩
    exact ⟨_, rfl, _, rfl, w, rfl, hw, _, _, rfl, rfl, pow_pos' w, k⟩
def sp_parts_of (K : PySem.W.Frag) : Sp := fun vs H Q _ => ∃ (k : Key), vs = [kV k] ∧ Q (.int (allParts k)) H
theorem ok_parts_of (T : Txt K w mg t) (TB : Tbs mg base t) : FnOk P w K mg base CX0 2 t.a_parts_of t.f_parts_of ["word"] (sp_parts_of K) := by
  have G_sums_behind : FnOk P w K mg base CX0 1 t.a_sums_behind t.f_sums_behind ["word"] (sp_sums_behind K) := ok_sums_behind T TB
  have G_claims_behind : FnOk P w K mg base CX0 1 t.a_claims_behind t.f_claims_behind ["word"] (sp_claims_behind K) := ok_claims_behind T TB
  refine T.d_parts_of.F.ok sc_parts_of (fun vs H Q E h => ?_) (fun cdv A outer s H vs Q E hr h => ?_)
  · obtain ⟨kk, rfl, k⟩ := h
    rfl
  · obtain ⟨kk, rfl, k⟩ := h
    have hu := hu_of hr
    refine ⟨_, @QSs.out _ _ _ (qss_one (qs_ret (qe_op op_add (qe_callF G_sums_behind (hr.mono (by decide)) rfl T.d_sums_behind.m T.d_sums_behind.F.kp T.d_sums_behind.b .nil pass0 (qa_c (qv 0) qa_nil)) (qe_callF G_claims_behind (hr.mono (by decide)) rfl T.d_claims_behind.m T.d_claims_behind.F.kp T.d_claims_behind.b .nil pass0 (qa_c (qv 0) qa_nil))))), ?_⟩
    exact ⟨_, rfl, kk, rfl, _, rfl, kk, rfl, _, _, rfl, rfl, k⟩
def sp_is_name (K : PySem.W.Frag) : Sp := fun vs H Q _ => ∃ (y : Str), vs = [.str y] ∧ y.length ≤ 100000 ∧ ∀ H', Same H H' → Q (.bl (decide (y ∉ keptS ∧ NmL y))) H'
theorem nml_made {y : Str} : NmL y ↔ y.length ≤ 8 ∧ MadeOf y lowS := by
  constructor
  · intro h
    refine ⟨h.1.2, fun z => ?_, h.2⟩
    have h1 := h.1.1
    rw [len_signs, z] at h1
    exact absurd h1 (by decide)
  · intro h
    refine ⟨⟨?_, h.1⟩, h.2.2⟩
    rw [len_signs]
    cases e : y.cps.toList with
    | nil => exact absurd e h.2.1
    | cons a r => exact Nat.succ_le_succ (Nat.zero_le _)
theorem ok_is_name (T : Txt K w mg t) (TB : Tbs mg base t) : FnOk P w K mg base CX0 2 t.a_is_name t.f_is_name ["text"] (sp_is_name K) := by
  have G_is_made_of : FnOk P w K mg base CX0 1 t.a_is_made_of t.f_is_made_of ["text", "signs"] (sp_is_made_of K) := ok_is_made_of T TB
  have G_is_claim_word : FnOk P w K mg base CX0 1 t.a_is_claim_word t.f_is_claim_word ["text"] (sp_is_claim_word K) := ok_is_claim_word T TB
  have G_is_sum_word : FnOk P w K mg base CX0 1 t.a_is_sum_word t.f_is_sum_word ["text"] (sp_is_sum_word K) := ok_is_sum_word T TB
  refine T.d_is_name.F.ok sc_is_name (fun vs H Q E h => ?_) (fun cdv A outer s H vs Q E hr h => ?_)
  · obtain ⟨y, rfl, hl, k⟩ := h
    rfl
  · obtain ⟨y, rfl, hl, k⟩ := h
    have hu := hu_of hr
    refine ⟨_, @QSs.out _ _ _ (qss_cons (qs_if (qw_pt (qw_or (qt_val (qe_callF G_is_sum_word (hr.mono (by decide)) rfl T.d_is_sum_word.m T.d_is_sum_word.F.kp T.d_is_sum_word.b .nil pass0 (qa_c (qv 0) qa_nil))) (qw_or1 (qt_val (qe_callF G_is_claim_word (hr.mono (by decide)) rfl T.d_is_claim_word.m T.d_is_claim_word.F.kp T.d_is_claim_word.b .nil pass0 (qa_c (qv 0) qa_nil))))))
        (qss_one (qs_ret qe_bl)) qss_nil)
        (qss_one (qs_ret (qe_and (qe_cmpR op_le (qe_callBF call_len_str (by rfl) T.z_len bt_len (qa_c (qv 0) qa_nil)) (qe_glob (v := .int 8) rfl T.g_LONGEST_NAME ⟨_, rfl⟩) (nomark _)) (qe_one (qe_callF G_is_made_of (hr.mono (by decide)) rfl T.d_is_made_of.m T.d_is_made_of.F.kp T.d_is_made_of.b .nil pass0 (qa_c (qv 0) (qa_c (qe_glob (v := .str "abcdefghijklmnopqrstuvwxyz") rfl T.g_LETTERS ⟨_, rfl⟩) qa_nil)))))))), ?_⟩
    by_cases h1 : y ∈ keptS
    · have e : decide (y ∉ keptS ∧ NmL y) = false := decide_eq_false fun z => z.1 h1
      rw [e] at k
      refine ⟨_, rfl, y, rfl, _, rfl, ?_⟩
      by_cases h2 : y ∈ sumW
      · rw [decide_eq_true h2]
        exact iteT (iteT (k H (Same.refl H)))
      · rw [decide_eq_false h2]
        have h3 : y ∈ claimW := ((kept_of y).mp h1).resolve_left h2
        refine iteF ⟨_, rfl, y, rfl, _, rfl, ?_⟩
        rw [decide_eq_true h3]
        exact iteT (k H (Same.refl H))
    · have h2 : y ∉ sumW := fun z => h1 ((kept_of y).mpr (.inl z))
      have h3 : y ∉ claimW := fun z => h1 ((kept_of y).mpr (.inr z))
      refine ⟨_, rfl, y, rfl, _, rfl, ?_⟩
      rw [decide_eq_false h2]
      refine iteF ⟨_, rfl, y, rfl, _, rfl, ?_⟩
      rw [decide_eq_false h3]
      refine iteF ?_
      refine ⟨_, rfl, y, rfl, Nat.le_trans hl (by decide), _, _, rfl, rfl, _, rfl, ?_⟩
      by_cases h8 : y.length ≤ 8
      · rw [decide_eq_true (show (y.length : Int) ≤ 8 by omega)]
        refine iteT ⟨_, rfl, y, lowS, rfl, hl, fun H' s' => ?_⟩
        have e : decide (MadeOf y lowS) = decide (y ∉ keptS ∧ NmL y) := by
          rw [Bool.eq_iff_iff, decide_eq_true_iff, decide_eq_true_iff, nml_made]
          exact ⟨fun z => ⟨h1, h8, z⟩, fun z => z.2.2⟩
        rw [e]
        exact k H' s'
      · rw [decide_eq_false (show ¬ (y.length : Int) ≤ 8 by omega)]
        have e : decide (y ∉ keptS ∧ NmL y) = false := decide_eq_false fun z => h8 z.2.1.2
        rw [e] at k
        exact iteF (k H (Same.refl H))
def sp_is_figures (K : PySem.W.Frag) : Sp := fun vs H Q _ => ∃ (y : Str), vs = [.str y] ∧ y.length ≤ 100000 ∧ ∀ H', Same H H' → Q (.bl (figB y)) H'
theorem ok_is_figures (T : Txt K w mg t) (TB : Tbs mg base t) : FnOk P w K mg base CX0 2 t.a_is_figures t.f_is_figures ["text"] (sp_is_figures K) := by
  have G_is_made_of : FnOk P w K mg base CX0 1 t.a_is_made_of t.f_is_made_of ["text", "signs"] (sp_is_made_of K) := ok_is_made_of T TB
  refine T.d_is_figures.F.ok sc_is_figures (fun vs H Q E h => ?_) (fun cdv A outer s H vs Q E hr h => ?_)
  · obtain ⟨y, rfl, hl, k⟩ := h
    rfl
  · obtain ⟨y, rfl, hl, k⟩ := h
    have hu := hu_of hr
    refine ⟨_, @QSs.out _ _ _ (qss_one (qs_ret (qe_and (qe_callF G_is_made_of (hr.mono (by decide)) rfl T.d_is_made_of.m T.d_is_made_of.F.kp T.d_is_made_of.b .nil pass0 (qa_c (qv 0) (qa_c (qe_glob (v := .str "0123456789") rfl T.g_FIGURES ⟨_, rfl⟩) qa_nil))) (qe_one (qe_or (qe_cmpR op_eq (qv 0) qe_str (nomark _)) (qe_one (qe_not (qe_bmF PySem.F.plainAttrs_str PySem.F.slot_str_startswith PySem.F.type_str_startswith mt_startswith (qv 0) (qa_c qe_str qa_nil))))))))), ?_⟩
    unfold figB at k
    refine ⟨_, rfl, y, figS, rfl, hl, fun H' s' => ⟨_, rfl, ?_⟩⟩
    cases h1 : decide (MadeOf y figS) with
    | false =>
      rw [h1] at k
      exact iteF (k H' s')
    | true =>
      rw [h1] at k
      refine iteT ⟨_, rfl, rfl, _, rfl, ?_⟩
      cases h2 : decide (V.str y = V.str ("0" : Str)) with
      | true =>
        rw [h2] at k
        exact iteT (k H' s')
      | false =>
        rw [h2] at k
        exact iteF ⟨_, rfl, rfl, y, _, rfl, rfl, _, rfl, k H' s'⟩
def sp_word_worth (K : PySem.W.Frag) : Sp := fun vs H Q _ => ∃ (x : V) (pl dv : Addr) (xs : List Int) (kvs : List (Key × V)) (ρ : Str → Int), vs = [x, .ref pl, .ref dv] ∧ H pl = some (.lst (xs.map V.int)) ∧ H dv = some (.dK kvs) ∧ ((∃ z, x = .int z) ∨ ∃ y, x = .str y ∧ xs.length ≤ 3 ∧ (xs = [] → valV kvs (.inr y) = some (.int (ρ y)))) ∧ Q (.int (wwv ρ x xs)) H
theorem ok_word_worth (T : Txt K w mg t) (TB : Tbs mg base t) : FnOk P w K mg base CX0 2 t.a_word_worth t.f_word_worth ["word", "parts", "values"] (sp_word_worth K) := by
  have G_worth_of_two : FnOk P w K mg base CX0 1 t.a_worth_of_two t.f_worth_of_two ["word", "one", "other"] (sp_worth_of_two K) := ok_worth_of_two T TB
  have G_worth_of_one : FnOk P w K mg base CX0 1 t.a_worth_of_one t.f_worth_of_one ["word", "part"] (sp_worth_of_one K) := ok_worth_of_one T TB
  refine T.d_word_worth.F.ok sc_word_worth (fun vs H Q E h => ?_) (fun cdv A outer s H vs Q E hr h => ?_)
  · obtain ⟨x, pl, dv, xs, kvs, ρ, rfl, hp, hd, hx, k⟩ := h
    rfl
  · obtain ⟨x, pl, dv, xs, kvs, ρ, rfl, hp, hd, hx, k⟩ := h
    have hu := hu_of hr
    refine ⟨_, @QSs.out _ _ _ (qss_cons (qs_if (qt_val (qe_callBF call_isi (by rfl) T.z_isinstance bt_isinstance (qa_c (qv 0) (qa_c (qe_bltn (v := .ty "int") (by rfl) T.z_int bt_int rfl) qa_nil))))
        (qss_one (qs_ret (qv 0))) qss_nil)
        (qss_cons (qs_if (qt_cmpR op_eq (qe_callBF call_len_seq (by rfl) T.z_len bt_len (qa_c (qv 1) qa_nil)) qe_int (nomark _))
        (qss_one (qs_ret (qe_dget hu (qv 2) (qv 0) (fun _ _ => rfl)))) qss_nil)
        (qss_cons (qs_if (qt_cmpR op_eq (qe_callBF call_len_seq (by rfl) T.z_len bt_len (qa_c (qv 1) qa_nil)) qe_int (nomark _))
        (qss_one (qs_ret (qe_callF G_worth_of_one (hr.mono (by decide)) rfl T.d_worth_of_one.m T.d_worth_of_one.F.kp T.d_worth_of_one.b .nil pass0 (qa_c (qv 0) (qa_c (qe_ix ix_list (qv 1) qe_int (fun _ _ => rfl)) qa_nil))))) qss_nil)
        (qss_cons (qs_if (qt_cmpR op_eq (qe_callBF call_len_seq (by rfl) T.z_len bt_len (qa_c (qv 1) qa_nil)) qe_int (nomark _))
        (qss_one (qs_ret (qe_callF G_worth_of_two (hr.mono (by decide)) rfl T.d_worth_of_two.m T.d_worth_of_two.F.kp T.d_worth_of_two.b .nil pass0 (qa_c (qv 0) (qa_c (qe_ix ix_list (qv 1) qe_int (fun _ _ => rfl)) (qa_c (qe_ix ix_list (qv 1) qe_int (fun _ _ => rfl)) qa_nil)))))) qss_nil)
        (qss_one (qs_ret (qe_op op_or (qe_op op_and (qe_ix ix_list (qv 1) qe_int (fun _ _ => rfl)) (qe_ix ix_list (qv 1) qe_int (fun _ _ => rfl))) (qe_op op_and (qe_un un_inv (qe_ix ix_list (qv 1) qe_int (fun _ _ => rfl))) (qe_ix ix_list (qv 1) qe_int (fun _ _ => rfl)))))))))), ?_⟩
    rcases hx with ⟨z, rfl⟩ | ⟨y, rfl, h3, hy⟩
    · exact ⟨_, rfl, _, _, _, _, rfl, .int z, kit_int_int, _, rfl, iteT ⟨_, rfl, k⟩⟩
    refine ⟨_, rfl, _, _, _, _, rfl, .str y, kit_str_int, _, rfl, iteF ?_⟩
    match xs, h3, hy, hp, k with
    | [], _, hy, hp, k =>
      refine ⟨_, rfl, pl, _, rfl, .inl (SqL.of hp), rfl, _, rfl, iteT ?_⟩
      exact ⟨_, rfl, _, rfl, dv, _, rfl, .inl ⟨kvs, .inr y, .inl hd, rfl, (hy rfl).symm⟩, k⟩
    | [a], _, _, hp, k =>
      refine ⟨_, rfl, pl, _, rfl, .inl (SqL.of hp), rfl, _, rfl, iteF ?_⟩
      refine ⟨_, rfl, pl, _, rfl, .inl (SqL.of hp), rfl, _, rfl, iteT ?_⟩
      exact ⟨_, rfl, _, rfl, pl, _, 0, _, rfl, rfl, SqL.of hp, rfl, y, a, rfl, k⟩
    | [a, b], _, _, hp, k =>
      refine ⟨_, rfl, pl, _, rfl, .inl (SqL.of hp), rfl, _, rfl, iteF ?_⟩
      refine ⟨_, rfl, pl, _, rfl, .inl (SqL.of hp), rfl, _, rfl, iteF ?_⟩
      refine ⟨_, rfl, pl, _, rfl, .inl (SqL.of hp), rfl, _, rfl, iteT ?_⟩
      exact ⟨_, rfl, _, rfl, pl, _, 0, _, rfl, rfl, SqL.of hp, rfl, _, rfl, pl, _, 1, _, rfl, rfl, SqL.of hp, rfl, y, a, b, rfl, k⟩
    | [a, b, c], _, _, hp, k =>
      refine ⟨_, rfl, pl, _, rfl, .inl (SqL.of hp), rfl, _, rfl, iteF ?_⟩
      refine ⟨_, rfl, pl, _, rfl, .inl (SqL.of hp), rfl, _, rfl, iteF ?_⟩
      refine ⟨_, rfl, pl, _, rfl, .inl (SqL.of hp), rfl, _, rfl, iteF ?_⟩
      refine ⟨_, rfl, pl, _, 0, _, rfl, rfl, SqL.of hp, rfl, _, rfl, pl, _, 1, _, rfl, rfl, SqL.of hp, rfl, _, _, rfl, rfl, ?_⟩
      exact ⟨_, rfl, pl, _, 0, _, rfl, rfl, SqL.of hp, rfl, _, rfl, _, rfl, pl, _, 2, _, rfl, rfl, SqL.of hp, rfl, _, _, rfl, rfl, _, _, rfl, rfl, k⟩
def sp_law_width (K : PySem.W.Frag) : Sp := fun vs H Q _ => ∃ (d c : Addr), vs = [.ref d] ∧ DeckAt H d c ∧ ∀ (x : Nat) H', 1 ≤ x → x ≤ 60 → DeckAt H' d c → Off d c H H' → Q (.int x) H'
theorem ok_law_width (T : Txt K w mg t) (TB : Tbs mg base t) : FnOk P w K mg base CX0 2 t.a_law_width t.f_law_width ["deck"] (sp_law_width K) := by
  have G_law_take : FnOk P w K mg base CX0 1 t.a_law_take t.f_law_take ["deck", "many"] (sp_law_take K) := ok_law_take T TB
  refine T.d_law_width.F.ok sc_law_width (fun vs H Q E h => ?_) (fun cdv A outer s H vs Q E hr h => ?_)
  · obtain ⟨d, c, rfl, D, k⟩ := h
    rfl
  · obtain ⟨d, c, rfl, D, k⟩ := h
    have hu := hu_of hr
    refine ⟨_, @QSs.out _ _ _ (qss_one (qs_ret (qe_ix ix_list (qe_lst (qa_c qe_int (qa_c qe_int (qa_c qe_int (qa_c qe_int (qa_c qe_int (qa_c qe_int (qa_c qe_int (qa_c (qe_op op_add qe_int (qe_callF G_law_take (hr.mono (by decide)) rfl T.d_law_take.m T.d_law_take.F.kp T.d_law_take.b .nil pass0 (qa_c (qv 0) (qa_c qe_int qa_nil)))) qa_nil))))))))) (qe_callF G_law_take (hr.mono (by decide)) rfl T.d_law_take.m T.d_law_take.F.kp T.d_law_take.b .nil pass0 (qa_c (qv 0) (qa_c qe_int qa_nil))) (fun _ _ => rfl)))), ?_⟩
    refine ⟨_, rfl, d, c, 60, rfl, D, by decide, by decide, fun r H1 r0 r1 D1 o1 => ⟨_, _, rfl, rfl, ?_⟩⟩
    refine ⟨by show 8 ≤ sizeLine; decide, fun p hp => ?_⟩
    have s1 := same_upd (o := .lst [.int 1, .int 2, .int 3, .int 4, .int 8, .int 59, .int 60, .int (1 + r)]) hp
    refine ⟨_, rfl, d, c, 8, rfl, D1.same s1, by decide, by decide, fun q H2 q0 q1 D2 o2 => ?_⟩
    have pd : p ≠ d := fun e => by obtain ⟨n, cs, hd, _⟩ := D1.ex; rw [← e, hp] at hd; cases hd
    have pc : p ≠ c := fun e => by obtain ⟨n, cs, _, hc, _⟩ := D1.ex; rw [← e, hp] at hc; cases hc
    have h2 := o2 p _ upd_same pd pc
    have oo : Off d c H H2 := (o1.trans (same_off d c s1)).trans o2
    have hq : q = 0 ∨ q = 1 ∨ q = 2 ∨ q = 3 ∨ q = 4 ∨ q = 5 ∨ q = 6 ∨ q = 7 := by omega
    rcases hq with rfl | rfl | rfl | rfl | rfl | rfl | rfl | rfl
    · exact ⟨p, _, 0, _, rfl, rfl, SqL.of h2, rfl, k 1 H2 (by decide) (by decide) D2 oo⟩
    · exact ⟨p, _, 1, _, rfl, rfl, SqL.of h2, rfl, k 2 H2 (by decide) (by decide) D2 oo⟩
    · exact ⟨p, _, 2, _, rfl, rfl, SqL.of h2, rfl, k 3 H2 (by decide) (by decide) D2 oo⟩
    · exact ⟨p, _, 3, _, rfl, rfl, SqL.of h2, rfl, k 4 H2 (by decide) (by decide) D2 oo⟩
    · exact ⟨p, _, 4, _, rfl, rfl, SqL.of h2, rfl, k 8 H2 (by decide) (by decide) D2 oo⟩
    · exact ⟨p, _, 5, _, rfl, rfl, SqL.of h2, rfl, k 59 H2 (by decide) (by decide) D2 oo⟩
    · exact ⟨p, _, 6, _, rfl, rfl, SqL.of h2, rfl, k 60 H2 (by decide) (by decide) D2 oo⟩
    · refine ⟨p, _, 7, _, rfl, rfl, SqL.of h2, rfl, ?_⟩
      obtain ⟨j, hj⟩ : ∃ j : Nat, 1 + r = (j : Int) := ⟨(1 + r).toNat, by omega⟩
      dsimp only
      rw [hj]
      exact k j H2 (by omega) (by omega) D2 oo
def sp_law_names (K : PySem.W.Frag) : Sp := fun vs H Q _ => ∃ (d c : Addr), vs = [.ref d] ∧ DeckAt H d c ∧ ∀ p (ys : List Str) H', H p = none → H' p = some (.lst (ys.map V.str)) → Nms ys → DeckAt H' d c → Off d c H H' → Q (.ref p) H'
theorem ok_law_names (T : Txt K w mg t) (TB : Tbs mg base t) : FnOk P w K mg base CX0 2 t.a_law_names t.f_law_names ["deck"] (sp_law_names K) := by
  have G_law_take : FnOk P w K mg base CX0 1 t.a_law_take t.f_law_take ["deck", "many"] (sp_law_take K) := ok_law_take T TB
  have G_law_kept : FnOk P w K mg base CX0 1 t.a_law_kept t.f_law_kept [] (sp_law_kept K) := ok_law_kept T TB
  refine T.d_law_names.F.ok sc_law_names (fun vs H Q E h => ?_) (fun cdv A outer s H vs Q E hr h => ?_)
  · obtain ⟨d, c, rfl, D, k⟩ := h
    rfl
  · obtain ⟨d, c, rfl, D, k⟩ := h
    have hu := hu_of hr
    refine ⟨_, @QSs.out _ _ _ (qss_cons (qs_set (i := 1) sc_law_names.nd rfl (Or.inr rfl) qe_str)
        (qss_cons (qs_set (i := 2) sc_law_names.nd rfl (Or.inl rfl) (qe_bmF PySem.F.plainAttrs_str PySem.F.slot_str_join PySem.F.type_str_join mt_join qe_str (qa_c (qe_comp (⟨by rfl, by decide +kernel, by decide +kernel, by rfl, by decide +kernel, by decide +kernel, by rfl, by decide +kernel⟩ : CompSc (defScope s_law_names) _ ["deck", "letters", "base", "at", "names", "k", "place", "name"] "k" ["letters", "deck"] [1, 0]) (qi_rangeF rfl T.z_range (qa_c (qe_op op_add qe_int (qe_callF G_law_take (hr.mono (by decide)) rfl T.d_law_take.m T.d_law_take.F.kp T.d_law_take.b .nil pass0 (qa_c (qv 0) (qa_c qe_int qa_nil)))) qa_nil)) (fun _ _ _ _ => qf_nil) (fun _ _ _ _ => (qe_ix ix_str (qv 1) (qe_callF G_law_take (hr.mono (by decide)) rfl T.d_law_take.m T.d_law_take.F.kp T.d_law_take.b .nil pass0 (qa_c (qv 2) (qa_c qe_int qa_nil))) (fun _ _ => rfl)))) qa_nil)))
        (qss_cons (qs_set (i := 3) sc_law_names.nd rfl (Or.inl rfl) (qe_callF G_law_take (hr.mono (by decide)) rfl T.d_law_take.m T.d_law_take.F.kp T.d_law_take.b .nil pass0 (qa_c (qv 0) (qa_c (qe_callBF call_len_str (by rfl) T.z_len bt_len (qa_c (qv 2) qa_nil)) qa_nil))))
        (qss_cons (qs_set (i := 4) sc_law_names.nd rfl (Or.inr rfl) (qe_lst qa_nil))
        (qss_cons (qs_for PassesOwn.never rfl (qi_rangeF rfl T.z_range (qa_c (qe_op op_add qe_int (qe_callF G_law_take (hr.mono (by decide)) rfl T.d_law_take.m T.d_law_take.F.kp T.d_law_take.b .nil pass0 (qa_c (qv 0) (qa_c qe_int qa_nil)))) qa_nil)) (qg_name (i := 5) sc_law_names.nd rfl (Or.inl rfl))
        (qss_cons (qs_set (i := 6) sc_law_names.nd rfl (Or.inl rfl) (qe_op op_add (qe_bmF PySem.F.plainAttrs_str PySem.F.slot_str_index PySem.F.type_str_index mt_index (qv 1) (qa_c (qe_ix ix_str (qv 2) (qv 3) (fun _ _ => rfl)) qa_nil)) (qe_op op_mulB qe_int (qv 5))))
        (qss_cons (qs_set (i := 7) sc_law_names.nd rfl (Or.inl rfl) (qe_op op_add_str (qe_op op_add_str (qe_slice sl_str (qv 2) qo_none (qo_some (qv 3))) (qe_ix ix_str (qv 1) (qe_op op_mod (qv 6) qe_int) (fun _ _ => rfl))) (qe_slice sl_str (qv 2) (qo_some (qe_op op_add (qv 3) qe_int)) qo_none)))
        (qss_cons (qs_if (qt_cmpR op_eq (qe_op op_mod (qv 5) qe_int) qe_int (nomark _))
        (qss_one (qs_set (i := 7) sc_law_names.nd rfl (Or.inl rfl) (qe_ix ix_list (qe_lst (qa_c (qe_op op_add_str (qv 7) (qe_ix ix_str (qv 1) (qe_callF G_law_take (hr.mono (by decide)) rfl T.d_law_take.m T.d_law_take.F.kp T.d_law_take.b .nil pass0 (qa_c (qv 0) (qa_c qe_int qa_nil))) (fun _ _ => rfl))) (qa_c (qe_slice sl_str (qv 7) qo_none (qo_some (qe_un un_neg qe_int))) qa_nil))) (qe_callTF call_int1 (by rfl) T.z_int bt_int (qa_c (qe_cmpR op_eq (qe_callBF call_len_str (by rfl) T.z_len bt_len (qa_c (qv 7) qa_nil)) qe_int (nomark _)) qa_nil)) (fun _ _ => rfl)))) qss_nil)
        (qss_cons (qs_if (qt_cmpR op_eq (qe_callF G_law_take (hr.mono (by decide)) rfl T.d_law_take.m T.d_law_take.F.kp T.d_law_take.b .nil pass0 (qa_c (qv 0) (qa_c qe_int qa_nil))) qe_int (nomark _))
        (qss_one (qs_set (i := 7) sc_law_names.nd rfl (Or.inl rfl) (qe_op op_add_str (qe_ix ix_list (qe_call0 G_law_kept (hr.mono (by decide)) rfl T.d_law_kept.m T.d_law_kept.F.kp T.d_law_kept.b .nil pass0) (qe_callF G_law_take (hr.mono (by decide)) rfl T.d_law_take.m T.d_law_take.F.kp T.d_law_take.b .nil pass0 (qa_c (qv 0) (qa_c qe_int qa_nil))) (fun _ _ => rfl)) (qe_ix ix_str (qv 1) (qe_callF G_law_take (hr.mono (by decide)) rfl T.d_law_take.m T.d_law_take.F.kp T.d_law_take.b .nil pass0 (qa_c (qv 0) (qa_c qe_int qa_nil))) (fun _ _ => rfl))))) qss_nil)
        (qss_cons (qs_if (qt_cmpR op_in_seq (qv 7) (qe_op op_cat (qv 4) (qe_call0 G_law_kept (hr.mono (by decide)) rfl T.d_law_kept.m T.d_law_kept.F.kp T.d_law_kept.b .nil pass0)) (by with_unfolding_all rfl))
        (qss_one (qs_set (i := 7) sc_law_names.nd rfl (Or.inl rfl) (qe_ix ix_list (qe_comp (⟨by rfl, by decide +kernel, by decide +kernel, by rfl, by decide +kernel, by decide +kernel, by rfl, by decide +kernel⟩ : CompSc (defScope s_law_names) _ ["deck", "letters", "base", "at", "names", "k", "place", "name"] "one" ["names"] [4]) (qi_list (qe_lst (qa_c qe_str (qa_c qe_str (qa_c qe_str (qa_c qe_str qa_nil)))))) (fun _ _ _ _ => (qf_one (qt_cmpR (show OpR _ (compareOp .NotIn) (rIn K true) from op_notIn_seq) (qv 0) (qv 1) (by with_unfolding_all rfl)))) (fun _ _ _ _ => (qv 0))) qe_int (fun _ _ => rfl)))) qss_nil)
        (qss_one (qs_expr (qe_bmF PySem.F.plainAttrs_list PySem.F.slot_list_append PySem.F.type_list_append mt_append (qv 4) (qa_c (qv 7) qa_nil))))))))))
        (qss_one (qs_ret (qv 4)))))))), ?_⟩
    refine ⟨rfl, _, rfl, d, c, 8, rfl, D, by decide, by decide, fun r H1 r0 r1 D1 o1 => ?_⟩
    refine ⟨_, _, rfl, rfl, _, rfl, ?_, ?_, comp_range (n := (1 + r).toNat) (fun i zs H2 => ∃ ys : List Str, zs = ys.map V.str ∧ ys.length = i ∧ (∀ y ∈ ys, ∃ c, y = ⟨#[c]⟩ ∧ Low c) ∧ DeckAt H2 d c ∧ Off d c H1 H2 ∧ i ≤ 8) ⟨[], rfl, rfl, (fun _ h => nomatch h), D1, Off.refl _ _ _, Nat.zero_le _⟩ ?_ ?_ ?_⟩
    · omega
    · omega
    · rintro i zs H2 ⟨ys, rfl, hl, _, _, _, hi⟩
      rw [List.length_map, hl]
      exact Nat.le_of_lt (small1000 (by omega))
    · rintro i zs H2 R hR hi ⟨ys, rfl, hl, hy, D2, o2, _⟩
      unfold tYes
      dsimp only
      rw [if_pos rfl]
      refine ⟨_, rfl, _, rfl, d, c, 26, rfl, D2, by decide, by decide, fun q H3 q0 q1 D3 o3 => ?_⟩
      obtain ⟨e, he, ee⟩ := low_at q0 q1
      refine ⟨lowS, _, e, rfl, rfl, low_size, ee, hR _ _ ⟨ys ++ [⟨#[e]⟩], by rw [List.map_append]; rfl, by rw [List.length_append, hl]; rfl, snoc_all hy ⟨e, rfl, he⟩, D3, o2.trans o3, by omega⟩⟩
    rintro zs H2 ⟨ys, rfl, hl, hy, D2, o2, _⟩ l hl2
    obtain ⟨f1, f2, f3⟩ := ones_flat hy
    refine ⟨_, l, ys, rfl, rfl, SqL.of upd_same, ?_, ?_⟩
    · rw [f3]
      show ys.length + ys.length * 0 ≤ _
      omega
    have js := join_signs ("" : Str) (by decide +kernel) ys
    rw [← js] at f1 f2
    generalize Txt.join ("" : Str) ys = B at *
    have hB : B.length = ys.length := by rw [len_signs]; exact f1
    have s3 := same_upd (o := .lst (ys.map V.str)) hl2
    refine ⟨_, rfl, _, rfl, B, rfl, Nat.le_of_lt (small1000 (by omega)), d, c, _, rfl, D2.same s3, by omega, by omega, fun a H4 a0 a1 D4 o4 => ?_⟩
    obtain ⟨j, rfl⟩ : ∃ j : Nat, a = (j : Int) := ⟨a.toNat, by omega⟩
    have hj : j < B.length := by omega
    have o14 : Off d c H H4 := ((o1.trans o2).trans (same_off d c s3)).trans o4
    refine ⟨by show 0 ≤ sizeLine; decide, fun p hp => ?_⟩
    have pn := deck_ne D4 hp
    have hp0 : H p = none := by
      cases e : H p with
      | none => rfl
      | some o => rw [o14 p o e pn.1 pn.2] at hp; cases hp
    refine ⟨_, rfl, d, c, 3, rfl, deck_put D4 pn, by decide, by decide, fun m H5 m0 m1 D5 o5 => ?_⟩
    have h5 := o5 p _ upd_same pn.1 pn.2
    have o15 : Off d c H H5 := (off_put o14 hp0).trans o5
    obtain ⟨e0, he0, ee0⟩ : ∃ e, e ∈ B.cps.toList ∧ atI B.cps.toList (j : Int) = some e := atI_str (z := B) (i := (j : Int)) B.length (len_signs B).symm (by omega) (by omega)
    obtain ⟨ix, rest, hix⟩ := low_index e0 (f2 e0 he0)
    refine ⟨_, _, rfl, rfl, _, rfl, ?_, ?_, for_range (n := (1 + m).toNat) (fun i σ H6 => ∃ (ys : List Str) (u5 u6 u7 : Option V), σ = [some (.ref d), some (.str lowS), some (.str B), some (.int j), some (.ref p), u5, u6, u7] ∧ H6 p = some (.lst (ys.map V.str)) ∧ ys.length = i ∧ ys.Nodup ∧ (∀ y ∈ ys, NmS y) ∧ DeckAt H6 d c ∧ Off d c H H6 ∧ i ≤ 3) ⟨[], none, none, none, rfl, h5, rfl, List.nodup_nil, (fun _ h => nomatch h), D5, o15, Nat.zero_le _⟩ ?_ ?_⟩
    · omega
    · omega
    · rintro i σ H6 hi ⟨zs, u5, u6, u7, rfl, h6, hzl, hnd, hzs, D6, o6, _⟩
      have BS : B.length ≤ sizeLine := Nat.le_of_lt (small1000 (by omega))
      refine ⟨_, rfl, rfl, _, rfl, _, rfl, B, _, e0, rfl, rfl, BS, ee0, lowS, _, ix, rest, rfl, rfl, hix, _, rfl, _, _, rfl, rfl, .inr (.inl ⟨by decide, by decide⟩), _, _, rfl, rfl, ?_⟩
      dsimp only
      obtain ⟨e1, he1, ee1⟩ := low_at (i := ((ix : Int) + 5 * (0 + (i : Int))) % 26) (Int.emod_nonneg _ (by decide)) (Int.emod_lt_of_pos _ (by decide))
      have l1 := Txt.slice_le B none (some (j : Int))
      have l2 := Txt.slice_le B (some ((j : Int) + 1)) none
      refine ⟨_, rfl, _, rfl, _, rfl, _, rfl, BS, _, rfl, _, rfl, _, _, rfl, rfl, (by show (0 : Int) < 26; decide), lowS, _, e1, rfl, rfl, low_size, ee1, _, _, rfl, rfl, ?_, ?_⟩
      · rw [one_len]
        exact Nat.le_of_lt (small1000 (by omega))
      refine ⟨_, rfl, _, rfl, _, _, rfl, rfl, _, rfl, _, rfl, BS, _, _, rfl, rfl, ?_, ?_⟩
      · rw [Str.length_append, one_len]
        exact Nat.le_of_lt (small1000 (by omega))
      have nl := len_slice1 (d := e1) hj
      have nL : NmL (Txt.slice B none (some (j : Int)) ++ ⟨#[e1]⟩ ++ Txt.slice B (some ((j : Int) + 1)) none) := by
        refine ⟨by omega, fun c hc => ?_⟩
        rcases mem_slice1 hj hc with z | z
        · exact f2 c z
        · rw [z]
          exact he1
      generalize Txt.slice B none (some (j : Int)) ++ ⟨#[e1]⟩ ++ Txt.slice B (some ((j : Int) + 1)) none = nm at *
      -- the three tests, each leaves a name
      refine gName_go ?_
      refine nx_join (fun σ H' => ∃ (nm : Str) (u6 : Option V), σ = [some (.ref d), some (.str lowS), some (.str B), some (.int j), some (.ref p), some (.int (0 + (i : Int))), u6, some (.str nm)] ∧ NmL nm ∧ DeckAt H' d c ∧ Off d c H6 H') (fun N hN => ?_) ?_
      · refine ⟨_, rfl, _, _, rfl, rfl, (by show (0 : Int) < 2; decide), rfl, _, rfl, ite2 (fun _ => ?_) (fun _ => ?_)⟩
        · refine ⟨_, rfl, _, rfl, _, rfl, d, c, 26, rfl, D6, by decide, by decide, fun q H7 q0 q1 D7 o7 => ?_⟩
          obtain ⟨e2, he2, ee2⟩ := low_at q0 q1
          have ns : nm.length ≤ sizeLine := Nat.le_of_lt (small1000 (by omega))
          have l3 := Txt.slice_le nm none (some (-1))
          refine ⟨lowS, _, e2, rfl, rfl, low_size, ee2, _, _, rfl, rfl, ?_, ?_⟩
          · rw [one_len]
            exact Nat.le_of_lt (small1000 (by omega))
          refine ⟨_, rfl, _, rfl, _, rfl, _, rfl, ns, by show 2 ≤ sizeLine; decide, fun l hl => ?_⟩
          refine ⟨_, rfl, nm, rfl, ns, rfl, .inr ⟨_, rfl, l, [.str (nm ++ ⟨#[e2]⟩), .str (Txt.slice nm none (some (-1)))], _, (if nm.length = 8 then V.str (Txt.slice nm none (some (-1))) else V.str (nm ++ ⟨#[e2]⟩)), rfl, rfl, SqL.of upd_same, ?_, ?_⟩⟩
          · by_cases h8 : nm.length = 8
            · rw [if_pos h8, h8]
              rfl
            · have e : decide (V.int (nm.length : Int) = V.int 8) = false := decide_eq_false fun z => h8 (by injection z with z; omega)
              rw [if_neg h8, e]
              rfl
          · have D8 := D7.same (same_upd (o := .lst [.str (nm ++ ⟨#[e2]⟩), .str (Txt.slice nm none (some (-1)))]) hl)
            have o8 := o7.trans (same_off d c (same_upd (o := .lst [.str (nm ++ ⟨#[e2]⟩), .str (Txt.slice nm none (some (-1)))]) hl))
            by_cases h8 : nm.length = 8
            · rw [if_pos h8]
              exact hN _ _ ⟨_, _, rfl, nL.cut h8, D8, o8⟩
            · rw [if_neg h8]
              exact hN _ _ ⟨_, _, rfl, nL.more (by have := nL.1; omega) he2, D8, o8⟩
        · exact hN _ _ ⟨nm, _, rfl, nL, D6, Off.refl _ _ _⟩
      clear nL nl
      rintro σ H7 ⟨nm, v6, rfl, nL, D7, o7⟩
      show tSeq (tIfS _ _ _) _ _ _ _
      refine seq_join (fun σ H' => ∃ (nm : Str) (u6 : Option V), σ = [some (.ref d), some (.str lowS), some (.str B), some (.int j), some (.ref p), some (.int (0 + (i : Int))), u6, some (.str nm)] ∧ NmL nm ∧ DeckAt H' d c ∧ Off d c H6 H') (fun N hN => ?_) ?_
      · refine ⟨_, rfl, d, c, 6, rfl, D7, by decide, by decide, fun q H8 q0 q1 D8 o8 => ⟨rfl, _, rfl, ite2 (fun _ => ?_) (fun _ => ?_)⟩⟩
        · refine ⟨rfl, fun kp H9 hkp h9 s9 => ?_⟩
          have kn := deck_ne D8 hkp
          refine ⟨_, rfl, d, c, 20, rfl, D8.same s9, by decide, by decide, fun q2 H10 q20 q21 D10 o10 => ?_⟩
          obtain ⟨ky, hky, eky⟩ := atI_strs (ys := keptS) (i := q2) q20 q21
          have hk10 := o10 _ _ h9 kn.1 kn.2
          obtain ⟨kl, kc⟩ := kept_low ky hky
          refine ⟨kp, _, _, _, rfl, rfl, SqL.of hk10, eky, _, rfl, _, rfl, d, c, 26, rfl, D10, by decide, by decide, fun q3 H11 q30 q31 D11 o11 => ?_⟩
          obtain ⟨e3, he3, ee3⟩ := low_at q30 q31
          refine ⟨lowS, _, e3, rfl, rfl, low_size, ee3, _, _, rfl, rfl, ?_, ?_⟩
          · rw [one_len]
            exact Nat.le_of_lt (small1000 (by omega))
          · exact hN _ _ ⟨_, _, rfl, NmL.more ⟨⟨kl.1, by omega⟩, kc⟩ kl.2 he3, D11, (((o7.trans o8).trans (same_off d c s9)).trans o10).trans o11⟩
        · exact hN _ _ ⟨nm, _, rfl, nL, D8, o7.trans o8⟩
      clear nL
      rintro σ H8 ⟨nm, v6', rfl, nL, D8, o8⟩
      have h8 := o8 _ _ h6 pn.1 pn.2
      show tSeq (tIfS _ _ _) _ _ _ _
      refine seq_join (fun σ H' => ∃ (nm : Str) (u6 : Option V), σ = [some (.ref d), some (.str lowS), some (.str B), some (.int j), some (.ref p), some (.int (0 + (i : Int))), u6, some (.str nm)] ∧ NmS nm ∧ nm ∉ zs ∧ DeckAt H' d c ∧ Off d c H6 H') (fun N hN => ?_) ?_
      · refine ⟨_, rfl, _, rfl, rfl, fun kp H9 hkp h9 s9 => ?_⟩
        refine ⟨p, kp, _, _, rfl, rfl, s9 _ _ h8, h9, ?_, fun l hl => ?_⟩
        · rw [List.length_map, List.length_map]
          exact Nat.le_of_lt (small1000 (show zs.length + 20 ≤ 1000 by omega))
        rw [← List.map_append]
        have s10 := s9.trans (same_upd (o := .lst ((zs ++ keptS).map V.str)) hl)
        refine ⟨l, _, rfl, .inl (SqL.of upd_same), rfl, all_flatS _, ?_⟩
        rw [inV_strs]
        refine ⟨_, rfl, ite2 (fun hin => ?_) (fun hin => ?_)⟩
        · refine ⟨by show 4 ≤ sizeLine; decide, fun g hg => ?_⟩
          have s11 := s10.trans (same_upd (o := .lst (spareS.map V.str)) hg)
          have h11 := s11 _ _ h8
          obtain ⟨y, rr, ey, hy1, hy2⟩ := spare_left (ys := zs) (by omega)
          refine ⟨g, rfl, ⟨_, SqL.of upd_same⟩, comp_filter (xs := spareS.map V.str) (fun v => !inV v (zs.map V.str)) (fun v => v) (SqL.of upd_same) (by decide) (fun v hv R hR => ?_) (fun v hv _ R hR => ⟨_, rfl, hR⟩) (fun l2 hl2 => ?_)⟩
          · obtain ⟨z, _, rfl⟩ := List.mem_map.mp hv
            exact ⟨_, rfl, _, rfl, p, _, rfl, .inl (SqL.of h11), rfl, all_flatS _, _, rfl, hR⟩
          have ef : ((spareS.map V.str).filter (fun v => !inV v (zs.map V.str))).map (fun v => v) = (y :: rr).map V.str := by
            rw [← ey, List.map_id', List.filter_map]
            congr 1
            apply List.filter_congr
            intro z _
            show (!inV (.str z) (zs.map V.str)) = _
            rw [inV_strs]
          rw [ef]
          have s12 := s11.trans (same_upd (o := .lst ((y :: rr).map V.str)) hl2)
          exact ⟨l2, _, _, _, rfl, rfl, SqL.of upd_same, (atI_nat (j := 0) rfl : atI ((y :: rr).map V.str) ((0 : Nat) : Int) = some (V.str y)), hN _ _ ⟨y, _, rfl, ⟨(spare_ok y hy1).1, (spare_ok y hy1).2⟩, hy2, D8.same s12, o8.trans (same_off d c s12)⟩⟩
        · have hin' : nm ∉ zs ++ keptS := of_decide_eq_false (by simpa using hin)
          exact hN _ _ ⟨nm, _, rfl, ⟨nL, fun z => hin' (List.mem_append_right _ z)⟩, fun z => hin' (List.mem_append_left _ z), D8.same s10, o8.trans (same_off d c s10)⟩
      clear nL
      rintro σ H9 ⟨nm, v6'', rfl, nS, nz, D9, o9⟩
      have h9 := o9 _ _ h6 pn.1 pn.2
      refine ⟨_, rfl, .inl ⟨rfl, _, SqL.of h9⟩, _, rfl, p, _, _, rfl, rfl, h9, ?_, zs ++ [nm], _, _, _, rfl, ?_, ?_, ?_, ?_, deck_put D9 pn, off_put (o6.trans o9) hp0, by omega⟩
      · rw [List.length_map]
        exact small1000 (by omega)
      · rw [upd_same, List.map_append]
        rfl
      · rw [List.length_append, hzl]
        rfl
      · rw [List.nodup_append]
        exact ⟨hnd, List.nodup_cons.mpr ⟨List.not_mem_nil, List.nodup_nil⟩, fun a ha b hb => by
          rw [List.mem_singleton.mp hb]
          exact fun e => nz (by rw [← e]; exact ha)⟩
      · exact snoc_all hzs nS
    · rintro σ H6 ⟨zs, u5, u6, u7, rfl, h6, hzl, hnd, hzs, D6, o6, hi3⟩
      exact ⟨_, rfl, k p zs H6 hp0 h6 ⟨by omega, by omega, hnd, hzs⟩ D6 o6⟩
def sp_law_leaf (K : PySem.W.Frag) : Sp := fun vs H Q _ => ∃ (d c p : Addr) (ys : List Str), vs = [.ref d, .ref p] ∧ DeckAt H d c ∧ H p = some (.lst (ys.map V.str)) ∧ Nms ys ∧ ∀ v H', LeafOk ys v → DeckAt H' d c → Off d c H H' → Q v H'
theorem ok_law_leaf (T : Txt K w mg t) (TB : Tbs mg base t) : FnOk P w K mg base CX0 2 t.a_law_leaf t.f_law_leaf ["deck", "names"] (sp_law_leaf K) := by
  have G_law_take : FnOk P w K mg base CX0 1 t.a_law_take t.f_law_take ["deck", "many"] (sp_law_take K) := ok_law_take T TB
  refine T.d_law_leaf.F.ok sc_law_leaf (fun vs H Q E h => ?_) (fun cdv A outer s H vs Q E hr h => ?_)
  · obtain ⟨d, c, p, ys, rfl, D, hp, N, k⟩ := h
    rfl
  · obtain ⟨d, c, p, ys, rfl, D, hp, N, k⟩ := h
    have hu := hu_of hr
    refine ⟨_, @QSs.out _ _ _ (qss_cons (qs_set (i := 2) sc_law_leaf.nd rfl (Or.inl rfl) (qe_callF G_law_take (hr.mono (by decide)) rfl T.d_law_take.m T.d_law_take.F.kp T.d_law_take.b .nil pass0 (qa_c (qv 0) (qa_c qe_int qa_nil))))
        (qss_cons (qs_if (qt_cmpR op_lt (qv 2) qe_int (nomark _))
        (qss_one (qs_ret (qe_ix ix_list (qv 1) (qe_callF G_law_take (hr.mono (by decide)) rfl T.d_law_take.m T.d_law_take.F.kp T.d_law_take.b .nil pass0 (qa_c (qv 0) (qa_c (qe_callBF call_len_seq (by rfl) T.z_len bt_len (qa_c (qv 1) qa_nil)) qa_nil))) (fun _ _ => rfl)))) qss_nil)
        (qss_one (qs_ret (qe_ix ix_list (qe_lst (qa_c (qe_callF G_law_take (hr.mono (by decide)) rfl T.d_law_take.m T.d_law_take.F.kp T.d_law_take.b .nil pass0 (qa_c (qv 0) (qa_c qe_int qa_nil))) (qa_c (qe_ix ix_list (qe_lst (qa_c (qe_callF G_law_take (hr.mono (by decide)) rfl T.d_law_take.m T.d_law_take.F.kp T.d_law_take.b .nil pass0 (qa_c (qv 0) (qa_c qe_int qa_nil))) (qa_c qe_int (qa_c qe_int (qa_c qe_int (qa_c qe_int qa_nil)))))) (qe_callF G_law_take (hr.mono (by decide)) rfl T.d_law_take.m T.d_law_take.F.kp T.d_law_take.b .nil pass0 (qa_c (qv 0) (qa_c qe_int qa_nil))) (fun _ _ => rfl)) qa_nil))) (qe_op op_sub (qv 2) qe_int) (fun _ _ => rfl)))))), ?_⟩
    have pn := deck_strs D hp N.l1
    have n3 := N.l3
    have n1 := N.l1
    refine ⟨_, rfl, d, c, 5, rfl, D, by decide, by decide, fun r H1 r0 r1 D1 o1 => ?_⟩
    have hp1 := o1 _ _ hp pn.1 pn.2
    refine ⟨_, rfl, _, _, rfl, rfl, _, rfl, ite2 (fun h3 => ?_) (fun h3 => ?_)⟩
    · refine ⟨_, rfl, _, rfl, _, rfl, p, _, rfl, .inl (SqL.of hp1), d, c, _, rfl, D1, ?_, ?_, fun q H2 q0 q1 D2 o2 => ?_⟩
      · rw [List.length_map]
        omega
      · rw [List.length_map]
        omega
      rw [List.length_map] at q1
      obtain ⟨y, hy, ey⟩ := atI_strs (ys := ys) q0 q1
      exact ⟨p, _, _, _, rfl, rfl, SqL.of (o2 _ _ hp1 pn.1 pn.2), ey, k _ _ (.inl ⟨y, hy, rfl⟩) D2 (o1.trans o2)⟩
    have r3 : ¬ r < 3 := fun z => h3 (decide_eq_true z)
    refine ⟨_, rfl, d, c, 4, rfl, D1, by decide, by decide, fun a H2 a0 a1 D2 o2 => ⟨_, rfl, d, c, 1000, rfl, D2, by decide, by decide, fun b H3 b0 b1 D3 o3 => ⟨by show 5 ≤ sizeLine; decide, fun l hl => ?_⟩⟩⟩
    have ln := deck_ne D3 hl
    have s4 := same_upd (o := .lst [.int b, .int 999, .int 255, .int 256, .int 512]) hl
    refine ⟨_, rfl, d, c, 5, rfl, D3.same s4, by decide, by decide, fun q H4 q0 q1 D4 o4 => ?_⟩
    have h4 := o4 _ _ upd_same ln.1 ln.2
    have oo : Off d c H H4 := (((o1.trans o2).trans o3).trans (same_off d c s4)).trans o4
    obtain ⟨z, hz, ez⟩ : ∃ z : Int, (0 ≤ z ∧ z < 1000) ∧ atI [V.int b, .int 999, .int 255, .int 256, .int 512] q = some (.int z) := by
      have hq : q = 0 ∨ q = 1 ∨ q = 2 ∨ q = 3 ∨ q = 4 := by omega
      rcases hq with rfl | rfl | rfl | rfl | rfl
      · exact ⟨b, ⟨b0, b1⟩, rfl⟩
      · exact ⟨999, by omega, rfl⟩
      · exact ⟨255, by omega, rfl⟩
      · exact ⟨256, by omega, rfl⟩
      · exact ⟨512, by omega, rfl⟩
    refine ⟨l, _, q, _, rfl, rfl, SqL.of h4, ez, by show 2 ≤ sizeLine; decide, fun l2 hl2 => ?_⟩
    have s5 := same_upd (o := .lst [.int a, .int z]) hl2
    have hr : r = 3 ∨ r = 4 := by omega
    rcases hr with rfl | rfl
    · exact ⟨_, rfl, _, _, rfl, rfl, l2, _, _, _, rfl, rfl, SqL.of upd_same, rfl, k _ _ (.inr ⟨a, rfl, a0, by omega⟩) (D4.same s5) (oo.trans (same_off d c s5))⟩
    · exact ⟨_, rfl, _, _, rfl, rfl, l2, _, _, _, rfl, rfl, SqL.of upd_same, rfl, k _ _ (.inr ⟨z, rfl, hz.1, hz.2⟩) (D4.same s5) (oo.trans (same_off d c s5))⟩
def sp_law_values (K : PySem.W.Frag) : Sp := fun vs H Q _ => ∃ (d c p : Addr) (ys : List Str) (W : Nat), vs = [.ref d, .ref p, .int W] ∧ DeckAt H d c ∧ H p = some (.lst (ys.map V.str)) ∧ Nms ys ∧ W ≤ 60 ∧
  ∀ dv kvs ρ H', H dv = none → H' dv = some (.dK kvs) → ValOk kvs ys ρ → DeckAt H' d c → Off d c H H' → Q (.ref dv) H'
theorem sixth {a b : Int} {x0 x1 x2 x3 : Int} {q : Int} (q0 : 0 ≤ q) (q1 : q < 6) : ∃ z : Int, atI [V.int x0, .int x1, .int x2, .int x3, .int a, .int b] q = some (.int z) := by
  have hq : q = 0 ∨ q = 1 ∨ q = 2 ∨ q = 3 ∨ q = 4 ∨ q = 5 := by omega
  rcases hq with rfl | rfl | rfl | rfl | rfl | rfl
  · exact ⟨x0, rfl⟩
  · exact ⟨x1, rfl⟩
  · exact ⟨x2, rfl⟩
  · exact ⟨x3, rfl⟩
  · exact ⟨a, rfl⟩
  · exact ⟨b, rfl⟩
theorem ok_law_values (T : Txt K w mg t) (TB : Tbs mg base t) : FnOk P w K mg base CX0 2 t.a_law_values t.f_law_values ["deck", "names", "width"] (sp_law_values K) := by
  have G_law_take : FnOk P w K mg base CX0 1 t.a_law_take t.f_law_take ["deck", "many"] (sp_law_take K) := ok_law_take T TB
  have G_law_power : FnOk P w K mg base CX0 1 t.a_law_power t.f_law_power ["width"] (sp_law_power K) := ok_law_power T TB
  refine T.d_law_values.F.ok sc_law_values (fun vs H Q E h => ?_) (fun cdv A outer s H vs Q E hr h => ?_)
  · obtain ⟨d, c, p, ys, W, rfl, D, hp, N, hW, k⟩ := h
    rfl
  · obtain ⟨d, c, p, ys, W, rfl, D, hp, N, hW, k⟩ := h
    have hu := hu_of hr
    refine ⟨_, @QSs.out _ _ _ (qss_cons (qs_set (i := 3) sc_law_values.nd rfl (Or.inl rfl) qe_dnew)
        (qss_cons (qs_set (i := 4) sc_law_values.nd rfl (Or.inl rfl) (qe_callF G_law_power (hr.mono (by decide)) rfl T.d_law_power.m T.d_law_power.F.kp T.d_law_power.b .nil pass0 (qa_c (qv 2) qa_nil)))
        (qss_cons (qs_for PassesOwn.never rfl (qi_list (qv 1)) (qg_name (i := 5) sc_law_values.nd rfl (Or.inl rfl))
        (qss_cons (qs_set (i := 6) sc_law_values.nd rfl (Or.inl rfl) (qe_lst (qa_c qe_int (qa_c qe_int (qa_c (qe_op op_sub (qv 4) qe_int) (qa_c (qe_op op_fdivB (qv 4) qe_int) (qa_c (qe_callF G_law_take (hr.mono (by decide)) rfl T.d_law_take.m T.d_law_take.F.kp T.d_law_take.b .nil pass0 (qa_c (qv 0) (qa_c (qv 4) qa_nil))) (qa_c (qe_op op_mod (qe_callF G_law_take (hr.mono (by decide)) rfl T.d_law_take.m T.d_law_take.F.kp T.d_law_take.b .nil pass0 (qa_c (qv 0) (qa_c qe_int qa_nil))) (qv 4)) qa_nil))))))))
        (qss_one (qs_dput hu (qv 3) (qv 5) (qe_ix ix_list (qv 6) (qe_callF G_law_take (hr.mono (by decide)) rfl T.d_law_take.m T.d_law_take.F.kp T.d_law_take.b .nil pass0 (qa_c (qv 0) (qa_c qe_int qa_nil))) (fun _ _ => rfl)) rfl))))
        (qss_one (qs_ret (qv 3)))))), ?_⟩
    have pn := deck_strs D hp N.l1
    have l3 := N.l3
    have pW := pow_pos' W
    have sW := small_pow hW
    refine fun dv hdv => ?_
    have dn := deck_ne D hdv
    have dp : p ≠ dv := ne_of_none hp hdv
    have s1 := same_upd (o := .dK []) hdv
    refine ⟨_, rfl, W, rfl, by omega, ?_⟩
    refine ⟨_, rfl, p, rfl, ⟨_, SqL.of (s1 _ _ hp)⟩, for_list (K := K) (a := p) (xs := ys.map V.str) (fun i σ H' => ∃ kvs ρ u5 u6, σ = [some (.ref d), some (.ref p), some (.int W), some (.ref dv), some (.int (2 ^ W)), u5, u6] ∧ H' dv = some (.dK kvs) ∧ ValOk kvs (ys.take i) ρ ∧ kvs.length ≤ i ∧ i ≤ ys.length ∧ H' p = some (.lst (ys.map V.str)) ∧ DeckAt H' d c ∧ Off d c H H') ⟨[], fun _ => 0, none, none, rfl, upd_same, (fun y hy => by simp at hy), Nat.le_refl _, Nat.zero_le _, s1 _ _ hp, D.same s1, same_off d c s1⟩ (fun i σ H' _ ⟨_, _, _, _, _, _, _, _, _, e, _⟩ => SqL.of e) ?_ ?_⟩
    · rintro i x σ H2 hx ⟨kvs, ρ, u5, u6, rfl, hd2, hv2, hl2, _, hp2, D2, o2⟩
      rw [List.getElem?_map] at hx
      obtain ⟨y, hy, rfl⟩ := Option.map_eq_some_iff.mp hx
      have hi : i < ys.length := (List.getElem?_eq_some_iff.mp hy).1
      refine ⟨_, rfl, _, _, rfl, rfl, _, rfl, _, _, rfl, rfl, .of (by decide) (by decide), _, rfl, _, rfl, d, c, 2 ^ W, rfl, D2, pW, by omega, fun r3 H3 _ _ D3 o3 => ⟨_, rfl, d, c, 9, rfl, D3, by decide, by decide, fun r4 H4 _ _ D4 o4 => ⟨_, rfl, _, _, rfl, rfl, pW, by show 6 ≤ sizeLine; decide, fun l hl => ?_⟩⟩⟩
      have ln := deck_ne D4 hl
      have o24 := o3.trans o4
      have s5 := same_upd (o := .lst [.int 0, .int 1, .int (2 ^ W - 1), .int (2 ^ W / 2), .int r3, .int (r4 % 2 ^ W)]) hl
      have D5 := D4.same s5
      refine ⟨_, rfl, _, rfl, d, c, 6, rfl, D5, by decide, by decide, fun q H6 q0 q1 D6 o6 => ?_⟩
      obtain ⟨z, hz⟩ := sixth (a := r3) (b := r4 % 2 ^ W) (x0 := 0) (x1 := 1) (x2 := 2 ^ W - 1) (x3 := 2 ^ W / 2) q0 q1
      have o26 : Off d c H2 H6 := (o24.trans (same_off d c s5)).trans o6
      have hd6 := o26 _ _ hd2 dn.1 dn.2
      have hp6 := o26 _ _ hp2 pn.1 pn.2
      have lp := length_putK kvs (.inr y) (.int z)
      refine ⟨l, _, q, .int z, rfl, rfl, SqL.of (o6 _ _ upd_same ln.1 ln.2), hz, _, rfl, _, rfl, dv, _, rfl, DPut.k (k := .inr y) hd6 (small1000 (by omega)), putK kvs (.inr y) (.int z), (fun x => if x = y then z else ρ x), _, _, rfl, upd_same, fun x hx2 => ?_, by omega, hi, by rw [upd_ne dp]; exact hp6, deck_put D6 dn, off_put (o2.trans o26) hdv⟩
      rw [take_snoc hy] at hx2
      rw [valV_put]
      dsimp only
      by_cases hxy : x = y
      · rw [if_pos (by rw [hxy]), if_pos hxy]
      · rw [if_neg (fun e => hxy (Sum.inr.inj e)), if_neg hxy]
        rcases List.mem_append.mp hx2 with h | h
        · exact hv2 x h
        · exact absurd (List.mem_singleton.mp h) hxy
    · rintro σ H2 ⟨kvs, ρ, u5, u6, rfl, hd2, hv2, _, _, hp2, D2, o2⟩
      rw [List.length_map, List.take_length] at hv2
      exact ⟨_, rfl, k dv kvs ρ H2 hdv hd2 hv2 D2 o2⟩
def sp_parts_taken (K : PySem.W.Frag) : Sp := fun vs H Q _ => ∃ (s : Addr) (stk : List V) (w : V), vs = [.ref s, w] ∧ H s = some (.lst stk.reverse) ∧ w = kV (keyOf w) ∧ npw w ≤ stk.length ∧ stk.length ≤ 100 ∧
  ∀ pl H', H pl = none → H' pl = some (.lst (stk.take (npw w))) → H' s = some (.lst (stk.drop (npw w)).reverse) → (∀ b o, H b = some o → b ≠ s → H' b = some o) → Q (.ref pl) H'
theorem ok_parts_taken (T : Txt K w mg t) (TB : Tbs mg base t) : FnOk P w K mg base CX0 3 t.a_parts_taken t.f_parts_taken ["stack", "word"] (sp_parts_taken K) := by
  have G_parts_of : FnOk P w K mg base CX0 2 t.a_parts_of t.f_parts_of ["word"] (sp_parts_of K) := ok_parts_of T TB
  refine T.d_parts_taken.F.ok sc_parts_taken (fun vs H Q E h => ?_) (fun cdv A outer s H vs Q E hr h => ?_)
  · obtain ⟨st, stk, x, rfl, hs, hx, hn, hl, k⟩ := h
    rfl
  · obtain ⟨st, stk, x, rfl, hs, hx, hn, hl, k⟩ := h
    have hu := hu_of hr
    refine ⟨_, @QSs.out _ _ _ (qss_one (qs_ret (qe_comp (⟨by rfl, by decide +kernel, by decide +kernel, by rfl, by decide +kernel, by decide +kernel, by rfl, by decide +kernel⟩ : CompSc (defScope s_parts_taken) _ ["stack", "word"] "part" ["stack"] [0]) (qi_rangeF rfl T.z_range (qa_c (qe_callF G_parts_of (hr.mono (by decide)) rfl T.d_parts_of.m T.d_parts_of.F.kp T.d_parts_of.b .nil pass0 (qa_c (qv 1) qa_nil)) qa_nil)) (fun _ _ _ _ => qf_nil) (fun _ _ _ _ => (show QE _ _ (tBM0 K "list" rPop (tVar 1)) from (qe_bm0 PySem.F.plainAttrs_list PySem.F.slot_list_pop PySem.F.type_list_pop mt_pop (qv 1))))))), ?_⟩
    refine ⟨_, rfl, keyOf x, congrArg (fun z => [z]) hx, allParts (keyOf x), rfl, ?_, ?_, comp_range (n := (allParts (keyOf x)).toNat) (fun i zs H2 => i ≤ npw x ∧ zs = stk.take i ∧ H2 st = some (.lst (stk.drop i).reverse) ∧ ∀ b o, H b = some o → b ≠ st → H2 b = some o) ⟨Nat.zero_le _, rfl, hs, fun b o e _ => e⟩ ?_ ?_ ?_⟩
    · have := allParts_bd (keyOf x)
      omega
    · have := allParts_bd (keyOf x)
      omega
    · rintro i zs H2 ⟨_, rfl, _, _⟩
      rw [List.length_take]
      exact Nat.le_of_lt (small1000 (by omega))
    · rintro i zs H2 R hR hi ⟨hi1, rfl, h2, o2⟩
      have hi2 : i < npw x := hi
      have hi3 : i < stk.length := by omega
      rw [rev_pop hi3] at h2
      unfold tYes
      dsimp only
      rw [if_pos rfl]
      refine ⟨_, rfl, .inl ⟨rfl, _, SqL.of h2⟩, st, _, stk[i], rfl, rfl, h2, last_snoc _ _, hR _ _ ⟨hi2, ?_, ?_, fun b o e hb => ?_⟩⟩
      · rw [take_snoc (List.getElem?_eq_getElem hi3)]
      · rw [upd_same, List.dropLast_concat]
      · rw [upd_ne hb]
        exact o2 b o e hb
    · rintro zs H2 ⟨hi1, rfl, h2, o2⟩ l hl2
      have hlH : H l = none := by
        cases q : H l with
        | none => rfl
        | some o =>
          by_cases hb : l = st
          · rw [hb, h2] at hl2
            cases hl2
          · rw [o2 l o q hb] at hl2
            cases hl2
      have hls : st ≠ l := ne_of_none h2 hl2
      refine k l _ hlH upd_same ?_ fun b o e hb => ?_
      · rw [upd_ne hls]
        exact h2
      · rw [upd_ne (ne_of_none e hlH)]
        exact o2 b o e hb
def sp_refuse_lacking (K : PySem.W.Frag) : Sp := fun vs H Q _ => ∃ (tw dv : Addr) (ws : List V) (kvs : List (Key × V)), vs = [.ref tw, .ref dv] ∧ H tw = some (.tup ws) ∧ H dv = some (.dK kvs) ∧ (∀ x ∈ ws, StrInt x) ∧ (∀ y, V.str y ∈ ws → nmB (.str y) = true → (valV kvs (.inr y)).isSome = true) ∧ ∀ H', Same H H' → Q .non H'
theorem ok_refuse_lacking (T : Txt K w mg t) (TB : Tbs mg base t) : FnOk P w K mg base CX0 3 t.a_refuse_lacking t.f_refuse_lacking ["words", "values"] (sp_refuse_lacking K) := by
  have G_is_name : FnOk P w K mg base CX0 2 t.a_is_name t.f_is_name ["text"] (sp_is_name K) := ok_is_name T TB
  refine T.d_refuse_lacking.F.ok sc_refuse_lacking (fun vs H Q E h => ?_) (fun cdv A outer s H vs Q E hr h => ?_)
  · obtain ⟨tw, dv, ws, kvs, rfl, ht, hd, hw, hin, k⟩ := h
    rfl
  · obtain ⟨tw, dv, ws, kvs, rfl, ht, hd, hw, hin, k⟩ := h
    have hu := hu_of hr
    refine ⟨_, @QSs.out _ _ _ (qss_one (qs_for PassesOwn.never rfl (qi_tup (qv 0)) (qg_name (i := 2) sc_refuse_lacking.nd rfl (Or.inl rfl))
        (qss_one (qs_if (qw_pt (qw_and (qt_val (qe_callBF call_isi (by rfl) T.z_isinstance bt_isinstance (qa_c (qv 2) (qa_c (qe_bltn (v := .ty "str") (by rfl) T.z_str bt_str rfl) qa_nil)))) (qw_and (qt_val (qe_callF G_is_name (hr.mono (by decide)) rfl T.d_is_name.m T.d_is_name.F.kp T.d_is_name.b .nil pass0 (qa_c (qv 2) qa_nil))) (qw_and1 (qt_cmpR (op_notIn_dict hu) (qv 2) (qv 1) (by with_unfolding_all rfl))))))
        (qss_one qs_never) qss_nil)))), ?_⟩
    refine ⟨_, rfl, tw, rfl, ⟨_, SqT.of ht⟩, for_tup (K := K) (a := tw) (xs := ws) (fun i σ H2 => ∃ u2, σ = [some (.ref tw), some (.ref dv), u2] ∧ Same H H2) ⟨none, rfl, Same.refl H⟩ (fun i σ H2 _ ⟨_, _, s⟩ => SqT.of (s _ _ ht)) ?_ ?_⟩
    · rintro i x σ H2 hx ⟨u2, rfl, s2⟩
      have hm := List.mem_of_getElem? hx
      rcases hw x hm with ⟨y, rfl, hy⟩ | ⟨z, rfl⟩
      · refine ⟨_, rfl, _, _, _, _, rfl, .str y, kit_str_str, _, rfl, iteT ⟨_, rfl, y, rfl, Nat.le_trans hy (by decide), fun H3 s3 => ⟨_, rfl, ?_⟩⟩⟩
        have s23 := s2.trans s3
        by_cases hb : nmB (.str y) = true
        · have hb' : decide (y ∉ keptS ∧ NmL y) = true := hb
          rw [hb']
          refine iteT ⟨_, rfl, _, rfl, dv, valV kvs (.inr y), rfl, .inl ⟨kvs, .inr y, .inl (s23 _ _ hd), rfl, rfl⟩, _, rfl, ?_⟩
          rw [hin y hm hb]
          exact iteF ⟨_, rfl, s23⟩
        · have hb' : decide (y ∉ keptS ∧ NmL y) = false := Bool.eq_false_iff.mpr hb
          rw [hb']
          exact iteF (iteF ⟨_, rfl, s23⟩)
      · exact ⟨_, rfl, _, _, _, _, rfl, .int z, kit_int_str, _, rfl, iteF (iteF ⟨_, rfl, s2⟩)⟩
    · rintro σ H2 ⟨u2, rfl, s2⟩
      exact k H2 s2
def sp_sum_word_read (K : PySem.W.Frag) : Sp := fun vs H Q _ => ∃ (ys : List Str) (w : V), vs = [.str (shw w)] ∧ Nms ys ∧ WordOk ys w ∧ ∀ H', Same H H' → Q w H'
theorem ok_sum_word_read (T : Txt K w mg t) (TB : Tbs mg base t) : FnOk P w K mg base CX0 3 t.a_sum_word_read t.f_sum_word_read ["part"] (sp_sum_word_read K) := by
  have G_is_name : FnOk P w K mg base CX0 2 t.a_is_name t.f_is_name ["text"] (sp_is_name K) := ok_is_name T TB
  have G_is_sum_word : FnOk P w K mg base CX0 1 t.a_is_sum_word t.f_is_sum_word ["text"] (sp_is_sum_word K) := ok_is_sum_word T TB
  have G_is_figures : FnOk P w K mg base CX0 2 t.a_is_figures t.f_is_figures ["text"] (sp_is_figures K) := ok_is_figures T TB
  refine T.d_sum_word_read.F.ok sc_sum_word_read (fun vs H Q E h => ?_) (fun cdv A outer s H vs Q E hr h => ?_)
  · obtain ⟨ys, w, rfl, N, hw, k⟩ := h
    rfl
  · obtain ⟨ys, w, rfl, N, hw, k⟩ := h
    have hu := hu_of hr
    refine ⟨_, @QSs.out _ _ _ (qss_cons (qs_if (qt_val (qe_callF G_is_figures (hr.mono (by decide)) rfl T.d_is_figures.m T.d_is_figures.F.kp T.d_is_figures.b .nil pass0 (qa_c (qv 0) qa_nil)))
        (qss_one (qs_ret (qe_callTF call_int_str (by rfl) T.z_int bt_int (qa_c (qv 0) qa_nil)))) qss_nil)
        (qss_cons (qs_if (qw_pt (qw_or (qt_val (qe_callF G_is_sum_word (hr.mono (by decide)) rfl T.d_is_sum_word.m T.d_is_sum_word.F.kp T.d_is_sum_word.b .nil pass0 (qa_c (qv 0) qa_nil))) (qw_or1 (qt_val (qe_callF G_is_name (hr.mono (by decide)) rfl T.d_is_name.m T.d_is_name.F.kp T.d_is_name.b .nil pass0 (qa_c (qv 0) qa_nil))))))
        (qss_one (qs_ret (qv 0))) qss_nil)
        (qss_one qs_never))), ?_⟩
    have hl : (shw w).length ≤ 100000 := Nat.le_trans (shw_ok N hw).2 (by decide)
    refine ⟨_, rfl, _, rfl, hl, fun H1 s1 => ⟨_, rfl, ?_⟩⟩
    rcases hw with ⟨y, rfl, hy⟩ | ⟨y, hy, rfl⟩ | ⟨z, rfl, h0, h1⟩
    · show if figB y = true then _ else _
      rw [fig_sum y hy]
      refine iteF ?_
      refine ⟨_, rfl, y, rfl, _, rfl, ?_⟩
      rw [decide_eq_true hy]
      exact iteT (iteT ⟨_, rfl, k H1 s1⟩)
    · have ny := N.ok y hy
      show if figB y = true then _ else _
      rw [fig_name ny.l]
      refine iteF ?_
      refine ⟨_, rfl, y, rfl, _, rfl, ?_⟩
      rw [decide_eq_false (fun z => ny.k (sum_kept y z))]
      refine iteF ⟨_, rfl, y, rfl, hl, fun H2 s2 => ⟨_, rfl, ?_⟩⟩
      rw [decide_eq_true ⟨ny.k, ny.l⟩]
      exact iteT ⟨_, rfl, k H2 (s1.trans s2)⟩
    · obtain ⟨n, rfl⟩ : ∃ n : Nat, z = (n : Int) := ⟨z.toNat, by omega⟩
      show if figB (Str.ofString (toString ((n : Nat) : Int))) = true then _ else _
      rw [fig_num n (by omega)]
      exact iteT ⟨_, rfl, _, (n : Int), rfl, PySem.W.KIN.num_reads (by omega) (by omega), Nat.le_trans (num_short n (by omega)) (by decide), k H1 s1⟩
def sp_names_of (K : PySem.W.Frag) : Sp := fun vs H Q _ => ∃ (t : Addr) (ws : List V), vs = [.ref t] ∧ H t = some (.tup ws) ∧ (∀ w ∈ ws, StrInt w) ∧ ws.length ≤ 60 ∧ ∀ p H' (ms : List Str), H p = none → H' p = some (.tup (ms.map V.str)) → Same H H' → ms.Perm (onces ((ws.filter nmB).map strV)) → PyProof.Rows.sortedS ms = true → Q (.ref p) H'
theorem ok_names_of (T : Txt K w mg t) (TB : Tbs mg base t) : FnOk P w K mg base CX0 3 t.a_names_of t.f_names_of ["words"] (sp_names_of K) := by
  have G_is_name : FnOk P w K mg base CX0 2 t.a_is_name t.f_is_name ["text"] (sp_is_name K) := ok_is_name T TB
  refine T.d_names_of.F.ok sc_names_of (fun vs H Q E h => ?_) (fun cdv A outer s H vs Q E hr h => ?_)
  · obtain ⟨t, ws, rfl, ht, hw, hl, k⟩ := h
    rfl
  · obtain ⟨t, ws, rfl, ht, hw, hl, k⟩ := h
    have hu := hu_of hr
    refine ⟨_, @QSs.out _ _ _ (qss_one (qs_ret (qe_callTF call_tuple_of (by rfl) T.z_tuple bt_tuple (qa_c (qe_callBF (call_sortedTx rfl) (by rfl) T.z_sorted bt_sorted (qa_c (qe_callTF (call_setS rfl) (by rfl) T.z_set bt_set (qa_c (qe_comp (⟨by rfl, by decide +kernel, by decide +kernel, by rfl, by decide +kernel, by decide +kernel, by rfl, by decide +kernel⟩ : CompSc (defScope s_names_of) _ ["words"] "word" [] []) (qi_tup (qv 0)) (fun _ _ _ _ => (qf_one (qw_pt (qw_and (qt_val (qe_callBF (show CallR _ (.builtin "isinstance") (rIsi K) from call_isi) (by rfl) T.z_isinstance bt_isinstance (qa_c (qv 0) (qa_c (qe_bltn (v := .ty "str") (by rfl) T.z_str bt_str rfl) qa_nil)))) (qw_and1 (qt_val (qe_callF G_is_name (hr.mono (by decide)) rfl T.d_is_name.m T.d_is_name.F.kp T.d_is_name.b .nil pass0 (qa_c (qv 0) qa_nil)))))))) (fun _ _ _ _ => (qv 0))) qa_nil)) qa_nil)) qa_nil)))), ?_⟩
    refine ⟨_, rfl, t, rfl, ⟨_, SqT.of ht⟩, comp_tfil (xs := ws) nmB Same Same.refl (fun _ _ _ a b => a.trans b) (fun H1 s1 => SqT.of (s1 _ _ ht)) (Nat.le_of_lt (small1000 (by omega))) (fun x hx H1 s1 R hR => ?_) (fun x hx H1 R hR => ⟨_, rfl, hR⟩) (fun H1 l s1 hl1 => ?_)⟩
    · rcases hw x hx with ⟨y, rfl, hy⟩ | ⟨z, rfl⟩
      · exact ⟨_, rfl, _, _, _, _, rfl, .str y, kit_str_str, _, rfl, iteT ⟨_, rfl, y, rfl, Nat.le_trans hy (by decide), fun H2 s2 => ⟨_, rfl, hR H2 s2⟩⟩⟩
      · exact ⟨_, rfl, _, _, _, _, rfl, .int z, kit_int_str, _, rfl, iteF (hR H1 (Same.refl H1))⟩
    have fl : (ws.filter nmB).length ≤ 60 := Nat.le_trans (List.length_filter_le _ _) hl
    have ol := onces_len ((ws.filter nmB).map strV)
    rw [List.length_map] at ol
    have s2 := s1.trans (same_upd (o := .lst (ws.filter nmB)) hl1)
    refine ⟨l, (ws.filter nmB).map strV, rfl, SqL.of (by rw [nm_strs]; exact upd_same), by rw [List.length_map]; omega, fun a ha => ⟨a, _, rfl, upd_same, by omega, fun m ms hm hp hs => ⟨m, _, rfl, .inl ⟨SqL.of upd_same, fun p hp' => ?_⟩⟩⟩⟩
    have s3 : Same H _ := s2.trans ((same_upd ha).trans (same_upd (o := .lst (ms.map V.str)) hm))
    exact k p _ ms (Same.free s3 hp') upd_same (s3.trans (same_upd hp')) hp hs
def sp_law_sum (K : PySem.W.Frag) : Sp := fun vs H Q _ => ∃ (d c p hv : Addr) (ys : List Str) (most : Nat) (n : Int), vs = [.ref d, .ref p, .int (most : Int), .ref hv] ∧ DeckAt H d c ∧ H p = some (.lst (ys.map V.str)) ∧ Nms ys ∧ H hv = some (.lst [.int n]) ∧ hv ≠ c ∧ 1 ≤ most ∧ most ≤ 60 ∧
  ∀ t ws H', H t = none → H' t = some (.tup ws) → SumW ys ws → ws.length ≤ most → DeckAt H' d c → Off3 d c hv H H' → (∃ n' : Int, H' hv = some (.lst [.int n'])) → Q (.ref t) H'
theorem ok_law_sum (T : Txt K w mg t) (TB : Tbs mg base t) : FnOk P w K mg base CX0 3 t.a_law_sum t.f_law_sum ["deck", "names", "most", "heavy"] (sp_law_sum K) := by
  have G_law_leaf : FnOk P w K mg base CX0 2 t.a_law_leaf t.f_law_leaf ["deck", "names"] (sp_law_leaf K) := ok_law_leaf T TB
  have G_law_take : FnOk P w K mg base CX0 1 t.a_law_take t.f_law_take ["deck", "many"] (sp_law_take K) := ok_law_take T TB
  refine T.d_law_sum.F.ok sc_law_sum (fun vs H Q E h => ?_) (fun cdv A outer s H vs Q E hr h => ?_)
  · obtain ⟨d, c, p, hv, ys, most, n, rfl, D, hp, N, hh, hvc, m1, m2, k⟩ := h
    rfl
  · obtain ⟨d, c, p, hv, ys, most, n, rfl, D, hp, N, hh, hvc, m1, m2, k⟩ := h
    have hu := hu_of hr
    refine ⟨_, @QSs.out _ _ _ (qss_cons (qs_set (i := 4) sc_law_sum.nd rfl (Or.inl rfl) (qe_lst qa_nil))
        (qss_cons (qs_set (i := 5) sc_law_sum.nd rfl (Or.inl rfl) qe_int)
        (qss_cons (qs_while PassesOwn.never (qt_cmpR op_gt (qv 5) qe_int (nomark _))
        (qss_cons (qs_set (i := 6) sc_law_sum.nd rfl (Or.inl rfl) (qe_op op_sub (qe_op op_sub (qv 2) (qe_callBF call_len_seq (by rfl) T.z_len bt_len (qa_c (qv 4) qa_nil))) (qv 5)))
        (qss_cons (qs_set (i := 7) sc_law_sum.nd rfl (Or.inl rfl) (qe_callF G_law_take (hr.mono (by decide)) rfl T.d_law_take.m T.d_law_take.F.kp T.d_law_take.b .nil pass0 (qa_c (qv 0) (qa_c qe_int qa_nil))))
        (qss_cons (qs_set (i := 8) sc_law_sum.nd rfl (Or.inl rfl) (qe_ix ix_list (qe_lst (qa_c qe_str (qa_c qe_str (qa_c qe_str (qa_c qe_str (qa_c qe_str (qa_c qe_str (qa_c qe_str (qa_c qe_str (qa_c qe_str (qa_c qe_str (qa_c qe_str qa_nil)))))))))))) (qv 7) (fun _ _ => rfl)))
        (qss_cons (qs_set (i := 9) sc_law_sum.nd rfl (Or.inl rfl) (qe_ix ix_list (qe_lst (qa_c qe_int (qa_c qe_int (qa_c qe_int (qa_c qe_int (qa_c qe_int (qa_c qe_int (qa_c qe_int (qa_c qe_int (qa_c qe_int (qa_c qe_int (qa_c qe_int qa_nil)))))))))))) (qv 7) (fun _ _ => rfl)))
        (qss_cons (qs_if (qt_cmpR op_in_seq (qv 8) (qe_lst (qa_c qe_str (qa_c qe_str (qa_c qe_str (qa_c qe_str (qa_c qe_str qa_nil)))))) (by with_unfolding_all rfl))
        (qss_one (qs_set (i := 9) sc_law_sum.nd rfl (Or.inl rfl) (qe_op op_add (qv 9) (qe_op op_mulB qe_int (qe_callTF call_int1 (by rfl) T.z_int bt_int (qa_c (qe_cmpR op_eq (qe_ix ix_list (qv 3) qe_int (fun _ _ => rfl)) qe_int (nomark _)) qa_nil)))))) qss_nil)
        (qss_cons (qs_if (qt_cmpR op_gt (qv 9) (qv 6) (nomark _))
        (qss_cons (qs_expr (qe_bmF PySem.F.plainAttrs_list PySem.F.slot_list_append PySem.F.type_list_append mt_append (qv 4) (qa_c (qe_callF G_law_leaf (hr.mono (by decide)) rfl T.d_law_leaf.m T.d_law_leaf.F.kp T.d_law_leaf.b .nil pass0 (qa_c (qv 0) (qa_c (qv 1) qa_nil))) qa_nil)))
        (qss_one (qs_set (i := 9) sc_law_sum.nd rfl (Or.inl rfl) qe_int))) (qss_cons (qs_expr (qe_bmF PySem.F.plainAttrs_list PySem.F.slot_list_append PySem.F.type_list_append mt_append (qv 4) (qa_c (qv 8) qa_nil)))
        (qss_one (qs_asg (qe_op op_sub (qe_ix ix_list (qv 3) qe_int (fun _ _ => rfl)) (qe_callTF call_int1 (by rfl) T.z_int bt_int (qa_c (qe_cmpR op_in_seq (qv 8) (qe_lst (qa_c qe_str (qa_c qe_str (qa_c qe_str (qa_c qe_str (qa_c qe_str qa_nil)))))) (by with_unfolding_all rfl)) qa_nil))) (qg_sub (qv 3) qe_int set_list)))))
        (qss_one (qs_set (i := 5) sc_law_sum.nd rfl (Or.inl rfl) (qe_op op_add (qe_op op_sub (qv 5) qe_int) (qv 9)))))))))))
        (qss_one (qs_ret (qe_callTF call_tuple_of (by rfl) T.z_tuple bt_tuple (qa_c (qv 4) qa_nil))))))), ?_⟩
    have pn := deck_strs D hp N.l1
    have hvn := deck_one D hh hvc
    have hvp : p ≠ hv := ne_of hp hh (by
      intro z
      injection z with z
      have hl := N.l1
      match ys, hl with
      | y :: r, _ =>
        rw [List.map_cons] at z
        injection z with z _
        cases z)
    refine ⟨by show 0 ≤ sizeLine; decide, fun w hw => ?_⟩
    have wn := deck_ne D hw
    have whv : w ≠ hv := (ne_of_none hh hw).symm
    have wp : w ≠ p := (ne_of_none hp hw).symm
    have s1 := same_upd (o := .lst []) hw
    refine while_w (fun σ H2 => ∃ (ws : List V) (e : Nat) (n2 : Int) (u6 u7 u8 u9 : Option V), σ = [some (.ref d), some (.ref p), some (.int most), some (.ref hv), some (.ref w), some (.int e), u6, u7, u8, u9] ∧ H2 w = some (.lst ws) ∧ H2 hv = some (.lst [.int n2]) ∧ Pre 1 ws e ∧ (∀ x ∈ ws, WordOk ys x) ∧ ws.length + e ≤ most ∧ DeckAt H2 d c ∧ Off3 d c hv H H2) (fun _ H2 => match H2 w with | some (.lst ws) => most - ws.length | _ => 0) ⟨[], 1, n, none, none, none, none, rfl, upd_same, s1 _ _ hh, .nil, (fun _ h => nomatch h), by show 0 + 1 ≤ most; omega, D.same s1, fun b o e _ _ _ => s1 b o e⟩ ?_
    rintro σ H2 ⟨ws, e, n2, u6, u7, u8, u9, rfl, h2, hh2, hpre, hok, hle, D2, o2⟩
    refine ⟨_, rfl, _, _, rfl, rfl, _, rfl, ite2 (fun he => ?_) (fun he => ?_)⟩
    · have he' : 0 < e := by
        have := of_decide_eq_true he
        omega
      refine ⟨fun σ' H' => ∃ (ws' : List V) (e' : Nat) (n2 : Int) (u6 u7 u8 u9 : Option V), σ' = [some (.ref d), some (.ref p), some (.int most), some (.ref hv), some (.ref w), some (.int e'), u6, u7, u8, u9] ∧ H' w = some (.lst ws') ∧ ws'.length = ws.length + 1 ∧ H' hv = some (.lst [.int n2]) ∧ Pre 1 ws' e' ∧ (∀ x ∈ ws', WordOk ys x) ∧ ws'.length + e' ≤ most ∧ DeckAt H' d c ∧ Off3 d c hv H H', ?_, ?_⟩
      · rintro σ' H' ⟨ws', e', n3, v6, v7, v8, v9, rfl, h', hl', hh', hpre', hok', hle', D', o'⟩
        refine ⟨most - ws'.length, ?_, ?_, ws', e', n3, v6, v7, v8, v9, rfl, h', hh', hpre', hok', hle', D', o'⟩
        · rw [h2]
          show most - ws'.length < most - ws.length
          omega
        · rw [h']
      have hp2 := o2 _ _ hp pn.1 pn.2 hvp
      refine ⟨_, rfl, _, rfl, w, _, rfl, .inl (SqL.of h2), _, _, rfl, rfl, _, rfl, _, _, rfl, rfl, ?_⟩
      refine ⟨_, rfl, d, c, 11, rfl, D2, by decide, by decide, fun r H3 r0 r1 D3 o3 => ?_⟩
      obtain ⟨j, rfl⟩ : ∃ j : Nat, r = (j : Int) := ⟨r.toNat, by omega⟩
      have hj : j < 11 := by omega
      refine ⟨by show 11 ≤ sizeLine; decide, fun l hl => ?_⟩
      have ln := deck_ne D3 hl
      have a3 := same_upd (o := .lst [.str "pick", .str "and", .str "or", .str "odd", .str "add", .str "sub", .str "not", .str "neg", .str "twice", .str "low", .str ""]) hl
      refine ⟨_, rfl, l, drawW.map V.str, _, .str (drawW.getD j ""), rfl, rfl, SqL.of upd_same, atI_drawW hj, ?_⟩
      refine ⟨by show 11 ≤ sizeLine; decide, fun l' hl' => ?_⟩
      have a4 := same_upd (o := .lst [.int 3, .int 2, .int 2, .int 2, .int 2, .int 2, .int 1, .int 1, .int 1, .int 1, .int 99]) hl'
      refine ⟨_, rfl, l', drawM.map V.int, _, .int (drawM.getD j 0), rfl, rfl, SqL.of upd_same, atI_drawM hj, ?_⟩
      have a34 := a3.trans a4
      have fct := draw_fact j hj
      generalize drawW.getD j "" = word at *
      generalize drawM.getD j 0 = many at *
      have h34 := a34 _ _ (o3 _ _ h2 wn.1 wn.2)
      have hh34 := a34 _ _ (o3 _ _ hh2 hvn.1 hvn.2)
      have hp34 := a34 _ _ (o3 _ _ hp2 pn.1 pn.2)
      have D34 := D3.same a34
      have o34 : Off3 d c hv H _ := off3_trans o2 (o3.trans (same_off d c a34))
      clear hl' a4
      generalize upd (upd H3 l (.lst [.str "pick", .str "and", .str "or", .str "odd", .str "add", .str "sub", .str "not", .str "neg", .str "twice", .str "low", .str ""])) l' (.lst [.int 3, .int 2, .int 2, .int 2, .int 2, .int 2, .int 1, .int 1, .int 1, .int 1, .int 99]) = H4 at *
      refine gName_go ?_
      refine nx_join (fun σ H' => ∃ (mm : Int), σ = [some (.ref d), some (.ref p), some (.int most), some (.ref hv), some (.ref w), some (.int e), some (.int ((most : Int) - (ws.length : Int) - (e : Int))), some (.int j), some (.str word), some (.int mm)] ∧ (mm = many ∨ mm = many + 99) ∧ Same H4 H') (fun N hN => ?_) ?_
      · refine ⟨_, rfl, by show 5 ≤ sizeLine; decide, fun g hg => ⟨g, heavyW.map V.str, rfl, .inl (SqL.of upd_same), rfl, rfl, _, rfl, ite2 (fun _ => ?_) (fun _ => ?_)⟩⟩
        · have s5 := same_upd (o := .lst (heavyW.map V.str)) hg
          refine ⟨_, rfl, _, rfl, hv, _, 0, _, rfl, rfl, SqL.of (s5 _ _ hh34), rfl, rfl, .inr ⟨_, rfl, _, _, rfl, rfl, .inr (.inl ⟨by decide, by decide⟩), _, _, rfl, rfl, hN _ _ ⟨_, rfl, ?_, s5⟩⟩⟩
          try dsimp only
          by_cases q : decide (V.int n2 = V.int 0) = true
          · rw [q]
            exact .inr rfl
          · rw [Bool.eq_false_iff.mpr q]
            exact .inl (by show many + 99 * 0 = many; omega)
        · exact hN _ _ ⟨many, rfl, .inl rfl, same_upd hg⟩
      rintro σ H5 ⟨mm, rfl, hmm, s5⟩
      have h5 := s5 _ _ h34
      have hh5 := s5 _ _ hh34
      have hp5 := s5 _ _ hp34
      have D5 := D34.same s5
      have o5 : Off3 d c hv H H5 := off3_trans o34 (same_off d c s5)
      show tSeq (tIfS _ _ _) _ _ _ _
      refine seq_join (fun σ H' => ∃ (x : V) (n3 : Int) (m3 : Nat), σ = [some (.ref d), some (.ref p), some (.int most), some (.ref hv), some (.ref w), some (.int e), some (.int ((most : Int) - (ws.length : Int) - (e : Int))), some (.int j), some (.str word), some (.int (m3 : Int))] ∧ H' w = some (.lst (ws ++ [x])) ∧ H' hv = some (.lst [.int n3]) ∧ WordOk ys x ∧ partsV x = m3 ∧ ws.length + e + m3 ≤ most ∧ DeckAt H' d c ∧ Off3 d c hv H H') (fun N' hN' => ?_) ?_
      · have wsz : ws.length < sizeLine := small1000 (by omega)
        refine ⟨_, rfl, _, rfl, _, _, rfl, rfl, _, rfl, ite2 (fun hgt => ?_) (fun hgt => ?_)⟩
        · refine ⟨_, rfl, .inl ⟨rfl, _, SqL.of h5⟩, _, rfl, _, rfl, d, c, p, ys, rfl, D5, hp5, N, fun v H6 hv6 D6 o6 => ?_⟩
          have h6 := o6 _ _ h5 wn.1 wn.2
          refine ⟨w, _, _, rfl, rfl, h6, wsz, hN' _ _ ⟨v, n2, 0, rfl, upd_same, by rw [upd_ne whv.symm]; exact o6 _ _ hh5 hvn.1 hvn.2, hv6.word, hv6.parts N, by omega, deck_put D6 wn, ?_⟩⟩
          exact off3_put (off3_trans o5 o6) hw
        · have hgt' : ¬ ((most : Int) - (ws.length : Int) - (e : Int) < mm) := fun z => hgt (decide_eq_true z)
          have f2 : ∃ m3 : Nat, mm = (m3 : Int) ∧ partsV (.str word) = m3 ∧ word ∈ sumW := by
            rcases fct with ⟨rfl, rfl⟩ | ⟨m3, rfl, h1, h2, h3⟩
            · exfalso
              omega
            · rcases hmm with rfl | rfl
              · exact ⟨m3, rfl, h1, h2⟩
              · exfalso
                omega
          obtain ⟨m3, rfl, hm3, hsw⟩ := f2
          refine ⟨_, rfl, .inl ⟨rfl, _, SqL.of h5⟩, _, rfl, w, _, _, rfl, rfl, h5, wsz, ?_⟩
          have hh6 : (upd H5 w (.lst (ws ++ [.str word]))) hv = some (.lst [.int n2]) := by rw [upd_ne whv.symm]; exact hh5
          refine ⟨_, rfl, hv, _, 0, _, rfl, rfl, SqL.of hh6, rfl, _, rfl, by show 5 ≤ sizeLine; decide, fun g hg => ⟨g, heavyW.map V.str, rfl, .inl (SqL.of upd_same), rfl, rfl, .inr ⟨_, rfl, _, _, rfl, rfl, _, rfl, hv, [.int n2], _, 0, rfl, rfl, ?_, rfl, ?_⟩⟩⟩
          · exact same_upd hg _ _ hh6
          · have gn := deck_ne (deck_put D5 wn) hg
            have gw : w ≠ g := ne_of_none upd_same hg
            refine hN' _ _ ⟨.str word, _, m3, rfl, ?_, upd_same, .inl ⟨word, rfl, hsw⟩, hm3, by omega, deck_put ((deck_put D5 wn).same (same_upd hg)) hvn, ?_⟩
            · rw [upd_ne whv]
              exact same_upd hg _ _ upd_same
            · refine off3_hv (off3_trans (off3_put o5 hw) (same_off d c (same_upd hg)))
      rintro σ H6 ⟨x, n3, m3, rfl, h6, hh6, hx, hpx, hm3, D6, o6⟩
      refine ⟨_, rfl, _, _, rfl, rfl, _, rfl, _, _, rfl, rfl, ws ++ [x], e - 1 + m3, n3, some (.int ((most : Int) - (ws.length : Int) - (e : Int))), some (.int j), some (.str word), some (.int (m3 : Int)), ?_, h6, by rw [List.length_append]; rfl, hh6, hpx ▸ hpre.snoc he', snoc_all hok hx, ?_, D6, o6⟩
      · show _ = [_, _, _, _, _, some (V.int ((e - 1 + m3 : Nat) : Int)), _, _, _, _]
        rw [show ((e - 1 + m3 : Nat) : Int) = (e : Int) - 1 + (m3 : Int) by omega]
        rfl
      · rw [List.length_append]
        show ws.length + 1 + (e - 1 + m3) ≤ most
        omega
    · have he' : e = 0 := by
        have : ¬ (0 : Int) < e := fun z => he (decide_eq_true z)
        omega
      subst he'
      refine ⟨_, rfl, w, _, rfl, .inl ⟨SqL.of h2, fun t ht => ?_⟩⟩
      have ht0 : H t = none := by
        cases q : H t with
        | none => rfl
        | some o =>
          have tn := deck_ne D2 ht
          have thv : t ≠ hv := (ne_of_none hh2 ht).symm
          rw [o2 t o q tn.1 tn.2 thv] at ht
          cases ht
      exact k t ws _ ht0 upd_same ⟨hpre, hok⟩ (by omega) (D2.same (same_upd ht)) (off3_trans o2 (same_off d c (same_upd ht))) ⟨n2, same_upd ht _ _ hh2⟩
def sp_read_sum (K : PySem.W.Frag) : Sp := fun vs H Q _ => ∃ (ys : List Str) (ws : List V), vs = [.str (Txt.join blank (ws.map shw))] ∧ Nms ys ∧ SumW ys ws ∧ ws.length ≤ 100 ∧ ∀ p H', H p = none → H' p = some (.tup ws) → Same H H' → Q (.ref p) H'
theorem SumW.ne {ys : List Str} {ws : List V} (h : SumW ys ws) : ws ≠ [] := by
  intro e
  have := h.pre
  rw [e] at this
  cases this
theorem join_short {ys : List Str} {ws : List V} (N : Nms ys) (h : ∀ w ∈ ws, WordOk ys w) (hl : ws.length ≤ 100) : (Txt.join blank (ws.map shw)).length ≤ 1000 := by
  have e := StrLaws.join_length_le blank (ws.map shw)
  rw [← StrLaws.glued_eq_join] at e
  refine Nat.le_trans e ?_
  have hs : ∀ (l : List V), (∀ w ∈ l, WordOk ys w) → ((l.map shw).map (·.length)).sum ≤ 8 * l.length := by
    intro l
    induction l with
    | nil => intro _; exact Nat.le_refl _
    | cons w r ih =>
      intro hh
      have := (shw_ok N (hh w List.mem_cons_self)).2
      have ih' := ih fun x hx => hh x (List.mem_cons_of_mem _ hx)
      rw [List.map_cons, List.map_cons, List.sum_cons, List.length_cons]
      omega
  have h1 := hs ws h
  have h2 : blank.length = 1 := by decide +kernel
  rw [h2, List.length_map]
  omega
theorem ok_read_sum (T : Txt K w mg t) (TB : Tbs mg base t) : FnOk P w K mg base CX0 4 t.a_read_sum t.f_read_sum ["text"] (sp_read_sum K) := by
  have G_parts_of : FnOk P w K mg base CX0 2 t.a_parts_of t.f_parts_of ["word"] (sp_parts_of K) := ok_parts_of T TB
  have G_sum_word_read : FnOk P w K mg base CX0 3 t.a_sum_word_read t.f_sum_word_read ["part"] (sp_sum_word_read K) := ok_sum_word_read T TB
  refine T.d_read_sum.F.ok sc_read_sum (fun vs H Q E h => ?_) (fun cdv A outer s H vs Q E hr h => ?_)
  · obtain ⟨ys, ws, rfl, N, S, hl, k⟩ := h
    rfl
  · obtain ⟨ys, ws, rfl, N, S, hl, k⟩ := h
    have hu := hu_of hr
    refine ⟨_, @QSs.out _ _ _ (qss_cons (qs_set (i := 1) sc_read_sum.nd rfl (Or.inl rfl) (qe_lst qa_nil))
        (qss_cons (qs_set (i := 2) sc_read_sum.nd rfl (Or.inl rfl) qe_int)
        (qss_cons (qs_for PassesOwn.never rfl (qi_list (qe_bmF PySem.F.plainAttrs_str PySem.F.slot_str_split PySem.F.type_str_split mt_split (qv 0) (qa_c qe_str qa_nil))) (qg_name (i := 3) sc_read_sum.nd rfl (Or.inl rfl))
        (qss_cons (qs_if (qt_cmpR op_eq (qv 2) qe_int (nomark _))
        (qss_one qs_never) qss_nil)
        (qss_cons (qs_set (i := 4) sc_read_sum.nd rfl (Or.inl rfl) (qe_callF G_sum_word_read (hr.mono (by decide)) rfl T.d_sum_word_read.m T.d_sum_word_read.F.kp T.d_sum_word_read.b .nil pass0 (qa_c (qv 3) qa_nil)))
        (qss_cons (qs_expr (qe_bmF PySem.F.plainAttrs_list PySem.F.slot_list_append PySem.F.type_list_append mt_append (qv 1) (qa_c (qv 4) qa_nil)))
        (qss_one (qs_set (i := 2) sc_read_sum.nd rfl (Or.inl rfl) (qe_op op_add (qe_op op_sub (qv 2) qe_int) (qe_callF G_parts_of (hr.mono (by decide)) rfl T.d_parts_of.m T.d_parts_of.F.kp T.d_parts_of.b .nil pass0 (qa_c (qv 4) qa_nil)))))))))
        (qss_cons (qs_if (qt_cmpR op_gt (qv 2) qe_int (nomark _))
        (qss_one qs_never) qss_nil)
        (qss_one (qs_ret (qe_callTF call_tuple_of (by rfl) T.z_tuple bt_tuple (qa_c (qv 1) qa_nil)))))))), ?_⟩
    have hj := join_short N S.ok hl
    have hsp : Txt.split (Txt.join blank (ws.map shw)) blank = ws.map shw := by
      refine split_join (fun e => S.ne (List.map_eq_nil_iff.mp e)) fun y hy => ?_
      obtain ⟨w, hw, rfl⟩ := List.mem_map.mp hy
      exact (shw_ok N (S.ok w hw)).1
    have hdue := S.pre.due
    have hpb : (Builtin.Str.partsBetween (Txt.join blank (ws.map shw)) (Builtin.Str.occurrences (Txt.join blank (ws.map shw)) blank 0 (Txt.join blank (ws.map shw)).length ((Txt.join blank (ws.map shw)).length + 1)) blank.length).length ≤ sizeLine := parts_short (by omega)
    refine ⟨by show 0 ≤ sizeLine; decide, fun w hw => ?_⟩
    refine ⟨_, rfl, rfl, _, blank, rfl, rfl, by decide +kernel, Nat.le_of_lt (small1000 hj), hpb, by rw [hsp, List.length_map]; exact Nat.le_of_lt (small1000 (by omega)), fun p hp => ?_⟩
    rw [hsp]
    have s1 := same_upd (o := .lst []) hw
    have s2 := s1.trans (same_upd (o := .lst ((ws.map shw).map V.str)) hp)
    have wp : w ≠ p := ne_of_none upd_same hp
    refine ⟨p, rfl, ⟨_, SqL.of upd_same⟩, ?_⟩
    refine for_list (K := K) (a := p) (xs := (ws.map shw).map V.str) (fun i σ H2 => ∃ u3 u4, σ = [some (.str (Txt.join blank (ws.map shw))), some (.ref w), some (.int (dueN 1 (ws.take i) : Nat)), u3, u4] ∧ H2 w = some (.lst (ws.take i)) ∧ H2 p = some (.lst ((ws.map shw).map V.str)) ∧ Same H H2) ⟨none, none, rfl, by rw [upd_ne wp]; exact upd_same, upd_same, s2⟩ (fun i σ H2 _ ⟨_, _, _, _, e, _⟩ => SqL.of e) ?_ ?_
    · rintro i x σ H2 hx ⟨u3, u4, rfl, h2, hp2, s3⟩
      rw [List.map_map, List.getElem?_map] at hx
      obtain ⟨v, hv, rfl⟩ := Option.map_eq_some_iff.mp hx
      have hi : i < ws.length := (List.getElem?_eq_some_iff.mp hv).1
      have pos := hdue.2 i hi
      have vok := S.ok v (List.mem_of_getElem? hv)
      have ap := allParts_word N vok
      refine ⟨_, rfl, rfl, _, rfl, ?_⟩
      rw [decide_eq_false (fun z => by injection z with z; omega)]
      refine iteF ?_
      refine ⟨_, rfl, ys, v, rfl, N, vok, fun H3 s4 => ?_⟩
      refine ⟨_, rfl, .inl ⟨rfl, _, SqL.of (s4 _ _ h2)⟩, _, rfl, w, _, _, rfl, rfl, s4 _ _ h2, ?_, ?_⟩
      · rw [List.length_take]
        exact small1000 (by omega)
      refine ⟨_, rfl, _, _, rfl, rfl, _, rfl, keyOf v, congrArg (fun x => [x]) ap.1, ?_⟩
      rw [ap.2]
      refine ⟨_, _, rfl, rfl, some (.str (shw v)), some v, ?_, ?_, ?_, same_put (s3.trans s4) hw⟩
      · show _ = [_, _, some (V.int ((dueN 1 (ws.take (i + 1)) : Nat) : Int)), _, _]
        rw [take_snoc hv, dueN_snoc, show ((dueN 1 (ws.take i) - 1 + partsV v : Nat) : Int) = (dueN 1 (ws.take i) : Int) - 1 + (partsV v : Int) by omega]
        rfl
      · rw [upd_same, take_snoc hv]
      · rw [upd_ne wp.symm]
        exact s4 _ _ hp2
    · rintro σ H2 ⟨u3, u4, rfl, h2, hp2, s3⟩
      rw [List.length_map, List.length_map, List.take_length] at h2
      rw [List.length_map, List.length_map, List.take_length, hdue.1]
      refine ⟨_, rfl, _, _, rfl, rfl, _, rfl, iteF ?_⟩
      exact ⟨_, rfl, w, _, rfl, .inl ⟨SqL.of h2, fun t ht => k t _ (s3.free ht) upd_same (s3.trans (same_upd ht))⟩⟩
def sp_folded (P : Program) (w : World) (K : PySem.W.Frag) (mg : Str → Option Value) (base : Heap) : Sp := fun vs H Q _ => ∃ (tw f : Addr) (ws : List V) (τ : Sp) (I : Nat → List V → Prop) (v0 : V), vs = [.ref tw, .ref f] ∧ H tw = some (.tup ws) ∧ ws.length ≤ 60 ∧ Callable P w K mg base 12 f H τ ∧ (∀ x ∈ ws, x = kV (keyOf x)) ∧ I ws.length [] ∧
  (∀ i x stk, ws[i]? = some x → I (i + 1) stk → npw x ≤ stk.length ∧ ∃ v, I i (v :: stk.drop (npw x)) ∧ ∀ pl H1 (Q' : VK), H1 pl = some (.lst (stk.take (npw x))) → Same H H1 → (∀ H2, Same H1 H2 → Q' v H2) → τ [x, .ref pl] H1 Q' E0) ∧
  (∀ stk, I 0 stk → stk = [v0]) ∧ ∀ H', Same H H' → Q v0 H'
theorem ok_folded (T : Txt K w mg t) (TB : Tbs mg base t) : FnOk P w K mg base CX0 13 t.a_folded t.f_folded ["words", "told_of"] (sp_folded P w K mg base) := by
  have G_parts_taken : FnOk P w K mg base CX0 3 t.a_parts_taken t.f_parts_taken ["stack", "word"] (sp_parts_taken K) := ok_parts_taken T TB
  refine T.d_folded.F.ok sc_folded (fun vs H Q E h => ?_) (fun cdv A outer s H vs Q E hr h => ?_)
  · obtain ⟨tw, f, ws, τ, I, v0, rfl, ht, hl, hc, hk, h0, hstep, hend, k⟩ := h
    rfl
  · obtain ⟨tw, f, ws, τ, I, v0, rfl, ht, hl, hc, hk, h0, hstep, hend, k⟩ := h
    have hu := hu_of hr
    refine ⟨_, @QSs.out _ _ _ (qss_cons (qs_set (i := 2) sc_folded.nd rfl (Or.inl rfl) (qe_lst qa_nil))
        (qss_cons (qs_for PassesOwn.never rfl (qi_revT rfl T.z_reversed (qv 0)) (qg_name (i := 3) sc_folded.nd rfl (Or.inl rfl))
        (qss_cons (qs_set (i := 4) sc_folded.nd rfl (Or.inl rfl) (qe_callF G_parts_taken (hr.mono (by decide)) rfl T.d_parts_taken.m T.d_parts_taken.F.kp T.d_parts_taken.b .nil pass0 (qa_c (qv 2) (qa_c (qv 3) qa_nil))))
        (qss_one (qs_expr (qe_bmF PySem.F.plainAttrs_list PySem.F.slot_list_append PySem.F.type_list_append mt_append (qv 2) (qa_c (qe_callV (k := 12) 1 (hr.mono (by decide)) (qa_c (qv 3) (qa_c (qv 4) qa_nil))) qa_nil))))))
        (qss_one (qs_ret (qe_bm0 PySem.F.plainAttrs_list PySem.F.slot_list_pop PySem.F.type_list_pop mt_pop (qv 2)))))), ?_⟩
    refine ⟨by show 0 ≤ sizeLine; decide, fun st hst => ?_⟩
    have s1 := same_upd (o := .lst []) hst
    refine ⟨_, rfl, tw, _, rfl, SqT.of (s1 _ _ ht), for_rev (K := K) (a := tw) (xs := ws) (fun i σ H2 => ∃ u3 u4 stk, σ = [some (.ref tw), some (.ref f), some (.ref st), u3, u4] ∧ I (ws.length - i) stk ∧ stk.length ≤ i ∧ i ≤ ws.length ∧ H2 st = some (.lst stk.reverse) ∧ Same H H2) ⟨none, none, [], rfl, h0, Nat.le_refl _, Nat.zero_le _, upd_same, s1⟩ (fun i σ H2 _ ⟨_, _, _, _, _, _, _, _, s⟩ => SqT.of (s _ _ ht)) ?_ ?_⟩
    · rintro i x σ H2 hx ⟨u3, u4, stk, rfl, hI, hsl, _, h2, s2⟩
      obtain ⟨hi, hx⟩ := rev_at hx
      have e1 : ws.length - 1 - i + 1 = ws.length - i := by omega
      obtain ⟨hn, v, hv, hτ⟩ := hstep _ x stk hx (by rw [e1]; exact hI)
      refine ⟨_, rfl, _, rfl, st, stk, x, rfl, h2, hk x (List.mem_of_getElem? hx), hn, by omega, fun pl H3 hpl hpl3 hst3 o3 => ?_⟩
      have s3 : Same H H3 := fun b o e => o3 b o (s2 b o e) (ne_of_none e hst)
      refine ⟨_, rfl, .inl ⟨rfl, _, SqL.of hst3⟩, f, τ, rfl, hc.frz s3.frz, _, rfl, _, rfl, FrzIn.refl _, hτ pl H3 _ hpl3 s3 fun H4 s4 => ?_⟩
      have hst4 := s4 _ _ hst3
      refine ⟨st, _, v, rfl, rfl, hst4, ?_, some x, some (.ref pl), v :: stk.drop (npw x), rfl, ?_, ?_, hi, ?_, same_put (s3.trans s4) hst⟩
      · rw [List.length_reverse, List.length_drop]
        exact small1000 (by omega)
      · rw [show ws.length - (i + 1) = ws.length - 1 - i by omega]
        exact hv
      · rw [List.length_cons, List.length_drop]
        omega
      · rw [upd_same, List.reverse_cons]
    · rintro σ H2 ⟨u3, u4, stk, rfl, hI, hsl, _, h2, s2⟩
      rw [Nat.sub_self] at hI
      have e := hend stk hI
      subst e
      exact ⟨_, rfl, .inl ⟨rfl, _, SqL.of h2⟩, st, _, v0, rfl, rfl, h2, rfl, k _ (same_put s2 hst)⟩
def sp_worth (K : PySem.W.Frag) (pw : Addr) : Sp := fun vs H Q _ => ∃ (tw dv : Addr) (W : Nat) (ys : List Str) (ws : List V) (kvs : List (Key × V)) (ρ : Str → Int), vs = [.ref tw, .int W, .ref dv] ∧ W ≤ 60 ∧ H tw = some (.tup ws) ∧ Nms ys ∧ PreK ys [false] ws [] ∧ (∀ x ∈ ws, WordOk ys x) ∧ ws.length ≤ 60 ∧ H dv = some (.dK kvs) ∧ ValIn kvs ys ws ρ ∧ Tb H pw ∧
  ∀ H', Tb H' pw → OffT pw H H' → Q (val1 (2 ^ W) ρ ws) H'
theorem ok_worth (T : Txt K w mg t) (TB : Tbs mg base t) : FnOk P w K mg base CX0 14 t.a_worth t.f_worth ["words", "width", "values"] (sp_worth K t.p_worth) := by
  have G_folded : FnOk P w K mg base CX0 13 t.a_folded t.f_folded ["words", "told_of"] (sp_folded P w K mg base) := ok_folded T TB
  have G_word_worth : FnOk P w K mg base CX0 2 t.a_word_worth t.f_word_worth ["word", "parts", "values"] (sp_word_worth K) := ok_word_worth T TB
  have G_words_at : FnOk P w K mg base CX0 1 t.a_words_at t.f_words_at ["width"] (sp_words_at K) := ok_words_at T TB
  have G_refuse_lacking : FnOk P w K mg base CX0 3 t.a_refuse_lacking t.f_refuse_lacking ["words", "values"] (sp_refuse_lacking K) := ok_refuse_lacking T TB
  refine T.d_worth.F.okC sc_worth (fun vs H Q E h => ?_) (fun A outer s H vs Q E hr h => ?_)
  · obtain ⟨tw, dv, W, ys, ws, kvs, ρ, rfl, hW, ht, N, S, ok, hl, hd, hv, B, k⟩ := h
    rfl
  · obtain ⟨tw, dv, W, ys, ws, kvs, ρ, rfl, hW, ht, N, S, ok, hl, hd, hv, B, k⟩ := h
    have hu := hu_of hr
    refine ⟨_, @QSs.out _ _ _ (qss_cons (qs_expr (qe_callF G_refuse_lacking (hr.mono (by decide)) rfl T.d_refuse_lacking.m T.d_refuse_lacking.F.kp T.d_refuse_lacking.b .nil pass0 (qa_c (qv 0) (qa_c (qv 2) qa_nil))))
        (qss_cons (qs_set (i := 3) sc_worth.nd rfl (Or.inr rfl) (qe_callF G_words_at (hr.mono (by decide)) rfl T.d_words_at.m T.d_words_at.F.kp T.d_words_at.b .nil pass0 (qa_c (qv 1) qa_nil)))
        (qss_one (qs_ret (qe_callL (kl := 11) G_folded (hr.mono (by decide)) rfl T.d_folded.m T.d_folded.F.kp T.d_folded.b rfl (qv 0) T.k_worth TB.c_worth TB.B rfl rfl rfl rfl (⟨⟨by rfl, by rfl, by rfl, by decide +kernel, by decide +kernel, by decide +kernel, by decide +kernel⟩, by decide +kernel, by decide +kernel, by rfl⟩ : LamAt (defScope s_worth) _ ["words", "width", "values", "many"] ["word", "parts"] ["many", "values"] [3, 2]) (fun _ _ _ _ us hl => match us, hl with | [_, _], _ => rfl) (fun _ _ _ _ _ _ _ hrl => (qe_op op_mod (qe_callF G_word_worth (hrl.mono (by decide)) rfl T.d_word_worth.m T.d_word_worth.F.kp T.d_word_worth.b .nil pass0 (qa_c (qv 0) (qa_c (qv 1) (qa_c (qv 3) qa_nil)))) (qv 2)))))))), ?_⟩
    have hm := pow_pos' W
    have hcw : ∀ w ∈ ws, CWord ys w := fun w hw => .inl (ok w hw)
    refine ⟨_, rfl, _, rfl, tw, dv, ws, kvs, rfl, ht, hd, (fun w hw => word_si N (ok w hw)), names_in1 ok hv, fun H1 s1 => ?_⟩
    refine ⟨_, rfl, W, rfl, by omega, ?_⟩
    have B1 := B.same s1
    refine ⟨_, rfl, B1.w, fun cs f H2 hcs hfz hf hT2 o2 hc => ?_⟩
    obtain ⟨ls, L, hls0⟩ := S.at rfl
    have ht2 := o2 _ _ (s1 _ _ ht) (by obtain ⟨ps, e⟩ := B1.w.ex; exact ne_of (s1 _ _ ht) e (fun z => nomatch z))
    have hd2 := o2 _ _ (s1 _ _ hd) (by obtain ⟨ps, e⟩ := B1.w.ex; exact ne_of (s1 _ _ hd) e (fun z => nomatch z))
    have v1 := val_of hm ρ N S
    refine ⟨tw, f, ws, _, StkAt (2 ^ W) ρ ws ls, val1 (2 ^ W) ρ ws, rfl, ht2, hl, hc, (fun x hx => cword_key (hcw x hx)), ⟨by rw [List.drop_length]; rfl, by rw [L.1]; exact .nil⟩, fun i x stk hx hI => ?_, fun stk hI => ?_, fun H3 s3 => ?_⟩
    · obtain ⟨h1, h2, b, hw, hty⟩ := stk_step hm N L hx hI
      refine ⟨h1, _, h2, fun pl H1' Q' hpl sH hQ => ⟨rfl, ?_⟩⟩
      have hx' := ok x (List.mem_of_getElem? hx)
      have hpl' := hide_keep hfz sH hpl (fun o z => nomatch z)
      have hdv' := hide_keep hfz sH (sH _ _ hd2) (fun o z => nomatch z)
      have hQ' := hQ H1' (Same.refl _)
      rw [word_next N hx', List.reverse_replicate] at hty
      obtain ⟨is, his, hil⟩ := hty.ints
      rw [his] at hpl'
      rw [his, sum_cv (2 ^ W) ρ hx' N, map_iV] at hQ'
      refine ⟨_, rfl, _, rfl, _, rfl, x, pl, dv, is, kvs, ρ, rfl, hpl', hdv', sum_cond1 N hx' (List.mem_of_getElem? hx) hil hv, _, rfl, _, _, rfl, rfl, hm, ?_⟩
      dsimp only
      rw [unhide_hide]
      exact hQ'
    · obtain ⟨h1, _⟩ := hI
      rw [h1, List.drop_zero]
      exact v1.2 []
    · have keep : ∀ b o, H b = some o → b ≠ t.p_worth → hide cs H3 b = some o := fun b o e hb => by
        have e1 := s1 _ _ e
        rw [hide_out (fun m => by rw [hcs b m] at e1; cases e1)]
        exact s3 _ _ (o2 _ _ e1 hb)
      exact k _ ⟨hT2 H3 s3⟩ keep
theorem row1G {K : PySem.W.Frag} {ts : TA} {tu : TE} {σ : St} {H : Hp} {Q : VK} {ss : List Str} {t1 : Addr} {u : List V} (hts : ∀ Q0 : List V → Hp → Prop, Q0 (ss.map V.str) H → ts σ H Q0) (hu : ∀ (H' : Hp) (Q0 : VK), Same H H' → Q0 (.ref t1) H' → tu σ H' Q0)
    (e1 : H t1 = some (.tup u)) (ns : ss ≠ []) (nu : u ≠ []) (hl : ss.length + u.length ≤ 1000) (k : ∀ a H', H' a = some (.tup (ss.map V.str ++ u)) → Same H H' → Q (.ref a) H') : tOp (rCatT K) (tTup ts) tu σ H Q := by
  have nss : ss.map V.str ≠ [] := fun z => ns (List.map_eq_nil_iff.mp z)
  refine hts _ ⟨by rw [List.length_map]; exact Nat.le_of_lt (small1000 (by omega)), fun g hg => hu _ _ (same_upd hg) ?_⟩
  refine cat_read upd_same (same_upd hg _ _ e1) nss nu (by rw [List.length_map]; omega) fun a H' h s => k a H' h ((same_upd hg).trans s)
theorem row2G {K : PySem.W.Frag} {ts : TA} {tu tv : TE} {σ : St} {H : Hp} {Q : VK} {ss : List Str} {t1 t2 : Addr} {u v : List V} (hts : ∀ Q0 : List V → Hp → Prop, Q0 (ss.map V.str) H → ts σ H Q0) (hu : ∀ (H' : Hp) (Q0 : VK), Same H H' → Q0 (.ref t1) H' → tu σ H' Q0) (hv : ∀ (H' : Hp) (Q0 : VK), Same H H' → Q0 (.ref t2) H' → tv σ H' Q0)
    (e1 : H t1 = some (.tup u)) (e2 : H t2 = some (.tup v)) (ns : ss ≠ []) (nu : u ≠ []) (nv : v ≠ []) (hl : ss.length + u.length + v.length ≤ 1000) (k : ∀ a H', H' a = some (.tup (ss.map V.str ++ (u ++ v))) → Same H H' → Q (.ref a) H') : tOp (rCatT K) (tOp (rCatT K) (tTup ts) tu) tv σ H Q := by
  refine row1G hts hu e1 ns nu (by omega) fun a H1 h1 s1 => hv _ _ s1 ?_
  have n1 : ss.map V.str ++ u ≠ [] := by simp [ns]
  refine cat_read h1 (s1 _ _ e2) n1 nv (by rw [List.length_append, List.length_map]; omega) fun b H2 h2 s2 => ?_
  rw [List.append_assoc] at h2
  exact k b H2 h2 (s1.trans s2)
theorem var_at {σ : St} {i : Nat} {v : V} (h : σ[i]? = some (some v)) : ∀ (H' : Hp) (Q0 : VK), Q0 v H' → tVar i σ H' Q0 := fun _ _ q => ⟨v, h, q⟩
/-- a sum and its worth -/
structure SumIs (m : Int) (ρ : Str → Int) (ys : List Str) (u : List V) (a : Int) : Prop where
  pre : PreK ys [false] u []
  ok : ∀ x ∈ u, WordOk ys x
  val : val1 m ρ u = .int a
  run : ∀ stk, runV m ρ u stk = .int a :: stk
  lo : 0 ≤ a
  hi : a < m
theorem SumW.is {m : Int} {ys : List Str} (hm : 0 < m) (ρ : Str → Int) (N : Nms ys) {u : List V} (W : SumW ys u) : ∃ a, SumIs m ρ ys u a := by
  obtain ⟨⟨a, e, h1, h2⟩, h3⟩ := val_of hm ρ N (W.preK N)
  exact ⟨a, W.preK N, W.ok, e, fun stk => by rw [h3 stk, e], h1, h2⟩
theorem seq_asg {te : TE} {g : TG} {u : TS} {D : Ends} {σ : St} {H : Hp} (h : te σ H fun x H1 => g x σ H1 (u D)) : tSeq (tAsg te g) u D σ H := h
theorem next_seq {t : St → Hp → Prop} {r : VK} {b c : St → Hp → Prop} {σ : St} {H : Hp} (h : t σ H) : tNext { nx := t, rt := r, bk := b, ct := c } σ H := h
theorem nx_go {t : St → Hp → Prop} {r : VK} {b c : St → Hp → Prop} {σ : St} {H : Hp} (h : t σ H) : ({ nx := t, rt := r, bk := b, ct := c } : Ends).nx σ H := h
theorem rNe_same {x y : V} {H : Hp} {Q : VK} (e : x = y) (hs : scal x x = true) (h : Q (.bl false) H) : rNe x y H Q := by
  subst e
  refine ⟨hs, ?_⟩
  rw [decide_eq_true rfl]
  exact h
theorem sum2_fact : ∀ y ∈ (["and", "or", "odd", "add", "sub"] : List Str), y ∈ sumW ∧ partsS y = 2 ∧ npw (.str y) = 2 := by decide +kernel
theorem sum1_fact : ∀ y ∈ (["not", "neg", "twice", "low"] : List Str), y ∈ sumW ∧ partsS y = 1 ∧ npw (.str y) = 1 := by decide +kernel
theorem sum3_fact : ("pick" : Str) ∈ sumW ∧ partsS "pick" = 3 ∧ npw (.str "pick") = 3 := by decide +kernel
theorem sum_mk {m : Int} {ρ : Str → Int} {ys : List Str} (hm : 0 < m) (N : Nms ys) {u : List V} {a : Int} (P : PreK ys [false] u []) (ok : ∀ x ∈ u, WordOk ys x) (h : runV m ρ u [] = [.int a]) : SumIs m ρ ys u a := by
  obtain ⟨⟨b, e, h1, h2⟩, h3⟩ := val_of hm ρ N P
  have e3 := h3 []
  rw [h, e] at e3
  injection e3 with e3 _
  injection e3 with e3
  subst e3
  exact ⟨P, ok, e, fun stk => by rw [h3 stk, e], h1, h2⟩
theorem ok_app {ys : List Str} {u v : List V} (h : ∀ x ∈ u, WordOk ys x) (g : ∀ x ∈ v, WordOk ys x) : ∀ x ∈ u ++ v, WordOk ys x := fun x hx => (List.mem_append.mp hx).elim (h x) (g x)
theorem ok_cons {ys : List Str} {w : V} {v : List V} (h : WordOk ys w) (g : ∀ x ∈ v, WordOk ys x) : ∀ x ∈ w :: v, WordOk ys x := fun x hx => (List.mem_cons.mp hx).elim (fun e => e ▸ h) (g x)
theorem sum2_is {m : Int} {ρ : Str → Int} {ys : List Str} (hm : 0 < m) (N : Nms ys) {y : Str} (hy : y ∈ (["and", "or", "odd", "add", "sub"] : List Str)) {u v : List V} {a b : Int} (A : SumIs m ρ ys u a) (B : SumIs m ρ ys v b) : SumIs m ρ ys ([y].map V.str ++ (u ++ v)) (twoV y a b % m) := by
  obtain ⟨h1, h2, h3⟩ := sum2_fact y hy
  have hw : WordOk ys (.str y) := .inl ⟨y, rfl, h1⟩
  refine sum_mk hm N ?_ (show ∀ x ∈ V.str y :: (u ++ v), WordOk ys x from ok_cons hw (ok_app A.ok B.ok)) ?_
  · refine PreK.cons (ls := []) (b := false) hw ?_
    rw [word_next N hw, show partsV (.str y) = 2 from h2]
    exact (PreK.under [false] A.pre).app B.pre
  · show runV m ρ (.str y :: (u ++ v)) [] = _
    rw [runV_cons, runV_app, B.run, A.run, h3, sum_cv m ρ hw N]
    rfl
theorem sum1_is {m : Int} {ρ : Str → Int} {ys : List Str} (hm : 0 < m) (N : Nms ys) {y : Str} (hy : y ∈ (["not", "neg", "twice", "low"] : List Str)) {u : List V} {a : Int} (A : SumIs m ρ ys u a) : SumIs m ρ ys ([y].map V.str ++ u) (oneV y a % m) := by
  obtain ⟨h1, h2, h3⟩ := sum1_fact y hy
  have hw : WordOk ys (.str y) := .inl ⟨y, rfl, h1⟩
  refine sum_mk hm N ?_ (ok_cons hw A.ok) ?_
  · refine PreK.cons (ls := []) (b := false) hw ?_
    rw [word_next N hw, show partsV (.str y) = 1 from h2]
    exact A.pre
  · show runV m ρ (.str y :: u) [] = _
    rw [runV_cons, A.run, h3, sum_cv m ρ hw N]
    rfl
theorem sum3_is {m : Int} {ρ : Str → Int} {ys : List Str} (hm : 0 < m) (N : Nms ys) {u v w : List V} {a b c : Int} (A : SumIs m ρ ys u a) (B : SumIs m ρ ys v b) (C : SumIs m ρ ys w c) : SumIs m ρ ys ((["pick"] : List Str).map V.str ++ (u ++ v) ++ w) (Builtin.bitOr (Builtin.bitAnd a b) (Builtin.bitAnd (Builtin.bitNot a) c) % m) := by
  obtain ⟨h1, h2, h3⟩ := sum3_fact
  have hw : WordOk ys (.str "pick") := .inl ⟨_, rfl, h1⟩
  refine sum_mk hm N ?_ (ok_app (show ∀ x ∈ V.str "pick" :: (u ++ v), WordOk ys x from ok_cons hw (ok_app A.ok B.ok)) C.ok) ?_
  · refine PreK.cons (ls := []) (b := false) hw ?_
    rw [word_next N hw, show partsV (.str "pick") = 3 from h2]
    exact ((PreK.under [false, false] A.pre).app (PreK.under [false] B.pre)).app C.pre
  · show runV m ρ (.str "pick" :: (u ++ v ++ w)) [] = _
    rw [runV_cons, runV_app, runV_app, C.run, B.run, A.run, h3, sum_cv m ρ hw N]
    rfl
theorem leaf_is {m : Int} {ρ : Str → Int} {ys : List Str} (N : Nms ys) {y : Str} (hy : y ∈ ys) (h0 : 0 ≤ ρ y) (h1 : ρ y < m) : SumIs m ρ ys [.str y] (ρ y) := by
  have hw : WordOk ys (.str y) := .inr (.inl ⟨y, hy, rfl⟩)
  have hp : partsS y = 0 := parts_name (N.ok y hy).k
  refine sum_mk (by omega) N ?_ (ok_cons hw (fun _ h => nomatch h)) ?_
  · refine PreK.cons (ls := []) (b := false) hw ?_
    rw [word_next N hw, show partsV (.str y) = 0 from hp]
    exact .nil
  · rw [runV_cons, sum_cv m ρ hw N]
    have e : npw (.str y) = 0 := by rw [← npw_next, word_next N hw, show partsV (.str y) = 0 from hp]; rfl
    rw [e]
    show [V.int (ρ y % m)] = _
    rw [Int.emod_eq_of_lt h0 h1]
theorem ask_worth {K : PySem.W.Frag} {pw dv : Addr} {kvs : List (Key × V)} {W : Nat} {ys : List Str} {ρ : Str → Int} (hW : W ≤ 60) (N : Nms ys) {a : Addr} {ws : List V} {z : Int} {H : Hp} {Q : VK} (hv : ValIn kvs ys ws ρ) (B : Tb H pw) (hd : H dv = some (.dK kvs)) (ha : H a = some (.tup ws)) (S : SumIs (2 ^ W) ρ ys ws z) (hl : ws.length ≤ 60)
    (k : ∀ H', Tb H' pw → OffT pw H H' → Q (.int z) H') : sp_worth K pw [.ref a, .int W, .ref dv] H Q E0 :=
  ⟨a, dv, W, ys, ws, kvs, ρ, rfl, hW, ha, N, S.pre, S.ok, hl, hd, hv, B, fun H' B' o => by
    rw [S.val]
    exact k H' B' o⟩
theorem askedR {K : PySem.W.Frag} {pw dv : Addr} {kvs : List (Key × V)} {W : Nat} {ys : List Str} {ρ : Str → Int} (hW : W ≤ 60) (N : Nms ys) {ta ti tj : TE} {σ : St} {H : Hp} {Q : VK} {ws : List V} {z : Int} (hv : ValIn kvs ys ws ρ) (B : Tb H pw) (hd : H dv = some (.dK kvs)) (S : SumIs (2 ^ W) ρ ys ws z) (hl : ws.length ≤ 60)
    (hi : ∀ (H' : Hp) (Q0 : VK), Same H H' → Q0 (.int W) H' → ti σ H' Q0) (hj : ∀ (H' : Hp) (Q0 : VK), Q0 (.ref dv) H' → tj σ H' Q0) (row : ∀ Q0 : VK, (∀ a H', H' a = some (.tup ws) → Same H H' → Q0 (.ref a) H') → ta σ H Q0) (k : ∀ H', Tb H' pw → OffT pw H H' → Q (.int z) H') :
    tCall (sp_worth K pw) [] E0 (tCons ta (tCons ti (tCons tj tNil))) σ H Q :=
  row _ fun a H1 ha s1 => hi _ _ s1 (hj _ _ (ask_worth (K := K) hW N hv (B.same s1) (s1 _ _ hd) ha S hl fun H2 b2 o2 => k H2 b2 ((Same.offT s1).trans o2)))
theorem askedV {K : PySem.W.Frag} {pw dv t0 : Addr} {kvs : List (Key × V)} {W l j : Nat} {ys : List Str} {ρ : Str → Int} (hW : W ≤ 60) (N : Nms ys) {ti : TE} {σ : St} {H : Hp} {Q : VK} {ws : List V} {z : Int} (hv : ValIn kvs ys ws ρ) (B : Tb H pw) (hd : H dv = some (.dK kvs)) (S : SumIs (2 ^ W) ρ ys ws z) (hl : ws.length ≤ 60)
    (hl0 : σ[l]? = some (some (.ref t0))) (ht : H t0 = some (.tup ws)) (hi : ∀ (H' : Hp) (Q0 : VK), Same H H' → Q0 (.int W) H' → ti σ H' Q0) (hj : σ[j]? = some (some (.ref dv))) (k : ∀ H', Tb H' pw → OffT pw H H' → Q (.int z) H') :
    tCall (sp_worth K pw) [] E0 (tCons (tVar l) (tCons ti (tCons (tVar j) tNil))) σ H Q :=
  askedR hW N hv B hd S hl hi (var_at hj) (fun _ q => ⟨_, hl0, q t0 H ht (Same.refl H)⟩) k
theorem ValOk.inn {kvs : List (Key × V)} {ys : List Str} {ρ : Str → Int} (h : ValOk kvs ys ρ) (ws : List V) : ValIn kvs ys ws ρ := fun y hy _ => h y hy
def sp_law_together (K : PySem.W.Frag) (pw : Addr) : Sp := fun vs H Q _ => ∃ (t1 t2 dv : Addr) (W : Nat) (ys : List Str) (u v : List V) (kvs : List (Key × V)) (ρ : Str → Int) (a b : Int), vs = [.ref t1, .ref t2, .int W, .ref dv] ∧ W ≤ 60 ∧ Nms ys ∧ ValOk kvs ys ρ ∧ H t1 = some (.tup u) ∧ H t2 = some (.tup v) ∧ SumIs (2 ^ W) ρ ys u a ∧ SumIs (2 ^ W) ρ ys v b ∧ u.length ≤ 20 ∧ v.length ≤ 20 ∧ Tb H pw ∧ H dv = some (.dK kvs) ∧
  ∀ H', Tb H' pw → OffT pw H H' → Q (.bl true) H'
theorem slice_upto {K : PySem.W.Frag} {H : Hp} {p : Addr} {xs : List V} {w : Nat} {Q : VK} (h : H p = some (.tup xs)) (hw : w ≤ xs.length) (k : ∀ q H', H' q = some (.tup (xs.take w)) → Same H H' → Q (.ref q) H') :
    rSlT K (.ref p) none (some (w : Int)) H Q ∨ rSlW K (.ref p) none (some (w : Int)) H Q := by
  have e1 : HT.sIx xs.length 0 none = 0 := rfl
  have e2 : HT.sIx xs.length xs.length (some (w : Int)) = w := by
    simp only [HT.sIx, show ¬ ((w : Int) < 0) by omega, if_false]
    omega
  by_cases he : w = xs.length
  · refine .inr ⟨p, xs, rfl, SqT.of h, ⟨e1, by rw [e2]; exact he⟩, k p H ?_ (Same.refl H)⟩
    rw [he, List.take_length]
    exact h
  · refine .inl ⟨p, xs, rfl, SqT.of h, fun z => he (by rw [← e2]; exact z.2), fun q hq => k q _ ?_ (same_upd hq)⟩
    rw [upd_same]
    unfold cutV
    rw [e1, e2, List.drop_zero, Nat.sub_zero]
theorem nms_xy : Nms ["x", "y"] := nms_of (by decide) (by decide) (by decide +kernel) (by decide +kernel)
def rxy (a b : Int) (s : Str) : Int := if s = "x" then a else b
theorem rxy_x (a b : Int) : rxy a b "x" = a := if_pos rfl
theorem rxy_y (a b : Int) : rxy a b "y" = b := if_neg (by decide +kernel)
theorem val_xy (a b : Int) : ValOk (mergeK [] [((.inr "x" : Key), V.int a), (.inr "y", .int b)]) ["x", "y"] (rxy a b) := by
  intro y hy
  show valV (putK (putK [] (Sum.inr "x" : Key) (.int a)) (Sum.inr "y" : Key) (.int b)) _ = _
  simp only [List.mem_cons, List.not_mem_nil, or_false] at hy
  rcases hy with rfl | rfl
  · rw [valV_put, if_neg (by decide +kernel), valV_put, if_pos rfl, rxy_x]
  · rw [valV_put, if_pos rfl, rxy_y]
theorem is_x {m a b : Int} (h0 : 0 ≤ a) (h1 : a < m) : SumIs m (rxy a b) ["x", "y"] [.str "x"] a := by
  have := leaf_is (m := m) (ρ := rxy a b) nms_xy (y := "x") (by decide +kernel) (by rw [rxy_x]; exact h0) (by rw [rxy_x]; exact h1)
  rw [rxy_x] at this
  exact this
theorem is_y {m a b : Int} (h0 : 0 ≤ b) (h1 : b < m) : SumIs m (rxy a b) ["x", "y"] [.str "y"] b := by
  have := leaf_is (m := m) (ρ := rxy a b) nms_xy (y := "y") (by decide +kernel) (by rw [rxy_y]; exact h0) (by rw [rxy_y]; exact h1)
  rw [rxy_y] at this
  exact this
theorem ok_law_together (T : Txt K w mg t) (TB : Tbs mg base t) : FnOk P w K mg base CX0 15 t.a_law_together t.f_law_together ["one", "other", "width", "values"] (sp_law_together K t.p_worth) := by
  have G_worth : FnOk P w K mg base CX0 14 t.a_worth t.f_worth ["words", "width", "values"] (sp_worth K t.p_worth) := ok_worth T TB
  refine T.d_law_together.F.ok sc_law_together (fun vs H Q E h => ?_) (fun cdv A outer s H vs Q E hr h => ?_)
  · obtain ⟨t1, t2, dv, W, ys, u, v, kvs, ρ, a, b, rfl, hW, N, hv, h1, h2, A1, A2, l1, l2, B, hd, k⟩ := h
    rfl
  · obtain ⟨t1, t2, dv, W, ys, u, v, kvs, ρ, a, b, rfl, hW, N, hv, h1, h2, A1, A2, l1, l2, B, hd, k⟩ := h
    have hu := hu_of hr
    refine ⟨_, @QSs.out _ _ _ (qss_cons (qs_set (i := 4) sc_law_together.nd rfl (Or.inl rfl) (qe_disp (qps_cons qe_str (qe_callF G_worth (hr.mono (by decide)) rfl T.d_worth.m T.d_worth.F.kp T.d_worth.b .nil pass0 (qa_c (qv 0) (qa_c (qv 2) (qa_c (qv 3) qa_nil)))) (qps_cons qe_str (qe_callF G_worth (hr.mono (by decide)) rfl T.d_worth.m T.d_worth.F.kp T.d_worth.b .nil pass0 (qa_c (qv 1) (qa_c (qv 2) (qa_c (qv 3) qa_nil)))) qps_nil)) rfl rfl (fun z => nomatch z) (by decide)))
        (qss_cons (qs_for PassesOwn.never rfl (qi_list (qe_lst (qa_c qe_str (qa_c qe_str (qa_c qe_str (qa_c qe_str (qa_c qe_str qa_nil))))))) (qg_name (i := 5) sc_law_together.nd rfl (Or.inl rfl))
        (qss_one (qs_if (qt_cmpR op_ne (qe_callF G_worth (hr.mono (by decide)) rfl T.d_worth.m T.d_worth.F.kp T.d_worth.b .nil pass0 (qa_c (qe_op op_catT (qe_op op_catT (qe_tup (qa_c (qv 5) qa_nil)) (qv 0)) (qv 1)) (qa_c (qv 2) (qa_c (qv 3) qa_nil)))) (qe_callF G_worth (hr.mono (by decide)) rfl T.d_worth.m T.d_worth.F.kp T.d_worth.b .nil pass0 (qa_c (qe_tup (qa_c (qv 5) (qa_c qe_str (qa_c qe_str qa_nil)))) (qa_c (qv 2) (qa_c (qv 4) qa_nil)))) (nomark _))
        (qss_one (qs_ret qe_bl)) qss_nil)))
        (qss_cons (qs_for PassesOwn.never rfl (qi_list (qe_lst (qa_c qe_str (qa_c qe_str (qa_c qe_str (qa_c qe_str qa_nil)))))) (qg_name (i := 5) sc_law_together.nd rfl (Or.inl rfl))
        (qss_one (qs_if (qt_cmpR op_ne (qe_callF G_worth (hr.mono (by decide)) rfl T.d_worth.m T.d_worth.F.kp T.d_worth.b .nil pass0 (qa_c (qe_op op_catT (qe_tup (qa_c (qv 5) qa_nil)) (qv 0)) (qa_c (qv 2) (qa_c (qv 3) qa_nil)))) (qe_callF G_worth (hr.mono (by decide)) rfl T.d_worth.m T.d_worth.F.kp T.d_worth.b .nil pass0 (qa_c (qe_tup (qa_c (qv 5) (qa_c qe_str qa_nil))) (qa_c (qv 2) (qa_c (qv 4) qa_nil)))) (nomark _))
        (qss_one (qs_ret qe_bl)) qss_nil)))
        (qss_cons (qs_set (i := 6) sc_law_together.nd rfl (Or.inl rfl) (qe_ifExp (qt_cmpR op_eq (qe_callBF call_len_seq (by rfl) T.z_len bt_len (qa_c (qv 0) qa_nil)) qe_int (nomark _)) (qe_callF G_worth (hr.mono (by decide)) rfl T.d_worth.m T.d_worth.F.kp T.d_worth.b .nil pass0 (qa_c (qe_op op_catT (qe_op op_catT (qe_op op_catT (qe_tup (qa_c qe_str qa_nil)) (qv 0)) (qv 1)) (qe_slice (SlR.or sl_tup sl_tupW) (qv 0) qo_none (qo_some qe_int))) (qa_c (qv 2) (qa_c (qv 3) qa_nil)))) (qe_dget hu (qv 4) qe_str (fun _ _ => rfl))))
        (qss_cons (qs_set (i := 7) sc_law_together.nd rfl (Or.inl rfl) (qe_ifExp (qt_cmpR op_eq (qe_callBF call_len_seq (by rfl) T.z_len bt_len (qa_c (qv 0) qa_nil)) qe_int (nomark _)) (qe_callF G_worth (hr.mono (by decide)) rfl T.d_worth.m T.d_worth.F.kp T.d_worth.b .nil pass0 (qa_c (qe_tup (qa_c qe_str (qa_c qe_str (qa_c qe_str (qa_c qe_str qa_nil))))) (qa_c (qv 2) (qa_c (qv 4) qa_nil)))) (qe_dget hu (qv 4) qe_str (fun _ _ => rfl))))
        (qss_one (qs_ret (qe_cmpR op_eq (qv 6) (qv 7) (nomark _))))))))), ?_⟩
    have hm := pow_pos' W
    have nu := PreK.ne A1.pre (by simp)
    have nv := PreK.ne A2.pre (by simp)
    refine seq_asg (fun p hp => ?_)
    have s0 := same_upd (o := .dK []) hp
    show tCall _ _ _ _ _ _ _
    refine askedV hW N (hv.inn _) (B.same s0) (s0 _ _ hd) A1 (by omega) rfl (s0 _ _ h1) (fun H' Q0 _ q => ⟨_, rfl, q⟩) rfl fun H1 b1 o1 => ?_
    show tCall _ _ _ _ _ _ _
    have B0 := B.same s0
    refine askedV hW N (hv.inn _) b1 (B0.dK o1 (s0 _ _ hd)) A2 (by omega) rfl (B0.tup o1 (s0 _ _ h2)) (fun H' Q0 _ q => ⟨_, rfl, q⟩) rfl fun H2 b2 o2 => ?_
    have hp2 := B0.dK (o1.trans o2) (b := p) (kvs := []) upd_same
    refine ⟨hp2, [(.inr "x", .int a), (.inr "y", .int b)], rfl, by show 2 ≤ 15; decide, gName_go ?_⟩
    have b3 : Tb (upd H2 p (.dK (mergeK [] [(.inr "x", .int a), (.inr "y", .int b)]))) t.p_worth := b2.put hp2
    have o3 : OffT t.p_worth H (upd H2 p (.dK (mergeK [] [(.inr "x", .int a), (.inr "y", .int b)]))) := fun c o e hc => by
      rw [upd_ne (ne_of_none e hp)]
      exact (o1.trans o2) c o (s0 _ _ e) hc
    have hs3 : (upd H2 p (.dK (mergeK [] [(.inr "x", .int a), (.inr "y", .int b)]))) p = some (.dK (mergeK [] [(.inr "x", .int a), (.inr "y", .int b)])) := upd_same
    have hxy := val_xy a b
    generalize mergeK [] [((.inr "x" : Key), V.int a), (.inr "y", .int b)] = M at *
    generalize upd H2 p (.dK M) = H3 at *
    have X1 := is_x (m := 2 ^ W) (b := b) A1.lo A1.hi
    have X2 := is_y (m := 2 ^ W) (a := a) A2.lo A2.hi
    refine ⟨by show 5 ≤ sizeLine; decide, fun g hg => ⟨g, rfl, ⟨_, SqL.of upd_same⟩, ?_⟩⟩
    refine for_list (K := K) (a := g) (xs := [.str "and", .str "or", .str "odd", .str "add", .str "sub"]) (fun i σ H' => ∃ u5, σ = [some (.ref t1), some (.ref t2), some (.int W), some (.ref dv), some (.ref p), u5, none, none] ∧ Tb H' t.p_worth ∧ OffT t.p_worth H H' ∧ H' p = some (.dK M) ∧ H' g = some (.lst [.str "and", .str "or", .str "odd", .str "add", .str "sub"])) ⟨none, rfl, b3.same (same_upd hg), o3.trans (Same.offT (same_upd hg)), same_upd hg _ _ hs3, upd_same⟩ (fun i σ H' _ ⟨_, _, _, _, _, e⟩ => SqL.of e) ?_ ?_
    · rintro i x σ H4 hx ⟨u5, rfl, b4, o4, hp4, hg4⟩
      obtain ⟨y, rfl, hy⟩ : ∃ y : Str, x = .str y ∧ y ∈ (["and", "or", "odd", "add", "sub"] : List Str) := by
        obtain ⟨y, hy, e⟩ := List.mem_map.mp (show x ∈ (["and", "or", "odd", "add", "sub"] : List Str).map V.str from List.mem_of_getElem? hx)
        exact ⟨y, e.symm, hy⟩
      refine gName_go ?_
      show tIfS (tTest (tOp rNe _ _)) _ tNext _ _ _
      refine askedR hW N (hv.inn _) b4 (B.dK o4 hd) (sum2_is hm N hy A1 A2) (by rw [List.length_append, List.length_append]; show 1 + _ ≤ 60; omega) (fun H' Q0 _ q => ⟨_, rfl, q⟩) (fun H' Q0 q => ⟨_, rfl, q⟩) (fun Q0 h => row2G (ss := [y]) (fun Q0 q => ⟨_, rfl, q⟩) (fun H' Q0 _ q => ⟨_, rfl, q⟩) (fun H' Q0 _ q => ⟨_, rfl, q⟩) (B.tup o4 h1) (B.tup o4 h2) (by simp) nu nv (by show 1 + u.length + v.length ≤ 1000; omega) h) fun H5 b5 o5 => ?_
      show tCall _ _ _ _ _ _ _
      refine askedR hW nms_xy (hxy.inn _) b5 (b4.dK o5 hp4) (sum2_is hm nms_xy hy X1 X2) (by show 3 ≤ 60; decide) (fun H' Q0 _ q => ⟨_, rfl, q⟩) (fun H' Q0 q => ⟨_, rfl, q⟩) (fun Q0 h => ⟨_, rfl, by show 3 ≤ sizeLine; decide, fun q hq => h q _ upd_same (same_upd hq)⟩) fun H6 b6 o6 => ?_
      refine rNe_same rfl rfl ⟨_, rfl, iteF ?_⟩
      have o56 := o5.trans o6
      exact ⟨_, rfl, b6, o4.trans o56, b4.dK o56 hp4, b4.lst o56 hg4⟩
    rintro σ H4 ⟨u5, rfl, b4, o4, hp4, hg4⟩
    refine ⟨by show 4 ≤ sizeLine; decide, fun g2 hg2 => ⟨g2, rfl, ⟨_, SqL.of upd_same⟩, ?_⟩⟩
    refine for_list (K := K) (a := g2) (xs := [.str "not", .str "neg", .str "twice", .str "low"]) (fun i σ H' => ∃ u5, σ = [some (.ref t1), some (.ref t2), some (.int W), some (.ref dv), some (.ref p), u5, none, none] ∧ Tb H' t.p_worth ∧ OffT t.p_worth H H' ∧ H' p = some (.dK M) ∧ H' g2 = some (.lst [.str "not", .str "neg", .str "twice", .str "low"])) ⟨_, rfl, b4.same (same_upd hg2), o4.trans (Same.offT (same_upd hg2)), same_upd hg2 _ _ hp4, upd_same⟩ (fun i σ H' _ ⟨_, _, _, _, _, e⟩ => SqL.of e) ?_ ?_
    · rintro i x σ H4 hx ⟨u5, rfl, b4, o4, hp4, hg4⟩
      obtain ⟨y, rfl, hy⟩ : ∃ y : Str, x = .str y ∧ y ∈ (["not", "neg", "twice", "low"] : List Str) := by
        obtain ⟨y, hy, e⟩ := List.mem_map.mp (show x ∈ (["not", "neg", "twice", "low"] : List Str).map V.str from List.mem_of_getElem? hx)
        exact ⟨y, e.symm, hy⟩
      refine gName_go ?_
      show tIfS (tTest (tOp rNe _ _)) _ tNext _ _ _
      refine askedR hW N (hv.inn _) b4 (B.dK o4 hd) (sum1_is hm N hy A1) (by rw [List.length_append]; show 1 + _ ≤ 60; omega) (fun H' Q0 _ q => ⟨_, rfl, q⟩) (fun H' Q0 q => ⟨_, rfl, q⟩) (fun Q0 h => row1G (ss := [y]) (fun Q0 q => ⟨_, rfl, q⟩) (fun H' Q0 _ q => ⟨_, rfl, q⟩) (B.tup o4 h1) (by simp) nu (by show 1 + u.length ≤ 1000; omega) h) fun H5 b5 o5 => ?_
      show tCall _ _ _ _ _ _ _
      refine askedR hW nms_xy (hxy.inn _) b5 (b4.dK o5 hp4) (sum1_is hm nms_xy hy X1) (by show 2 ≤ 60; decide) (fun H' Q0 _ q => ⟨_, rfl, q⟩) (fun H' Q0 q => ⟨_, rfl, q⟩) (fun Q0 h => ⟨_, rfl, by show 2 ≤ sizeLine; decide, fun q hq => h q _ upd_same (same_upd hq)⟩) fun H6 b6 o6 => ?_
      refine rNe_same rfl rfl ⟨_, rfl, iteF ?_⟩
      have o56 := o5.trans o6
      exact ⟨_, rfl, b6, o4.trans o56, b4.dK o56 hp4, b4.lst o56 hg4⟩
    rintro σ H5 ⟨v5, rfl, b5, o5, hp5, hg5⟩
    have h15 := B.tup o5 h1
    have h25 := B.tup o5 h2
    have hd5 := B.dK o5 hd
    by_cases hl : u.length = 1
    · refine nx_go (seq_asg ?_)
      refine ⟨_, rfl, t1, _, rfl, .inr (SqT.of h15), rfl, _, rfl, ?_⟩
      rw [decide_eq_true (show V.int (u.length : Int) = V.int 1 by rw [hl]; rfl)]
      refine iteT ?_
      show tCall _ _ _ _ _ _ _
      refine askedR hW N (hv.inn _) b5 hd5 (sum3_is hm N A1 A2 A1) (by rw [List.length_append, List.length_append, List.length_append]; show 1 + _ + _ ≤ 60; omega) (fun H' Q0 _ q => ⟨_, rfl, q⟩) (fun H' Q0 q => ⟨_, rfl, q⟩) (fun Q0 h => row2G (ss := ["pick"]) (fun Q0 q => q) (fun H' Q0 _ q => ⟨_, rfl, q⟩) (fun H' Q0 _ q => ⟨_, rfl, q⟩) h15 h25 (by simp) nu nv (by show 1 + u.length + v.length ≤ 1000; omega) fun r H' hr' s' => ⟨_, rfl, _, rfl, slice_upto (w := 1) (s' _ _ h15) (by omega) fun r2 H2' hr2 s2' => ?_⟩) fun H6 b6 o6 => ?_
      · rw [show (1 : Nat) = u.length from hl.symm, List.take_length] at hr2
        refine cat_read (s2' _ _ hr') hr2 (by simp) nu ?_ fun r3 H3' hr3 s3' => h r3 H3' hr3 ((s'.trans s2').trans s3')
        rw [List.length_append, List.length_append]
        show 1 + _ + _ ≤ 1000
        omega
      refine gName_go (seq_asg ?_)
      refine ⟨_, rfl, t1, _, rfl, .inr (SqT.of (b5.tup o6 h15)), rfl, _, rfl, ?_⟩
      rw [decide_eq_true (show V.int (u.length : Int) = V.int 1 by rw [hl]; rfl)]
      refine iteT ?_
      show tCall _ _ _ _ _ _ _
      refine askedR hW nms_xy (hxy.inn _) b6 (b5.dK o6 hp5) (sum3_is hm nms_xy X1 X2 X1) (by show 4 ≤ 60; decide) (fun H' Q0 _ q => ⟨_, rfl, q⟩) (fun H' Q0 q => ⟨_, rfl, q⟩) (fun Q0 h => ⟨by show 4 ≤ sizeLine; decide, fun q hq => h q _ upd_same (same_upd hq)⟩) fun H7 b7 o7 => gName_go ?_
      refine ⟨_, rfl, _, rfl, rfl, ?_⟩
      rw [decide_eq_true rfl]
      exact k H7 b7 ((o5.trans o6).trans o7)
    · refine nx_go (seq_asg ?_)
      have hne : decide (V.int (u.length : Int) = V.int 1) = false := decide_eq_false fun z => hl (by injection z with z; omega)
      have hx := hxy "x" (by decide +kernel)
      rw [rxy_x] at hx
      refine ⟨_, rfl, t1, _, rfl, .inr (SqT.of h15), rfl, _, rfl, ?_⟩
      rw [hne]
      refine iteF ⟨_, rfl, p, _, rfl, .inl ⟨M, .inr "x", .inl hp5, rfl, hx.symm⟩, gName_go (seq_asg ?_)⟩
      refine ⟨_, rfl, t1, _, rfl, .inr (SqT.of h15), rfl, _, rfl, ?_⟩
      rw [hne]
      refine iteF ⟨_, rfl, p, _, rfl, .inl ⟨M, .inr "x", .inl hp5, rfl, hx.symm⟩, gName_go ?_⟩
      refine ⟨_, rfl, _, rfl, rfl, ?_⟩
      rw [decide_eq_true rfl]
      exact k H5 b5 o5
def Cg (p x y : Int) : Prop := ∃ k : Int, x = y + p * k
theorem Cg.refl (p x : Int) : Cg p x x := ⟨0, by rw [Int.mul_zero, Int.add_zero]⟩
theorem Cg.of {p x y : Int} (h : x % p = y % p) : Cg p x y := by
  refine ⟨x / p - y / p, ?_⟩
  have h1 := Int.mul_ediv_add_emod x p
  have h2 := Int.mul_ediv_add_emod y p
  rw [Int.mul_sub]
  omega
theorem Cg.eq {p x y : Int} (h : Cg p x y) : x % p = y % p := by
  obtain ⟨k, rfl⟩ := h
  exact Int.add_mul_emod_self_left y p k
theorem Cg.sym {p x y : Int} (h : Cg p x y) : Cg p y x := Cg.of h.eq.symm
theorem Cg.trans {p x y z : Int} (h : Cg p x y) (g : Cg p y z) : Cg p x z := Cg.of (h.eq.trans g.eq)
theorem Cg.add {p x y u v : Int} (h : Cg p x y) (g : Cg p u v) : Cg p (x + u) (y + v) := by
  obtain ⟨k, rfl⟩ := h
  obtain ⟨l, rfl⟩ := g
  exact ⟨k + l, by rw [Int.mul_add]; omega⟩
theorem Cg.neg {p x y : Int} (h : Cg p x y) : Cg p (-x) (-y) := by
  obtain ⟨k, rfl⟩ := h
  exact ⟨-k, by rw [Int.mul_neg]; omega⟩
theorem Cg.sub {p x y u v : Int} (h : Cg p x y) (g : Cg p u v) : Cg p (x - u) (y - v) := by
  have := h.add g.neg
  rwa [← Int.sub_eq_add_neg, ← Int.sub_eq_add_neg] at this
theorem Cg.not {p x y : Int} (h : Cg p x y) : Cg p (Builtin.bitNot x) (Builtin.bitNot y) := h.neg.sub (Cg.refl p 1)
theorem Cg.mod (p x : Int) : Cg p (x % p) x := Cg.of (Int.emod_emod_of_dvd x (Int.dvd_refl p))
theorem Cg.and : ∀ (n : Nat) {x y u v : Int}, Cg (2 ^ n) x y → Cg (2 ^ n) u v → Cg (2 ^ n) (Builtin.bitAnd x u) (Builtin.bitAnd y v)
  | 0, x, y, u, v, _, _ => ⟨Builtin.bitAnd x u - Builtin.bitAnd y v, by rw [Int.pow_zero, Int.one_mul]; omega⟩
  | n + 1, x, y, u, v, h, g => by
    have half : ∀ {x y : Int}, Cg (2 ^ (n + 1)) x y → Cg (2 ^ n) (x / 2) (y / 2) ∧ x % 2 = y % 2 := by
      intro x y h
      obtain ⟨k, rfl⟩ := h
      have e : (2 : Int) ^ (n + 1) * k = 2 * (2 ^ n * k) := by rw [Int.pow_succ, Int.mul_comm (2 ^ n) 2, Int.mul_assoc]
      rw [e]
      exact ⟨⟨k, by rw [Int.add_mul_ediv_left _ _ (by decide)]⟩, Int.add_mul_emod_self_left _ _ _⟩
    obtain ⟨h1, h2⟩ := half h
    obtain ⟨g1, g2⟩ := half g
    obtain ⟨k, hk⟩ := Cg.and n h1 g1
    rw [PySem.W.kbt_halves x u, PySem.W.kbt_halves y v, h2, g2, hk]
    refine ⟨k, ?_⟩
    rw [Int.pow_succ, Int.mul_comm (2 ^ n) 2, Int.mul_assoc, Int.mul_add]
    omega
theorem Cg.or (n : Nat) {x y u v : Int} (h : Cg (2 ^ n) x y) (g : Cg (2 ^ n) u v) : Cg (2 ^ n) (Builtin.bitOr x u) (Builtin.bitOr y v) := (Cg.and n h.not g.not).not
theorem Cg.xor (n : Nat) {x y u v : Int} (h : Cg (2 ^ n) x y) (g : Cg (2 ^ n) u v) : Cg (2 ^ n) (Builtin.bitXor x u) (Builtin.bitXor y v) := (Cg.or n h g).sub (Cg.and n h g)
theorem Cg.one (n : Nat) (y : Str) {a b : Int} (h : Cg (2 ^ n) a b) : Cg (2 ^ n) (oneV y a) (oneV y b) := by
  unfold oneV
  split
  · exact h.not
  · split
    · exact h.neg
    · split
      · exact h.add h
      · exact Cg.and n h h.neg
theorem Cg.two (n : Nat) (y : Str) {a b u v : Int} (h : Cg (2 ^ n) a b) (g : Cg (2 ^ n) u v) : Cg (2 ^ n) (twoV y a u) (twoV y b v) := by
  unfold twoV
  split
  · exact Cg.and n h g
  · split
    · exact Cg.or n h g
    · split
      · exact Cg.xor n h g
      · split
        · exact h.add g
        · exact h.sub g
/-- lists of numbers that are the same but for multiples of 2 ^ n -/
inductive CgL (n : Nat) : List Int → List Int → Prop
  | nil : CgL n [] []
  | cons {a b : Int} {as bs : List Int} : Cg (2 ^ n) a b → CgL n as bs → CgL n (a :: as) (b :: bs)
theorem CgL.take {n : Nat} : ∀ (k : Nat) {as bs : List Int}, CgL n as bs → CgL n (as.take k) (bs.take k)
  | 0, _, _, _ => .nil
  | _ + 1, _, _, .nil => .nil
  | k + 1, _, _, .cons h t => .cons h (CgL.take k t)
theorem CgL.drop {n : Nat} : ∀ (k : Nat) {as bs : List Int}, CgL n as bs → CgL n (as.drop k) (bs.drop k)
  | 0, _, _, h => h
  | _ + 1, _, _, .nil => .nil
  | k + 1, _, _, .cons _ t => CgL.drop k t
theorem cg_wwv {n : Nat} {ρ ρ' : Str → Int} {w : V} (hn : ∀ y, w = .str y → Cg (2 ^ n) (ρ y) (ρ' y)) : ∀ {as bs : List Int}, CgL n as bs → Cg (2 ^ n) (wwv ρ w as) (wwv ρ' w bs) := by
  intro as bs h
  cases w with
  | int z => exact Cg.refl _ _
  | str y =>
    cases h with
    | nil => exact hn y rfl
    | cons h1 t =>
      cases t with
      | nil => exact Cg.one n y h1
      | cons h2 t =>
        cases t with
        | nil => exact Cg.two n y h1 h2
        | cons h3 t => exact Cg.or n (Cg.and n h1 h2) (Cg.and n h1.not h3)
  | _ => exact Cg.refl _ _
def runI (m : Int) (ρ : Str → Int) (ws : List V) : List Int := ws.foldr (fun w s => (wwv ρ w (s.take (npw w)) % m) :: s.drop (npw w)) []
theorem run_ints (m : Int) (ρ : Str → Int) {ys : List Str} (N : Nms ys) : ∀ {ws : List V}, (∀ w ∈ ws, WordOk ys w) → runV m ρ ws [] = (runI m ρ ws).map V.int
  | [], _ => rfl
  | w :: r, h => by
    have ih := run_ints m ρ N fun x hx => h x (List.mem_cons_of_mem _ hx)
    rw [runV_cons, ih, sum_cv m ρ (h w List.mem_cons_self) N, ← List.map_take, ← List.map_drop, map_iV]
    rfl
theorem run_cg {n k : Nat} (hk : n ≤ k) {ρ ρ' : Str → Int} : ∀ {ws : List V}, (∀ y, V.str y ∈ ws → Cg (2 ^ n) (ρ y) (ρ' y)) → CgL n (runI (2 ^ k) ρ ws) (runI (2 ^ n) ρ' ws)
  | [], _ => .nil
  | w :: r, h => by
    have ih := run_cg hk (ws := r) fun y hy => h y (List.mem_cons_of_mem _ hy)
    have hw := cg_wwv (w := w) (fun y e => h y (by rw [e]; exact List.mem_cons_self)) (ih.take (npw w))
    refine .cons ?_ (ih.drop (npw w))
    have d : Cg (2 ^ n) (wwv ρ w ((runI (2 ^ k) ρ r).take (npw w)) % 2 ^ k) (wwv ρ w ((runI (2 ^ k) ρ r).take (npw w))) := by
      refine Cg.of (Int.emod_emod_of_dvd _ ?_)
      obtain ⟨j, rfl⟩ : ∃ j, k = n + j := ⟨k - n, by omega⟩
      rw [Int.pow_add]
      exact Int.dvd_mul_right _ _
    exact d.trans (hw.trans (Cg.mod _ _).sym)
/-- the worth at the lesser width is that at the greater one brought to it -/
theorem worth_less {n k : Nat} (hk : n ≤ k) {ρ ρ' : Str → Int} {ys : List Str} (N : Nms ys) {u : List V} {a b : Int} (A : SumIs (2 ^ k) ρ ys u a) (B : SumIs (2 ^ n) ρ' ys u b) (h : ∀ y, V.str y ∈ u → Cg (2 ^ n) (ρ y) (ρ' y)) : a % 2 ^ n = b := by
  have e1 := A.run []
  have e2 := B.run []
  rw [run_ints _ _ N A.ok] at e1
  rw [run_ints _ _ N B.ok] at e2
  have c := run_cg hk (ws := u) h
  generalize runI (2 ^ k) ρ u = r1 at *
  generalize runI (2 ^ n) ρ' u = r2 at *
  cases c with
  | nil => cases e1
  | cons h1 t =>
    injection e1 with e1 _
    injection e1 with e1
    injection e2 with e2 _
    injection e2 with e2
    subst e1
    subst e2
    rw [h1.eq, Int.emod_eq_of_lt B.lo B.hi]
def sp_law (K : PySem.W.Frag) (pw : Addr) : Sp := fun vs H Q _ => ∃ (a : Addr) (ns : List Int), vs = [.ref a] ∧ SqL K H a (ns.map V.int) ∧ ns.length ≤ 63 ∧ TabOk H pw lpos_worth qual_worth ∧ ∀ H', Q (.bl true) H'
theorem two_sorted {x y : Nat} (hx : 1 ≤ x ∧ x ≤ 60) (hy : 1 ≤ y ∧ y ≤ 60) {ms : List Int} (hp : ms.Perm [(x : Int), (y : Int)]) (hs : ms.Pairwise (· ≤ ·)) : ∃ w v : Nat, ms = [(w : Int), (v : Int)] ∧ 1 ≤ w ∧ w ≤ v ∧ v ≤ 60 := by
  have hl := hp.length_eq
  match ms, hl with
  | [a, b], _ =>
    have ha : a ∈ [(x : Int), (y : Int)] := hp.mem_iff.mp List.mem_cons_self
    have hb : b ∈ [(x : Int), (y : Int)] := hp.mem_iff.mp (List.mem_cons_of_mem _ List.mem_cons_self)
    have hab : a ≤ b := by
      have := List.pairwise_cons.mp hs
      exact this.1 b List.mem_cons_self
    simp only [List.mem_cons, List.not_mem_nil, or_false] at ha hb
    refine ⟨a.toNat, b.toNat, ?_, by omega, by omega, by omega⟩
    rw [Int.toNat_of_nonneg (by omega), Int.toNat_of_nonneg (by omega)]
/-- what the law keeps while it draws -/
structure Kp (d c p l2 dv lv pw : Addr) (ys : List Str) (kvs kvs2 : List (Key × V)) (w v : Nat) (H : Hp) : Prop where
  D : DeckAt H d c
  hp : H p = some (.lst (ys.map V.str))
  l : H l2 = some (.lst [.int w, .int v])
  hdv : H dv = some (.dK kvs)
  hlv : H lv = some (.dK kvs2)
  B : Tb H pw
  pn : p ≠ d ∧ p ≠ c
  ln : l2 ≠ d ∧ l2 ≠ c
theorem TabOk.off3 {H H' : Hp} {d c hv P : Addr} {n : Int} {pos : Pos} {qual : Str} (h : TabOk H P pos qual) (D : DeckAt H d c) (hh : H hv = some (.lst [.int n])) (o : Off3 d c hv H H') : TabOk H' P pos qual := by
  obtain ⟨n, cs, hd, hc, _⟩ := D.ex
  rcases h with h | ⟨c', oc, h1, h2, h3⟩
  · exact .inl (o _ _ h (ne_of h hd (fun z => nomatch z)) (ne_of h hc (fun z => nomatch z)) (ne_of h hh (fun z => nomatch z)))
  · exact .inr ⟨c', oc, o _ _ h1 (ne_of h1 hd (fun z => nomatch z)) (ne_of h1 hc (fun z => nomatch z)) (ne_of h1 hh (fun z => nomatch z)), o _ _ h2 (ne_of h2 hd (fun z => nomatch z)) (ne_of h2 hc (fun z => nomatch z)) (ne_of h2 hh (fun z => nomatch z)), h3⟩
theorem off3_tup {H H' : Hp} {d c hv : Addr} {n : Int} (D : DeckAt H d c) (hh : H hv = none) (o : Off3 d c hv (upd H hv (.lst [.int n])) H') {b : Addr} {xs : List V} (e : H b = some (.tup xs)) : H' b = some (.tup xs) := by
  obtain ⟨n, cs, hd, hc, _⟩ := D.ex
  exact o _ _ (same_upd hh _ _ e) (ne_of e hd (fun z => nomatch z)) (ne_of e hc (fun z => nomatch z)) (ne_of_none e hh)
theorem Kp.draw {d c p l2 dv lv pw hv : Addr} {ys : List Str} {kvs kvs2 : List (Key × V)} {w v : Nat} {H H' : Hp} {n : Int} (k : Kp d c p l2 dv lv pw ys kvs kvs2 w v H) (hh : H hv = none) (D' : DeckAt H' d c) (o : Off3 d c hv (upd H hv (.lst [.int n])) H') : Kp d c p l2 dv lv pw ys kvs kvs2 w v H' := by
  have s := same_upd (o := .lst [.int n]) hh
  obtain ⟨m, cs, hd, hc, _⟩ := k.D.ex
  exact ⟨D', o _ _ (s _ _ k.hp) k.pn.1 k.pn.2 (ne_of_none k.hp hh), o _ _ (s _ _ k.l) k.ln.1 k.ln.2 (ne_of_none k.l hh), o _ _ (s _ _ k.hdv) (ne_of k.hdv hd (fun z => nomatch z)) (ne_of k.hdv hc (fun z => nomatch z)) (ne_of_none k.hdv hh), o _ _ (s _ _ k.hlv) (ne_of k.hlv hd (fun z => nomatch z)) (ne_of k.hlv hc (fun z => nomatch z)) (ne_of_none k.hlv hh), ⟨TabOk.off3 (k.B.same s).w (k.D.same s) upd_same o⟩, k.pn, k.ln⟩
theorem own_names {ys ms : List Str} {ws : List V} (N : Nms ys) (W : SumW ys ws) (hp : ms.Perm (onces ((ws.filter nmB).map strV))) {y : Str} : y ∈ ms ↔ y ∈ ys ∧ V.str y ∈ ws := by
  rw [(hp.trans (due_perm N W).symm).mem_iff, List.mem_filter, inV_mem]
structure Lp (l2 dv lv pw t1 t2 t3 : Addr) (kvs kvs2 : List (Key × V)) (w v : Nat) (u1 u2 u3 : List V) (H : Hp) : Prop where
  l : H l2 = some (.lst [.int w, .int v])
  hdv : H dv = some (.dK kvs)
  hlv : H lv = some (.dK kvs2)
  B : Tb H pw
  e1 : H t1 = some (.tup u1)
  e2 : H t2 = some (.tup u2)
  e3 : H t3 = some (.tup u3)
theorem Lp.off {l2 dv lv pw t1 t2 t3 : Addr} {kvs kvs2 : List (Key × V)} {w v : Nat} {u1 u2 u3 : List V} {H H' : Hp} (L : Lp l2 dv lv pw t1 t2 t3 kvs kvs2 w v u1 u2 u3 H) (o : OffT pw H H') (B' : Tb H' pw) : Lp l2 dv lv pw t1 t2 t3 kvs kvs2 w v u1 u2 u3 H' :=
  ⟨L.B.lst o L.l, L.B.dK o L.hdv, L.B.dK o L.hlv, B', L.B.tup o L.e1, L.B.tup o L.e2, L.B.tup o L.e3⟩
theorem Lp.same {l2 dv lv pw t1 t2 t3 : Addr} {kvs kvs2 : List (Key × V)} {w v : Nat} {u1 u2 u3 : List V} {H H' : Hp} (L : Lp l2 dv lv pw t1 t2 t3 kvs kvs2 w v u1 u2 u3 H) (s : Same H H') : Lp l2 dv lv pw t1 t2 t3 kvs kvs2 w v u1 u2 u3 H' := L.off (Same.offT s) (L.B.same s)
theorem ok_law (T : Txt K w mg t) (TB : Tbs mg base t) : FnOk P w K mg base CX0 16 t.a_law t.f_law ["script"] (sp_law K t.p_worth) := by
  have G_law_together : FnOk P w K mg base CX0 15 t.a_law_together t.f_law_together ["one", "other", "width", "values"] (sp_law_together K t.p_worth) := ok_law_together T TB
  have G_worth : FnOk P w K mg base CX0 14 t.a_worth t.f_worth ["words", "width", "values"] (sp_worth K t.p_worth) := ok_worth T TB
  have G_names_of : FnOk P w K mg base CX0 3 t.a_names_of t.f_names_of ["words"] (sp_names_of K) := ok_names_of T TB
  have G_cut : FnOk P w K mg base CX0 2 t.a_cut t.f_cut ["number", "width"] (sp_cut K) := ok_cut T TB
  have G_read_sum : FnOk P w K mg base CX0 4 t.a_read_sum t.f_read_sum ["text"] (sp_read_sum K) := ok_read_sum T TB
  have G_sum_shown : FnOk P w K mg base CX0 1 t.a_sum_shown t.f_sum_shown ["words"] (sp_sum_shown K) := ok_sum_shown T TB
  have G_law_sum : FnOk P w K mg base CX0 3 t.a_law_sum t.f_law_sum ["deck", "names", "most", "heavy"] (sp_law_sum K) := ok_law_sum T TB
  have G_law_values : FnOk P w K mg base CX0 2 t.a_law_values t.f_law_values ["deck", "names", "width"] (sp_law_values K) := ok_law_values T TB
  have G_law_width : FnOk P w K mg base CX0 2 t.a_law_width t.f_law_width ["deck"] (sp_law_width K) := ok_law_width T TB
  have G_law_names : FnOk P w K mg base CX0 2 t.a_law_names t.f_law_names ["deck"] (sp_law_names K) := ok_law_names T TB
  have G_law_deck : FnOk P w K mg base CX0 1 t.a_law_deck t.f_law_deck ["script"] (sp_law_deck K) := ok_law_deck T TB
  refine T.d_law.F.ok sc_law (fun vs H Q E h => ?_) (fun cdv A outer s H vs Q E hr h => ?_)
  · obtain ⟨a, ns, rfl, hS, hl, hT1, k⟩ := h
    rfl
  · obtain ⟨a, ns, rfl, hS, hl, hT1, k⟩ := h
    have hu := hu_of hr
    refine ⟨_, @QSs.out _ _ _ (qss_cons (qs_set (i := 1) sc_law.nd rfl (Or.inl rfl) (qe_callF G_law_deck (hr.mono (by decide)) rfl T.d_law_deck.m T.d_law_deck.F.kp T.d_law_deck.b .nil pass0 (qa_c (qv 0) qa_nil)))
        (qss_cons (qs_set (i := 2) sc_law.nd rfl (Or.inl rfl) (qe_callF G_law_names (hr.mono (by decide)) rfl T.d_law_names.m T.d_law_names.F.kp T.d_law_names.b .nil pass0 (qa_c (qv 1) qa_nil)))
        (qss_cons (qs_set (i := 3) sc_law.nd rfl (Or.inr rfl) (qe_callBF call_sortedL (by rfl) T.z_sorted bt_sorted (qa_c (qe_lst (qa_c (qe_callF G_law_width (hr.mono (by decide)) rfl T.d_law_width.m T.d_law_width.F.kp T.d_law_width.b .nil pass0 (qa_c (qv 1) qa_nil)) (qa_c (qe_callF G_law_width (hr.mono (by decide)) rfl T.d_law_width.m T.d_law_width.F.kp T.d_law_width.b .nil pass0 (qa_c (qv 1) qa_nil)) qa_nil))) qa_nil)))
        (qss_cons (qs_set (i := 4) sc_law.nd rfl (Or.inr rfl) (qe_callF G_law_values (hr.mono (by decide)) rfl T.d_law_values.m T.d_law_values.F.kp T.d_law_values.b .nil pass0 (qa_c (qv 1) (qa_c (qv 2) (qa_c (qe_ix ix_list (qv 3) qe_int (fun _ _ => rfl)) qa_nil)))))
        (qss_cons (qs_set (i := 5) sc_law.nd rfl (Or.inl rfl) (qe_callTF (call_dictP rfl) (by rfl) T.z_dict bt_dict (qa_c (qe_comp (⟨by rfl, by decide +kernel, by decide +kernel, by rfl, by decide +kernel, by decide +kernel, by rfl, by decide +kernel⟩ : CompSc (defScope s_law) _ ["script", "deck", "names", "widths", "values", "lesser", "words", "one", "other", "some", "text", "own"] "name" ["values", "widths"] [4, 3]) (qi_list (qv 2)) (fun _ _ _ _ => qf_nil) (fun _ _ _ _ => (qe_tup (qa_c (qv 0) (qa_c (qe_callF G_cut (hr.mono (by decide)) rfl T.d_cut.m T.d_cut.F.kp T.d_cut.b .nil pass0 (qa_c (qe_dget hu (qv 1) (qv 0) (fun _ _ => rfl)) (qa_c (qe_ix (show IxR _ (rIxL K) from ix_list) (qv 2) qe_int (fun _ _ => rfl)) qa_nil))) qa_nil))))) qa_nil)))
        (qss_cons (qs_set (i := 6) sc_law.nd rfl (Or.inl rfl) (qe_callF G_law_sum (hr.mono (by decide)) rfl T.d_law_sum.m T.d_law_sum.F.kp T.d_law_sum.b .nil pass0 (qa_c (qv 1) (qa_c (qv 2) (qa_c qe_int (qa_c (qe_lst (qa_c qe_int qa_nil)) qa_nil))))))
        (qss_cons (qs_set (i := 7) sc_law.nd rfl (Or.inl rfl) (qe_callF G_law_sum (hr.mono (by decide)) rfl T.d_law_sum.m T.d_law_sum.F.kp T.d_law_sum.b .nil pass0 (qa_c (qv 1) (qa_c (qv 2) (qa_c qe_int (qa_c (qe_lst (qa_c qe_int qa_nil)) qa_nil))))))
        (qss_cons (qs_set (i := 8) sc_law.nd rfl (Or.inl rfl) (qe_callF G_law_sum (hr.mono (by decide)) rfl T.d_law_sum.m T.d_law_sum.F.kp T.d_law_sum.b .nil pass0 (qa_c (qv 1) (qa_c (qv 2) (qa_c qe_int (qa_c (qe_lst (qa_c qe_int qa_nil)) qa_nil))))))
        (qss_cons (qs_for PassesOwn.never rfl (qi_list (qe_lst (qa_c (qv 6) (qa_c (qv 7) (qa_c (qv 8) qa_nil))))) (qg_name (i := 9) sc_law.nd rfl (Or.inl rfl))
        (qss_cons (qs_set (i := 10) sc_law.nd rfl (Or.inl rfl) (qe_callF G_sum_shown (hr.mono (by decide)) rfl T.d_sum_shown.m T.d_sum_shown.F.kp T.d_sum_shown.b .nil pass0 (qa_c (qv 9) qa_nil)))
        (qss_cons (qs_if (qw_pt (qw_or (qt_not (qt_val (qe_callBF call_isi (by rfl) T.z_isinstance bt_isinstance (qa_c (qv 10) (qa_c (qe_bltn (v := .ty "str") (by rfl) T.z_str bt_str rfl) qa_nil))))) (qw_or (qt_cmpR op_ne (qv 10) (qe_bmF PySem.F.plainAttrs_str PySem.F.slot_str_join PySem.F.type_str_join mt_join qe_str (qa_c (qe_comp (⟨by rfl, by decide +kernel, by decide +kernel, by rfl, by decide +kernel, by decide +kernel, by rfl, by decide +kernel⟩ : CompSc (defScope s_law) _ ["script", "deck", "names", "widths", "values", "lesser", "words", "one", "other", "some", "text", "own"] "word" [] []) (qi_tup (qv 9)) (fun _ _ _ _ => qf_nil) (fun _ _ _ _ => (qe_callTF call_strV (by rfl) T.z_str bt_str (qa_c (qv 0) qa_nil)))) qa_nil)) (nomark _)) (qw_or1 (qt_cmpR (op_neT (units_of hr)) (qe_callF G_read_sum (hr.mono (by decide)) rfl T.d_read_sum.m T.d_read_sum.F.kp T.d_read_sum.b .nil pass0 (qa_c (qv 10) qa_nil)) (qv 9) (nomark _))))))
        (qss_one (qs_ret qe_bl)) qss_nil)
        (qss_cons (qs_if (qt_cmpR op_ne (qe_callF G_cut (hr.mono (by decide)) rfl T.d_cut.m T.d_cut.F.kp T.d_cut.b .nil pass0 (qa_c (qe_callF G_worth (hr.mono (by decide)) rfl T.d_worth.m T.d_worth.F.kp T.d_worth.b .nil pass0 (qa_c (qv 9) (qa_c (qe_ix ix_list (qv 3) qe_int (fun _ _ => rfl)) (qa_c (qv 4) qa_nil)))) (qa_c (qe_ix ix_list (qv 3) qe_int (fun _ _ => rfl)) qa_nil))) (qe_callF G_worth (hr.mono (by decide)) rfl T.d_worth.m T.d_worth.F.kp T.d_worth.b .nil pass0 (qa_c (qv 9) (qa_c (qe_ix ix_list (qv 3) qe_int (fun _ _ => rfl)) (qa_c (qv 5) qa_nil)))) (nomark _))
        (qss_one (qs_ret qe_bl)) qss_nil)
        (qss_cons (qs_set (i := 11) sc_law.nd rfl (Or.inl rfl) (qe_callTF (call_dictP rfl) (by rfl) T.z_dict bt_dict (qa_c (qe_comp (⟨by rfl, by decide +kernel, by decide +kernel, by rfl, by decide +kernel, by decide +kernel, by rfl, by decide +kernel⟩ : CompSc (defScope s_law) _ ["script", "deck", "names", "widths", "values", "lesser", "words", "one", "other", "some", "text", "own"] "name" ["values"] [4]) (qi_tup (qe_callF G_names_of (hr.mono (by decide)) rfl T.d_names_of.m T.d_names_of.F.kp T.d_names_of.b .nil pass0 (qa_c (qv 9) qa_nil))) (fun _ _ _ _ => qf_nil) (fun _ _ _ _ => (qe_tup (qa_c (qv 0) (qa_c (qe_dget hu (qv 1) (qv 0) (fun _ _ => rfl)) qa_nil))))) qa_nil)))
        (qss_one (qs_if (qt_cmpR op_ne (qe_callF G_worth (hr.mono (by decide)) rfl T.d_worth.m T.d_worth.F.kp T.d_worth.b .nil pass0 (qa_c (qv 9) (qa_c (qe_ix ix_list (qv 3) qe_int (fun _ _ => rfl)) (qa_c (qv 11) qa_nil)))) (qe_callF G_worth (hr.mono (by decide)) rfl T.d_worth.m T.d_worth.F.kp T.d_worth.b .nil pass0 (qa_c (qv 9) (qa_c (qe_ix ix_list (qv 3) qe_int (fun _ _ => rfl)) (qa_c (qv 4) qa_nil)))) (nomark _))
        (qss_one (qs_ret qe_bl)) qss_nil)))))))
        (qss_one (qs_ret (qe_and (qe_callF G_law_together (hr.mono (by decide)) rfl T.d_law_together.m T.d_law_together.F.kp T.d_law_together.b .nil pass0 (qa_c (qv 7) (qa_c (qv 8) (qa_c (qe_ix ix_list (qv 3) qe_int (fun _ _ => rfl)) (qa_c (qv 4) qa_nil))))) (qe_one (qe_callF G_law_together (hr.mono (by decide)) rfl T.d_law_together.m T.d_law_together.F.kp T.d_law_together.b .nil pass0 (qa_c (qv 8) (qa_c (qv 7) (qa_c (qe_ix ix_list (qv 3) qe_int (fun _ _ => rfl)) (qa_c (qv 5) qa_nil)))))))))))))))))), ?_⟩
    refine ⟨_, rfl, a, ns, rfl, hS, hl, fun d c H1 hd hc D1 s1 => ?_⟩
    have B1 : Tb H1 t.p_worth := Tb.same ⟨hT1⟩ s1
    refine ⟨_, rfl, d, c, rfl, D1, fun p ys H2 hp0 hp N D2 o2 => ?_⟩
    have B2 := Tb.off B1 D1 o2
    have pn := deck_strs D2 hp N.l1
    have l3 := N.l3
    refine ⟨_, rfl, d, c, rfl, D2, fun x H3 x1 x60 D3 o3 => ⟨_, rfl, d, c, rfl, D3, fun y H4 y1 y60 D4 o4 => ⟨by show 2 ≤ sizeLine; decide, fun l hl => ⟨l, [(x : Int), (y : Int)], rfl, SqL.of upd_same, by show 2 < 64; decide, fun l2 ms hl2 hpm hs => ?_⟩⟩⟩⟩
    obtain ⟨w, v, rfl, w1, wv, v60⟩ := two_sorted ⟨x1, x60⟩ ⟨y1, y60⟩ hpm hs
    have s4 := (same_upd (o := .lst [.int x, .int y]) hl).trans (same_upd (o := .lst (([(w : Int), (v : Int)] : List Int).map V.int)) hl2)
    have D5 := D4.same s4
    have ln := deck_ne (D4.same (same_upd (o := .lst [.int x, .int y]) hl)) hl2
    have hp5 := s4 _ _ (o4 _ _ (o3 _ _ hp pn.1 pn.2) pn.1 pn.2)
    have B5 := (Tb.off (Tb.off B2 D2 o3) D3 o4).same s4
    have hw5 : upd (upd H4 l (.lst [.int x, .int y])) l2 (.lst (([(w : Int), (v : Int)] : List Int).map V.int)) l2 = some (.lst [.int w, .int v]) := upd_same
    refine gName_go ?_
    generalize upd (upd H4 l (.lst [.int x, .int y])) l2 (.lst (([(w : Int), (v : Int)] : List Int).map V.int)) = H5 at *
    refine ⟨_, rfl, _, rfl, _, rfl, l2, _, 1, _, rfl, rfl, SqL.of hw5, rfl, d, c, p, ys, v, rfl, D5, hp5, N, v60, fun dv kvs ρ H6 hdv0 hd6 hv D6 o6 => ?_⟩
    have hp6 := o6 _ _ hp5 pn.1 pn.2
    have hw6 := o6 _ _ hw5 ln.1 ln.2
    have B6 := Tb.off B5 D5 o6
    refine ⟨_, rfl, p, rfl, ⟨_, SqL.of hp6⟩, comp_pairsL (ys := ys) (fun y => .int (ρ y % 2 ^ w)) hp6 (Nat.le_of_lt (small1000 (by omega))) (fun y hy H7 s7 R hR => ?_) (fun zs H7 hz s7 lz hlz => ?_)⟩
    · refine ⟨_, rfl, _, rfl, _, rfl, dv, _, rfl, .inl ⟨kvs, .inr y, .inl (s7 _ _ hd6), rfl, (hv y hy).symm⟩, _, rfl, l2, _, 0, _, rfl, rfl, SqL.of (s7 _ _ hw6), rfl, ρ y, w, rfl, by omega, by show 2 ≤ sizeLine; decide, fun q hq => hR q _ upd_same (same_upd hq)⟩
    refine ⟨lz, zs, ys.map (fun y => (y, V.int (ρ y % 2 ^ w))), rfl, upd_same, hz.same (same_upd hlz), by rw [List.length_map]; omega, fun lv hlv => gName_go ?_⟩
    have s8 := (s7.trans (same_upd (o := .lst zs) hlz)).trans (same_upd (o := .dK (putP (ys.map (fun y => (y, V.int (ρ y % 2 ^ w)))))) hlv)
    have K8 : Kp d c p l2 dv lv t.p_worth ys kvs (putP (ys.map (fun y => (y, V.int (ρ y % 2 ^ w))))) w v _ := ⟨D6.same s8, s8 _ _ hp6, s8 _ _ hw6, s8 _ _ hd6, upd_same, B6.same s8, pn, ln⟩
    have hv2 : ValOk (putP (ys.map (fun y => (y, V.int (ρ y % 2 ^ w))))) ys (fun y => ρ y % 2 ^ w) := fun y hy => putP_get (fun y => V.int (ρ y % 2 ^ w)) hy
    generalize putP (ys.map (fun y => (y, V.int (ρ y % 2 ^ w)))) = kvs2 at *
    generalize upd (upd H7 lz (.lst zs)) lv (.dK kvs2) = H8 at *
    refine ⟨_, rfl, _, rfl, by show 1 ≤ sizeLine; decide, fun h1 hh1 => ⟨d, c, p, h1, ys, 24, 5, rfl, K8.D.same (same_upd hh1), same_upd hh1 _ _ K8.hp, N, upd_same, (deck_ne K8.D hh1).2, by decide, by decide, fun t1 u1 H9 ht1 e1 W1 wl1 D9 o9 _ => gName_go ?_⟩⟩
    have K9 := K8.draw hh1 D9 o9
    refine ⟨_, rfl, _, rfl, by show 1 ≤ sizeLine; decide, fun h2 hh2 => ⟨d, c, p, h2, ys, 11, 2, rfl, K9.D.same (same_upd hh2), same_upd hh2 _ _ K9.hp, N, upd_same, (deck_ne K9.D hh2).2, by decide, by decide, fun t2 u2 H10 ht2 e2 W2 wl2 D10 o10 _ => gName_go ?_⟩⟩
    have K10 := K9.draw hh2 D10 o10
    have e1 := off3_tup K9.D hh2 o10 e1
    refine ⟨_, rfl, _, rfl, by show 1 ≤ sizeLine; decide, fun h3 hh3 => ⟨d, c, p, h3, ys, 11, 2, rfl, K10.D.same (same_upd hh3), same_upd hh3 _ _ K10.hp, N, upd_same, (deck_ne K10.D hh3).2, by decide, by decide, fun t3 u3 H11 ht3 e3 W3 wl3 D11 o11 _ => gName_go ?_⟩⟩
    have K11 := K10.draw hh3 D11 o11
    have e1 := off3_tup K10.D hh3 o11 e1
    have e2 := off3_tup K10.D hh3 o11 e2
    have mv := pow_pos' v
    have mw := pow_pos' w
    have L0 : Lp l2 dv lv t.p_worth t1 t2 t3 kvs kvs2 w v u1 u2 u3 H11 := ⟨K11.l, K11.hdv, K11.hlv, K11.B, e1, e2, e3⟩
    refine ⟨_, rfl, _, rfl, _, rfl, by show 3 ≤ sizeLine; decide, fun g hg => ⟨g, rfl, ⟨_, SqL.of upd_same⟩, ?_⟩⟩
    refine for_list (K := K) (a := g) (xs := [.ref t1, .ref t2, .ref t3]) (fun i σ H' => ∃ x9 x10 x11, σ = [some (.ref a), some (.ref d), some (.ref p), some (.ref l2), some (.ref dv), some (.ref lv), some (.ref t1), some (.ref t2), some (.ref t3), x9, x10, x11] ∧ Lp l2 dv lv t.p_worth t1 t2 t3 kvs kvs2 w v u1 u2 u3 H' ∧ H' g = some (.lst [.ref t1, .ref t2, .ref t3])) ⟨none, none, none, rfl, L0.same (same_upd hg), upd_same⟩ (fun i σ H' _ ⟨_, _, _, _, _, e⟩ => SqL.of e) ?_ ?_
    · rintro i x σ H4 hx ⟨x9, x10, x11, rfl, L4, hg4⟩
      obtain ⟨tw, ws, rfl, W, wl, he⟩ : ∃ (tw : Addr) (ws : List V), x = .ref tw ∧ SumW ys ws ∧ ws.length ≤ 24 ∧ ∀ H', Lp l2 dv lv t.p_worth t1 t2 t3 kvs kvs2 w v u1 u2 u3 H' → H' tw = some (.tup ws) := by
        have hm := List.mem_of_getElem? hx
        simp only [List.mem_cons, List.not_mem_nil, or_false] at hm
        rcases hm with rfl | rfl | rfl
        · exact ⟨t1, u1, rfl, W1, wl1, fun H' L => L.e1⟩
        · exact ⟨t2, u2, rfl, W2, by omega, fun H' L => L.e2⟩
        · exact ⟨t3, u3, rfl, W3, by omega, fun H' L => L.e3⟩
      have si := W.si N
      obtain ⟨zv, Sv⟩ := SumW.is mv ρ N W
      obtain ⟨zw, Sw⟩ := SumW.is mw (fun y => ρ y % 2 ^ w) N W
      refine gName_go ?_
      refine ⟨_, rfl, tw, ys, ws, rfl, he _ L4, N, (fun x hx => .inl (W.ok x hx)), by omega, fun H5 s5 => gName_go ?_⟩
      have L5 := L4.same s5
      refine ⟨_, rfl, _, _, _, _, rfl, .str _, kit_str_str, _, rfl, iteF ?_⟩
      refine ⟨_, rfl, rfl, _, rfl, tw, rfl, ⟨_, SqT.of (he _ L5)⟩, comp_tmap (xs := ws) (fun w => .str (shw w)) (SqT.of (he _ L5)) (Nat.le_of_lt (small1000 (by omega))) (fun x hx R hR => ⟨_, rfl, shw_read (W.ok x hx) hR⟩) (fun lj hlj => ?_)⟩
      have e5 : (ws.map fun w => V.str (shw w)) = (ws.map shw).map V.str := by rw [List.map_map]; rfl
      have s6 := same_upd (o := .lst (ws.map fun w => V.str (shw w))) hlj
      refine ⟨_, lj, ws.map shw, rfl, rfl, SqL.of (by rw [upd_same, e5]), shw_size N W.ok (by omega), rfl, _, rfl, ?_⟩
      rw [decide_eq_true (show V.str (Txt.join blank (ws.map shw)) = V.str (Txt.join (Str.ofString " ") (ws.map shw)) from rfl)]
      refine iteF ?_
      have L6 := L5.same s6
      have hg6 := s6 _ _ (s5 _ _ hg4)
      generalize upd H5 lj (.lst (ws.map fun w => V.str (shw w))) = H6 at *
      refine ⟨_, rfl, ys, ws, rfl, N, W, by omega, fun q7 H7 hq7 hr7 s7 => ?_⟩
      have L7 := L6.same s7
      refine ⟨_, rfl, q7, tw, ws, rfl, rfl, SqT.of hr7, SqT.of (he _ L7), flat_si si, _, rfl, iteF ?_⟩
      have hg7 := s7 _ _ hg6
      refine next_seq ?_
      show tSeq (tIfS (tTest (tOp rNe (tCall _ _ _ (tCons (tCall _ _ _ _) _)) _)) _ _) _ _ _ _
      refine askedV v60 N (hv.inn _) L7.B L7.hdv Sv (by omega) rfl (he _ L7) (fun H' Q0 s' q => ⟨_, rfl, l2, _, 1, _, rfl, rfl, SqL.of (s' _ _ L7.l), rfl, q⟩) rfl fun H8 b8 o8 => ?_
      have L8 := L7.off o8 b8
      refine ⟨_, rfl, l2, _, 0, _, rfl, rfl, SqL.of L8.l, rfl, zv, w, rfl, by omega, ?_⟩
      show tCall _ _ _ _ _ _ _
      refine askedV (by omega) N (hv2.inn _) b8 L8.hlv Sw (by omega) rfl (he _ L8) (fun H' Q0 s' q => ⟨_, rfl, l2, _, 0, _, rfl, rfl, SqL.of (s' _ _ L8.l), rfl, q⟩) rfl fun H9 b9 o9 => ?_
      have L9 := L8.off o9 b9
      refine rNe_same (by rw [worth_less wv N Sv Sw fun y _ => (Cg.mod _ _).sym]) rfl ⟨_, rfl, iteF (next_seq ?_)⟩
      have hg9 := L8.B.lst o9 (L7.B.lst o8 hg7)
      refine seq_asg ⟨_, rfl, tw, ws, rfl, he _ L9, si, by omega, fun q10 H10 ms hq10 hr10 s10 hpm hsm => ⟨q10, rfl, ⟨_, SqT.of hr10⟩, ?_⟩⟩
      have own := fun {y : Str} => own_names N W hpm (y := y)
      have ml : ms.length ≤ 60 := by
        have := hpm.length_eq
        have h2 := onces_len ((ws.filter nmB).map strV)
        rw [List.length_map] at h2
        have h3 := List.length_filter_le nmB ws
        omega
      have L10 := L9.same s10
      refine comp_pairsT (ys := ms) (fun y => .int (ρ y)) hr10 (Nat.le_of_lt (small1000 (by omega))) (fun y hy H11 s11 R hR => ?_) (fun zs H11 hz s11 lz hlz => ?_)
      · exact ⟨_, rfl, _, rfl, _, rfl, dv, _, rfl, .inl ⟨kvs, .inr y, .inl (s11 _ _ L10.hdv), rfl, (hv y (own.mp hy).1).symm⟩, by show 2 ≤ sizeLine; decide, fun q hq => hR q _ upd_same (same_upd hq)⟩
      refine ⟨lz, zs, ms.map (fun y => (y, V.int (ρ y))), rfl, upd_same, hz.same (same_upd hlz), by rw [List.length_map]; omega, fun lo hlo => gName_go ?_⟩
      have s12 := (s11.trans (same_upd (o := .lst zs) hlz)).trans (same_upd (o := .dK (putP (ms.map (fun y => (y, V.int (ρ y)))))) hlo)
      have L12 := L10.same s12
      have hg12 := s12 _ _ (s10 _ _ hg9)
      have ho12 : upd (upd H11 lz (.lst zs)) lo (.dK (putP (ms.map (fun y => (y, V.int (ρ y)))))) lo = some (.dK (putP (ms.map (fun y => (y, V.int (ρ y)))))) := upd_same
      have hv3 : ValIn (putP (ms.map (fun y => (y, V.int (ρ y))))) ys ws ρ := fun y hy hm => putP_get (fun y => V.int (ρ y)) (own.mpr ⟨hy, hm⟩)
      generalize putP (ms.map (fun y => (y, V.int (ρ y)))) = kvs3 at *
      generalize upd (upd H11 lz (.lst zs)) lo (.dK kvs3) = H12 at *
      show tIfS (tTest (tOp rNe (tCall _ _ _ _) _)) _ _ _ _ _
      refine askedV v60 N hv3 L12.B ho12 Sv (by omega) rfl (he _ L12) (fun H' Q0 s' q => ⟨_, rfl, l2, _, 1, _, rfl, rfl, SqL.of (s' _ _ L12.l), rfl, q⟩) rfl fun H13 b13 o13 => ?_
      have L13 := L12.off o13 b13
      show tCall _ _ _ _ _ _ _
      refine askedV v60 N (hv.inn _) b13 L13.hdv Sv (by omega) rfl (he _ L13) (fun H' Q0 s' q => ⟨_, rfl, l2, _, 1, _, rfl, rfl, SqL.of (s' _ _ L13.l), rfl, q⟩) rfl fun H14 b14 o14 => ?_
      have L14 := L13.off o14 b14
      refine rNe_same rfl rfl ⟨_, rfl, iteF ?_⟩
      exact ⟨_, _, _, rfl, L14, L13.B.lst o14 (L12.B.lst o13 hg12)⟩
    rintro σ H4 ⟨x9, x10, x11, rfl, L4, hg4⟩
    obtain ⟨a2, A2⟩ := SumW.is mv ρ N W2
    obtain ⟨a3, A3⟩ := SumW.is mv ρ N W3
    obtain ⟨c2, C2⟩ := SumW.is mw (fun y => ρ y % 2 ^ w) N W2
    obtain ⟨c3, C3⟩ := SumW.is mw (fun y => ρ y % 2 ^ w) N W3
    refine ⟨_, rfl, _, rfl, _, rfl, l2, _, 1, _, rfl, rfl, SqL.of L4.l, rfl, _, rfl, t2, t3, dv, v, ys, u2, u3, kvs, ρ, a2, a3, rfl, v60, N, hv, L4.e2, L4.e3, A2, A3, by omega, by omega, L4.B, L4.hdv, fun H5 b5 o5 => ⟨_, rfl, iteT ?_⟩⟩
    have L5 := L4.off o5 b5
    exact ⟨_, rfl, _, rfl, _, rfl, l2, _, 0, _, rfl, rfl, SqL.of L5.l, rfl, _, rfl, t3, t2, lv, w, ys, u3, u2, kvs2, _, c3, c2, rfl, by omega, N, hv2, L5.e3, L5.e2, C3, C2, by omega, by omega, L5.B, L5.hlv, fun H6 b6 o6 => k H6⟩
end
theorem all_mk {l : PySem.W.OpenLaw} {w : World} {K : PySem.W.Frag} {h : Heap} {mg : Str → Option Value} {fa : Addr} {f0 f1 f2 f3 f4 f5 f6 f7 f8 f9 f10 f11 f12 f13 f14 f15 f16 f17 f18 f19 f20 f21 f22 f23 f24 f25 f26 f27 f28 f29 f30 f31 : Addr} (X : K.In h) (G : h.Ns mainGlobals mg) (hfa : mg "law" = some (.ref fa))
    {od0 an0 od1 an1 od2 an2 od3 an3 od4 an4 od5 an5 od6 an6 od7 an7 od8 an8 od9 an9 od10 an10 od11 an11 od12 an12 od13 an13 od14 an14 od15 an15 od16 an16 od17 an17 od18 an18 od19 an19 od20 an20 od21 an21 od22 an22 od23 an23 od24 an24 od25 an25 od26 an26 od27 an27 od28 an28 od29 an29 od30 an30 od31 an31 : Option Addr} {sl0 sl1 sl2 sl3 sl4 sl5 sl6 sl7 sl8 sl9 sl10 sl11 sl12 sl13 sl14 sl15 sl16 sl17 sl18 sl19 sl20 sl21 sl22 sl23 sl24 sl25 sl26 sl27 sl28 sl29 sl30 sl31 : Array (Option Value)} {oc0 kV0 dc0 pm0 cd0 ct0 oc1 kV1 dc1 pm1 cd1 ct1 oc2 kV2 dc2 pm2 cd2 ct2 oc3 kV3 dc3 pm3 cd3 ct3 oc4 kV4 dc4 pm4 cd4 ct4 oc5 kV5 dc5 pm5 cd5 ct5 oc6 kV6 dc6 pm6 cd6 ct6 oc7 kV7 dc7 pm7 cd7 ct7 oc8 kV8 dc8 pm8 cd8 ct8 oc9 kV9 dc9 pm9 cd9 ct9 oc10 kV10 dc10 pm10 cd10 ct10 oc11 kV11 dc11 pm11 cd11 ct11 oc12 kV12 dc12 pm12 cd12 ct12 oc13 kV13 dc13 pm13 cd13 ct13 oc14 kV14 dc14 pm14 cd14 ct14 oc15 kV15 dc15 pm15 cd15 ct15 oc16 kV16 dc16 pm16 cd16 ct16 oc17 kV17 dc17 pm17 cd17 ct17 oc18 kV18 dc18 pm18 cd18 ct18 oc19 kV19 dc19 pm19 cd19 ct19 oc20 kV20 dc20 pm20 cd20 ct20 oc21 kV21 dc21 pm21 cd21 ct21 oc22 kV22 dc22 pm22 cd22 ct22 oc23 kV23 dc23 pm23 cd23 ct23 oc24 kV24 dc24 pm24 cd24 ct24 oc25 kV25 dc25 pm25 cd25 ct25 oc26 kV26 dc26 pm26 cd26 ct26 oc27 kV27 dc27 pm27 cd27 ct27 oc28 kV28 dc28 pm28 cd28 ct28 oc29 kV29 dc29 pm29 cd29 ct29 oc30 kV30 dc30 pm30 cd30 ct30 oc31 kV31 dc31 pm31 cd31 ct31 : Value}
    (a0 : PySem.W.nsIn K mainGlobals "words_at" = some (some (.ref f0))) (l0 : K.lookup f0 = some ⟨oc0, od0, .func (PySem.W.fnOf "words_at" "words_at" (defArgs s_words_at) (defBody s_words_at) (defScope s_words_at) .none kV0 dc0 pm0 an0 cd0 ct0), sl0⟩) (c0 : PySem.W.codeIn K cd0 "words_at" = true) (k0 : PySem.W.keepIn K (.ref f0) = true)
    (a1 : PySem.W.nsIn K mainGlobals "is_sum_word" = some (some (.ref f1))) (l1 : K.lookup f1 = some ⟨oc1, od1, .func (PySem.W.fnOf "is_sum_word" "is_sum_word" (defArgs s_is_sum_word) (defBody s_is_sum_word) (defScope s_is_sum_word) .none kV1 dc1 pm1 an1 cd1 ct1), sl1⟩) (c1 : PySem.W.codeIn K cd1 "is_sum_word" = true) (k1 : PySem.W.keepIn K (.ref f1) = true)
    (a2 : PySem.W.nsIn K mainGlobals "is_claim_word" = some (some (.ref f2))) (l2 : K.lookup f2 = some ⟨oc2, od2, .func (PySem.W.fnOf "is_claim_word" "is_claim_word" (defArgs s_is_claim_word) (defBody s_is_claim_word) (defScope s_is_claim_word) .none kV2 dc2 pm2 an2 cd2 ct2), sl2⟩) (c2 : PySem.W.codeIn K cd2 "is_claim_word" = true) (k2 : PySem.W.keepIn K (.ref f2) = true)
    (a3 : PySem.W.nsIn K mainGlobals "sums_behind" = some (some (.ref f3))) (l3 : K.lookup f3 = some ⟨oc3, od3, .func (PySem.W.fnOf "sums_behind" "sums_behind" (defArgs s_sums_behind) (defBody s_sums_behind) (defScope s_sums_behind) .none kV3 dc3 pm3 an3 cd3 ct3), sl3⟩) (c3 : PySem.W.codeIn K cd3 "sums_behind" = true) (k3 : PySem.W.keepIn K (.ref f3) = true)
    (a4 : PySem.W.nsIn K mainGlobals "claims_behind" = some (some (.ref f4))) (l4 : K.lookup f4 = some ⟨oc4, od4, .func (PySem.W.fnOf "claims_behind" "claims_behind" (defArgs s_claims_behind) (defBody s_claims_behind) (defScope s_claims_behind) .none kV4 dc4 pm4 an4 cd4 ct4), sl4⟩) (c4 : PySem.W.codeIn K cd4 "claims_behind" = true) (k4 : PySem.W.keepIn K (.ref f4) = true)
    (a5 : PySem.W.nsIn K mainGlobals "is_made_of" = some (some (.ref f5))) (l5 : K.lookup f5 = some ⟨oc5, od5, .func (PySem.W.fnOf "is_made_of" "is_made_of" (defArgs s_is_made_of) (defBody s_is_made_of) (defScope s_is_made_of) .none kV5 dc5 pm5 an5 cd5 ct5), sl5⟩) (c5 : PySem.W.codeIn K cd5 "is_made_of" = true) (k5 : PySem.W.keepIn K (.ref f5) = true)
    (a6 : PySem.W.nsIn K mainGlobals "worth_of_one" = some (some (.ref f6))) (l6 : K.lookup f6 = some ⟨oc6, od6, .func (PySem.W.fnOf "worth_of_one" "worth_of_one" (defArgs s_worth_of_one) (defBody s_worth_of_one) (defScope s_worth_of_one) .none kV6 dc6 pm6 an6 cd6 ct6), sl6⟩) (c6 : PySem.W.codeIn K cd6 "worth_of_one" = true) (k6 : PySem.W.keepIn K (.ref f6) = true)
    (a7 : PySem.W.nsIn K mainGlobals "worth_of_two" = some (some (.ref f7))) (l7 : K.lookup f7 = some ⟨oc7, od7, .func (PySem.W.fnOf "worth_of_two" "worth_of_two" (defArgs s_worth_of_two) (defBody s_worth_of_two) (defScope s_worth_of_two) .none kV7 dc7 pm7 an7 cd7 ct7), sl7⟩) (c7 : PySem.W.codeIn K cd7 "worth_of_two" = true) (k7 : PySem.W.keepIn K (.ref f7) = true)
    (a8 : PySem.W.nsIn K mainGlobals "sum_shown" = some (some (.ref f8))) (l8 : K.lookup f8 = some ⟨oc8, od8, .func (PySem.W.fnOf "sum_shown" "sum_shown" (defArgs s_sum_shown) (defBody s_sum_shown) (defScope s_sum_shown) .none kV8 dc8 pm8 an8 cd8 ct8), sl8⟩) (c8 : PySem.W.codeIn K cd8 "sum_shown" = true) (k8 : PySem.W.keepIn K (.ref f8) = true)
    (a9 : PySem.W.nsIn K mainGlobals "_law_deck" = some (some (.ref f9))) (l9 : K.lookup f9 = some ⟨oc9, od9, .func (PySem.W.fnOf "_law_deck" "_law_deck" (defArgs s_law_deck) (defBody s_law_deck) (defScope s_law_deck) .none kV9 dc9 pm9 an9 cd9 ct9), sl9⟩) (c9 : PySem.W.codeIn K cd9 "_law_deck" = true) (k9 : PySem.W.keepIn K (.ref f9) = true)
    (a10 : PySem.W.nsIn K mainGlobals "_law_take" = some (some (.ref f10))) (l10 : K.lookup f10 = some ⟨oc10, od10, .func (PySem.W.fnOf "_law_take" "_law_take" (defArgs s_law_take) (defBody s_law_take) (defScope s_law_take) .none kV10 dc10 pm10 an10 cd10 ct10), sl10⟩) (c10 : PySem.W.codeIn K cd10 "_law_take" = true) (k10 : PySem.W.keepIn K (.ref f10) = true)
    (a11 : PySem.W.nsIn K mainGlobals "_law_power" = some (some (.ref f11))) (l11 : K.lookup f11 = some ⟨oc11, od11, .func (PySem.W.fnOf "_law_power" "_law_power" (defArgs s_law_power) (defBody s_law_power) (defScope s_law_power) .none kV11 dc11 pm11 an11 cd11 ct11), sl11⟩) (c11 : PySem.W.codeIn K cd11 "_law_power" = true) (k11 : PySem.W.keepIn K (.ref f11) = true)
    (a12 : PySem.W.nsIn K mainGlobals "_law_kept" = some (some (.ref f12))) (l12 : K.lookup f12 = some ⟨oc12, od12, .func (PySem.W.fnOf "_law_kept" "_law_kept" (defArgs s_law_kept) (defBody s_law_kept) (defScope s_law_kept) .none kV12 dc12 pm12 an12 cd12 ct12), sl12⟩) (c12 : PySem.W.codeIn K cd12 "_law_kept" = true) (k12 : PySem.W.keepIn K (.ref f12) = true)
    (a13 : PySem.W.nsIn K mainGlobals "cut" = some (some (.ref f13))) (l13 : K.lookup f13 = some ⟨oc13, od13, .func (PySem.W.fnOf "cut" "cut" (defArgs s_cut) (defBody s_cut) (defScope s_cut) .none kV13 dc13 pm13 an13 cd13 ct13), sl13⟩) (c13 : PySem.W.codeIn K cd13 "cut" = true) (k13 : PySem.W.keepIn K (.ref f13) = true)
    (a14 : PySem.W.nsIn K mainGlobals "parts_of" = some (some (.ref f14))) (l14 : K.lookup f14 = some ⟨oc14, od14, .func (PySem.W.fnOf "parts_of" "parts_of" (defArgs s_parts_of) (defBody s_parts_of) (defScope s_parts_of) .none kV14 dc14 pm14 an14 cd14 ct14), sl14⟩) (c14 : PySem.W.codeIn K cd14 "parts_of" = true) (k14 : PySem.W.keepIn K (.ref f14) = true)
    (a15 : PySem.W.nsIn K mainGlobals "is_name" = some (some (.ref f15))) (l15 : K.lookup f15 = some ⟨oc15, od15, .func (PySem.W.fnOf "is_name" "is_name" (defArgs s_is_name) (defBody s_is_name) (defScope s_is_name) .none kV15 dc15 pm15 an15 cd15 ct15), sl15⟩) (c15 : PySem.W.codeIn K cd15 "is_name" = true) (k15 : PySem.W.keepIn K (.ref f15) = true)
    (a16 : PySem.W.nsIn K mainGlobals "is_figures" = some (some (.ref f16))) (l16 : K.lookup f16 = some ⟨oc16, od16, .func (PySem.W.fnOf "is_figures" "is_figures" (defArgs s_is_figures) (defBody s_is_figures) (defScope s_is_figures) .none kV16 dc16 pm16 an16 cd16 ct16), sl16⟩) (c16 : PySem.W.codeIn K cd16 "is_figures" = true) (k16 : PySem.W.keepIn K (.ref f16) = true)
    (a17 : PySem.W.nsIn K mainGlobals "word_worth" = some (some (.ref f17))) (l17 : K.lookup f17 = some ⟨oc17, od17, .func (PySem.W.fnOf "word_worth" "word_worth" (defArgs s_word_worth) (defBody s_word_worth) (defScope s_word_worth) .none kV17 dc17 pm17 an17 cd17 ct17), sl17⟩) (c17 : PySem.W.codeIn K cd17 "word_worth" = true) (k17 : PySem.W.keepIn K (.ref f17) = true)
    (a18 : PySem.W.nsIn K mainGlobals "_law_width" = some (some (.ref f18))) (l18 : K.lookup f18 = some ⟨oc18, od18, .func (PySem.W.fnOf "_law_width" "_law_width" (defArgs s_law_width) (defBody s_law_width) (defScope s_law_width) .none kV18 dc18 pm18 an18 cd18 ct18), sl18⟩) (c18 : PySem.W.codeIn K cd18 "_law_width" = true) (k18 : PySem.W.keepIn K (.ref f18) = true)
    (a19 : PySem.W.nsIn K mainGlobals "_law_names" = some (some (.ref f19))) (l19 : K.lookup f19 = some ⟨oc19, od19, .func (PySem.W.fnOf "_law_names" "_law_names" (defArgs s_law_names) (defBody s_law_names) (defScope s_law_names) .none kV19 dc19 pm19 an19 cd19 ct19), sl19⟩) (c19 : PySem.W.codeIn K cd19 "_law_names" = true) (k19 : PySem.W.keepIn K (.ref f19) = true)
    (a20 : PySem.W.nsIn K mainGlobals "_law_leaf" = some (some (.ref f20))) (l20 : K.lookup f20 = some ⟨oc20, od20, .func (PySem.W.fnOf "_law_leaf" "_law_leaf" (defArgs s_law_leaf) (defBody s_law_leaf) (defScope s_law_leaf) .none kV20 dc20 pm20 an20 cd20 ct20), sl20⟩) (c20 : PySem.W.codeIn K cd20 "_law_leaf" = true) (k20 : PySem.W.keepIn K (.ref f20) = true)
    (a21 : PySem.W.nsIn K mainGlobals "_law_values" = some (some (.ref f21))) (l21 : K.lookup f21 = some ⟨oc21, od21, .func (PySem.W.fnOf "_law_values" "_law_values" (defArgs s_law_values) (defBody s_law_values) (defScope s_law_values) .none kV21 dc21 pm21 an21 cd21 ct21), sl21⟩) (c21 : PySem.W.codeIn K cd21 "_law_values" = true) (k21 : PySem.W.keepIn K (.ref f21) = true)
    (a22 : PySem.W.nsIn K mainGlobals "parts_taken" = some (some (.ref f22))) (l22 : K.lookup f22 = some ⟨oc22, od22, .func (PySem.W.fnOf "parts_taken" "parts_taken" (defArgs s_parts_taken) (defBody s_parts_taken) (defScope s_parts_taken) .none kV22 dc22 pm22 an22 cd22 ct22), sl22⟩) (c22 : PySem.W.codeIn K cd22 "parts_taken" = true) (k22 : PySem.W.keepIn K (.ref f22) = true)
    (a23 : PySem.W.nsIn K mainGlobals "refuse_lacking" = some (some (.ref f23))) (l23 : K.lookup f23 = some ⟨oc23, od23, .func (PySem.W.fnOf "refuse_lacking" "refuse_lacking" (defArgs s_refuse_lacking) (defBody s_refuse_lacking) (defScope s_refuse_lacking) .none kV23 dc23 pm23 an23 cd23 ct23), sl23⟩) (c23 : PySem.W.codeIn K cd23 "refuse_lacking" = true) (k23 : PySem.W.keepIn K (.ref f23) = true)
    (a24 : PySem.W.nsIn K mainGlobals "sum_word_read" = some (some (.ref f24))) (l24 : K.lookup f24 = some ⟨oc24, od24, .func (PySem.W.fnOf "sum_word_read" "sum_word_read" (defArgs s_sum_word_read) (defBody s_sum_word_read) (defScope s_sum_word_read) .none kV24 dc24 pm24 an24 cd24 ct24), sl24⟩) (c24 : PySem.W.codeIn K cd24 "sum_word_read" = true) (k24 : PySem.W.keepIn K (.ref f24) = true)
    (a25 : PySem.W.nsIn K mainGlobals "names_of" = some (some (.ref f25))) (l25 : K.lookup f25 = some ⟨oc25, od25, .func (PySem.W.fnOf "names_of" "names_of" (defArgs s_names_of) (defBody s_names_of) (defScope s_names_of) .none kV25 dc25 pm25 an25 cd25 ct25), sl25⟩) (c25 : PySem.W.codeIn K cd25 "names_of" = true) (k25 : PySem.W.keepIn K (.ref f25) = true)
    (a26 : PySem.W.nsIn K mainGlobals "_law_sum" = some (some (.ref f26))) (l26 : K.lookup f26 = some ⟨oc26, od26, .func (PySem.W.fnOf "_law_sum" "_law_sum" (defArgs s_law_sum) (defBody s_law_sum) (defScope s_law_sum) .none kV26 dc26 pm26 an26 cd26 ct26), sl26⟩) (c26 : PySem.W.codeIn K cd26 "_law_sum" = true) (k26 : PySem.W.keepIn K (.ref f26) = true)
    (a27 : PySem.W.nsIn K mainGlobals "read_sum" = some (some (.ref f27))) (l27 : K.lookup f27 = some ⟨oc27, od27, .func (PySem.W.fnOf "read_sum" "read_sum" (defArgs s_read_sum) (defBody s_read_sum) (defScope s_read_sum) .none kV27 dc27 pm27 an27 cd27 ct27), sl27⟩) (c27 : PySem.W.codeIn K cd27 "read_sum" = true) (k27 : PySem.W.keepIn K (.ref f27) = true)
    (a28 : PySem.W.nsIn K mainGlobals "folded" = some (some (.ref f28))) (l28 : K.lookup f28 = some ⟨oc28, od28, .func (PySem.W.fnOf "folded" "folded" (defArgs s_folded) (defBody s_folded) (defScope s_folded) .none kV28 dc28 pm28 an28 cd28 ct28), sl28⟩) (c28 : PySem.W.codeIn K cd28 "folded" = true) (k28 : PySem.W.keepIn K (.ref f28) = true)
    (a29 : PySem.W.nsIn K mainGlobals "worth" = some (some (.ref f29))) (l29 : K.lookup f29 = some ⟨oc29, od29, .func (PySem.W.fnOf "worth" "worth" (defArgs s_worth) (defBody s_worth) (defScope s_worth) .none kV29 dc29 pm29 an29 cd29 ct29), sl29⟩) (c29 : PySem.W.codeIn K cd29 "worth" = true) (k29 : PySem.W.keepIn K (.ref f29) = true)
    (a30 : PySem.W.nsIn K mainGlobals "_law_together" = some (some (.ref f30))) (l30 : K.lookup f30 = some ⟨oc30, od30, .func (PySem.W.fnOf "_law_together" "_law_together" (defArgs s_law_together) (defBody s_law_together) (defScope s_law_together) .none kV30 dc30 pm30 an30 cd30 ct30), sl30⟩) (c30 : PySem.W.codeIn K cd30 "_law_together" = true) (k30 : PySem.W.keepIn K (.ref f30) = true)
    (a31 : PySem.W.nsIn K mainGlobals "law" = some (some (.ref f31))) (l31 : K.lookup f31 = some ⟨oc31, od31, .func (PySem.W.fnOf "law" "law" (defArgs s_law) (defBody s_law) (defScope s_law) .none kV31 dc31 pm31 an31 cd31 ct31), sl31⟩) (c31 : PySem.W.codeIn K cd31 "law" = true) (k31 : PySem.W.keepIn K (.ref f31) = true)
    {GSUM_PARTS : Addr} {ESUM_PARTS : Array DictEntry} {PSUM_PARTS : Nat} (ga_SUM_PARTS : PySem.W.nsIn K mainGlobals "SUM_PARTS" = some (some (.ref GSUM_PARTS))) (gl_SUM_PARTS : K.lookup GSUM_PARTS = some { cls := .type "dict", dict := none, data := .dict ESUM_PARTS PSUM_PARTS, slots := #[] }) (ge_SUM_PARTS : KTab w.params ESUM_PARTS.toList [("not", 1), ("neg", 1), ("twice", 1), ("low", 1), ("and", 2), ("or", 2), ("odd", 2), ("add", 2), ("sub", 2), ("pick", 3)]) (gn_SUM_PARTS : (GSUM_PARTS == sysModules) = false)
    {GSUMS_IN_CLAIM : Addr} {ESUMS_IN_CLAIM : Array DictEntry} {PSUMS_IN_CLAIM : Nat} (ga_SUMS_IN_CLAIM : PySem.W.nsIn K mainGlobals "SUMS_IN_CLAIM" = some (some (.ref GSUMS_IN_CLAIM))) (gl_SUMS_IN_CLAIM : K.lookup GSUMS_IN_CLAIM = some { cls := .type "dict", dict := none, data := .dict ESUMS_IN_CLAIM PSUMS_IN_CLAIM, slots := #[] }) (ge_SUMS_IN_CLAIM : KTab w.params ESUMS_IN_CLAIM.toList [("same", 2), ("under", 2), ("beneath", 2), ("sign", 1), ("nought", 1)]) (gn_SUMS_IN_CLAIM : (GSUMS_IN_CLAIM == sysModules) = false)
    {GCLAIMS_IN_CLAIM : Addr} {ECLAIMS_IN_CLAIM : Array DictEntry} {PCLAIMS_IN_CLAIM : Nat} (ga_CLAIMS_IN_CLAIM : PySem.W.nsIn K mainGlobals "CLAIMS_IN_CLAIM" = some (some (.ref GCLAIMS_IN_CLAIM))) (gl_CLAIMS_IN_CLAIM : K.lookup GCLAIMS_IN_CLAIM = some { cls := .type "dict", dict := none, data := .dict ECLAIMS_IN_CLAIM PCLAIMS_IN_CLAIM, slots := #[] }) (ge_CLAIMS_IN_CLAIM : KTab w.params ECLAIMS_IN_CLAIM.toList [("both", 2), ("either", 2), ("so", 2), ("never", 1), ("yes", 0)]) (gn_CLAIMS_IN_CLAIM : (GCLAIMS_IN_CLAIM == sysModules) = false)
    {KLETTERS : Tok} (ga_LETTERS : PySem.W.nsIn K mainGlobals "LETTERS" = some (some (.str "abcdefghijklmnopqrstuvwxyz" KLETTERS)))
    {KFIGURES : Tok} (ga_FIGURES : PySem.W.nsIn K mainGlobals "FIGURES" = some (some (.str "0123456789" KFIGURES)))
    {KLONGEST_NAME : Tok} (ga_LONGEST_NAME : PySem.W.nsIn K mainGlobals "LONGEST_NAME" = some (some (.int 8 KLONGEST_NAME)))
    (z_all : PySem.W.nsIn K mainGlobals "all" = some none)
    (z_dict : PySem.W.nsIn K mainGlobals "dict" = some none)
    (z_int : PySem.W.nsIn K mainGlobals "int" = some none)
    (z_isinstance : PySem.W.nsIn K mainGlobals "isinstance" = some none)
    (z_len : PySem.W.nsIn K mainGlobals "len" = some none)
    (z_range : PySem.W.nsIn K mainGlobals "range" = some none)
    (z_reversed : PySem.W.nsIn K mainGlobals "reversed" = some none)
    (z_set : PySem.W.nsIn K mainGlobals "set" = some none)
    (z_sorted : PySem.W.nsIn K mainGlobals "sorted" = some none)
    (z_str : PySem.W.nsIn K mainGlobals "str" = some none)
    (z_sum : PySem.W.nsIn K mainGlobals "sum" = some none)
    (z_tuple : PySem.W.nsIn K mainGlobals "tuple" = some none)
    (kc_worth : cd29 = .ref 154)
    : ∃ fd : FuncData, (∀ (s : Shared) (v : Value), BindsTo s fd ⟨[v], []⟩ [("script", v)]) ∧ ∀ base : Heap, K.In base → base.Ns mainGlobals mg → (∀ q ∈ ([(154, 150)] : List (Addr × Addr)), PySem.W.CodeHd base q.1 q.2) → BltAt mg base → FnOk l.prog w K mg base CX0 16 fa fd ["script"] (sp_law K 150) := by
  have e := hfa.symm.trans (PySem.W.mg_of X G a31)
  cases e
  have F0 := fun_mk (st := s_words_at) l0 c0 k0
  have b0 := F0.binds (ps := ["width"]) fun _ _ _ _ _ _ us hl => match us, hl with | [_], _ => rfl
  have F1 := fun_mk (st := s_is_sum_word) l1 c1 k1
  have b1 := F1.binds (ps := ["text"]) fun _ _ _ _ _ _ us hl => match us, hl with | [_], _ => rfl
  have F2 := fun_mk (st := s_is_claim_word) l2 c2 k2
  have b2 := F2.binds (ps := ["text"]) fun _ _ _ _ _ _ us hl => match us, hl with | [_], _ => rfl
  have F3 := fun_mk (st := s_sums_behind) l3 c3 k3
  have b3 := F3.binds (ps := ["word"]) fun _ _ _ _ _ _ us hl => match us, hl with | [_], _ => rfl
  have F4 := fun_mk (st := s_claims_behind) l4 c4 k4
  have b4 := F4.binds (ps := ["word"]) fun _ _ _ _ _ _ us hl => match us, hl with | [_], _ => rfl
  have F5 := fun_mk (st := s_is_made_of) l5 c5 k5
  have b5 := F5.binds (ps := ["text", "signs"]) fun _ _ _ _ _ _ us hl => match us, hl with | [_, _], _ => rfl
  have F6 := fun_mk (st := s_worth_of_one) l6 c6 k6
  have b6 := F6.binds (ps := ["word", "part"]) fun _ _ _ _ _ _ us hl => match us, hl with | [_, _], _ => rfl
  have F7 := fun_mk (st := s_worth_of_two) l7 c7 k7
  have b7 := F7.binds (ps := ["word", "one", "other"]) fun _ _ _ _ _ _ us hl => match us, hl with | [_, _, _], _ => rfl
  have F8 := fun_mk (st := s_sum_shown) l8 c8 k8
  have b8 := F8.binds (ps := ["words"]) fun _ _ _ _ _ _ us hl => match us, hl with | [_], _ => rfl
  have F9 := fun_mk (st := s_law_deck) l9 c9 k9
  have b9 := F9.binds (ps := ["script"]) fun _ _ _ _ _ _ us hl => match us, hl with | [_], _ => rfl
  have F10 := fun_mk (st := s_law_take) l10 c10 k10
  have b10 := F10.binds (ps := ["deck", "many"]) fun _ _ _ _ _ _ us hl => match us, hl with | [_, _], _ => rfl
  have F11 := fun_mk (st := s_law_power) l11 c11 k11
  have b11 := F11.binds (ps := ["width"]) fun _ _ _ _ _ _ us hl => match us, hl with | [_], _ => rfl
  have F12 := fun_mk (st := s_law_kept) l12 c12 k12
  have b12 := F12.binds (ps := []) fun _ _ _ _ _ _ us hl => match us, hl with | [], _ => rfl
  have F13 := fun_mk (st := s_cut) l13 c13 k13
  have b13 := F13.binds (ps := ["number", "width"]) fun _ _ _ _ _ _ us hl => match us, hl with | [_, _], _ => rfl
  have F14 := fun_mk (st := s_parts_of) l14 c14 k14
  have b14 := F14.binds (ps := ["word"]) fun _ _ _ _ _ _ us hl => match us, hl with | [_], _ => rfl
  have F15 := fun_mk (st := s_is_name) l15 c15 k15
  have b15 := F15.binds (ps := ["text"]) fun _ _ _ _ _ _ us hl => match us, hl with | [_], _ => rfl
  have F16 := fun_mk (st := s_is_figures) l16 c16 k16
  have b16 := F16.binds (ps := ["text"]) fun _ _ _ _ _ _ us hl => match us, hl with | [_], _ => rfl
  have F17 := fun_mk (st := s_word_worth) l17 c17 k17
  have b17 := F17.binds (ps := ["word", "parts", "values"]) fun _ _ _ _ _ _ us hl => match us, hl with | [_, _, _], _ => rfl
  have F18 := fun_mk (st := s_law_width) l18 c18 k18
  have b18 := F18.binds (ps := ["deck"]) fun _ _ _ _ _ _ us hl => match us, hl with | [_], _ => rfl
  have F19 := fun_mk (st := s_law_names) l19 c19 k19
  have b19 := F19.binds (ps := ["deck"]) fun _ _ _ _ _ _ us hl => match us, hl with | [_], _ => rfl
  have F20 := fun_mk (st := s_law_leaf) l20 c20 k20
  have b20 := F20.binds (ps := ["deck", "names"]) fun _ _ _ _ _ _ us hl => match us, hl with | [_, _], _ => rfl
  have F21 := fun_mk (st := s_law_values) l21 c21 k21
  have b21 := F21.binds (ps := ["deck", "names", "width"]) fun _ _ _ _ _ _ us hl => match us, hl with | [_, _, _], _ => rfl
  have F22 := fun_mk (st := s_parts_taken) l22 c22 k22
  have b22 := F22.binds (ps := ["stack", "word"]) fun _ _ _ _ _ _ us hl => match us, hl with | [_, _], _ => rfl
  have F23 := fun_mk (st := s_refuse_lacking) l23 c23 k23
  have b23 := F23.binds (ps := ["words", "values"]) fun _ _ _ _ _ _ us hl => match us, hl with | [_, _], _ => rfl
  have F24 := fun_mk (st := s_sum_word_read) l24 c24 k24
  have b24 := F24.binds (ps := ["part"]) fun _ _ _ _ _ _ us hl => match us, hl with | [_], _ => rfl
  have F25 := fun_mk (st := s_names_of) l25 c25 k25
  have b25 := F25.binds (ps := ["words"]) fun _ _ _ _ _ _ us hl => match us, hl with | [_], _ => rfl
  have F26 := fun_mk (st := s_law_sum) l26 c26 k26
  have b26 := F26.binds (ps := ["deck", "names", "most", "heavy"]) fun _ _ _ _ _ _ us hl => match us, hl with | [_, _, _, _], _ => rfl
  have F27 := fun_mk (st := s_read_sum) l27 c27 k27
  have b27 := F27.binds (ps := ["text"]) fun _ _ _ _ _ _ us hl => match us, hl with | [_], _ => rfl
  have F28 := fun_mk (st := s_folded) l28 c28 k28
  have b28 := F28.binds (ps := ["words", "told_of"]) fun _ _ _ _ _ _ us hl => match us, hl with | [_, _], _ => rfl
  have F29 := fun_mk (st := s_worth) l29 c29 k29
  have b29 := F29.binds (ps := ["words", "width", "values"]) fun _ _ _ _ _ _ us hl => match us, hl with | [_, _, _], _ => rfl
  have F30 := fun_mk (st := s_law_together) l30 c30 k30
  have b30 := F30.binds (ps := ["one", "other", "width", "values"]) fun _ _ _ _ _ _ us hl => match us, hl with | [_, _, _, _], _ => rfl
  have F31 := fun_mk (st := s_law) l31 c31 k31
  have b31 := F31.binds (ps := ["script"]) fun _ _ _ _ _ _ us hl => match us, hl with | [_], _ => rfl
  have T : Txt K w mg ⟨f0, _, f1, _, f2, _, f3, _, f4, _, f5, _, f6, _, f7, _, f8, _, f9, _, f10, _, f11, _, f12, _, f13, _, f14, _, f15, _, f16, _, f17, _, f18, _, f19, _, f20, _, f21, _, f22, _, f23, _, f24, _, f25, _, f26, _, f27, _, f28, _, f29, _, f30, _, fa, _, 154, 150, GSUM_PARTS, GSUMS_IN_CLAIM, GCLAIMS_IN_CLAIM, KLETTERS, KFIGURES, KLONGEST_NAME⟩ := ⟨⟨PySem.W.mg_of X G ga_SUM_PARTS, ⟨⟨_, _, gl_SUM_PARTS, ge_SUM_PARTS⟩, by decide +kernel, gn_SUM_PARTS⟩⟩, ⟨PySem.W.mg_of X G ga_SUMS_IN_CLAIM, ⟨⟨_, _, gl_SUMS_IN_CLAIM, ge_SUMS_IN_CLAIM⟩, by decide +kernel, gn_SUMS_IN_CLAIM⟩⟩, ⟨PySem.W.mg_of X G ga_CLAIMS_IN_CLAIM, ⟨⟨_, _, gl_CLAIMS_IN_CLAIM, ge_CLAIMS_IN_CLAIM⟩, by decide +kernel, gn_CLAIMS_IN_CLAIM⟩⟩, PySem.W.mg_of X G ga_LETTERS, PySem.W.mg_of X G ga_FIGURES, PySem.W.mg_of X G ga_LONGEST_NAME, ⟨F0, PySem.W.mg_of X G a0, b0⟩, ⟨F1, PySem.W.mg_of X G a1, b1⟩, ⟨F2, PySem.W.mg_of X G a2, b2⟩, ⟨F3, PySem.W.mg_of X G a3, b3⟩, ⟨F4, PySem.W.mg_of X G a4, b4⟩, ⟨F5, PySem.W.mg_of X G a5, b5⟩, ⟨F6, PySem.W.mg_of X G a6, b6⟩, ⟨F7, PySem.W.mg_of X G a7, b7⟩, ⟨F8, PySem.W.mg_of X G a8, b8⟩, ⟨F9, PySem.W.mg_of X G a9, b9⟩, ⟨F10, PySem.W.mg_of X G a10, b10⟩, ⟨F11, PySem.W.mg_of X G a11, b11⟩, ⟨F12, PySem.W.mg_of X G a12, b12⟩, ⟨F13, PySem.W.mg_of X G a13, b13⟩, ⟨F14, PySem.W.mg_of X G a14, b14⟩, ⟨F15, PySem.W.mg_of X G a15, b15⟩, ⟨F16, PySem.W.mg_of X G a16, b16⟩, ⟨F17, PySem.W.mg_of X G a17, b17⟩, ⟨F18, PySem.W.mg_of X G a18, b18⟩, ⟨F19, PySem.W.mg_of X G a19, b19⟩, ⟨F20, PySem.W.mg_of X G a20, b20⟩, ⟨F21, PySem.W.mg_of X G a21, b21⟩, ⟨F22, PySem.W.mg_of X G a22, b22⟩, ⟨F23, PySem.W.mg_of X G a23, b23⟩, ⟨F24, PySem.W.mg_of X G a24, b24⟩, ⟨F25, PySem.W.mg_of X G a25, b25⟩, ⟨F26, PySem.W.mg_of X G a26, b26⟩, ⟨F27, PySem.W.mg_of X G a27, b27⟩, ⟨F28, PySem.W.mg_of X G a28, b28⟩, ⟨F29, PySem.W.mg_of X G a29, b29⟩, ⟨F30, PySem.W.mg_of X G a30, b30⟩, ⟨F31, PySem.W.mg_of X G a31, b31⟩, kc_worth, PySem.W.mg_none_of X G z_all, PySem.W.mg_none_of X G z_dict, PySem.W.mg_none_of X G z_int, PySem.W.mg_none_of X G z_isinstance, PySem.W.mg_none_of X G z_len, PySem.W.mg_none_of X G z_range, PySem.W.mg_none_of X G z_reversed, PySem.W.mg_none_of X G z_set, PySem.W.mg_none_of X G z_sorted, PySem.W.mg_none_of X G z_str, PySem.W.mg_none_of X G z_sum, PySem.W.mg_none_of X G z_tuple⟩
  exact ⟨_, fun s v => (show BindsTo s (PySem.W.fnOf "law" "law" (defArgs s_law) (defBody s_law) (defScope s_law) .none kV31 dc31 pm31 an31 cd31 ct31) ⟨[v], []⟩ [("script", v)] from .of_eq rfl), fun base _ _ hC hB => ok_law T ⟨hC (154, 150) (by simp), hB⟩⟩
theorem walk {l : PySem.W.OpenLaw} {q : Program} {loose : List Str} {XP : (Str → Option Value) → Heap → Prop} {YP : World → Heap → Prop} {d : DefRec} {K : Params → PySem.W.Frag} (hn : l.most = some 63) (hdf : d.params.defaults = [])
    (hY : ∀ (w : World) (h : Heap), YP w h → (K w.params).In h)
    (hTab : ∀ (w : World) (mean : ExcName → Option Value) (mg mb : Str → Option Value) (h : Heap), PyProof.Rows.Top q (PySem.W.looseW q loose) mean mg mb h → (K w.params).In h → PySem.W.TabsAt [(154, 150)] h) (hKt : ∀ w : World, PySem.W.noTabs (K w.params) = true)
    (F : ∀ (w : World) (mg : Str → Option Value) (fa : Addr) (h : Heap), (K w.params).In h → h.Ns mainGlobals mg → mg d.name = some (.ref fa) →
      ∃ fd : FuncData, (∀ (s : Shared) (u : Value), BindsTo s fd ⟨[u], []⟩ [("script", u)]) ∧ ∀ base : Heap, (K w.params).In base → base.Ns mainGlobals mg → (∀ q ∈ ([(154, 150)] : List (Addr × Addr)), PySem.W.CodeHd base q.1 q.2) → BltAt mg base → FnOk l.prog w (K w.params) mg base CX0 16 fa fd ["script"] (sp_law (K w.params) 150)) :
    PySem.W.WalkO q loose XP YP l.row.toRowW d [] (fun f vs => PySem.call f vs) :=
  L2.walk_ofT (n := 63) (k := 16) (x := "script") (CX := fun _ => CX0) (sp := fun w => sp_law (K w.params) 150) hn (by decide) hdf ⟨rfl, by decide, by decide⟩ hY hTab hKt F (fun _ _ a ns hl hT hS => ⟨a, ns, rfl, hS, hl, .inl (hT (154, 150) (by simp)), fun _ => rfl⟩) fun _ _ _ _ _ z => z
end Lw
open PySem PySem.W PyProof.Rows
set_option maxRecDepth 100000 in
set_option maxHeartbeats 0 in
theorem PySem.Challenge.cw_everywidth_k08_whole_sums_at_widths_holds : PySem.Challenge.rw_everywidth_k08_whole_sums_at_widths.Holds := by
  w_on; o_law; k_head; (case hw => w_witness2)
  k_fill
  refine Lw.walk (l := PySem.Challenge.rw_everywidth_k08_whole_sums_at_widths) rfl rfl (fun w h Y => PySem.W.km_in_of Y) (fun w mean mg mb h T X => List.forall_mem_cons.mpr ⟨PySem.W.tab_of (x := PySem.Str.ofString "worth") (c := 154) (P := 150) T X rfl (by kernel_rfl), List.forall_mem_nil _⟩) (fun w => by kernel_rfl) ?F
  case F =>
    intro w mg fa h KX G hmg
    refine' Lw.all_mk KX G hmg ?a0 ?l0 ?c0 ?k0 ?a1 ?l1 ?c1 ?k1 ?a2 ?l2 ?c2 ?k2 ?a3 ?l3 ?c3 ?k3 ?a4 ?l4 ?c4 ?k4 ?a5 ?l5 ?c5 ?k5 ?a6 ?l6 ?c6 ?k6 ?a7 ?l7 ?c7 ?k7 ?a8 ?l8 ?c8 ?k8 ?a9 ?l9 ?c9 ?k9 ?a10 ?l10 ?c10 ?k10 ?a11 ?l11 ?c11 ?k11 ?a12 ?l12 ?c12 ?k12 ?a13 ?l13 ?c13 ?k13 ?a14 ?l14 ?c14 ?k14 ?a15 ?l15 ?c15 ?k15 ?a16 ?l16 ?c16 ?k16 ?a17 ?l17 ?c17 ?k17 ?a18 ?l18 ?c18 ?k18 ?a19 ?l19 ?c19 ?k19 ?a20 ?l20 ?c20 ?k20 ?a21 ?l21 ?c21 ?k21 ?a22 ?l22 ?c22 ?k22 ?a23 ?l23 ?c23 ?k23 ?a24 ?l24 ?c24 ?k24 ?a25 ?l25 ?c25 ?k25 ?a26 ?l26 ?c26 ?k26 ?a27 ?l27 ?c27 ?k27 ?a28 ?l28 ?c28 ?k28 ?a29 ?l29 ?c29 ?k29 ?a30 ?l30 ?c30 ?k30 ?a31 ?l31 ?c31 ?k31 ?ga_SUM_PARTS ?gl_SUM_PARTS ?ge_SUM_PARTS ?gn_SUM_PARTS ?ga_SUMS_IN_CLAIM ?gl_SUMS_IN_CLAIM ?ge_SUMS_IN_CLAIM ?gn_SUMS_IN_CLAIM ?ga_CLAIMS_IN_CLAIM ?gl_CLAIMS_IN_CLAIM ?ge_CLAIMS_IN_CLAIM ?gn_CLAIMS_IN_CLAIM ?ga_LETTERS ?ga_FIGURES ?ga_LONGEST_NAME ?z_all ?z_dict ?z_int ?z_isinstance ?z_len ?z_range ?z_reversed ?z_set ?z_sorted ?z_str ?z_sum ?z_tuple ?kc_worth
    (case a0 => k_is)
    (case l0 => k_is)
    (case c0 => k_is)
    (case k0 => k_is)
    (case a1 => k_is)
    (case l1 => k_is)
    (case c1 => k_is)
    (case k1 => k_is)
    (case a2 => k_is)
    (case l2 => k_is)
    (case c2 => k_is)
    (case k2 => k_is)
    (case a3 => k_is)
    (case l3 => k_is)
    (case c3 => k_is)
    (case k3 => k_is)
    (case a4 => k_is)
    (case l4 => k_is)
    (case c4 => k_is)
    (case k4 => k_is)
    (case a5 => k_is)
    (case l5 => k_is)
    (case c5 => k_is)
    (case k5 => k_is)
    (case a6 => k_is)
    (case l6 => k_is)
    (case c6 => k_is)
    (case k6 => k_is)
    (case a7 => k_is)
    (case l7 => k_is)
    (case c7 => k_is)
    (case k7 => k_is)
    (case a8 => k_is)
    (case l8 => k_is)
    (case c8 => k_is)
    (case k8 => k_is)
    (case a9 => k_is)
    (case l9 => k_is)
    (case c9 => k_is)
    (case k9 => k_is)
    (case a10 => k_is)
    (case l10 => k_is)
    (case c10 => k_is)
    (case k10 => k_is)
    (case a11 => k_is)
    (case l11 => k_is)
    (case c11 => k_is)
    (case k11 => k_is)
    (case a12 => k_is)
    (case l12 => k_is)
    (case c12 => k_is)
    (case k12 => k_is)
    (case a13 => k_is)
    (case l13 => k_is)
    (case c13 => k_is)
    (case k13 => k_is)
    (case a14 => k_is)
    (case l14 => k_is)
    (case c14 => k_is)
    (case k14 => k_is)
    (case a15 => k_is)
    (case l15 => k_is)
    (case c15 => k_is)
    (case k15 => k_is)
    (case a16 => k_is)
    (case l16 => k_is)
    (case c16 => k_is)
    (case k16 => k_is)
    (case a17 => k_is)
    (case l17 => k_is)
    (case c17 => k_is)
    (case k17 => k_is)
    (case a18 => k_is)
    (case l18 => k_is)
    (case c18 => k_is)
    (case k18 => k_is)
    (case a19 => k_is)
    (case l19 => k_is)
    (case c19 => k_is)
    (case k19 => k_is)
    (case a20 => k_is)
    (case l20 => k_is)
    (case c20 => k_is)
    (case k20 => k_is)
    (case a21 => k_is)
    (case l21 => k_is)
    (case c21 => k_is)
    (case k21 => k_is)
    (case a22 => k_is)
    (case l22 => k_is)
    (case c22 => k_is)
    (case k22 => k_is)
    (case a23 => k_is)
    (case l23 => k_is)
    (case c23 => k_is)
    (case k23 => k_is)
    (case a24 => k_is)
    (case l24 => k_is)
    (case c24 => k_is)
    (case k24 => k_is)
    (case a25 => k_is)
    (case l25 => k_is)
    (case c25 => k_is)
    (case k25 => k_is)
    (case a26 => k_is)
    (case l26 => k_is)
    (case c26 => k_is)
    (case k26 => k_is)
    (case a27 => k_is)
    (case l27 => k_is)
    (case c27 => k_is)
    (case k27 => k_is)
    (case a28 => k_is)
    (case l28 => k_is)
    (case c28 => k_is)
    (case k28 => k_is)
    (case a29 => k_is)
    (case l29 => k_is)
    (case c29 => k_is)
    (case k29 => k_is)
    (case a30 => k_is)
    (case l30 => k_is)
    (case c30 => k_is)
    (case k30 => k_is)
    (case a31 => k_is)
    (case l31 => k_is)
    (case c31 => k_is)
    (case k31 => k_is)
    (case ga_SUM_PARTS => k_is)
    (case gl_SUM_PARTS => k_is)
    (case ge_SUM_PARTS => repeat (first | exact L2.KTab.nil | refine L2.KTab.cons ?_))
    (case gn_SUM_PARTS => first | rfl | decide +kernel)
    (case ga_SUMS_IN_CLAIM => k_is)
    (case gl_SUMS_IN_CLAIM => k_is)
    (case ge_SUMS_IN_CLAIM => repeat (first | exact L2.KTab.nil | refine L2.KTab.cons ?_))
    (case gn_SUMS_IN_CLAIM => first | rfl | decide +kernel)
    (case ga_CLAIMS_IN_CLAIM => k_is)
    (case gl_CLAIMS_IN_CLAIM => k_is)
    (case ge_CLAIMS_IN_CLAIM => repeat (first | exact L2.KTab.nil | refine L2.KTab.cons ?_))
    (case gn_CLAIMS_IN_CLAIM => first | rfl | decide +kernel)
    (case ga_LETTERS => k_is)
    (case ga_FIGURES => k_is)
    (case ga_LONGEST_NAME => k_is)
    (case z_all => k_is)
    (case z_dict => k_is)
    (case z_int => k_is)
    (case z_isinstance => k_is)
    (case z_len => k_is)
    (case z_range => k_is)
    (case z_reversed => k_is)
    (case z_set => k_is)
    (case z_sorted => k_is)
    (case z_str => k_is)
    (case z_sum => k_is)
    (case z_tuple => k_is)
    (case kc_worth => exact rfl)
#print axioms PySem.Challenge.cw_everywidth_k08_whole_sums_at_widths_holds

