import PyProof.Rows.All
import Wide.All
import OpenK.AllK
import Wide.FinOn
import Lean
import PyProof.EqAt
import PyProof.EqKinds
import PyProof.TupleCall
import PyProof.NeKinds
import KE.KRevSl
import KE.KRevIter
import PyProof.FactsAll.tuple
import PyProof.Rows.SortWalk
import PyProof.Rows.StrJoin2
import PyProof.StrBlockH
import PyProof.StrWalks
import PyProof.StrCalls2
import PyProof.ConsumeWalk
import KE.KIntText
import PyProof.Rows.SortStr
import PyProof.EnumStmt
import PyProof.WalksMore
import KE.KEqDict
import PyProof.DictWalks
import KE.KLam
import PyProof.Rows.SortShellK
import PyProof.AttrMissHeap
import KE.KDictOf
import PyProof.ZipIter
import PyProof.CollectWalk
import PyProof.ListNew
import KE.KSortTup
import PyProof.Rows.TupDisplay
import OpenK.KOwn
import PyProof.Rows.TopTwo
import PyProof.Rows.CatchOwn
import PyProof.RulesDel
import PyProof.RulesAs
import KE.KIsNot
import PyProof.ExcAttrAll.ValueError
import KE.KIsAll
import PyProof.StrReplace2
import PyProof.ReprStr
import PyProof.FString
import PyProof.StrLawsChain
import PyProof.SetRoads
import PyProof.StrLawsRepr
import PyProof.ReprHeads
import PyProof.ReprLen
import PySem.Challenge.RW_everywidth_k10_no_claim
-- CHANGE: your row's module here, as the last of these rows
set_option Elab.async false
set_option linter.all false
set_option maxRecDepth 100000
namespace L2
open PySem PySem.Spec PyProof.Rows

noncomputable abbrev Key := Sum Int Str
noncomputable def keyIs : Key → Value → Bool
  | .inl k, v => Value.isInt k v
  | .inr x, v => Value.isStrOf x v
noncomputable def keyH (w : World) : Key → Int
  | .inl k => hashInt k
  | .inr x => hashStr w x
theorem keyIs_shape : ∀ {k : Key} {v : Value}, keyIs k v = true → (∃ i t, k = Sum.inl i ∧ v = Value.int i t) ∨ (∃ x t, k = Sum.inr x ∧ v = Value.str x t)
  | .inl i, v, h => by
    obtain ⟨t, e⟩ := Value.isInt_shape (k := i) (v := v) h
    exact .inl ⟨i, t, rfl, e⟩
  | .inr x, v, h => by
    obtain ⟨t, e⟩ := Value.isStrOf_shape (x := x) (v := v) h
    exact .inr ⟨x, t, rfl, e⟩
theorem keyIs_int (i : Int) (t : Tok) : keyIs (.inl i) (.int i t) = true := by simp [keyIs, Value.isInt]
theorem keyIs_str (x : Str) (t : Tok) : keyIs (.inr x) (.str x t) = true := by simp [keyIs, Value.isStrOf]
theorem key_ll (a b : Int) : decide ((Sum.inl a : Key) = Sum.inl b) = (a == b) := by
  by_cases e : a = b
  · subst e; simp
  · have h : ¬ (Sum.inl a : Key) = Sum.inl b := fun q => e (Sum.inl.inj q)
    rw [decide_eq_false h]
    exact (beq_eq_false_iff_ne.mpr e).symm
theorem key_rr (a b : Str) : decide ((Sum.inr a : Key) = Sum.inr b) = decide (a = b) := by
  by_cases e : a = b
  · subst e; simp
  · have h : ¬ (Sum.inr a : Key) = Sum.inr b := fun q => e (Sum.inr.inj q)
    rw [decide_eq_false h, decide_eq_false e]
theorem key_lr (a : Int) (b : Str) : decide ((Sum.inl a : Key) = Sum.inr b) = false := decide_eq_false (fun q => nomatch q)
theorem key_rl (a : Str) (b : Int) : decide ((Sum.inr a : Key) = Sum.inl b) = false := decide_eq_false (fun q => nomatch q)

noncomputable def mixKind (prog : Program) (w : World) : PySem.KeyKind prog w Key where
  is := keyIs
  hash := keyH w
  inj := fun v a b ha hb => by
    rcases keyIs_shape ha with ⟨i, t, rfl, rfl⟩ | ⟨x, t, rfl, rfl⟩
    · rcases keyIs_shape hb with ⟨j, u, rfl, e⟩ | ⟨y, u, rfl, e⟩
      · injection e with e1 _; rw [e1]
      · exact nomatch e
    · rcases keyIs_shape hb with ⟨j, u, rfl, e⟩ | ⟨y, u, rfl, e⟩
      · exact nomatch e
      · injection e with e1 _; rw [e1]
  byValue := fun k v h => by
    rcases keyIs_shape h with ⟨i, t, rfl, rfl⟩ | ⟨x, t, rfl, rfl⟩ <;> rfl
  pyHash := fun hv h => by
    rcases keyIs_shape hv with ⟨i, t, rfl, rfl⟩ | ⟨x, t, rfl, rfl⟩
    · exact wpAny_pyHash_int h
    · exact wpAny_pyHash_str h
  eqBool := fun hu hv h => by
    rcases keyIs_shape hu with ⟨i, t, rfl, rfl⟩ | ⟨x, t, rfl, rfl⟩
    · rcases keyIs_shape hv with ⟨j, u, rfl, rfl⟩ | ⟨y, u, rfl, rfl⟩
      · rw [key_ll] at h; exact wpAny_eqBool_int h
      · rw [key_lr] at h; exact SeqAt.EqAt.int_str i t y u _ _ _ _ h
    · rcases keyIs_shape hv with ⟨j, u, rfl, rfl⟩ | ⟨y, u, rfl, rfl⟩
      · rw [key_rl] at h; exact SeqAt.EqAt.str_int x t j u _ _ _ _ h
      · rw [key_rr] at h; exact wpAny_eqBool_str h
  «strs» := fun k x t v h => by
    rcases keyIs_shape h with ⟨i, u, rfl, e⟩ | ⟨y, u, rfl, e⟩
    · exact nomatch e
    · injection e with e1 _
      subst e1
      cases v <;> rfl

theorem mixKind_int (prog : Program) (w : World) (i : Int) (t : Tok) : (mixKind prog w).is (.inl i) (.int i t) = true := keyIs_int i t
theorem mixKind_str (prog : Program) (w : World) (x : Str) (t : Tok) : (mixKind prog w).is (.inr x) (.str x t) = true := keyIs_str x t
end L2

namespace L2
open PySem PySem.Spec PyProof.Rows

inductive V where
  | non | bl (b : Bool) | int (i : Int) | str (x : Str) | byt (b : Array UInt8) | flt (b : UInt64) | ref (a : Addr) | ty (n : String)
  deriving DecidableEq

noncomputable def RelV : V → Value → Prop
  | .non, u => u = Value.none
  | .bl b, u => u = Value.bool b
  | .int i, u => ∃ t, u = Value.int i t
  | .str x, u => ∃ t, u = Value.str x t
  | .byt b, u => ∃ t, u = Value.bytes b t
  | .flt b, u => ∃ t, u = Value.float b t
  | .ref a, u => u = Value.ref a
  | .ty n, u => u = Value.type n

noncomputable abbrev Vals : List V → List Value → Prop := Paired RelV
theorem Vals.length {xs : List V} {us : List Value} (r : Vals xs us) : xs.length = us.length := Paired.length r
theorem Vals.get : ∀ {xs : List V} {us : List Value} {i : Nat} {x : V}, Vals xs us → xs[i]? = some x → ∃ u, us[i]? = some u ∧ RelV x u
  | _, _, _, _, .nil, e => by simp at e
  | _, _, 0, _, .cons r _, e => by simp at e; subst e; exact ⟨_, rfl, r⟩
  | _, _, i + 1, x, .cons _ t, e => by
    obtain ⟨u, h1, h2⟩ := Vals.get (i := i) (x := x) t (by simpa using e)
    exact ⟨u, by simpa using h1, h2⟩
theorem Vals.set {x : V} {u : Value} (r : RelV x u) : ∀ {xs : List V} {us : List Value} (i : Nat), Vals xs us → Vals (xs.set i x) (us.set i u)
  | _, _, _, .nil => .nil
  | _, _, 0, .cons _ t => .cons r t
  | _, _, i + 1, .cons q t => .cons q (Vals.set r i t)
theorem Vals.append : ∀ {xs ys : List V} {us ws : List Value}, Vals xs us → Vals ys ws → Vals (xs ++ ys) (us ++ ws)
  | _, _, _, _, .nil, s => s
  | _, _, _, _, .cons r t, s => .cons r (Vals.append t s)
theorem Vals.take : ∀ {xs : List V} {us : List Value} (n : Nat), Vals xs us → Vals (xs.take n) (us.take n)
  | _, _, 0, _ => .nil
  | _, _, _ + 1, .nil => .nil
  | _, _, n + 1, .cons r t => .cons r (Vals.take n t)
theorem Vals.drop : ∀ {xs : List V} {us : List Value} (n : Nat), Vals xs us → Vals (xs.drop n) (us.drop n)
  | _, _, 0, r => r
  | _, _, _ + 1, .nil => .nil
  | _, _, n + 1, .cons _ t => Vals.drop n t
noncomputable def RelO : Option V → Option Value → Prop
  | some v, some u => RelV v u
  | none, none => True
  | _, _ => False
noncomputable def KV {κ : Type} : List (κ × V) → List (κ × Value) → Prop := Paired fun (p : κ × V) (q : κ × Value) => p.1 = q.1 ∧ RelV p.2 q.2

noncomputable def kV : Key → V
  | .inl i => .int i
  | .inr x => .str x

inductive HO where
  /-- a list -/
  | lst (xs : List V)
  /-- a tuple (never changes) -/
  | tup (xs : List V)
  /-- a dict whose keys are ints and texts; one whose keys are tuples of ints and texts (the empty one is both) -/
  | dK (kvs : List (Key × V)) | dT (kvs : List (List Key × V))
  /-- a set of ints: its members, its size -/
  | set (S : Int → Bool) (n : Nat)
  /-- an instance of the class at C, its dict at dx, its attributes -/
  | ins (C dx : Addr) (fs : List (Str × V))
  /-- the dict of the instance at x -/
  | own (x : Addr)
  /-- the dict of an exception -/
  | xd (fs : List (Str × V))
  /-- a bound method, f of x -/
  | met (f x : Addr)
  /-- a range object lo, lo + 1, .. below hi -/
  | rng (lo hi : Int)
  /-- a thing that is known to the object (the script; a dict while a loop walks it): read, never written while it is so -/
  | frz (o : Obj) (u : HO)
  /-- a code object's table -/
  | tbl (ps : Array Value)
  /-- any other thing, by what is true of its one object (a def of one's own: SetO a S n := HO.ext fun h => ..) -/
  | ext (φ : Heap → Prop)

noncomputable abbrev Hp := Addr → Option HO
noncomputable def upd (H : Hp) (a : Addr) (o : HO) : Hp := fun b => if b = a then some o else H b
theorem upd_same {H : Hp} {a : Addr} {o : HO} : upd H a o a = some o := by unfold upd; rw [if_pos rfl]
theorem upd_ne {H : Hp} {a b : Addr} {o : HO} (h : b ≠ a) : upd H a o b = H b := by unfold upd; rw [if_neg h]
theorem ne_of {H : Hp} {a b : Addr} {o u : HO} (h : H a = some o) (h' : H b = some u) (d : o ≠ u) : a ≠ b := by
  intro e; subst e; rw [h] at h'; exact d (Option.some.inj h')
theorem ne_of_none {H : Hp} {a b : Addr} {o : HO} (h : H a = some o) (h' : H b = none) : a ≠ b := by
  intro e; subst e; rw [h] at h'; cases h'

section
variable (P : Program) (w : World)
noncomputable def ObjOk (H : Hp) (h : Heap) (a : Addr) : HO → Prop
  | .lst xs => xs.length ≤ sizeLine ∧ ∃ (its : List Value) (n : Nat), Vals xs its ∧ h.get? a = some { cls := .type "list", data := .seq its.toArray n }
  | .tup xs => xs.length ≤ sizeLine ∧ ∃ its : List Value, Vals xs its ∧ IsTup h a its.toArray
  | .dK kvs => kvs.length ≤ sizeLine ∧ (a == sysModules) = false ∧ ∃ vs, KV kvs vs ∧ h.DictOf (mixKind P w) a vs
  | .dT kvs => kvs.length ≤ sizeLine ∧ (a == sysModules) = false ∧ ∃ xs : List (List Key × Addr × Value),
      Paired (fun (p : List Key × V) (q : List Key × Addr × Value) => p.1 = q.1 ∧ H q.2.1 = some (.tup (p.1.map kV)) ∧ RelV p.2 q.2.2) kvs xs ∧
      ∃ o es ep, h.get? a = some o ∧ o.ExactDict ∧ o.data = .dict es ep ∧ es.toList = xs.map (entryOfKey (tupleKind (mixKind P w))) ∧ (xs.map (·.1)).Nodup
  | .set S n => h.SetOf (intKind P w) a S n
  | .ins C dx fs => H dx = some (.own a) ∧ fs.length ≤ 1000 ∧ dx ≠ a ∧ h.get? a = some (PySem.W.instObj C dx) ∧
      ∃ mA, h.Ns1 dx mA ∧ (∀ f, RelO (fs.lookup f) (mA f)) ∧ PySem.Within mA (fs.map (·.1))
  | .own _ => ∃ o, h.get? a = some o
  | .xd fs => ∃ mA, h.Ns1 a mA ∧ ∀ f, RelO (fs.lookup f) (mA f)
  | .rng lo hi => ∃ t u v, h.get? a = some { cls := .type "range", data := .fields #[.int lo t, .int hi u, .int 1 v] }
  | .frz o u => h.get? a = some o ∧ ObjOk H h a u
  | .tbl ps => h.get? a = some { cls := .none, data := .fields ps }
  | .met f x => h.get? a = some (PySem.W.methodObj (.ref f) (.ref x))
  | .ext φ => φ h ∧ (∃ o, h.get? a = some o) ∧ ∀ h1 h2 : Heap, φ h1 → (∀ o, h1.get? a = some o → h2.get? a = some o) → φ h2
noncomputable def HOk (H : Hp) (h : Heap) : Prop := ∀ a o, H a = some o → ObjOk P w H h a o
end

section
variable {P : Program} {w : World} {H H' : Hp} {h h' : Heap} {a : Addr} {o : HO}
theorem ObjOk.lt (x : ObjOk P w H h a o) : a < h.objs.size := by
  cases o with
  | lst xs => obtain ⟨_, _, _, _, e⟩ := x; exact Heap.lt_size e
  | tup xs => obtain ⟨_, _, _, p⟩ := x; exact p.lt
  | dK kvs => obtain ⟨_, _, _, _, o, _, _, e, _⟩ := x; exact Heap.lt_size e
  | dT kvs => obtain ⟨_, _, _, _, o, _, _, e, _⟩ := x; exact Heap.lt_size e
  | set S n => obtain ⟨o, _, _, _, e, _⟩ := x; exact Heap.lt_size e
  | ins C dx fs => obtain ⟨_, _, _, e, _⟩ := x; exact Heap.lt_size e
  | own y => obtain ⟨_, e⟩ := x; exact Heap.lt_size e
  | xd fs => obtain ⟨_, ⟨_, _, _, e, _⟩, _⟩ := x; exact Heap.lt_size e
  | rng lo hi => obtain ⟨_, _, _, e⟩ := x; exact Heap.lt_size e
  | frz ob u => obtain ⟨e, _⟩ := x; exact Heap.lt_size e
  | tbl ps => exact Heap.lt_size (show h.get? a = some _ from x)
  | met f y => exact Heap.lt_size (show h.get? a = some _ from x)
  | ext φ => obtain ⟨_, ⟨_, e⟩, _⟩ := x; exact Heap.lt_size e
theorem Paired.mapP {α β : Type} {F G : α → β → Prop} : ∀ {l₁ : List α} {l₂ : List β}, Paired F l₁ l₂ → (∀ a b, F a b → G a b) → Paired G l₁ l₂
  | _, _, .nil, _ => .nil
  | _, _, .cons r t, f => .cons (f _ _ r) (Paired.mapP t f)
theorem ObjOk.stay (x : ObjOk P w H h a o) (k : ∀ b u, (b = a ∨ H b = some (.own a)) → h.get? b = some u → h'.get? b = some u)
    (ho : ∀ b, H b = some (.own a) → H' b = some (.own a)) (ht : ∀ b xs, H b = some (.tup xs) → H' b = some (.tup xs)) : ObjOk P w H' h' a o := by
  induction o with
  | lst xs => obtain ⟨z, its, n, r, e⟩ := x; exact ⟨z, its, n, r, k _ _ (.inl rfl) e⟩
  | tup xs => obtain ⟨z, its, r, ob, e, c⟩ := x; exact ⟨z, its, r, ob, k _ _ (.inl rfl) e, c⟩
  | dK kvs => obtain ⟨z, y, vs, r, ob, es, ep, e, c⟩ := x; exact ⟨z, y, vs, r, ob, es, ep, k _ _ (.inl rfl) e, c⟩
  | dT kvs =>
    obtain ⟨z, y, xs, r, ob, es, ep, e, c⟩ := x
    exact ⟨z, y, xs, Paired.mapP r fun p q z => ⟨z.1, ht _ _ z.2.1, z.2.2⟩, ob, es, ep, k _ _ (.inl rfl) e, c⟩
  | set S n => obtain ⟨ob, es, ep, t, e, c⟩ := x; exact ⟨ob, es, ep, t, k _ _ (.inl rfl) e, c⟩
  | ins C dx fs =>
    obtain ⟨d, z, ne, e, mA, ⟨od, es, ep, e2, c⟩, r⟩ := x
    exact ⟨ho _ d, z, ne, k _ _ (.inl rfl) e, mA, ⟨od, es, ep, k _ _ (.inr d) e2, c⟩, r⟩
  | own y => obtain ⟨ob, e⟩ := x; exact ⟨ob, k _ _ (.inl rfl) e⟩
  | xd fs => obtain ⟨mA, ⟨od, es, ep, e, c⟩, r⟩ := x; exact ⟨mA, ⟨od, es, ep, k _ _ (.inl rfl) e, c⟩, r⟩
  | rng lo hi => obtain ⟨t, u, v, e⟩ := x; exact ⟨t, u, v, k _ _ (.inl rfl) e⟩
  | frz ob u ih => obtain ⟨e, q⟩ := x; exact ⟨k _ _ (.inl rfl) e, ih q⟩
  | tbl ps =>
    have e : h.get? a = some { cls := .none, data := .fields ps } := x
    show h'.get? a = some { cls := .none, data := .fields ps }
    exact k a _ (.inl rfl) e
  | met f y =>
    have e : h.get? a = some (PySem.W.methodObj (.ref f) (.ref y)) := x
    show h'.get? a = some (PySem.W.methodObj (.ref f) (.ref y))
    exact k a _ (.inl rfl) e
  | ext φ => obtain ⟨p, ⟨o, e⟩, st⟩ := x; exact ⟨st _ _ p fun o q => k _ _ (.inl rfl) q, ⟨o, k _ _ (.inl rfl) e⟩, st⟩
theorem HOk.lt (x : HOk P w H h) (e : H a = some o) : a < h.objs.size := (x a o e).lt
theorem HOk.fresh (x : HOk P w H h) (e : h.objs.size ≤ a) : H a = none := by
  cases q : H a with
  | none => rfl
  | some u => exact absurd (Nat.lt_of_lt_of_le (x.lt q) e) (Nat.lt_irrefl _)
theorem HOk.kept (x : HOk P w H h) (k : ∀ b u, h.get? b = some u → h'.get? b = some u) : HOk P w H h' := fun a o e =>
  (x a o e).stay (fun b u _ q => k b u q) (fun _ q => q) fun _ _ q => q
theorem HOk.laid (x : HOk P w H h) (k : ∀ b u, h.get? b = some u → h'.get? b = some u) (hp : h.objs.size ≤ a) (new : ObjOk P w (upd H a o) h' a o) : HOk P w (upd H a o) h' := fun b u e => by
  have hn := x.fresh hp
  by_cases hb : b = a
  · subst hb; rw [upd_same] at e; cases e; exact new
  · rw [upd_ne hb] at e
    exact (x b u e).stay (fun c v _ q => k c v q) (fun c q => by rw [upd_ne (ne_of_none q hn)]; exact q) fun c xs q => by rw [upd_ne (ne_of_none q hn)]; exact q
end

noncomputable def Rd (H : Hp) (a : Addr) (u : HO) : Prop := H a = some u ∨ ∃ o, H a = some (.frz o u)
theorem Rd.ok {P : Program} {w : World} {H : Hp} {h : Heap} {a : Addr} {u : HO} (r : Rd H a u) (x : HOk P w H h) : ObjOk P w H h a u := by
  rcases r with r | ⟨o, r⟩
  · exact x a u r
  · obtain ⟨_, q⟩ := x a _ r
    exact q
noncomputable def Mut : Option HO → Prop
  | some (.lst _) => True
  | some (.dK _) => True
  | some (.dT _) => True
  | some (.set _ _) => True
  | some (.ins _ _ _) => True
  | some (.ext _) => True
  | _ => False
section
variable {P : Program} {w : World} {H : Hp} {h h' : Heap} {x e : Addr} {o' : HO}
theorem HOk.write (ok : HOk P w H h) (mu : Mut (H x)) (he : e = x ∨ H e = some (.own x)) (k : ∀ b u, b ≠ e → h.get? b = some u → h'.get? b = some u) (heo : ∃ u, h'.get? e = some u)
    (new : ObjOk P w (upd H x o') h' x o') : HOk P w (upd H x o') h' := fun b u q => by
  have nown : ∀ c y, H c = some (.own y) → c ≠ x := fun c y r z => by subst z; rw [r] at mu; exact mu
  have ntup : ∀ c xs, H c = some (.tup xs) → c ≠ x := fun c xs r z => by subst z; rw [r] at mu; exact mu
  by_cases hb : b = x
  · subst hb; rw [upd_same] at q; cases q; exact new
  · rw [upd_ne hb] at q
    by_cases hbe : b = e
    · have q' : H b = some (.own x) := by
        rcases he with z | z
        · exact absurd (hbe.trans z) hb
        · rw [hbe]; exact z
      rw [q] at q'; cases q'
      obtain ⟨v, hv⟩ := heo
      exact ⟨v, by rw [hbe]; exact hv⟩
    · refine (ok b u q).stay (fun c v hc r => k c v ?_ r) (fun c r => by rw [upd_ne (nown c b r)]; exact r) fun c xs r => by rw [upd_ne (ntup c xs r)]; exact r
      rcases hc with rfl | hc
      · exact hbe
      · rintro rfl
        rcases he with z | z
        · exact nown c b hc z
        · rw [hc] at z; cases z; exact hb rfl
end

structure Un (fs ex : List Addr) (H H' : Hp) (h h' : Heap) : Prop where
  keep : ∀ b o, h.get? b = some o → H b = none → b ∉ fs → b ∉ ex → h'.get? b = some o
  slot : ∀ b o, h.get? b = some o → H b = none → b ∈ fs → b ∉ ex → ∃ sl, h'.get? b = some { o with slots := sl }
  free : ∀ b o, h.get? b = some o → H b = none → b ∉ ex → H' b = none
  there : ∀ b o, h.get? b = some o → b ∉ ex → ∃ o', h'.get? b = some o'
  tups : ∀ b xs, H b = some (.tup xs) → H' b = some (.tup xs)
  frzs : ∀ b o u, H b = some (.frz o u) → H' b = some (.frz o u)
  tbls : ∀ b ps, H b = some (.tbl ps) → ∃ more, H' b = some (.tbl (ps ++ more))
section
variable {fs fs' ex ex' : List Addr} {H H1 H2 : Hp} {h h1 h2 h' : Heap} {a x e : Addr} {o : HO}
theorem Un.any (u : Un fs ex H H1 h h1) {b : Addr} {ob : Obj} (q : h.get? b = some ob) (n : H b = none) (hx : b ∉ ex) : ∃ sl, h1.get? b = some { ob with slots := sl } := by
  by_cases hb : b ∈ fs
  · exact u.slot b ob q n hb hx
  · exact ⟨ob.slots, u.keep b ob q n hb hx⟩
theorem Un.kept (k : ∀ b u, h.get? b = some u → h'.get? b = some u) : Un fs ex H H h h' :=
  ⟨fun b ob q _ _ _ => k b ob q, fun b ob q _ _ _ => ⟨ob.slots, k b ob q⟩, fun _ _ _ n _ => n, fun b ob q _ => ⟨ob, k b ob q⟩, fun _ _ q => q, fun _ _ _ q => q, fun _ ps q => ⟨#[], by rw [q]; simp⟩⟩
theorem Un.refl : Un fs ex H H h h := Un.kept fun _ _ q => q
theorem Un.laid (k : ∀ b u, h.get? b = some u → h'.get? b = some u) (hp : h.objs.size ≤ a) (hn : H a = none) : Un fs ex H (upd H a o) h h' where
  keep := fun b u q _ _ _ => k b u q
  slot := fun b u q _ _ _ => ⟨u.slots, k b u q⟩
  free := fun b u q n _ => by rw [upd_ne (Nat.ne_of_lt (Nat.lt_of_lt_of_le (Heap.lt_size q) hp))]; exact n
  there := fun b u q _ => ⟨u, k b u q⟩
  tups := fun b xs q => by rw [upd_ne (ne_of_none q hn)]; exact q
  frzs := fun b u xs q => by rw [upd_ne (ne_of_none q hn)]; exact q
  tbls := fun b ps q => ⟨#[], by rw [upd_ne (ne_of_none q hn), q]; simp⟩
theorem Un.write (mu : Mut (H x)) (he : e = x ∨ H e = some (.own x)) (k : ∀ b u, b ≠ e → h.get? b = some u → h'.get? b = some u) (heo : ∃ u, h'.get? e = some u) : Un fs ex H (upd H x o) h h' := by
  have hx : ∀ b, H b = none → b ≠ x := fun b n z => by subst z; rw [n] at mu; exact mu
  have hb : ∀ b, H b = none → b ≠ e := fun b n z => by
    subst z
    rcases he with r | r
    · exact hx b n r
    · rw [n] at r; cases r
  have hm : ∀ b u, H b = some u → ¬ Mut (some u) → b ≠ x := fun b u q nm z => by subst z; rw [q] at mu; exact nm mu
  refine ⟨fun b u q n _ _ => k b u (hb b n) q, fun b u q n _ _ => ⟨u.slots, k b u (hb b n) q⟩, fun b u q n _ => by rw [upd_ne (hx b n)]; exact n, fun b u q _ => ?_,
    fun b xs q => by rw [upd_ne (hm b _ q fun z => z)]; exact q, fun b u xs q => by rw [upd_ne (hm b _ q fun z => z)]; exact q, fun b ps q => ⟨#[], by rw [upd_ne (hm b _ q fun z => z), q]; simp⟩⟩
  by_cases hbe : b = e
  · subst hbe; exact heo
  · exact ⟨u, k b u hbe q⟩
end

noncomputable def trk (h : Heap) (H : Hp) : List Addr := (List.range h.objs.size).filter fun a => (H a).isSome
noncomputable def hidT (h : Heap) (H : Hp) : Heap := PySem.W.hideAll h (trk h H)
theorem hidT_size (h : Heap) (H : Hp) : (hidT h H).objs.size = h.objs.size := PySem.W.hideAll_size _ _
theorem hidT_get {h : Heap} {H : Hp} {b : Addr} {o : Obj} (e : h.get? b = some o) (n : H b = none) : (hidT h H).get? b = some o :=
  PySem.W.hideAll_get _ e fun hm => by
    have q : (H b).isSome = true := (List.mem_filter.mp hm).2
    rw [n] at q; simp at q
theorem of_hidT {h : Heap} {H : Hp} {b : Addr} {o : Obj} (e : (hidT h H).get? b = some o) : h.get? b = some o ∧ H b = none := by
  have e' : h.get? b = some o := PySem.W.of_hideAll (trk h H) e
  refine ⟨e', ?_⟩
  cases q : H b with
  | none => rfl
  | some x =>
    have hm : b ∈ trk h H := List.mem_filter.mpr ⟨List.mem_range.mpr (Heap.lt_size e'), by simp [q]⟩
    have z : (hidT h H).get? b = none := PySem.W.hideAll_none (trk h H) hm
    rw [z] at e; cases e

noncomputable def allNews (g h : Heap) (L : Addr) : List (Addr × Obj) := (List.range h.objs.size).filterMap fun a => if a = L ∨ (g.get? a).isSome = true then none else (h.get? a).map fun o => (a, o)
noncomputable def rest (g h : Heap) (L d : Addr) : List (Addr × Obj) := (allNews g h L).filter fun p => decide (p.1 ≠ d)
end L2

namespace L2
open PySem PySem.Spec PyProof.Rows

structure Mod (K : PySem.W.Frag) (mg : Str → Option Value) (base : Heap) : Prop where
  kin : K.In base
  glob : base.Ns mainGlobals mg
  blt : ∃ mb, base.Ns builtinsNs mb ∧ ∀ x : Str, x ≠ "__name__" → mb x = bootBuiltins x
  nolimit : base.NoLimit

set_option genInjectivity false in
set_option genSizeOfSpec false in
structure Cx where
  prog : Program
  w : World
  K : PySem.W.Frag
  mg : Str → Option Value
  base : Heap
  A : Around
  N : List Str
  s₀ : Shared
  H₀ : Hp
  env : Env
  outer : List Env
  stack : List Env
  ex : List Addr
  fn : Str → Bool
  calm : Bool
  pn : List (Addr × Obj)
  xe : Value → Shared → Prop
noncomputable def frs (l : List Env) : List Addr := l.filterMap (·.frame)
noncomputable abbrev Cx.fs (X : Cx) : List Addr := frs X.outer

noncomputable def Vis (sc : Scope) (x : Str) : Prop := sc.names.lookup x = some .local ∨ sc.names.lookup x = some .cell ∨ sc.names.lookup x = some .free
noncomputable def Loc (sc : Scope) (x : Str) : Prop := sc.names.lookup x = some .local ∨ sc.names.lookup x = some .cell
noncomputable def Look (env : Env) (h : Heap) (m : Str → Option Value) (x : Str) (u : Value) : Prop :=
  (env.kindOf x = some .local ∧ m x = some u) ∨ ((env.kindOf x = some .cell ∨ env.kindOf x = some .free) ∧ ∃ c, env.cells.lookup x = some c ∧ h.IsCell c (some u))

set_option genInjectivity false in
set_option genSizeOfSpec false in
structure Cx.Ok (X : Cx) : Prop where
  mod : Mod X.K X.mg X.base
  kind : X.env.scope.kind = .function
  glob : X.env.globals = mainGlobals
  blt : X.env.builtins = builtinsNs
  above : X.s₀.heap.objs.size ≤ X.env.locals
  inj : ∀ x y c, X.env.cells.lookup x = some c → X.env.cells.lookup y = some c → x = y
  has : ∀ x, (X.env.kindOf x = some .cell ∨ X.env.kindOf x = some .free) → ∃ c, X.env.cells.lookup x = some c
  cab : ∀ x c, X.fn x = true → X.env.cells.lookup x = some c → X.s₀.heap.objs.size ≤ c
  hd : X.calm = true → X.A.handled = none
  frames : X.A.frames = some X.stack
  stk : X.stack = X.outer ∨ (X.stack = X.env :: X.outer ∧ X.env.frame = some X.env.locals)
  exf : ∀ b ∈ X.ex, b ≠ X.env.locals ∧ ∀ x c, X.env.cells.lookup x = some c → c ≠ b
  bs : ∀ b o, X.base.get? b = some o → X.s₀.heap.get? b = some o ∧ X.H₀ b = none
  bsz : X.base.objs.size ≤ X.s₀.heap.objs.size
  noex : ∀ b o, X.base.get? b = some o → b ∉ X.ex
  exfs : ∀ b ∈ X.ex, b ∉ X.fs
  funs : X.s₀.heap.FunFrames X.base X.outer
  frf : ∀ b ∈ X.fs, X.H₀ b = none

structure Inv (X : Cx) (pins : List (Addr × Obj)) (σ : List (Option V)) (H : Hp) (s : Shared) : Prop where
  ok : X.Ok
  os : s.os = X.s₀.os
  bare : AllBare s.gens
  base : Un X.fs X.ex X.H₀ H X.s₀.heap s.heap
  loc : ∃ m, s.heap.Ns X.env.locals m ∧ ∀ (i : Nat) (x : Str) (v : V), X.N[i]? = some x → σ[i]? = some (some v) → Vis X.env.scope x → ∃ u, RelV v u ∧ Look X.env s.heap m x u
  cell : ∀ x c, X.env.cells.lookup x = some c → ∃ v, s.heap.IsCell c v
  free : H X.env.locals = none
  freeC : ∀ x c, X.env.cells.lookup x = some c → H c = none
  pin : ∀ p ∈ X.pn ++ pins, s.heap.get? p.1 = some p.2 ∧ H p.1 = none ∧ p.1 ≠ X.env.locals ∧ p.1 ∉ X.fs ∧ ∀ v, p.2.data ≠ .cell v
  hok : HOk X.prog X.w H s.heap
  len : σ.length = X.N.length

section
variable {X : Cx} {pins : List (Addr × Obj)} {σ : List (Option V)} {H H' : Hp} {s : Shared} {h' : Heap}

theorem Cx.Ok.nofr (ok : X.Ok) {b : Addr} {o : Obj} (e : X.base.get? b = some o) : b ∉ X.fs := fun hb => by
  have := (ok.funs.mem hb).1
  rw [e] at this; cases this
theorem Inv.bs (I : Inv X pins σ H s) : ∀ b o, X.base.get? b = some o → s.heap.get? b = some o ∧ H b = none := fun b o e =>
  ⟨I.base.keep b o (I.ok.bs b o e).1 (I.ok.bs b o e).2 (I.ok.nofr e) (I.ok.noex b o e), I.base.free b o (I.ok.bs b o e).1 (I.ok.bs b o e).2 (I.ok.noex b o e)⟩
theorem Inv.bk (I : Inv X pins σ H s) : ∀ b o, X.base.get? b = some o → s.heap.get? b = some o := fun b o e => (I.bs b o e).1
theorem Inv.mod (I : Inv X pins σ H s) : Mod X.K X.mg X.base := I.ok.mod
theorem Inv.kIn (I : Inv X pins σ H s) : X.K.In s.heap := I.ok.mod.kin.keeps I.bk
theorem Inv.lt (I : Inv X pins σ H s) : X.env.locals < s.heap.objs.size := let ⟨_, hn, _⟩ := I.loc; hn.lt
theorem Inv.sz (I : Inv X pins σ H s) : X.s₀.heap.objs.size ≤ s.heap.objs.size := Nat.le_trans I.ok.above (Nat.le_of_lt I.lt)
theorem Inv.nofs (I : Inv X pins σ H s) {a : Addr} (h : s.heap.objs.size ≤ a) : a ∉ X.fs := fun hb => by
  obtain ⟨_, o, ho, _⟩ := I.ok.funs.mem hb
  exact absurd (Nat.lt_of_lt_of_le (Heap.lt_size ho) (Nat.le_trans I.sz h)) (Nat.lt_irrefl _)
theorem Inv.cne (I : Inv X pins σ H s) : ∀ x c, X.env.cells.lookup x = some c → c ≠ X.env.locals := fun x c e z => by
  obtain ⟨v, o, ho, hd⟩ := I.cell x c e
  obtain ⟨m, ⟨o', es, ep, ho', hd', _⟩, _⟩ := I.loc
  rw [z, ho'] at ho; cases ho; rw [hd'] at hd; cases hd
theorem Inv.funs (I : Inv X pins σ H s) : s.heap.FunFrames X.base X.outer := by
  have all : ∀ (l : List Env), (∀ b ∈ frs l, b ∈ X.fs) → X.s₀.heap.FunFrames X.base l → s.heap.FunFrames X.base l := by
    intro l
    induction l with
    | nil => intro _ _; trivial
    | cons env r ih =>
      intro hs hl
      obtain ⟨hk, ⟨L, o, hf, hn, ho, hd⟩, hr⟩ := hl
      have hL : L ∈ X.fs := hs L (by unfold frs; rw [List.filterMap_cons, hf]; exact List.mem_cons_self)
      obtain ⟨sl, e⟩ := I.base.slot L o ho (I.ok.frf L hL) hL fun z => I.ok.exfs L z hL
      exact ⟨hk, ⟨L, _, hf, hn, e, hd⟩, ih (fun b hb => hs b (by unfold frs; rw [List.filterMap_cons, hf]; exact List.mem_cons_of_mem _ hb)) hr⟩
  exact all X.outer (fun _ hb => hb) I.ok.funs

theorem Inv.stack (I : Inv X pins σ H s) : s.heap.FunFrames X.base X.stack := by
  rcases I.ok.stk with e | ⟨e, hf⟩
  · rw [e]; exact I.funs
  · rw [e]
    obtain ⟨m, hn, _⟩ := I.loc
    refine .cons (by rw [I.ok.kind]; decide) hf hn ?_ I.funs
    exact Heap.get?_none_of_le (Nat.le_trans I.ok.bsz I.ok.above)
theorem Inv.stkSub (I : Inv X pins σ H s) : ∀ b ∈ frs X.stack, b ∈ X.env.locals :: X.fs := fun b hb => by
  rcases I.ok.stk with e | ⟨e, hf⟩
  · rw [e] at hb; exact List.mem_cons_of_mem _ hb
  · rw [e] at hb
    unfold frs at hb
    rw [List.filterMap_cons, hf] at hb
    exact hb
theorem Inv.stkFree (I : Inv X pins σ H s) : ∀ b ∈ frs X.stack, H b = none := fun b hb => by
  rcases List.mem_cons.mp (I.stkSub b hb) with e | hb
  · rw [e]; exact I.free
  · obtain ⟨_, o, ho, _⟩ := I.ok.funs.mem hb
    exact I.base.free b o ho (I.ok.frf b hb) fun z => I.ok.exfs b z hb

theorem Inv.step {g' : Array GenState} {t' : Nat} {d' : Drawn} {ch : List Addr} (I : Inv X pins σ H s)
    (hch : ∀ b ∈ ch, (b ∈ X.ex ∨ X.s₀.heap.objs.size ≤ b) ∧ b ≠ X.env.locals ∧ (∀ x c, X.env.cells.lookup x = some c → c ≠ b) ∧ ∀ p ∈ X.pn ++ pins, p.1 ≠ b)
    (keep : ∀ b o, b ≠ X.env.locals → b ∉ X.fs → b ∉ ch → s.heap.get? b = some o → H b = none → h'.get? b = some o)
    (slot : ∀ b o, b ≠ X.env.locals → b ∈ X.fs → b ∉ ch → s.heap.get? b = some o → H b = none → ∃ sl, h'.get? b = some { o with slots := sl }) (free : ∀ b o, b ∉ ch → s.heap.get? b = some o → H b = none → H' b = none)
    (there : ∀ b o, b ∉ ch → s.heap.get? b = some o → ∃ o', h'.get? b = some o')
    (tups : ∀ b xs, H b = some (.tup xs) → H' b = some (.tup xs)) (frzs : ∀ b o u, H b = some (.frz o u) → H' b = some (.frz o u)) (tbls : ∀ b ps, H b = some (.tbl ps) → ∃ more, H' b = some (.tbl (ps ++ more)))
    (ns : ∀ m, s.heap.Ns X.env.locals m → h'.Ns X.env.locals m) (hok : HOk X.prog X.w H' h') (hg : AllBare g') :
    Inv X pins σ H' { s with heap := h', gens := g', drawn := d', toks := t' } := by
  have neL : ∀ b o, X.s₀.heap.get? b = some o → b ≠ X.env.locals := fun b o e => Nat.ne_of_lt (Nat.lt_of_lt_of_le (Heap.lt_size e) I.ok.above)
  have neC : ∀ b o, X.s₀.heap.get? b = some o → b ∉ X.ex → b ∉ ch := fun b o e hx hb => by
    rcases (hch b hb).1 with z | z
    · exact hx z
    · exact absurd (Nat.lt_of_lt_of_le (Heap.lt_size e) z) (Nat.lt_irrefl _)
  have cellK : ∀ x c, X.env.cells.lookup x = some c → ∀ v, s.heap.IsCell c v → h'.IsCell c v := fun x c e v ⟨o, ho, hd⟩ => by
    have nch : c ∉ ch := fun z => (hch c z).2.2.1 x c e rfl
    by_cases hc : c ∈ X.fs
    · obtain ⟨sl, q⟩ := slot c o (I.cne x c e) hc nch ho (I.freeC x c e)
      exact ⟨_, q, hd⟩
    · exact ⟨o, keep c o (I.cne x c e) hc nch ho (I.freeC x c e), hd⟩
  refine ⟨I.ok, I.os, hg, ⟨fun b o e n hb hx => ?_, fun b o e n hb hx => ?_, fun b o e n hx => ?_, fun b o e hx => ?_, fun b xs e => tups b xs (I.base.tups b xs e), fun b o xs e => frzs b o xs (I.base.frzs b o xs e), fun b ps e => ?_⟩, ?_, fun x c e => ?_, ?_, fun x c e => ?_, fun p hp => ?_, hok, I.len⟩
  · exact keep b o (neL b o e) hb (neC b o e hx) (I.base.keep b o e n hb hx) (I.base.free b o e n hx)
  · obtain ⟨sl, e1⟩ := I.base.slot b o e n hb hx
    obtain ⟨sl', e2⟩ := slot b _ (neL b o e) hb (neC b o e hx) e1 (I.base.free b o e n hx)
    exact ⟨sl', e2⟩
  · obtain ⟨o', e1⟩ := I.base.there b o e hx
    exact free b o' (neC b o e hx) e1 (I.base.free b o e n hx)
  · obtain ⟨o', e1⟩ := I.base.there b o e hx
    exact there b o' (neC b o e hx) e1
  · obtain ⟨m1, e1⟩ := I.base.tbls b ps e
    obtain ⟨m2, e2⟩ := tbls b _ e1
    exact ⟨m1 ++ m2, by rw [e2, Array.append_assoc]⟩
  · obtain ⟨m, hn, hl⟩ := I.loc
    refine ⟨m, ns m hn, fun i x v e1 e2 e3 => ?_⟩
    obtain ⟨u, r, l⟩ := hl i x v e1 e2 e3
    refine ⟨u, r, ?_⟩
    rcases l with l | ⟨k, c, e, z⟩
    · exact .inl l
    · exact .inr ⟨k, c, e, cellK x c e _ z⟩
  · obtain ⟨v, z⟩ := I.cell x c e
    exact ⟨v, cellK x c e v z⟩
  · obtain ⟨m, ⟨o, _, _, ho, _⟩, _⟩ := I.loc
    exact free _ o (fun z => (hch _ z).2.1 rfl) ho I.free
  · obtain ⟨v, o, ho, hd⟩ := I.cell x c e
    exact free c o (fun z => (hch c z).2.2.1 x c e rfl) ho (I.freeC x c e)
  · obtain ⟨e, n, ne, nf, d⟩ := I.pin p hp
    have nch : p.1 ∉ ch := fun z => (hch p.1 z).2.2.2 p hp rfl
    exact ⟨keep p.1 p.2 ne nf nch e n, free p.1 p.2 nch e n, ne, nf, d⟩
theorem Inv.un {t' : Nat} (I : Inv X pins σ H s) (u : Un X.fs [] H H' s.heap h') (hok : HOk X.prog X.w H' h') : Inv X pins σ H' { s with heap := h', toks := t' } := by
  obtain ⟨m, ⟨o, es, ep, ho, r⟩, _⟩ := id I.loc
  obtain ⟨sl, hL⟩ := u.any ho I.free (by simp)
  exact I.step (g' := s.gens) (d' := s.drawn) (ch := []) (fun _ z => nomatch z) (fun b o _ hb _ e n => u.keep b o e n hb (by simp)) (fun b o _ hb _ e n => u.slot b o e n hb (by simp)) (fun b o _ e n => u.free b o e n (by simp)) (fun b o _ e => u.there b o e (by simp)) u.tups u.frzs u.tbls (fun m' hm => by
    obtain ⟨o', es', ep', ho', r'⟩ := hm
    rw [ho] at ho'; cases ho'
    exact ⟨_, es', ep', hL, r'⟩) hok I.bare
theorem Inv.call {g' : Array GenState} {t' : Nat} {d' : Drawn} {ch : List Addr} (I : Inv X pins σ H s) (u : Un (frs X.stack) ch H H' s.heap h') (hok : HOk X.prog X.w H' h') (hg : AllBare g')
    (hch : ∀ b ∈ ch, (b ∈ X.ex ∨ X.s₀.heap.objs.size ≤ b) ∧ b ≠ X.env.locals ∧ (∀ x c, X.env.cells.lookup x = some c → c ≠ b) ∧ ∀ p ∈ X.pn ++ pins, p.1 ≠ b) :
    Inv X pins σ H' { s with heap := h', gens := g', drawn := d', toks := t' } := by
  obtain ⟨m, ⟨o, es, ep, ho, r⟩, _⟩ := id I.loc
  obtain ⟨sl, hL⟩ := u.any ho I.free fun z => (hch _ z).2.1 rfl
  exact I.step (ch := ch) hch (fun b o hL hb hc e n => u.keep b o e n (fun z => (List.mem_cons.mp (I.stkSub b z)).elim hL hb) hc) (fun b o _ _ hc e n => u.any e n hc) (fun b o hc e n => u.free b o e n hc) (fun b o hc e => u.there b o e hc) u.tups u.frzs u.tbls (fun m' hm => by
    obtain ⟨o', es', ep', ho', r'⟩ := hm
    rw [ho] at ho'; cases ho'
    exact ⟨_, es', ep', hL, r'⟩) hok hg
theorem Inv.turned {t' : Nat} {it : Addr} (I : Inv X pins σ H s) (k : ∀ b o, b ≠ it → s.heap.get? b = some o → h'.get? b = some o) (hn : H it = none) (hL : it ≠ X.env.locals)
    (h1 : it ∈ X.ex ∨ X.s₀.heap.objs.size ≤ it) (h2 : ∀ x c, X.env.cells.lookup x = some c → c ≠ it) (h3 : ∀ p ∈ X.pn ++ pins, p.1 ≠ it) : Inv X pins σ H { s with heap := h', toks := t' } := by
  have nit : ∀ b u, H b = some u → b ≠ it := fun b u e z => by rw [z, hn] at e; cases e
  refine I.step (g' := s.gens) (d' := s.drawn) (ch := [it]) (fun b hb => ?_) (fun b o _ _ hc e _ => k b o (fun z => hc (by simp [z])) e) (fun b o _ _ hc e _ => ⟨o.slots, k b o (fun z => hc (by simp [z])) e⟩) (fun _ _ _ _ n => n)
    (fun b o hc e => ⟨o, k b o (fun z => hc (by simp [z])) e⟩) (fun _ _ e => e) (fun _ _ _ e => e) (fun b ps e => ⟨#[], by rw [e]; simp⟩) (fun m hm => ?_) (fun b u e => ?_) I.bare
  · have e : b = it := by simpa using hb
    subst e
    exact ⟨h1, hL, h2, h3⟩
  · obtain ⟨o, es, ep, ho, r⟩ := hm
    exact ⟨o, es, ep, k _ o (Ne.symm hL) ho, r⟩
  · refine (I.hok b u e).stay (fun c v hc q => k c v ?_ q) (fun _ q => q) fun _ _ q => q
    rcases hc with z | z
    · rw [z]; exact nit b u e
    · exact nit c _ z
theorem Inv.tok (I : Inv X pins σ H s) (t : Nat) : Inv X pins σ H { s with toks := t } := I.un (h' := s.heap) (t' := t) Un.refl I.hok
theorem Inv.kept {t' : Nat} (I : Inv X pins σ H s) (k : ∀ b u, s.heap.get? b = some u → h'.get? b = some u) : Inv X pins σ H { s with heap := h', toks := t' } := I.un (Un.kept k) (I.hok.kept k)
theorem Inv.laid {a : Addr} {o : HO} {t' : Nat} (I : Inv X pins σ H s) (k : ∀ b u, s.heap.get? b = some u → h'.get? b = some u) (hp : s.heap.objs.size ≤ a) (new : ObjOk X.prog X.w (upd H a o) h' a o) :
    Inv X pins σ (upd H a o) { s with heap := h', toks := t' } := I.un (Un.laid k hp (I.hok.fresh hp)) (I.hok.laid k hp new)
theorem Inv.write {x e : Addr} {o : HO} {t' : Nat} (I : Inv X pins σ H s) (mu : Mut (H x)) (he : e = x ∨ H e = some (.own x)) (k : ∀ b u, b ≠ e → s.heap.get? b = some u → h'.get? b = some u) (heo : ∃ u, h'.get? e = some u)
    (new : ObjOk X.prog X.w (upd H x o) h' x o) : Inv X pins σ (upd H x o) { s with heap := h', toks := t' } := I.un (Un.write mu he k heo) (I.hok.write mu he k heo new)
theorem Inv.pins_of {pins' : List (Addr × Obj)} (I : Inv X pins σ H s) (h : ∀ p ∈ pins', s.heap.get? p.1 = some p.2 ∧ H p.1 = none ∧ p.1 ≠ X.env.locals ∧ p.1 ∉ X.fs ∧ ∀ v, p.2.data ≠ .cell v) : Inv X pins' σ H s :=
  ⟨I.ok, I.os, I.bare, I.base, I.loc, I.cell, I.free, I.freeC, fun p hp => (List.mem_append.mp hp).elim (fun z => I.pin p (List.mem_append_left _ z)) (h p), I.hok, I.len⟩

theorem nodup_ix {N : List Str} (hN : N.Nodup) {i j : Nat} {x : Str} (a : N[i]? = some x) (b : N[j]? = some x) : i = j := by
  obtain ⟨h1, e1⟩ := List.getElem?_eq_some_iff.mp a
  obtain ⟨h2, e2⟩ := List.getElem?_eq_some_iff.mp b
  exact (List.getElem_inj hN).mp (e1.trans e2.symm)

theorem store_ok2 {M : Model} {A : Around} {E : Value → Shared → Prop} {i : Nat} {x : Str} {v : V} {u : Value} {Q : Unit → Shared → Prop} (I : Inv X pins σ H s) (hN : X.N.Nodup) (hi : X.N[i]? = some x) (hx : Loc X.env.scope x) (r : RelV v u)
    (h : ∀ s', Inv X pins (σ.set i (some v)) H s' → (∃ a, Heap.SameBut a s.heap s'.heap ∧ (a = X.env.locals ∨ X.env.cells.lookup x = some a)) → Q () s') (hf : X.fn x = true ∨ X.env.scope.names.lookup x = some .local := by first | exact .inl rfl | exact .inr rfl | assumption) : wpAny M A (storeName X.env x u) Q E s := by
  obtain ⟨m, hn, hl⟩ := id I.loc
  have hcls : (X.env.scope.kind == .class || (X.env.scope.kind == .module && X.env.locals != X.env.globals)) = false := by rw [I.ok.kind]; rfl
  have hiσ : i < σ.length := by rw [I.len]; exact (List.getElem?_eq_some_iff.mp hi).1
  have cne := I.cne
  have tracked : ∀ {a : Addr} {h' : Heap}, (∃ o, s.heap.get? a = some o ∧ H a = none) → Heap.SameBut a s.heap h' → HOk X.prog X.w H h' := fun {a h'} ha hs b ob e => by
    obtain ⟨_, _, hfree⟩ := ha
    refine (I.hok b ob e).stay (fun c w' hc q => (hs.2 c ?_).trans q) (fun _ q => q) fun _ _ q => q
    rintro rfl
    rcases hc with rfl | hc
    · rw [hfree] at e; cases e
    · rw [hfree] at hc; cases hc
  rcases hx with hk | hk
  · refine wpAny_storeName_local hk hn (fun h' hn' hs => ?_) hcls
    obtain ⟨oL, _, _, hoL, _⟩ := id hn
    refine h _ ⟨I.ok, I.os, I.bare, ⟨fun b o e n hb hx => ?_, fun b o e n hb hx => ?_, I.base.free, fun b o e hx => ?_, I.base.tups, I.base.frzs, I.base.tbls⟩, ⟨_, hn', fun j y v' e1 e2 e3 => ?_⟩, fun y c e => ?_, I.free, I.freeC, fun p hp => ?_, tracked ⟨oL, hoL, I.free⟩ hs, by simpa using I.len⟩ ⟨_, hs, .inl rfl⟩
    · exact (hs.2 b (Nat.ne_of_lt (Nat.lt_of_lt_of_le (Heap.lt_size e) I.ok.above))).trans (I.base.keep b o e n hb hx)
    · obtain ⟨sl, e1⟩ := I.base.slot b o e n hb hx
      exact ⟨sl, (hs.2 b (Nat.ne_of_lt (Nat.lt_of_lt_of_le (Heap.lt_size e) I.ok.above))).trans e1⟩
    · obtain ⟨o', e1⟩ := I.base.there b o e hx
      exact ⟨o', (hs.2 b (Nat.ne_of_lt (Nat.lt_of_lt_of_le (Heap.lt_size e) I.ok.above))).trans e1⟩
    · by_cases hj : j = i
      · subst hj
        rw [hi] at e1; cases e1
        rw [List.getElem?_set_self hiσ] at e2
        cases e2
        exact ⟨u, r, .inl ⟨hk, by simp⟩⟩
      · rw [List.getElem?_set_ne (Ne.symm hj)] at e2
        obtain ⟨u', r', q⟩ := hl j y v' e1 e2 e3
        refine ⟨u', r', ?_⟩
        rcases q with ⟨k, e⟩ | ⟨k, c, e, z⟩
        · refine .inl ⟨k, ?_⟩
          have : y ≠ x := fun e => hj (nodup_ix hN e1 (e ▸ hi))
          simp [this, e]
        · exact .inr ⟨k, c, e, z.sameBut hs (cne y c e)⟩
    · obtain ⟨w', z⟩ := I.cell y c e
      exact ⟨w', z.sameBut hs (cne y c e)⟩
    · obtain ⟨e, n, ne, nf, d⟩ := I.pin p hp
      exact ⟨(hs.2 p.1 ne).trans e, n, ne, nf, d⟩
  · have hfn : X.fn x = true := by
      rcases hf with z | z
      · exact z
      · rw [z] at hk; cases hk
    obtain ⟨c, hc⟩ := I.ok.has x (.inl hk)
    obtain ⟨w', z⟩ := I.cell x c hc
    refine wpAny_storeName_cell I.ok.kind hk hc z (fun h' hc' hs => ?_)
    obtain ⟨oc, hoc, hocd⟩ := id z
    refine h { s with heap := h' } ⟨I.ok, I.os, I.bare, ⟨fun b o e n hb hx => ?_, fun b o e n hb hx => ?_, I.base.free, fun b o e hx => ?_, I.base.tups, I.base.frzs, I.base.tbls⟩, ⟨m, hn.sameBut hs (Ne.symm (cne x c hc)), fun j y v' e1 e2 e3 => ?_⟩, fun y c' e => ?_, I.free, I.freeC, fun p hp => ?_, tracked ⟨oc, hoc, I.freeC x c hc⟩ hs, by simpa using I.len⟩ ⟨c, hs, .inr hc⟩
    · exact (hs.2 b (Nat.ne_of_lt (Nat.lt_of_lt_of_le (Heap.lt_size e) (I.ok.cab x c hfn hc)))).trans (I.base.keep b o e n hb hx)
    · obtain ⟨sl, e1⟩ := I.base.slot b o e n hb hx
      exact ⟨sl, (hs.2 b (Nat.ne_of_lt (Nat.lt_of_lt_of_le (Heap.lt_size e) (I.ok.cab x c hfn hc)))).trans e1⟩
    · obtain ⟨o', e1⟩ := I.base.there b o e hx
      exact ⟨o', (hs.2 b (Nat.ne_of_lt (Nat.lt_of_lt_of_le (Heap.lt_size e) (I.ok.cab x c hfn hc)))).trans e1⟩
    · by_cases hj : j = i
      · subst hj
        rw [hi] at e1; cases e1
        rw [List.getElem?_set_self hiσ] at e2
        cases e2
        exact ⟨u, r, .inr ⟨.inl hk, c, hc, hc'⟩⟩
      · rw [List.getElem?_set_ne (Ne.symm hj)] at e2
        obtain ⟨u', r', q⟩ := hl j y v' e1 e2 e3
        refine ⟨u', r', ?_⟩
        rcases q with q | ⟨k, c', e, z'⟩
        · exact .inl q
        · refine .inr ⟨k, c', e, z'.sameBut hs ?_⟩
          rintro rfl
          exact hj (nodup_ix hN e1 (I.ok.inj _ _ _ e hc ▸ hi))
    · by_cases hcc : c' = c
      · subst hcc; exact ⟨_, hc'⟩
      · obtain ⟨w2, z2⟩ := I.cell y c' e
        exact ⟨w2, z2.sameBut hs hcc⟩
    · obtain ⟨e, n, ne, nf, d⟩ := I.pin p hp
      refine ⟨(hs.2 p.1 ?_).trans e, n, ne, nf, d⟩
      intro q
      rw [q, hoc] at e
      have q' : oc = p.2 := Option.some.inj e
      exact d w' (by rw [← q']; exact hocd)
theorem store_ok {M : Model} {A : Around} {E : Value → Shared → Prop} {i : Nat} {x : Str} {v : V} {u : Value} {Q : Unit → Shared → Prop} (I : Inv X pins σ H s) (hN : X.N.Nodup) (hi : X.N[i]? = some x) (hx : Loc X.env.scope x) (r : RelV v u)
    (h : ∀ s', Inv X pins (σ.set i (some v)) H s' → Q () s') (hf : X.fn x = true ∨ X.env.scope.names.lookup x = some .local := by first | exact .inl rfl | exact .inr rfl | assumption) : wpAny M A (storeName X.env x u) Q E s :=
  store_ok2 I hN hi hx r (fun s' I' _ => h s' I') hf
theorem Inv.call' {s' : Shared} {ch : List Addr} (I : Inv X pins σ H s) (ho : s'.os = s.os) (u : Un (frs X.stack) ch H H' s.heap s'.heap) (hok : HOk X.prog X.w H' s'.heap) (hg : AllBare s'.gens)
    (hch : ∀ b ∈ ch, (b ∈ X.ex ∨ X.s₀.heap.objs.size ≤ b) ∧ b ≠ X.env.locals ∧ (∀ x c, X.env.cells.lookup x = some c → c ≠ b) ∧ ∀ p ∈ X.pn ++ pins, p.1 ≠ b) : Inv X pins σ H' s' := by
  obtain ⟨h', g', d', t', o'⟩ := s'
  have e : o' = s.os := ho
  subst e
  exact I.call (g' := g') (t' := t') (d' := d') u hok hg hch
end

noncomputable abbrev XK := Value → Option Addr → Hp → Prop
noncomputable abbrev St := List (Option V)
noncomputable abbrev VK := V → Hp → Prop
noncomputable abbrev TE := St → Hp → VK → Prop
noncomputable abbrev TT := St → Hp → (Bool → Hp → Prop) → Prop
noncomputable abbrev TA := St → Hp → (List V → Hp → Prop) → Prop
structure Ends where
  nx : St → Hp → Prop
  rt : VK
  bk : St → Hp → Prop := fun _ _ => False
  ct : St → Hp → Prop := fun _ _ => False
noncomputable abbrev TS := Ends → St → Hp → Prop

noncomputable def EP (X : Cx) (pins : List (Addr × Obj)) (σ : St) (Q : VK) (u : Value) (s' : Shared) : Prop := ∃ v H', Inv X pins σ H' s' ∧ RelV v u ∧ Q v H'
noncomputable def TP (X : Cx) (pins : List (Addr × Obj)) (σ : St) (Q : Bool → Hp → Prop) (b : Bool) (s' : Shared) : Prop := ∃ H', Inv X pins σ H' s' ∧ Q b H'
noncomputable def AP (X : Cx) (pins : List (Addr × Obj)) (σ : St) (Q : List V → Hp → Prop) (us : List Value) (s' : Shared) : Prop := ∃ vs H', Inv X pins σ H' s' ∧ Vals vs us ∧ Q vs H'
noncomputable def SP (X : Cx) (pins : List (Addr × Obj)) (D : Ends) (f : Flow) (s' : Shared) : Prop :=
  match f with
  | .next => ∃ σ' H', Inv X pins σ' H' s' ∧ D.nx σ' H'
  | .brk => ∃ σ' H', Inv X pins σ' H' s' ∧ D.bk σ' H'
  | .cont => ∃ σ' H', Inv X pins σ' H' s' ∧ D.ct σ' H'
  | .ret u => ∃ v σ' H', Inv X pins σ' H' s' ∧ RelV v u ∧ D.rt v H'

noncomputable def PE (X : Cx) (e : Expr) (t : TE) : Prop :=
  ∀ (pins : List (Addr × Obj)) (s : Shared) (σ : St) (H : Hp) (Q : VK), Inv X pins σ H s → t σ H Q → wpAny (model X.prog X.w) X.A (eval e X.env) (EP X pins σ Q) X.xe s
noncomputable def PT (X : Cx) (e : Expr) (t : TT) : Prop :=
  ∀ (pins : List (Addr × Obj)) (s : Shared) (σ : St) (H : Hp) (Q : Bool → Hp → Prop), Inv X pins σ H s → t σ H Q → wpAny (model X.prog X.w) X.A (isTrue e X.env (eval e X.env)) (TP X pins σ Q) X.xe s
noncomputable def PW (X : Cx) (e : Expr) (t : TT) : Prop :=
  ∀ (whole : Sem Value) (pins : List (Addr × Obj)) (s : Shared) (σ : St) (H : Hp) (Q : Bool → Hp → Prop), Inv X pins σ H s → t σ H Q → wpAny (model X.prog X.w) X.A (isTrue e X.env whole) (TP X pins σ Q) X.xe s
theorem PW.pt {X : Cx} {e : Expr} {t : TT} (h : PW X e t) : PT X e t := h _
noncomputable def PA (X : Cx) (es : List Expr) (t : TA) : Prop :=
  ∀ (pos : Pos) (pins : List (Addr × Obj)) (s : Shared) (σ : St) (H : Hp) (Q : List V → Hp → Prop), Inv X pins σ H s → t σ H Q → wpAny (model X.prog X.w) X.A (spliced (backTo pos (starEach es X.env))) (AP X pins σ Q) X.xe s
noncomputable def PS (X : Cx) (st : Stmt) (t : TS) : Prop :=
  ∀ (pins : List (Addr × Obj)) (s : Shared) (σ : St) (H : Hp) (D : Ends), Inv X pins σ H s → t D σ H → wpAny (model X.prog X.w) X.A (exec st X.env) (SP X pins D) X.xe s
noncomputable def PSs (X : Cx) (st : List Stmt) (t : TS) : Prop :=
  ∀ (pins : List (Addr × Obj)) (s : Shared) (σ : St) (H : Hp) (D : Ends), Inv X pins σ H s → t D σ H → wpAny (model X.prog X.w) X.A (execs st X.env) (SP X pins D) X.xe s
theorem thn {α : Type} {t : Sem α} {Q Q' : α → Shared → Prop} {M : Model} {A : Around} {E : Value → Shared → Prop} {s : Shared} (h : wpAny M A t Q E s) (hQ : ∀ a s, Q a s → Q' a s) : wpAny M A t Q' E s := wpAny_mono h hQ fun _ _ x => x
end L2

namespace L2
open PySem PySem.Spec PyProof.Rows
section
variable {X : Cx}

noncomputable def tVar (i : Nat) : TE := fun σ H Q => ∃ v, σ[i]? = some (some v) ∧ Q v H
noncomputable def tC (v : V) : TE := fun _ H Q => Q v H
theorem pe_var {i : Nat} {x : Str} {pos : Pos} (hN : X.N[i]? = some x) (hv : Vis X.env.scope x) (hd : (x == ("__debug__" : Str)) = false := by decide) (hcd : (x == ("__classdict__" : Str)) = false := by decide) : PE X (.Name x pos) (tVar i) := by
  intro pins s σ H Q I h
  obtain ⟨v, e, h⟩ := h
  obtain ⟨m, hn, hl⟩ := I.loc
  obtain ⟨u, r, l⟩ := hl i x v hN e hv
  have fin : EP X pins σ Q u s := ⟨v, H, I, r, h⟩
  rcases l with ⟨hk, hm⟩ | ⟨hk, c, hc, hcell⟩
  · exact wpAny_Name (wpAny_loadName_local I.ok.kind hk hn hm fin) hd
  · rcases hk with hk | hk
    · exact wpAny_Name (wpAny_loadName_cell I.ok.kind hk hc hcell fin) hd
    · exact wpAny_Name (wpAny_loadName_free I.ok.kind hk hc hcell fin hcd) hd
theorem pe_int {i j pos} : PE X (.Constant (.int i) j pos) (tC (.int i)) := fun _ _ _ H _ I h => wpAny_Constant_int ⟨.int i, H, I.tok _, ⟨_, rfl⟩, h⟩
theorem pe_bl {b j pos} : PE X (.Constant (.bool b) j pos) (tC (.bl b)) := fun _ _ _ H _ I h => Constant_bool ⟨.bl b, H, I, rfl, h⟩
theorem pe_non {j pos} : PE X (.Constant .none j pos) (tC .non) := fun _ _ _ H _ I h => Constant_none ⟨.non, H, I, rfl, h⟩
theorem pe_str {x j pos} : PE X (.Constant (.str x) j pos) (tC (.str x)) := fun _ _ _ H _ I h => Calls.Constant_str ⟨.str x, H, I.tok _, ⟨_, rfl⟩, h⟩

noncomputable def Gl (X : Cx) (x : Str) : Prop := X.env.kindOf x = some .globalImplicit
theorem ld_glob {E : Value → Shared → Prop} {pins : List (Addr × Obj)} {s : Shared} {σ : St} {H : Hp} {x : Str} {u : Value} {pos : Pos} {Q : Value → Shared → Prop} (I : Inv X pins σ H s) (hg : Gl X x) (hm : X.mg x = some u) (h : Q u s)
    (hd : (x == ("__debug__" : Str)) = false := by decide) : wpAny (model X.prog X.w) X.A (eval (.Name x pos) X.env) Q E s :=
  Calls.Name_function_global I.ok.kind hg (Calls.loadGlobal_global (by rw [I.ok.glob]; exact I.mod.glob.keeps I.bk) hm h) hd
theorem ld_blt {E : Value → Shared → Prop} {pins : List (Addr × Obj)} {s : Shared} {σ : St} {H : Hp} {x : Str} {u : Value} {pos : Pos} {Q : Value → Shared → Prop} (I : Inv X pins σ H s) (hg : Gl X x) (hm : X.mg x = none) (hv : bootBuiltins x = some u) (h : Q u s)
    (hn : x ≠ "__name__" := by decide) (hd : (x == ("__debug__" : Str)) = false := by decide) : wpAny (model X.prog X.w) X.A (eval (.Name x pos) X.env) Q E s := by
  obtain ⟨mb, h1, h2⟩ := I.mod.blt
  exact Calls.Name_function_global I.ok.kind hg (Calls.loadGlobal_builtin (by rw [I.ok.glob]; exact I.mod.glob.keeps I.bk) hm (by rw [I.ok.blt]; exact h1.keeps I.bk) ((h2 x hn).trans hv) h) hd
theorem pe_glob {x : Str} {v : V} {u : Value} {pos : Pos} (hg : Gl X x) (hm : X.mg x = some u) (r : RelV v u) (hd : (x == ("__debug__" : Str)) = false := by decide) : PE X (.Name x pos) (tC v) :=
  fun _ _ _ H _ I h => ld_glob I hg hm ⟨v, H, I, r, h⟩ hd
theorem pe_bltn {x : Str} {v : V} {u : Value} {pos : Pos} (hg : Gl X x) (hm : X.mg x = none) (hv : bootBuiltins x = some u) (r : RelV v u) (hn : x ≠ "__name__" := by decide) (hd : (x == ("__debug__" : Str)) = false := by decide) : PE X (.Name x pos) (tC v) :=
  fun _ _ _ H _ I h => ld_blt I hg hm hv ⟨v, H, I, r, h⟩ hn hd

variable {a b : Expr} {ta tb : TE} {pos : Pos}
noncomputable def tB (t : TE) : TT := fun σ H Q => t σ H fun x H1 => ∃ c, x = .bl c ∧ Q c H1
theorem pt_val {e : Expr} {t : TE} (h : PE X e t) (he : ∀ whole, isTrue e X.env whole = (do let v ← whole; standAt e.pos; holding [v] (truthy v)) := by intro _; rfl) : PT X e (tB t) := by
  intro pins s σ H Q I hw
  refine isTrue_plain (thn (h pins s σ H _ I hw) fun v s1 ⟨x, H1, I1, r1, q1⟩ => ?_) (he _)
  obtain ⟨d, rfl, q⟩ := q1
  cases r1
  exact wpAny_truthy_bool ⟨H1, I1, q⟩

variable {tA tB' : TT} {rest : List Expr}
noncomputable def tAnd (t u : TT) : TT := fun σ H Q => t σ H fun c H1 => if c = true then u σ H1 Q else Q false H1
noncomputable def tOr (t u : TT) : TT := fun σ H Q => t σ H fun c H1 => if c = true then Q true H1 else u σ H1 Q
noncomputable def tNot (t : TT) : TT := fun σ H Q => t σ H fun c H1 => Q (!c) H1
theorem pw_and1 (ha : PT X a tA) : PW X (.BoolOp .And [a] pos) tA := by
  intro wh pins s σ H Q I h
  refine isTrue_and (thn (ha pins s σ H Q I h) fun c s1 e => ?_)
  cases c with
  | true => exact isTrue_and_nil e
  | false => exact e
theorem pw_or1 (ha : PT X a tA) : PW X (.BoolOp .Or [a] pos) tA := by
  intro wh pins s σ H Q I h
  refine isTrue_or (thn (ha pins s σ H Q I h) fun c s1 e => ?_)
  cases c with
  | false => exact isTrue_or_nil e
  | true => exact e
theorem pw_and (ha : PT X a tA) (hb : PW X (.BoolOp .And (b :: rest) pos) tB') : PW X (.BoolOp .And (a :: b :: rest) pos) (tAnd tA tB') := by
  intro wh pins s σ H Q I h
  refine isTrue_and (thn (ha pins s σ H _ I h) fun c s1 ⟨H1, I1, q1⟩ => ?_)
  cases c with
  | true => exact hb wh pins s1 σ H1 Q I1 q1
  | false => exact ⟨H1, I1, q1⟩
theorem pw_or (ha : PT X a tA) (hb : PW X (.BoolOp .Or (b :: rest) pos) tB') : PW X (.BoolOp .Or (a :: b :: rest) pos) (tOr tA tB') := by
  intro wh pins s σ H Q I h
  refine isTrue_or (thn (ha pins s σ H _ I h) fun c s1 ⟨H1, I1, q1⟩ => ?_)
  cases c with
  | true => exact ⟨H1, I1, q1⟩
  | false => exact hb wh pins s1 σ H1 Q I1 q1
theorem pt_not (ha : PT X a tA) : PT X (.UnaryOp .Not a pos) (tNot tA) := by
  intro pins s σ H Q I h
  exact isTrue_not (ha pins s σ H (fun c H1 => Q (!c) H1) I h)
noncomputable def tAndV (ta tb : TE) : TE := fun σ H Q => ta σ H fun x H1 => ∃ c, x = .bl c ∧ if c = true then tb σ H1 Q else Q (.bl false) H1
noncomputable def tOrV (ta tb : TE) : TE := fun σ H Q => ta σ H fun x H1 => ∃ c, x = .bl c ∧ if c = true then Q (.bl true) H1 else tb σ H1 Q
noncomputable def tNotV (ta : TE) : TE := fun σ H Q => ta σ H fun x H1 => ∃ c, x = .bl c ∧ Q (.bl (!c)) H1
theorem pe_one {op} {t : TE} (h : PE X a t) : PE X (.BoolOp op [a] pos) t := fun pins s σ H Q I hw => BoolOp_one (h pins s σ H Q I hw)
theorem pe_and (ha : PE X a ta) (hb : PE X (.BoolOp .And (b :: rest) pos) tb) : PE X (.BoolOp .And (a :: b :: rest) pos) (tAndV ta tb) := by
  intro pins s σ H Q I h
  refine BoolOp_and (thn (ha pins s σ H _ I h) fun v s1 ⟨x, H1, I1, r1, q1⟩ => ?_)
  obtain ⟨c, rfl, q1⟩ := q1
  cases r1
  refine wpAny_truthy_bool ?_
  cases c with
  | true => exact hb pins s1 σ H1 Q I1 q1
  | false => exact ⟨.bl false, H1, I1, rfl, q1⟩
theorem pe_or (ha : PE X a ta) (hb : PE X (.BoolOp .Or (b :: rest) pos) tb) : PE X (.BoolOp .Or (a :: b :: rest) pos) (tOrV ta tb) := by
  intro pins s σ H Q I h
  refine BoolOp_or (thn (ha pins s σ H _ I h) fun v s1 ⟨x, H1, I1, r1, q1⟩ => ?_)
  obtain ⟨c, rfl, q1⟩ := q1
  cases r1
  refine wpAny_truthy_bool ?_
  cases c with
  | false => exact hb pins s1 σ H1 Q I1 q1
  | true => exact ⟨.bl true, H1, I1, rfl, q1⟩
theorem pe_not (ha : PE X a ta) : PE X (.UnaryOp .Not a pos) (tNotV ta) := by
  intro pins s σ H Q I h
  refine UnaryOp_ (thn (ha pins s σ H _ I h) fun v s1 ⟨x, H1, I1, r1, q1⟩ => ?_)
  obtain ⟨c, rfl, q1⟩ := q1
  cases r1
  exact not_of (wpAny_truthy_bool ⟨.bl (!c), H1, I1, rfl, q1⟩)
end
end L2

namespace L2
open PySem PySem.Spec PyProof.Rows

noncomputable def SqL (K : PySem.W.Frag) (H : Hp) (a : Addr) (xs : List V) : Prop :=
  Rd H a (.lst xs) ∨
    ∃ (o : Obj) (its : Array Value) (n : Nat), K.lookup a = some o ∧ o.cls = .type "list" ∧ o.dict = none ∧ o.data = .seq its n ∧ its.size ≤ sizeLine ∧ Vals xs its.toList
noncomputable def SqT (K : PySem.W.Frag) (H : Hp) (a : Addr) (xs : List V) : Prop :=
  Rd H a (.tup xs) ∨
    ∃ (o : Obj) (its : Array Value) (n : Nat), K.lookup a = some o ∧ o.cls = .type "tuple" ∧ o.data = .seq its n ∧ its.size ≤ sizeLine ∧ Vals xs its.toList
noncomputable def absV : Value → Option V
  | .none => some .non
  | .bool b => some (.bl b)
  | .int i _ => some (.int i)
  | .str x _ => some (.str x)
  | .bytes b _ => some (.byt b)
  | .float b _ => some (.flt b)
  | .ref a => some (.ref a)
  | .type n => some (.ty n)
  | _ => none
theorem RelV.abs {x : V} {u : Value} (r : RelV x u) : absV u = some x := by
  cases x with
  | non => cases r; rfl
  | bl _ => cases r; rfl
  | int _ => obtain ⟨t, rfl⟩ := r; rfl
  | str _ => obtain ⟨t, rfl⟩ := r; rfl
  | byt _ => obtain ⟨t, rfl⟩ := r; rfl
  | flt _ => obtain ⟨t, rfl⟩ := r; rfl
  | ref _ => cases r; rfl
  | ty _ => cases r; rfl
theorem RelV.inj {x y : V} {u : Value} (r : RelV x u) (q : RelV y u) : x = y := Option.some.inj (r.abs.symm.trans q.abs)
theorem Vals.inj : ∀ {xs ys : List V} {us : List Value}, Vals xs us → Vals ys us → xs = ys
  | _, _, _, .nil, .nil => rfl
  | _, _, _, .cons r t, .cons r' t' => by rw [r.inj r', Vals.inj t t']
section
variable {X : Cx} {pins : List (Addr × Obj)} {σ : St} {H : Hp} {s : Shared} {a : Addr} {xs ys : List V}
theorem SqL.of {K : PySem.W.Frag} (h : H a = some (.lst xs)) : SqL K H a xs := .inl (.inl h)
theorem SqT.of {K : PySem.W.Frag} (h : H a = some (.tup xs)) : SqT K H a xs := .inl (.inl h)
theorem Inv.list (I : Inv X pins σ H s) (h : SqL X.K H a xs) : ∃ its : List Value, Vals xs its ∧ PlainL s.heap a its.toArray ∧ xs.length ≤ sizeLine := by
  rcases h with h | ⟨o, its, n, hk, hc, hd, hs, hz, r⟩
  · obtain ⟨z, its, n, r, e⟩ := h.ok I.hok
    exact ⟨its, r, ⟨_, n, e, rfl, rfl, rfl⟩, z⟩
  · refine ⟨its.toList, r, ⟨o, n, I.kIn a o hk, hc, hd, by simpa using hs⟩, ?_⟩
    have e := r.length
    simp only [Array.length_toList] at e
    omega
theorem Inv.tuple (I : Inv X pins σ H s) (h : SqT X.K H a xs) : ∃ its : List Value, Vals xs its ∧ IsTup s.heap a its.toArray ∧ xs.length ≤ sizeLine := by
  rcases h with h | ⟨o, its, n, hk, hc, hs, hz, r⟩
  · obtain ⟨z, its, r, p⟩ := h.ok I.hok
    exact ⟨its, r, p, z⟩
  · refine ⟨its.toList, r, ⟨o, I.kIn a o hk, hc, n, by simpa using hs⟩, ?_⟩
    have e := r.length
    simp only [Array.length_toList] at e
    omega
theorem Inv.list_inj (I : Inv X pins σ H s) (h : SqL X.K H a xs) (h' : SqL X.K H a ys) : xs = ys := by
  obtain ⟨its, r, ⟨o, n, e, _, _, d⟩, _⟩ := I.list h
  obtain ⟨its', r', ⟨o', n', e', _, _, d'⟩, _⟩ := I.list h'
  rw [e] at e'; cases e'
  rw [d] at d'
  injection d' with d1 _
  have : its = its' := by simpa using congrArg Array.toList d1
  subst this
  exact r.inj r'
theorem Inv.tuple_inj (I : Inv X pins σ H s) (h : SqT X.K H a xs) (h' : SqT X.K H a ys) : xs = ys := by
  obtain ⟨its, r, ⟨o, e, _, n, d⟩, _⟩ := I.tuple h
  obtain ⟨its', r', ⟨o', e', _, n', d'⟩, _⟩ := I.tuple h'
  rw [e] at e'; cases e'
  rw [d] at d'
  injection d' with d1 _
  have : its = its' := by simpa using congrArg Array.toList d1
  subst this
  exact r.inj r'
end

noncomputable abbrev Cx.wish (X : Cx) (E : Value → Shared → Prop) : Cx := { X with xe := E }
noncomputable abbrev Cx.nox (X : Cx) : Cx := X.wish fun _ _ => False
theorem Cx.Ok.wish {X : Cx} (ok : X.Ok) (E : Value → Shared → Prop) : (X.wish E).Ok :=
  ⟨ok.mod, ok.kind, ok.glob, ok.blt, ok.above, ok.inj, ok.has, ok.cab, ok.hd, ok.frames, ok.stk, ok.exf, ok.bs, ok.bsz, ok.noex, ok.exfs, ok.funs, ok.frf⟩
theorem Cx.Ok.unwish {X : Cx} {E : Value → Shared → Prop} (ok : (X.wish E).Ok) : X.Ok :=
  ⟨ok.mod, ok.kind, ok.glob, ok.blt, ok.above, ok.inj, ok.has, ok.cab, ok.hd, ok.frames, ok.stk, ok.exf, ok.bs, ok.bsz, ok.noex, ok.exfs, ok.funs, ok.frf⟩
section
variable {X : Cx} {pins : List (Addr × Obj)} {σ : St} {H : Hp} {s : Shared} {E : Value → Shared → Prop}
theorem Inv.wish (I : Inv X pins σ H s) (E : Value → Shared → Prop) : Inv (X.wish E) pins σ H s := ⟨I.ok.wish E, I.os, I.bare, I.base, I.loc, I.cell, I.free, I.freeC, I.pin, I.hok, I.len⟩
theorem Inv.unwish (I : Inv (X.wish E) pins σ H s) : Inv X pins σ H s := ⟨I.ok.unwish, I.os, I.bare, I.base, I.loc, I.cell, I.free, I.freeC, I.pin, I.hok, I.len⟩
theorem SP.unwish {D : Ends} {f : Flow} {s' : Shared} (h : SP (X.wish E) pins D f s') : SP X pins D f s' := by
  cases f with
  | next => obtain ⟨σ', H', I, q⟩ := h; exact ⟨σ', H', I.unwish, q⟩
  | brk => obtain ⟨σ', H', I, q⟩ := h; exact ⟨σ', H', I.unwish, q⟩
  | cont => obtain ⟨σ', H', I, q⟩ := h; exact ⟨σ', H', I.unwish, q⟩
  | ret u => obtain ⟨v, σ', H', I, r, q⟩ := h; exact ⟨v, σ', H', I.unwish, r, q⟩
theorem PSs.nox {st : List Stmt} {t : TS} (h : PSs X.nox st t) : PSs X st t := fun pins s σ H D I hw =>
  wpAny_mono (h pins s σ H D (I.wish _) hw) (fun _ _ q => q.unwish) fun _ _ z => False.elim z
end

section
variable {X : Cx} {st : Stmt} {rest : List Stmt} {t u : TS} {e : Expr} {te : TE} {pos : Pos}
noncomputable def tNext : TS := fun D σ H => D.nx σ H
noncomputable def tSeq (t u : TS) : TS := fun D σ H => t { D with nx := u D } σ H
theorem pss_nil : PSs X [] tNext := fun _ _ σ H _ I h => wpAny_execs_nil ⟨σ, H, I, h⟩
theorem pss_cons (h1 : PS X st t) (h2 : PSs X rest u) : PSs X (st :: rest) (tSeq t u) := by
  intro pins s σ H D I h
  refine wpAny_execs_cons (thn (h1 pins s σ H { D with nx := u D } I h) fun f s1 q => ?_)
  cases f with
  | next =>
    obtain ⟨σ', H', I', q⟩ := q
    exact h2 pins s1 σ' H' D I' q
  | ret v => exact q
  | brk => exact q
  | cont => exact q
theorem pss_one (h1 : PS X st t) : PSs X [st] t := by
  intro pins s σ H D I h
  refine wpAny_execs_cons (thn (h1 pins s σ H D I h) fun f s1 q => ?_)
  cases f with
  | next => exact wpAny_execs_nil q
  | ret v => exact q
  | brk => exact q
  | cont => exact q
theorem Inv.quiet {pins : List (Addr × Obj)} {σ : St} {H : Hp} {s : Shared} (I : Inv X pins σ H s) : interactive X.env = false := by simp [interactive, I.ok.kind]
noncomputable def tDrop (te : TE) : TS := fun D σ H => te σ H fun _ H1 => D.nx σ H1
theorem ps_expr (he : PE X e te) (hs : swapsWith e none pos.line X.env = pure false := by rfl) : PS X (.Expr e pos) (tDrop te) := by
  intro pins s σ H D I h
  exact wpAny_Expr_any (thn (he pins s σ H _ I h) fun v s1 ⟨x, H1, I1, r1, q1⟩ => ⟨σ, H1, I1, q1⟩) I.quiet hs
noncomputable def tRet (te : TE) : TS := fun D σ H => te σ H D.rt
theorem ps_ret (he : PE X e te) : PS X (.Return (some e) pos) (tRet te) := by
  intro pins s σ H D I h
  exact wpAny_Return_some (thn (he pins s σ H _ I h) fun v s1 ⟨x, H1, I1, r1, q1⟩ => ⟨x, σ, H1, I1, r1, q1⟩)
noncomputable def tIfS (c : TT) (t u : TS) : TS := fun D σ H => c σ H fun b H1 => if b = true then t D σ H1 else u D σ H1
theorem ps_if {c : Expr} {a b : List Stmt} {tc : TT} (hc : PT X c tc) (ha : PSs X a t) (hb : PSs X b u) : PS X (.If c a b pos) (tIfS tc t u) := by
  intro pins s σ H D I h
  refine wpAny_If (thn (hc pins s σ H _ I h) fun d s1 ⟨H1, I1, q1⟩ => ?_)
  cases d with
  | true => exact ha pins s1 σ H1 D I1 q1
  | false => exact hb pins s1 σ H1 D I1 q1
end

noncomputable abbrev TG := V → St → Hp → (St → Hp → Prop) → Prop
noncomputable abbrev TGs := List V → St → Hp → (St → Hp → Prop) → Prop
noncomputable def PG (X : Cx) (target : Expr) (t : TG) : Prop :=
  ∀ (pins : List (Addr × Obj)) (s : Shared) (σ : St) (H : Hp) (v : V) (u : Value) (Q : St → Hp → Prop), Inv X pins σ H s → RelV v u → t v σ H Q →
    wpAny (model X.prog X.w) X.A (assign target X.env u) (fun _ s' => ∃ σ' H', Inv X pins σ' H' s' ∧ Q σ' H') X.xe s
noncomputable def PGs (X : Cx) (ts : List Expr) (t : TGs) : Prop :=
  ∀ (pins : List (Addr × Obj)) (s : Shared) (σ : St) (H : Hp) (vs : List V) (us : List Value) (Q : St → Hp → Prop), Inv X pins σ H s → Vals vs us → t vs σ H Q →
    wpAny (model X.prog X.w) X.A (assignInOrder ((assignEach ts X.env).map (·.2)) us) (fun _ s' => ∃ σ' H', Inv X pins σ' H' s' ∧ Q σ' H') X.xe s
noncomputable abbrev TSet := V → V → V → Hp → (Hp → Prop) → Prop
noncomputable def PSet (X : Cx) (t : TSet) : Prop :=
  ∀ (pins : List (Addr × Obj)) (s : Shared) (σ : St) (H : Hp) (o i v : V) (ov iv u : Value) (Q : Hp → Prop), Inv X pins σ H s → RelV o ov → RelV i iv → RelV v u → t o i v H Q →
    wpAny (model X.prog X.w) X.A (setItem ov iv u) (fun _ s' => ∃ H', Inv X pins σ H' s' ∧ Q H') X.xe s
section
variable {X : Cx} {pos : Pos}
noncomputable def gName (i : Nat) : TG := fun v σ H Q => Q (σ.set i (some v)) H
theorem pg_name {i : Nat} {x : Str} (hN : X.N.Nodup) (hi : X.N[i]? = some x) (hx : Loc X.env.scope x) (hf : X.fn x = true ∨ X.env.scope.names.lookup x = some .local := by first | exact .inl rfl | exact .inr rfl | assumption) : PG X (.Name x pos) (gName i) := by
  intro pins s σ H v u Q I r h
  exact wpAny_assign_Name (store_ok I hN hi hx r (fun s' I' => ⟨_, H, I', h⟩) hf)
noncomputable def gNil : TGs := fun vs σ H Q => vs = [] ∧ Q σ H
noncomputable def gCons (t : TG) (u : TGs) : TGs := fun vs σ H Q => ∃ v r, vs = v :: r ∧ t v σ H fun σ' H' => u r σ' H' Q
theorem pgs_nil : PGs X [] gNil := by
  intro pins s σ H vs us Q I r h
  obtain ⟨e, h⟩ := h
  subst e
  cases r
  exact assignInOrder_nil ⟨σ, H, I, h⟩
theorem pgs_cons {e : Expr} {es : List Expr} {t : TG} {u : TGs} (h1 : PG X e t) (h2 : PGs X es u)
    (hs : (assignEach (e :: es) X.env).map (·.2) = assign e X.env :: (assignEach es X.env).map (·.2) := by rfl) : PGs X (e :: es) (gCons t u) := by
  intro pins s σ H vs us Q I r h
  obtain ⟨v, vr, e1, h⟩ := h
  subst e1
  cases r with
  | cons r rr =>
    rw [hs]
    refine assignInOrder_cons (thn (h1 pins s σ H _ _ _ I r h) fun _ s1 ⟨σ1, H1, I1, q1⟩ => ?_)
    exact h2 pins s1 σ1 H1 _ _ Q I1 rr q1
noncomputable def gTup (K : PySem.W.Frag) (n : Nat) (t : TGs) : TG := fun v σ H Q => ∃ a xs, v = .ref a ∧ SqT K H a xs ∧ xs.length = n ∧ t xs σ H Q
theorem pg_tup {es : List Expr} {k : Nat} {t : TGs} {n : Nat} (hc : X.calm = true) (h : PGs X es t)
    (hn : (assignEach es X.env).length = n := by rfl) (hst : (assignEach es X.env).findIdx? (·.1) = none := by rfl) : PG X (.Tuple es k pos) (gTup X.K n t) := by
  intro pins s σ H v u Q I r hw
  obtain ⟨a, xs, e1, hq, hl, hw⟩ := hw
  subst e1
  cases r
  obtain ⟨its, rv, ht, hz⟩ := I.tuple hq
  refine assign_Tuple_tuple (I.ok.hd hc) ht (by simp [hn, ← hl, rv.length]) hst fun h' hx => ?_
  have I1 : Inv X pins σ H { s with heap := h' } := I.kept (t' := s.toks) fun b o e => hx b o (Nat.ne_of_lt (Heap.lt_size e)) e
  exact h pins _ σ H xs _ Q I1 (by simpa using rv) hw
noncomputable def gSub (to ti : TE) (t : TSet) : TG := fun v σ H Q => to σ H fun o H1 => ti σ H1 fun i H2 => t o i v H2 fun H3 => Q σ H3
theorem pg_sub {o i : Expr} {to ti : TE} {t : TSet} (ho : PE X o to) (hi : PE X i ti) (hs : PSet X t)
    (ha : ∀ v, assign (.Subscript o i pos) X.env v = (do
      let ov ← holding [v] (eval o X.env)
      let iv ← holding [v, ov] (eval i X.env)
      standAt pos
      holding [v, ov, iv] (setItem ov iv v)
      release [v, ov, iv] []) := by intro _; rfl) : PG X (.Subscript o i pos) (gSub to ti t) := by
  intro pins s σ H v u Q I r h
  rw [ha]
  refine wpAny_bind (wpAny_holding (thn (ho pins s σ H _ I h) fun ov s1 ⟨x, H1, I1, r1, q1⟩ => ?_))
  refine wpAny_bind (wpAny_holding (thn (hi pins s1 σ H1 _ I1 q1) fun iv s2 ⟨y, H2, I2, r2, q2⟩ => ?_))
  refine wpAny_bind (wpAny_standAt (wpAny_bind (wpAny_holding (thn (hs pins s2 σ H2 x y v ov iv u _ I2 r1 r2 r q2) fun _ s3 ⟨H3, I3, q3⟩ => ?_))))
  exact wpAny_release ⟨σ, H3, I3, q3⟩
noncomputable def tAsg (te : TE) (g : TG) : TS := fun D σ H => te σ H fun x H1 => g x σ H1 D.nx
theorem ps_asg {tg e : Expr} {te : TE} {g : TG} (he : PE X e te) (hg : PG X tg g) (hs : swapsWithSole [tg] e pos.line X.env = pure false := by rfl) (hw : swappedStores [tg] e X.env = pure none := by rfl)
    (h1 : (assignEach [tg] X.env).map (·.2) = [assign tg X.env] := by rfl) : PS X (.Assign [tg] e pos) (tAsg te g) := by
  intro pins s σ H D I h
  refine wpAny_Assign_stores (thn (he pins s σ H _ I h) fun v s1 ⟨x, H1, I1, r1, q1⟩ => ?_) hs hw
  rw [h1]
  exact thn (hg pins s1 σ H1 x v _ I1 r1 q1) fun _ s2 q => q
theorem ps_set {i : Nat} {x : Str} {e : Expr} {te : TE} {pos' : Pos} (hN : X.N.Nodup) (hi : X.N[i]? = some x) (hx : Loc X.env.scope x) (he : PE X e te) (hs : swapsWith e (some (.Name x pos')) pos.line X.env = pure false := by rfl) (hf : X.fn x = true ∨ X.env.scope.names.lookup x = some .local := by first | exact .inl rfl | exact .inr rfl | assumption) :
    PS X (.Assign [.Name x pos'] e pos) (tAsg te (gName i)) := by
  intro pins s σ H D I h
  refine wpAny_Assign_Name (thn (he pins s σ H _ I h) fun v s1 ⟨y, H1, I1, r1, q1⟩ => ?_) hs
  exact store_ok I1 hN hi hx r1 (fun s2 I2 => ⟨_, H1, I2, q1⟩) hf
end

section
variable {X : Cx} {pos : Pos}
noncomputable def tWhile (c : TT) (tb : TS) : TS := fun D σ H => ∃ W : Nat → St → Hp → Prop, (∃ m, W m σ H) ∧ ∀ m σ H, W m σ H →
  c σ H fun b H1 => if b = true then ∃ N : St → Hp → Prop, (∀ σ' H', N σ' H' → ∃ m', m' < m ∧ W m' σ' H') ∧ tb { D with nx := N, ct := N, bk := D.nx } σ H1 else D.nx σ H1
theorem ps_while {c : Expr} {body : List Stmt} {tc : TT} {tb : TS} (hp : PassesOwn (model X.prog X.w) X.A X.env X.xe) (hc : PT X c tc) (hb : PSs X body tb) : PS X (.While c body [] pos) (tWhile tc tb) := by
  intro pins s σ H D I h
  obtain ⟨W, ⟨m0, w0⟩, turn⟩ := h
  refine wpAny_While (codeAny_whileLoop (fun n s' => ∃ σ' H', Inv X pins σ' H' s' ∧ W n σ' H') ?_ m0 ⟨σ, H, I, w0⟩)
  rintro n s1 ⟨σ1, H1, I1, w1⟩
  refine wpAny_passesOwn hp (thn (hc pins s1 σ1 H1 _ I1 (turn n σ1 H1 w1)) fun b s2 ⟨H2, I2, q2⟩ => ?_)
  cases b with
  | true =>
    obtain ⟨N, hN, q2⟩ := q2
    rw [if_pos rfl]
    refine wpAny_passesOwn hp (thn (hb pins s2 σ1 H2 _ I2 q2) fun f s3 q3 => ?_)
    cases f with
    | next =>
      obtain ⟨σ3, H3, I3, n3⟩ := q3
      obtain ⟨m', hm, w3⟩ := hN σ3 H3 n3
      exact ⟨m', hm, σ3, H3, I3, w3⟩
    | cont =>
      obtain ⟨σ3, H3, I3, n3⟩ := q3
      obtain ⟨m', hm, w3⟩ := hN σ3 H3 n3
      exact ⟨m', hm, σ3, H3, I3, w3⟩
    | brk => exact q3
    | ret v => exact q3
  | false =>
    rw [if_neg Bool.false_ne_true]
    exact wpAny_execs_nil ⟨σ1, H2, I2, q2⟩
end

structure It where
  go : Nat → Hp → Prop
  yld : Nat → Hp → V → Hp → Prop
  stop : Nat → Hp → Prop
noncomputable def FpOk (X : Cx) (pins : List (Addr × Obj)) (H : Hp) (b : Addr) : Prop :=
  H b = none ∧ b ≠ X.env.locals ∧ b ∉ X.fs ∧ (b ∈ X.ex ∨ X.s₀.heap.objs.size ≤ b) ∧ (∀ x c, X.env.cells.lookup x = some c → c ≠ b) ∧ ∀ p ∈ X.pn ++ pins, p.1 ≠ b
theorem Inv.fpOk {X : Cx} {pins : List (Addr × Obj)} {σ : St} {H H' : Hp} {s : Shared} {b : Addr} (I : Inv X pins σ H s) (hb : s.heap.objs.size ≤ b) (hn : H' b = none) : FpOk X pins H' b := by
  refine ⟨hn, Nat.ne_of_gt (Nat.lt_of_lt_of_le I.lt hb), I.nofs hb, .inr (Nat.le_trans I.sz hb), fun x c e z => ?_, fun p hp z => ?_⟩
  · obtain ⟨v, q⟩ := I.cell x c e
    exact absurd (Nat.lt_of_lt_of_le q.lt (by rw [z]; exact hb)) (Nat.lt_irrefl _)
  · exact absurd (Nat.lt_of_lt_of_le (Heap.lt_size (I.pin p hp).1) (by rw [z]; exact hb)) (Nat.lt_irrefl _)
structure Turn (P : Program) (w : World) (K : PySem.W.Frag) (tg : Expr) (J : It) (fp : List Addr) (it : Addr) (tn : Nat → Heap → Prop) : Prop where
  mem : it ∈ fp
  obj : ∀ i h, tn i h → ∀ b ∈ fp, ∃ o, h.get? b = some o ∧ ∀ v, o.data ≠ .cell v
  keep : ∀ i h h', tn i h → (∀ b ∈ fp, ∀ o, h.get? b = some o → h'.get? b = some o) → tn i h'
  item : ∀ (X : Cx), X.prog = P → X.w = w → X.K = K → X.calm = true → ∀ (i : Nat) (pins : List (Addr × Obj)) (s : Shared) (σ : St) (H : Hp) (E : Value → Shared → Prop), Inv X pins σ H s → (∀ b ∈ fp, FpOk X pins H b) → tn i s.heap → J.go i H →
    wpAny (model P w) X.A (pyNext (.ref it)) (fun r s1 => ∃ u, r = some u ∧
      wpAny (model P w) X.A (letOwnedTupleGo tg (.ref it) u) (fun _ s2 => ∃ x H', Inv X pins σ H' s2 ∧ RelV x u ∧ J.yld i H x H' ∧ tn (i + 1) s2.heap ∧ ∀ b ∈ fp, H' b = none) E s1) E s
  done : ∀ (X : Cx), X.prog = P → X.w = w → X.K = K → X.calm = true → ∀ (i : Nat) (pins : List (Addr × Obj)) (s : Shared) (σ : St) (H : Hp) (E : Value → Shared → Prop), Inv X pins σ H s → (∀ b ∈ fp, FpOk X pins H b) → tn i s.heap → J.stop i H →
    wpAny (model P w) X.A (pyNext (.ref it)) (fun r s1 => r = none ∧ Inv X pins σ H s1) E s
  self : ∀ (A : Around) (i : Nat) (s : Shared) (Q : Value → Shared → Prop) (E : Value → Shared → Prop), tn i s.heap → Q (.ref it) s → wpAny (model P w) A (pyIter (.ref it)) Q E s
noncomputable abbrev TI := St → Hp → (It → Hp → Prop) → Prop
noncomputable def PIE (X : Cx) (pins : List (Addr × Obj)) (σ : St) (tg : Expr) (R : It → Hp → Prop) (itv : Value) (s2 : Shared) : Prop :=
  ∃ (it : Addr) (fp : List Addr) (tn : Nat → Heap → Prop) (J : It) (H' : Hp), itv = .ref it ∧ Inv X pins σ H' s2 ∧ Turn X.prog X.w X.K tg J fp it tn ∧ tn 0 s2.heap ∧ (∀ b ∈ fp, FpOk X pins H' b) ∧ R J H'
noncomputable def PI (X : Cx) (tg iter : Expr) (wi : TI) : Prop :=
  ∀ (pins : List (Addr × Obj)) (s : Shared) (σ : St) (H : Hp) (R : It → Hp → Prop), Inv X pins σ H s → wi σ H R →
    wpAny (model X.prog X.w) X.A (eval iter X.env) (fun v s1 => wpAny (model X.prog X.w) X.A (pyIter v) (PIE X pins σ tg R) X.xe s1) X.xe s

theorem go_of {M : Model} {A : Around} {E : Value → Shared → Prop} {s : Shared} {tg : Expr} {it : Addr} {u : Value} {o : Obj} {n : String} {vs : Array Value} {Q : Unit → Shared → Prop} (ho : s.heap.get? it = some o) (hc : o.cls = .type n) (hd : o.data = .fields vs)
    (hn : ["enumerate", "zip", "dict_itemiterator", "dict_reverseitemiterator", "odict_iterator", "itertools.zip_longest", "itertools.pairwise"].contains n = false) (hQ : Q () s) : wpAny M A (letOwnedTupleGo tg (.ref it) u) Q E s := by
  unfold letOwnedTupleGo
  cases tg <;> first
    | exact wpAny_pure hQ
    | (cases u <;> first
        | exact wpAny_pure hQ
        | (refine wpAny_bind (wpAny_load ho ?_)
           rw [hc, hd]
           show wpAny M A (if (["enumerate", "zip", "dict_itemiterator", "dict_reverseitemiterator", "odict_iterator", "itertools.zip_longest", "itertools.pairwise"].contains n && vs[0]? == some (rawInt _)) = true then _ else _) Q E s
           rw [if_neg (by intro h; rw [hn, Bool.false_and] at h; cases h)]
           exact wpAny_pure hQ))

noncomputable def Itl (K : PySem.W.Frag) (a : Addr) : It :=
  ⟨fun i H => ∃ xs x, SqL K H a xs ∧ xs[i]? = some x, fun i H x H' => H' = H ∧ ∀ xs, SqL K H a xs → xs[i]? = some x, fun i H => ∃ xs, SqL K H a xs ∧ xs.length ≤ i⟩
noncomputable def Itt (K : PySem.W.Frag) (a : Addr) : It :=
  ⟨fun i H => ∃ xs x, SqT K H a xs ∧ xs[i]? = some x, fun i H x H' => H' = H ∧ ∀ xs, SqT K H a xs → xs[i]? = some x, fun i H => ∃ xs, SqT K H a xs ∧ xs.length ≤ i⟩
noncomputable def Itr (lo : Int) (n : Nat) : It := ⟨fun i _ => i < n, fun i H x H' => H' = H ∧ x = .int (lo + i), fun i _ => n ≤ i⟩
theorem turn_list {P : Program} {w : World} {K : PySem.W.Frag} {tg : Expr} (a it : Addr) : Turn P w K tg (Itl K a) [it] it (fun i h => h.IsListIter it a i) where
  mem := by simp
  obj := fun i h st b hb => by
    have e : b = it := by simpa using hb
    subst e
    obtain ⟨o, e, c, d⟩ := st
    exact ⟨o, e, fun v z => by rw [d] at z; cases z⟩
  keep := fun i h h' st k => st.at fun o e => k it (by simp) o e
  item := by
    intro X hP hw hK hc i pins s σ H E I hf st hg
    subst hP hw hK
    obtain ⟨xs, x, hq, hx⟩ := hg
    obtain ⟨its, rv, p, hz⟩ := I.list hq
    obtain ⟨u, hu, ru⟩ := rv.get hx
    obtain ⟨f0, f1, f2, f3, f4, f5⟩ := hf it (by simp)
    refine wpAny_pyNext_list_item st p.isList (x := u) (by simpa using hu) fun h' st' sb => ?_
    have I1 : Inv X pins σ H { s with heap := h' } := I.turned (t' := s.toks) (fun b o hb e => (sb.2 b hb).trans e) f0 f1 f3 f4 f5
    obtain ⟨o, e, c, d⟩ := id st'
    exact ⟨u, rfl, go_of (s := { s with heap := h' }) e c d (by decide) ⟨x, H, I1, ru, ⟨rfl, fun ys hy => by rw [I.list_inj hy hq]; exact hx⟩, st', fun b hb => (hf b hb).1⟩⟩
  done := by
    intro X hP hw hK hc i pins s σ H E I hf st hg
    subst hP hw hK
    obtain ⟨xs, hq, hx⟩ := hg
    obtain ⟨its, rv, p, hz⟩ := I.list hq
    obtain ⟨f0, f1, f2, f3, f4, f5⟩ := hf it (by simp)
    have hl := rv.length
    exact wpAny_pyNext_list_end (I.ok.hd hc) st p.isList (by simp; omega) fun h' eb => ⟨rfl, I.turned (t' := s.toks) (fun b o hb e => eb b o hb e) f0 f1 f3 f4 f5⟩
  self := fun _ _ _ _ _ st h => wpAny_pyIter_listiter st h
theorem turn_tuple {P : Program} {w : World} {K : PySem.W.Frag} {tg : Expr} (a it : Addr) : Turn P w K tg (Itt K a) [it] it (fun i h => h.IsTupleIter it a i) where
  mem := by simp
  obj := fun i h st b hb => by
    have e : b = it := by simpa using hb
    subst e
    obtain ⟨o, e, c, d⟩ := st
    exact ⟨o, e, fun v z => by rw [d] at z; cases z⟩
  keep := fun i h h' st k => st.at fun o e => k it (by simp) o e
  item := by
    intro X hP hw hK hc i pins s σ H E I hf st hg
    subst hP hw hK
    obtain ⟨xs, x, hq, hx⟩ := hg
    obtain ⟨its, rv, p, hz⟩ := I.tuple hq
    obtain ⟨u, hu, ru⟩ := rv.get hx
    obtain ⟨f0, f1, f2, f3, f4, f5⟩ := hf it (by simp)
    refine wpAny_pyNext_tuple_item st (show s.heap.IsTuple a its.toArray from p) (x := u) (by simpa using hu) fun h' st' sb => ?_
    have I1 : Inv X pins σ H { s with heap := h' } := I.turned (t' := s.toks) (fun b o hb e => (sb.2 b hb).trans e) f0 f1 f3 f4 f5
    obtain ⟨o, e, c, d⟩ := id st'
    exact ⟨u, rfl, go_of (s := { s with heap := h' }) e c d (by decide) ⟨x, H, I1, ru, ⟨rfl, fun ys hy => by rw [I.tuple_inj hy hq]; exact hx⟩, st', fun b hb => (hf b hb).1⟩⟩
  done := by
    intro X hP hw hK hc i pins s σ H E I hf st hg
    subst hP hw hK
    obtain ⟨xs, hq, hx⟩ := hg
    obtain ⟨its, rv, p, hz⟩ := I.tuple hq
    obtain ⟨f0, f1, f2, f3, f4, f5⟩ := hf it (by simp)
    have hl := rv.length
    exact wpAny_pyNext_tuple_end (I.ok.hd hc) st (show s.heap.IsTuple a its.toArray from p) (by simp; omega) fun h' eb => ⟨rfl, I.turned (t' := s.toks) (fun b o hb e => eb b o hb e) f0 f1 f3 f4 f5⟩
  self := fun _ _ _ _ _ st h => wpAny_pyIter_tupleiter st h
theorem turn_range {P : Program} {w : World} {K : PySem.W.Frag} {tg : Expr} (it : Addr) (lo : Int) (n : Nat) : Turn P w K tg (Itr lo n) [it] it (fun i h => IsRangeIter h it (lo + (i : Nat) * 1) ((n : Int) - (i : Nat)) 1) where
  mem := by simp
  obj := fun i h st b hb => by
    have e : b = it := by simpa using hb
    subst e
    exact ⟨_, st, fun v z => by
      have z' : Data.fields _ = Data.cell v := z
      cases z'⟩
  keep := fun i h h' st k => k it (by simp) _ st
  item := by
    intro X hP hw hK hc i pins s σ H E I hf st hg
    subst hP hw hK
    obtain ⟨f0, f1, f2, f3, f4, f5⟩ := hf it (by simp)
    have W := Walks.range (prog := X.prog) (w := X.w) (I.ok.hd hc) it lo 1 n
    refine W.item i s _ _ hg st fun v h' tk hv st' kk => ?_
    obtain ⟨t, rfl⟩ := hv
    have I1 : Inv X pins σ H { s with heap := h', toks := tk } := I.turned (fun b o hb e => kk b o (by simpa using hb) e) f0 f1 f3 f4 f5
    refine ⟨_, rfl, go_of (s := { s with heap := h', toks := tk }) (n := "range_iterator") st' rfl rfl (by decide) ⟨.int (lo + i), H, I1, ⟨t, ?_⟩, ⟨rfl, rfl⟩, st', fun b hb => (hf b hb).1⟩⟩
    rw [Int.mul_one]
  done := by
    intro X hP hw hK hc i pins s σ H E I hf st hg
    subst hP hw hK
    obtain ⟨f0, f1, f2, f3, f4, f5⟩ := hf it (by simp)
    exact wpAny_pyNext_range_end (I.ok.hd hc) st (by have : n ≤ i := hg; omega) fun h' eb => ⟨rfl, I.turned (t' := s.toks) (fun b o hb e => eb b o hb e) f0 f1 f3 f4 f5⟩
  self := fun _ _ _ _ _ st h => wpAny_pyIter_rangeiter st h
end L2

namespace L2
open PySem PySem.Spec PyProof.Rows
section
variable {X : Cx} {tg : Expr}
noncomputable def iList (K : PySem.W.Frag) (tl : TE) : TI := fun σ H R => tl σ H fun x H1 => ∃ a, x = .ref a ∧ (∃ xs, SqL K H1 a xs) ∧ R (Itl K a) H1
noncomputable def iTup (K : PySem.W.Frag) (tl : TE) : TI := fun σ H R => tl σ H fun x H1 => ∃ a, x = .ref a ∧ (∃ xs, SqT K H1 a xs) ∧ R (Itt K a) H1
theorem pi_list {l : Expr} {tl : TE} (hl : PE X l tl) : PI X tg l (iList X.K tl) := by
  intro pins s σ H R I h
  refine thn (hl pins s σ H _ I h) fun v s1 ⟨x, H1, I1, r1, q1⟩ => ?_
  obtain ⟨a, e, ⟨xs, hq⟩, q⟩ := q1
  subst e
  cases r1
  obtain ⟨its, rv, p, hz⟩ := I1.list hq
  refine wpAny_pyIter_list p.isList ?_
  refine ⟨s1.heap.objs.size, [s1.heap.objs.size], _, _, H1, rfl, I1.kept (t' := s1.toks) fun b o e => Heap.get?_push_of_some _ e, turn_list a _, ⟨_, Heap.get?_push_size _ rfl, rfl, rfl⟩, fun b hb => ?_, q⟩
  have e : b = s1.heap.objs.size := by simpa using hb
  subst e
  exact I1.fpOk (Nat.le_refl _) (I1.hok.fresh (Nat.le_refl _))
theorem pi_tup {l : Expr} {tl : TE} (hl : PE X l tl) : PI X tg l (iTup X.K tl) := by
  intro pins s σ H R I h
  refine thn (hl pins s σ H _ I h) fun v s1 ⟨x, H1, I1, r1, q1⟩ => ?_
  obtain ⟨a, e, ⟨xs, hq⟩, q⟩ := q1
  subst e
  cases r1
  obtain ⟨its, rv, p, hz⟩ := I1.tuple hq
  refine wpAny_pyIter_tuple (show s1.heap.IsTuple a its.toArray from p) ?_
  refine ⟨s1.heap.objs.size, [s1.heap.objs.size], _, _, H1, rfl, I1.kept (t' := s1.toks) fun b o e => Heap.get?_push_of_some _ e, turn_tuple a _, ⟨_, Heap.get?_push_size _ rfl, rfl, rfl⟩, fun b hb => ?_, q⟩
  have e : b = s1.heap.objs.size := by simpa using hb
  subst e
  exact I1.fpOk (Nat.le_refl _) (I1.hok.fresh (Nat.le_refl _))
theorem range_it {pins : List (Addr × Obj)} {σ : St} {H : Hp} {s : Shared} {R : It → Hp → Prop} {E : Value → Shared → Prop} {lo hi : Int} {t u v : Tok} {tk : Nat} (I : Inv X pins σ H s) (h1 : -(2 ^ 62) ≤ lo) (h2 : lo < 2 ^ 62) (h3 : -(2 ^ 62) ≤ hi) (h4 : hi < 2 ^ 62)
    (q : R (Itr lo (hi - lo).toNat) H) : wpAny (model X.prog X.w) X.A (pyIter (.ref s.heap.objs.size)) (PIE X pins σ tg R) E { s with heap := s.heap.push { cls := .type "range", data := .fields #[.int lo t, .int hi u, .int 1 v] }, toks := tk } := by
  refine wpAny_pyIter_range (IsRange.new ..) (small_one h1 h2 h3 h4) ?_
  have I1 : Inv X pins σ H { s with heap := s.heap.push { cls := .type "range", data := .fields #[.int lo t, .int hi u, .int 1 v] }, toks := tk } := I.kept fun b o e => Heap.get?_push_of_some _ e
  refine ⟨(s.heap.push { cls := .type "range", data := .fields #[.int lo t, .int hi u, .int 1 v] }).objs.size, [(s.heap.push { cls := .type "range", data := .fields #[.int lo t, .int hi u, .int 1 v] }).objs.size], _, _, H, rfl,
    I1.kept (t' := tk) fun b o e => Heap.get?_push_of_some _ e, turn_range _ lo (hi - lo).toNat, ?_, fun b hb => ?_, q⟩
  · have e1 : lo + ((0 : Nat) : Int) * 1 = lo := by simp
    have e2 : (((hi - lo).toNat : Nat) : Int) - ((0 : Nat) : Int) = Builtin.Range.rangeSize lo hi 1 := by rw [rangeSize_one]; split <;> omega
    show IsRangeIter _ _ (lo + ((0 : Nat) : Int) * 1) ((((hi - lo).toNat : Nat) : Int) - ((0 : Nat) : Int)) 1
    rw [e1, e2]
    exact Heap.get?_push_size _ rfl
  · have e : b = (s.heap.push { cls := .type "range", data := .fields #[.int lo t, .int hi u, .int 1 v] }).objs.size := by simpa using hb
    subst e
    exact I1.fpOk (Nat.le_refl _) (I1.hok.fresh (Nat.le_refl _))
noncomputable def iRng1 (ta : TA) : TI := fun σ H R => ta σ H fun vs H1 => ∃ j : Int, vs = [.int j] ∧ -(2 ^ 62) ≤ j ∧ j < 2 ^ 62 ∧ R (Itr 0 j.toNat) H1
theorem pi_range1 {a : Expr} {ta : TA} {p pos : Pos} (hg : Gl X "range") (hm : X.mg "range" = none) (ha : PA X [a] ta) (hs : starEach [a] X.env = [(false, eval a X.env)] := by rfl) : PI X tg (.Call (.Name "range" p) [a] [] pos) (iRng1 ta) := by
  intro pins s σ H R I h
  refine Call_ (ld_blt I hg hm boot_range (PyProof.Rows.callWith_type1 (thn (ha pos pins s σ H _ I h) fun us s1 ⟨vs, H1, I1, r1, q1⟩ => ?_) hs rfl))
  obtain ⟨j, e, q1, q2, q⟩ := q1
  subst e
  cases r1 with
  | cons r rr =>
    cases rr
    obtain ⟨t, rfl⟩ := r
    exact call_range_1 (range_it I1 (by omega) (by omega) q1 q2 (by simpa using q))
noncomputable def tFor (wi : TI) (g : TG) (tb : TS) : TS := fun D σ H => wi σ H fun J H1 => ∃ W : Nat → Nat → St → Hp → Prop, (∃ m, W 0 m σ H1) ∧ ∀ i m σ H, W i m σ H →
  (J.stop i H ∧ D.nx σ H) ∨ (J.go i H ∧ ∃ N : St → Hp → Prop, (∀ σ' H', N σ' H' → ∃ m', m' < m ∧ W (i + 1) m' σ' H') ∧ ∀ x H', J.yld i H x H' → g x σ H' fun σ2 H2 => tb { D with nx := N, ct := N, bk := D.nx } σ2 H2)
noncomputable def pinsAt (fp : List Addr) (h : Heap) : List (Addr × Obj) := fp.filterMap fun b => (h.get? b).map fun o => (b, o)
theorem mem_pinsAt {fp : List Addr} {h : Heap} {b : Addr} {o : Obj} (hb : b ∈ fp) (e : h.get? b = some o) : (b, o) ∈ pinsAt fp h := List.mem_filterMap.mpr ⟨b, hb, by rw [e]; rfl⟩
theorem of_pinsAt {fp : List Addr} {h : Heap} {p : Addr × Obj} (hp : p ∈ pinsAt fp h) : p.1 ∈ fp ∧ h.get? p.1 = some p.2 := by
  obtain ⟨b, hb, e⟩ := List.mem_filterMap.mp hp
  cases q : h.get? b with
  | none => rw [q] at e; cases e
  | some o =>
    rw [q] at e
    have e' : (b, o) = p := Option.some.inj e
    subst e'
    exact ⟨hb, q⟩
theorem Inv.pinned {pins : List (Addr × Obj)} {σ : St} {H : Hp} {s : Shared} {fp : List Addr} (I : Inv X pins σ H s) (hf : ∀ b ∈ fp, FpOk X pins H b) (ho : ∀ b ∈ fp, ∃ o, s.heap.get? b = some o ∧ ∀ v, o.data ≠ .cell v) : Inv X (pins ++ pinsAt fp s.heap) σ H s :=
  I.pins_of fun p hp => (List.mem_append.mp hp).elim (fun z => I.pin p (List.mem_append_right _ z)) fun z => by
    obtain ⟨hb, e⟩ := of_pinsAt z
    obtain ⟨f0, f1, f2, _⟩ := hf p.1 hb
    obtain ⟨o, e', d⟩ := ho p.1 hb
    rw [e] at e'; cases e'
    exact ⟨e, f0, f1, f2, d⟩
theorem Inv.unpinned {pins pl : List (Addr × Obj)} {σ : St} {H : Hp} {s : Shared} (I : Inv X (pins ++ pl) σ H s) : Inv X pins σ H s := I.pins_of fun p hp => I.pin p (List.mem_append_right _ (List.mem_append_left _ hp))
theorem ps_for {iter : Expr} {body : List Stmt} {wi : TI} {g : TG} {tb : TS} {pos : Pos} (hp : PassesOwn (model X.prog X.w) X.A X.env X.xe) (hc : X.calm = true) (hi : PI X tg iter wi) (hg : PG X tg g) (hb : PSs X body tb)
    (hs : ∀ x, foldedSetIterable iter X.env x = pure x := by intro _; rfl) : PS X (.For tg iter body [] pos) (tFor wi g tb) := by
  intro pins s σ H D I h
  refine wpAny_For (thn (hi pins s σ H _ I h) fun v s1 h1 => thn h1 fun itv s2 h2 => ?_) hs
  obtain ⟨it, fp, tn, J, H2, e, I2, T, st2, f2, W, ⟨m0, w0⟩, turn⟩ := h2
  subst e
  -- what stays true of the iterator's objects through the loop
  have stat : ∀ {H' : Hp}, (∀ b ∈ fp, H' b = none) → ∀ b ∈ fp, FpOk X pins H' b := fun hn b hb => ⟨hn b hb, (f2 b hb).2⟩
  refine codeAny_forLoop_any (fun n s' => ∃ i σ' H', Inv X pins σ' H' s' ∧ tn i s'.heap ∧ (∀ b ∈ fp, H' b = none) ∧ W i n σ' H') ?_ m0 ⟨0, σ, H2, I2, st2, fun b hb => (f2 b hb).1, w0⟩
  rintro n s3 ⟨i, σ3, H3, I3, st3, fr3, w3⟩
  rcases turn i n σ3 H3 w3 with ⟨stop, qn⟩ | ⟨go, N, hN, step⟩
  · refine wpAny_passesOwn hp (thn (T.done X rfl rfl rfl hc i pins s3 σ3 H3 X.xe I3 (stat fr3) st3 stop) fun r s4 ⟨hr, I4⟩ => ?_)
    subst hr
    exact wpAny_execs_nil ⟨σ3, H3, I4, qn⟩
  · refine wpAny_passesOwn hp (thn (T.item X rfl rfl rfl hc i pins s3 σ3 H3 X.xe I3 (stat fr3) st3 go) fun r s4 ⟨u, hr, h4⟩ => ?_)
    subst hr
    refine wpAny_passesOwn hp (thn h4 fun _ s5 ⟨x, H5, I5, r5, y5, st5, fr5⟩ => ?_)
    have I5' := I5.pinned (stat fr5) (T.obj _ _ st5)
    refine wpAny_passesOwn hp (thn (hg _ s5 σ3 H5 x u _ I5' r5 (step x H5 y5)) fun _ s6 ⟨σ6, H6, I6, q6⟩ => ?_)
    refine wpAny_passesOwn hp (thn (hb _ s6 σ6 H6 _ I6 q6) fun f s7 q7 => ?_)
    have again : ∀ {σ7 : St} {H7 : Hp}, Inv X (pins ++ pinsAt fp s5.heap) σ7 H7 s7 → N σ7 H7 → ∃ m, m < n ∧ ∃ i σ' H', Inv X pins σ' H' s7 ∧ tn i s7.heap ∧ (∀ b ∈ fp, H' b = none) ∧ W i m σ' H' := fun {σ7 H7} I7 n7 => by
      obtain ⟨m', hm, w7⟩ := hN σ7 H7 n7
      refine ⟨m', hm, i + 1, σ7, H7, I7.unpinned, T.keep _ _ _ st5 fun b hb o e => (I7.pin (b, o) (List.mem_append_right _ (List.mem_append_right _ (mem_pinsAt hb e)))).1, fun b hb => ?_, w7⟩
      obtain ⟨o, e, d⟩ := T.obj _ _ st5 b hb
      exact (I7.pin (b, o) (List.mem_append_right _ (List.mem_append_right _ (mem_pinsAt hb e)))).2.1
    cases f with
    | next => obtain ⟨σ7, H7, I7, n7⟩ := q7; exact again I7 n7
    | cont => obtain ⟨σ7, H7, I7, n7⟩ := q7; exact again I7 n7
    | brk => obtain ⟨σ7, H7, I7, q7⟩ := q7; exact ⟨σ7, H7, I7.unpinned, q7⟩
    | ret v => obtain ⟨x7, σ7, H7, I7, r7, q7⟩ := q7; exact ⟨x7, σ7, H7, I7.unpinned, r7, q7⟩
end

theorem for_list {K : PySem.W.Frag} {a : Addr} {xs : List V} {g : TG} {tb : TS} {D : Ends} {σ : St} {H : Hp} (Pv : Nat → St → Hp → Prop) (h0 : Pv 0 σ H) (hl : ∀ i σ H, i ≤ xs.length → Pv i σ H → SqL K H a xs)
    (hs : ∀ i x σ H, xs[i]? = some x → Pv i σ H → g x σ H fun σ2 H2 => tb { D with nx := Pv (i + 1), ct := Pv (i + 1), bk := D.nx } σ2 H2) (hd : ∀ σ H, Pv xs.length σ H → D.nx σ H) :
    ∃ W : Nat → Nat → St → Hp → Prop, (∃ m, W 0 m σ H) ∧ ∀ i m σ H, W i m σ H →
      ((Itl K a).stop i H ∧ D.nx σ H) ∨ ((Itl K a).go i H ∧ ∃ N : St → Hp → Prop, (∀ σ' H', N σ' H' → ∃ m', m' < m ∧ W (i + 1) m' σ' H') ∧ ∀ x H', (Itl K a).yld i H x H' → g x σ H' fun σ2 H2 => tb { D with nx := N, ct := N, bk := D.nx } σ2 H2) := by
  refine ⟨fun i m σ H => m = xs.length - i ∧ i ≤ xs.length ∧ Pv i σ H, ⟨xs.length, by simp, Nat.zero_le _, h0⟩, ?_⟩
  rintro i m σ H ⟨rfl, hi, p⟩
  have q := hl i σ H hi p
  by_cases hlt : i < xs.length
  · refine .inr ⟨⟨xs, xs[i], q, by simp [hlt]⟩, Pv (i + 1), fun σ' H' p' => ⟨xs.length - (i + 1), by omega, rfl, hlt, p'⟩, fun x H' y => ?_⟩
    obtain ⟨e, y⟩ := y
    subst e
    exact hs i x σ _ (y xs q) p
  · have e : i = xs.length := by omega
    subst e
    exact .inl ⟨⟨xs, q, Nat.le_refl _⟩, hd σ H p⟩
theorem for_range {lo : Int} {n : Nat} {g : TG} {tb : TS} {D : Ends} {σ : St} {H : Hp} (Pv : Nat → St → Hp → Prop) (h0 : Pv 0 σ H)
    (hs : ∀ i σ H, i < n → Pv i σ H → g (.int (lo + i)) σ H fun σ2 H2 => tb { D with nx := Pv (i + 1), ct := Pv (i + 1), bk := D.nx } σ2 H2) (hd : ∀ σ H, Pv n σ H → D.nx σ H) :
    ∃ W : Nat → Nat → St → Hp → Prop, (∃ m, W 0 m σ H) ∧ ∀ i m σ H, W i m σ H →
      ((Itr lo n).stop i H ∧ D.nx σ H) ∨ ((Itr lo n).go i H ∧ ∃ N : St → Hp → Prop, (∀ σ' H', N σ' H' → ∃ m', m' < m ∧ W (i + 1) m' σ' H') ∧ ∀ x H', (Itr lo n).yld i H x H' → g x σ H' fun σ2 H2 => tb { D with nx := N, ct := N, bk := D.nx } σ2 H2) := by
  refine ⟨fun i m σ H => m = n - i ∧ i ≤ n ∧ Pv i σ H, ⟨n, by simp, Nat.zero_le _, h0⟩, ?_⟩
  rintro i m σ H ⟨rfl, hi, p⟩
  by_cases hlt : i < n
  · refine .inr ⟨hlt, Pv (i + 1), fun σ' H' p' => ⟨n - (i + 1), by omega, rfl, hlt, p'⟩, fun x H' y => ?_⟩
    obtain ⟨e, y⟩ := y
    subst e y
    exact hs i σ _ hlt p
  · have e : i = n := by omega
    subst e
    exact .inl ⟨Nat.le_refl _, hd σ H p⟩
end L2

namespace L2
open PySem PySem.Spec PyProof.Rows

noncomputable abbrev R2 := V → V → Hp → VK → Prop
noncomputable def OpR (X : Cx) (f : Value → Value → Sem Value) (r : R2) : Prop :=
  ∀ (pins : List (Addr × Obj)) (s : Shared) (σ : St) (H : Hp) (x y : V) (v u : Value) (Q : VK), Inv X pins σ H s → RelV x v → RelV y u → r x y H Q →
    wpAny (model X.prog X.w) X.A (f v u) (EP X pins σ Q) X.xe s
noncomputable def UnR (X : Cx) (f : Value → Sem Value) (r : V → Hp → VK → Prop) : Prop :=
  ∀ (pins : List (Addr × Obj)) (s : Shared) (σ : St) (H : Hp) (x : V) (v : Value) (Q : VK), Inv X pins σ H s → RelV x v → r x H Q →
    wpAny (model X.prog X.w) X.A (f v) (EP X pins σ Q) X.xe s
noncomputable def CallR (X : Cx) (f : Value) (r : List V → Hp → VK → Prop) : Prop :=
  ∀ (pins : List (Addr × Obj)) (s : Shared) (σ : St) (H : Hp) (xs : List V) (us : List Value) (Q : VK), Inv X pins σ H s → Vals xs us → r xs H Q →
    wpAny (model X.prog X.w) X.A (call f us) (EP X pins σ Q) X.xe s
noncomputable def tOp (r : R2) (ta tb : TE) : TE := fun σ H Q => ta σ H fun x H1 => tb σ H1 fun y H2 => r x y H2 Q
noncomputable def tUn (r : V → Hp → VK → Prop) (ta : TE) : TE := fun σ H Q => ta σ H fun x H1 => r x H1 Q
noncomputable def rI (C : Int → Int → Prop) (g : Int → Int → V) : R2 := fun x y H Q => ∃ i j, x = .int i ∧ y = .int j ∧ C i j ∧ Q (g i j) H
noncomputable def rI0 (g : Int → Int → V) : R2 := fun x y H Q => ∃ i j, x = .int i ∧ y = .int j ∧ Q (g i j) H
noncomputable def rU (g : Int → V) : V → Hp → VK → Prop := fun x H Q => ∃ i, x = .int i ∧ Q (g i) H

section
variable {X : Cx} {a b c : Expr} {ta tb tc : TE} {pos : Pos}

theorem binT (ha : PE X a ta) (hb : PE X b tb) {pins : List (Addr × Obj)} {s : Shared} {σ : St} {H : Hp} {R : V → V → Hp → Prop} (I : Inv X pins σ H s)
    (h : ta σ H fun x H1 => tb σ H1 fun y H2 => R x y H2) {Q : Value → Shared → Prop} {f : Value → Value → Sem Value}
    (hf : ∀ v u s2 x y H2, Inv X pins σ H2 s2 → RelV x v → RelV y u → R x y H2 → wpAny (model X.prog X.w) X.A (f v u) Q X.xe s2) :
    wpAny (model X.prog X.w) X.A (eval a X.env) (fun v s₁ => wpAny (model X.prog X.w) X.A (eval b X.env) (fun u s₂ => wpAny (model X.prog X.w) X.A (f v u) Q X.xe s₂) X.xe s₁) X.xe s := by
  refine thn (ha pins s σ H _ I h) fun v s1 ⟨x, H1, I1, r1, q1⟩ => ?_
  refine thn (hb pins s1 σ H1 _ I1 q1) fun u s2 ⟨y, H2, I2, r2, q2⟩ => ?_
  exact hf v u s2 x y H2 I2 r1 r2 q2

theorem pe_op {op : Operator} {r : R2} (ho : OpR X (binaryOp op) r) (ha : PE X a ta) (hb : PE X b tb) : PE X (.BinOp a op b pos) (tOp r ta tb) := by
  intro pins s σ H Q I h
  exact wpAny_BinOp (binT ha hb I h fun v u s2 x y H2 I2 rx ry q => ho pins s2 σ H2 x y v u Q I2 rx ry q)
theorem pe_un {op : UnaryOp} {r : V → Hp → VK → Prop} (ho : UnR X (unaryOp op) r) (ha : PE X a ta) : PE X (.UnaryOp op a pos) (tUn r ta) := by
  intro pins s σ H Q I h
  exact UnaryOp_ (thn (ha pins s σ H _ I h) fun v s1 ⟨x, H1, I1, r1, q1⟩ => ho pins s1 σ H1 x v Q I1 r1 q1)
theorem opI {f : Value → Value → Sem Value} {C : Int → Int → Prop} {g : Int → Int → Int}
    (rule : ∀ (i j : Int) (t u : Tok) (s : Shared) (Q : Value → Shared → Prop) (E : Value → Shared → Prop), C i j → Q (.int (g i j) s.toks) { s with toks := s.toks + 1 } → wpAny (model X.prog X.w) X.A (f (.int i t) (.int j u)) Q E s) :
    OpR X f (rI C fun i j => .int (g i j)) := by
  intro pins s σ H x y v u Q I rx ry h
  obtain ⟨i, j, rfl, rfl, hc, q⟩ := h
  obtain ⟨t, rfl⟩ := rx
  obtain ⟨t', rfl⟩ := ry
  exact rule i j t t' s _ _ hc ⟨.int (g i j), H, I.tok _, ⟨_, rfl⟩, q⟩
theorem opI0 {f : Value → Value → Sem Value} {g : Int → Int → Int}
    (rule : ∀ (i j : Int) (t u : Tok) (s : Shared) (Q : Value → Shared → Prop) (E : Value → Shared → Prop), Q (.int (g i j) s.toks) { s with toks := s.toks + 1 } → wpAny (model X.prog X.w) X.A (f (.int i t) (.int j u)) Q E s) :
    OpR X f (rI0 fun i j => .int (g i j)) := by
  intro pins s σ H x y v u Q I rx ry h
  obtain ⟨i, j, rfl, rfl, q⟩ := h
  obtain ⟨t, rfl⟩ := rx
  obtain ⟨t', rfl⟩ := ry
  exact rule i j t t' s _ _ ⟨.int (g i j), H, I.tok _, ⟨_, rfl⟩, q⟩
theorem opB0 {f : Value → Value → Sem Value} {g : Int → Int → Bool}
    (rule : ∀ (i j : Int) (t u : Tok) (s : Shared) (Q : Value → Shared → Prop) (E : Value → Shared → Prop), Q (.bool (g i j)) s → wpAny (model X.prog X.w) X.A (f (.int i t) (.int j u)) Q E s) :
    OpR X f (rI0 fun i j => .bl (g i j)) := by
  intro pins s σ H x y v u Q I rx ry h
  obtain ⟨i, j, rfl, rfl, q⟩ := h
  obtain ⟨t, rfl⟩ := rx
  obtain ⟨t', rfl⟩ := ry
  exact rule i j t t' s _ _ ⟨.bl (g i j), H, I, rfl, q⟩

noncomputable def CMul (i j : Int) : Prop := (-(2 ^ 64) < i ∧ i < 2 ^ 64) ∨ (-(2 ^ 64) < j ∧ j < 2 ^ 64)
theorem CMul.ok {i j : Int} (h : CMul i j) : IntMulOk i j := by
  rcases h with ⟨h1, h2⟩ | ⟨h1, h2⟩
  · exact .of_left (intBits_le_64 h1 h2)
  · exact .of_right (intBits_le_64 h1 h2)
theorem op_add : OpR X (binaryOp .Add) (rI0 fun i j => .int (i + j)) := opI0 fun _ _ _ _ _ _ _ q => add_int q
theorem op_sub : OpR X (binaryOp .Sub) (rI0 fun i j => .int (i - j)) := opI0 fun _ _ _ _ _ _ _ q => sub_int q
theorem op_mod : OpR X (binaryOp .Mod) (rI (fun _ j => 0 < j) fun i j => .int (i % j)) := opI fun i j _ _ _ _ _ hc q => by
  have h1 : (0 : Int) < j := hc
  exact mod_int' (by omega) (by rw [Int.fmod_eq_emod_of_nonneg i (by omega)]; exact q)
theorem unI {f : Value → Sem Value} {g : Int → Int}
    (rule : ∀ (i : Int) (t : Tok) (s : Shared) (Q : Value → Shared → Prop) (E : Value → Shared → Prop), Q (.int (g i) s.toks) { s with toks := s.toks + 1 } → wpAny (model X.prog X.w) X.A (f (.int i t)) Q E s) :
    UnR X f (rU fun i => .int (g i)) := by
  intro pins s σ H x v Q I rx h
  obtain ⟨i, rfl, q⟩ := h
  obtain ⟨t, rfl⟩ := rx
  exact rule i t s _ _ ⟨.int (g i), H, I.tok _, ⟨_, rfl⟩, q⟩
theorem un_neg : UnR X (unaryOp .USub) (rU fun i => .int (-i)) := unI fun _ _ _ _ _ q => neg_int q
end

noncomputable def scal : V → V → Bool
  | .non, .non => true | .non, .int _ => true | .int _, .non => true | .non, .bl _ => true | .bl _, .non => true | .non, .str _ => true | .str _, .non => true
  | .int _, .int _ => true | .bl _, .bl _ => true | .str _, .str _ => true | .byt _, .byt _ => true
  | .int _, .str _ => true | .str _, .int _ => true | .bl _, .str _ => true | .str _, .bl _ => true
  | _, _ => false
noncomputable def rEq : R2 := fun x y H Q => scal x y = true ∧ Q (.bl (decide (x = y))) H
noncomputable def rNe : R2 := fun x y H Q => scal x y = true ∧ Q (.bl (!decide (x = y))) H

theorem dec_int {i j : Int} : decide (V.int i = V.int j) = (i == j) := by
  rw [Bool.eq_iff_iff]
  simp
theorem dec_bl {i j : Bool} : decide (V.bl i = V.bl j) = (i == j) := by
  rw [Bool.eq_iff_iff]
  simp
theorem dec_str {i j : Str} : decide (V.str i = V.str j) = (i == j) := by
  rw [Bool.eq_iff_iff]
  simp
theorem dec_byt {i j : Array UInt8} : decide (V.byt i = V.byt j) = (i.toList == j.toList) := by
  rw [Bool.eq_iff_iff]
  cases i
  cases j
  simp

section
variable {X : Cx} {a b c : Expr} {ta tb tc : TE} {pos : Pos}
theorem fin_bl {pins : List (Addr × Obj)} {σ : St} {H : Hp} {s : Shared} {Q : VK} {k k' : Bool} (I : Inv X pins σ H s) (q : Q (.bl k) H) (e : k = k') : EP X pins σ Q (.bool k') s := by
  subst e
  exact ⟨.bl k, H, I, rfl, q⟩
theorem op_eq : OpR X (compareOp .Eq) rEq := by
  intro pins s σ H x y v u Q I rx ry h
  obtain ⟨hs, q⟩ := h
  cases x with
  | non =>
    cases rx
    cases y with
    | non => cases ry; exact PySem.EqNone.eq_none_none (fin_bl I q (by simp))
    | bl j => cases ry; exact PySem.EqNone.eq_none_bool (fin_bl I q (by simp))
    | int j => obtain ⟨t', rfl⟩ := ry; exact PySem.EqNone.eq_none_int (fin_bl I q (by simp))
    | str j => obtain ⟨t', rfl⟩ := ry; exact PySem.EqNone.eq_none_str (fin_bl I q (by simp))
    | _ => exact absurd (show false = true from hs) Bool.false_ne_true
  | bl i =>
    cases rx
    cases y with
    | non => cases ry; exact PySem.EqNone.eq_bool_none (fin_bl I q (by simp))
    | bl j => cases ry; exact eq_bool (fin_bl I q dec_bl)
    | str j => obtain ⟨t', rfl⟩ := ry; exact PySem.EqMixed.eq_bool_str (fin_bl I q (by simp))
    | _ => exact absurd (show false = true from hs) Bool.false_ne_true
  | int i =>
    obtain ⟨t, rfl⟩ := rx
    cases y with
    | non => cases ry; exact PySem.EqNone.eq_int_none (fin_bl I q (by simp))
    | int j => obtain ⟨t', rfl⟩ := ry; exact eq_int (fin_bl I q dec_int)
    | str j => obtain ⟨t', rfl⟩ := ry; exact PySem.EqMixed.eq_int_str (fin_bl I q (by simp))
    | _ => exact absurd (show false = true from hs) Bool.false_ne_true
  | str i =>
    obtain ⟨t, rfl⟩ := rx
    cases y with
    | non => cases ry; exact PySem.EqNone.eq_str_none (fin_bl I q (by simp))
    | bl j => cases ry; exact PySem.EqMixed.eq_str_bool (fin_bl I q (by simp))
    | int j => obtain ⟨t', rfl⟩ := ry; exact PySem.EqMixed.eq_str_int (fin_bl I q (by simp))
    | str j => obtain ⟨t', rfl⟩ := ry; exact eq_str (fin_bl I q dec_str)
    | _ => exact absurd (show false = true from hs) Bool.false_ne_true
  | byt i =>
    obtain ⟨t, rfl⟩ := rx
    cases y with
    | byt j => obtain ⟨t', rfl⟩ := ry; exact PySem.W.eq_bytes (fin_bl I q dec_byt)
    | _ => exact absurd (show false = true from hs) Bool.false_ne_true
  | _ => cases y <;> exact absurd (show false = true from hs) Bool.false_ne_true
theorem op_ne : OpR X (compareOp .NotEq) rNe := by
  intro pins s σ H x y v u Q I rx ry h
  obtain ⟨hs, q⟩ := h
  cases x with
  | non =>
    cases rx
    cases y with
    | non => cases ry; exact PySem.EqNone.ne_none_none (fin_bl I q (by simp))
    | bl j => cases ry; exact PySem.EqNone.ne_none_bool (fin_bl I q (by simp))
    | int j => obtain ⟨t', rfl⟩ := ry; exact PySem.EqNone.ne_none_int (fin_bl I q (by simp))
    | str j => obtain ⟨t', rfl⟩ := ry; exact PySem.EqNone.ne_none_str (fin_bl I q (by simp))
    | _ => exact absurd (show false = true from hs) Bool.false_ne_true
  | bl i =>
    cases rx
    cases y with
    | non => cases ry; exact PySem.EqNone.ne_bool_none (fin_bl I q (by simp))
    | bl j => cases ry; exact ne_bool (fin_bl I q (congrArg not dec_bl))
    | str j => obtain ⟨t', rfl⟩ := ry; exact PySem.EqMixed.ne_bool_str (fin_bl I q (by simp))
    | _ => exact absurd (show false = true from hs) Bool.false_ne_true
  | int i =>
    obtain ⟨t, rfl⟩ := rx
    cases y with
    | non => cases ry; exact PySem.EqNone.ne_int_none (fin_bl I q (by simp))
    | int j => obtain ⟨t', rfl⟩ := ry; exact ne_int (fin_bl I q (congrArg not dec_int))
    | str j => obtain ⟨t', rfl⟩ := ry; exact PySem.EqMixed.ne_int_str (fin_bl I q (by simp))
    | _ => exact absurd (show false = true from hs) Bool.false_ne_true
  | str i =>
    obtain ⟨t, rfl⟩ := rx
    cases y with
    | non => cases ry; exact PySem.EqNone.ne_str_none (fin_bl I q (by simp))
    | bl j => cases ry; exact PySem.EqMixed.ne_str_bool (fin_bl I q (by simp))
    | int j => obtain ⟨t', rfl⟩ := ry; exact PySem.EqMixed.ne_str_int (fin_bl I q (by simp))
    | str j => obtain ⟨t', rfl⟩ := ry; exact ne_str (fin_bl I q (congrArg not dec_str))
    | _ => exact absurd (show false = true from hs) Bool.false_ne_true
  | byt i =>
    obtain ⟨t, rfl⟩ := rx
    cases y with
    | byt j => obtain ⟨t', rfl⟩ := ry; exact PySem.W.ne_bytes (fin_bl I q (congrArg not dec_byt))
    | _ => exact absurd (show false = true from hs) Bool.false_ne_true
  | _ => cases y <;> exact absurd (show false = true from hs) Bool.false_ne_true

theorem op_lt : OpR X (compareOp .Lt) (rI0 fun i j => .bl (decide (i < j))) := opB0 fun _ _ _ _ _ _ _ q => lt_int q
theorem op_le : OpR X (compareOp .LtE) (rI0 fun i j => .bl (decide (i ≤ j))) := opB0 fun _ _ _ _ _ _ _ q => le_int q
theorem op_gt : OpR X (compareOp .Gt) (rI0 fun i j => .bl (decide (j < i))) := opB0 fun _ _ _ _ _ _ _ q => gt_int q
theorem op_in_str : OpR X (compareOp .In) (fun x y H Q => ∃ i j, x = .str i ∧ y = .str j ∧ Q (.bl (!(Builtin.Str.occurrences j i 0 j.length 1).isEmpty)) H) := by
  intro pins s σ H x y v u Q I rx ry h
  obtain ⟨i, j, rfl, rfl, q⟩ := h
  obtain ⟨t, rfl⟩ := rx
  obtain ⟨t', rfl⟩ := ry
  exact in_str (fin_bl I q rfl)

theorem op_isN : OpR X (compareOp .Is) (fun x y H Q => y = .non ∧ Q (.bl (decide (x = .non))) H) := by
  intro pins s σ H x y v u Q I rx ry h
  obtain ⟨rfl, q⟩ := h
  cases ry
  refine is_none_gen (fin_bl I q ?_)
  cases x <;> first
    | (cases rx; rfl)
    | (obtain ⟨t, rfl⟩ := rx; rfl)
theorem op_notN : OpR X (compareOp .IsNot) (fun x y H Q => y = .non ∧ Q (.bl (!decide (x = .non))) H) := by
  intro pins s σ H x y v u Q I rx ry h
  obtain ⟨rfl, q⟩ := h
  cases ry
  refine isnot_none_gen (fin_bl I q ?_)
  cases x <;> first
    | (cases rx; rfl)
    | (obtain ⟨t, rfl⟩ := rx; rfl)

theorem nomark (b : Expr) {op : CmpOp} (h : op ≠ .In := by decide) (h2 : op ≠ .NotIn := by decide) : behindInMarks op b = false := by
  have e1 : (op == CmpOp.In) = false := by cases op <;> first | rfl | exact absurd rfl h
  have e2 : (op == CmpOp.NotIn) = false := by cases op <;> first | rfl | exact absurd rfl h2
  cases b <;> simp [behindInMarks, e1, e2]
theorem pe_cmpR {op : CmpOp} {r : R2} (ho : OpR X (compareOp op) r) (ha : PE X a ta) (hb : PE X b tb) (hm : behindInMarks op b = false) : PE X (.Compare a [op] [b] pos) (tOp r ta tb) := by
  intro pins s σ H Q I h
  exact wpAny_Compare1 (binT ha hb I h fun v u s2 x y H2 I2 rx ry q => ho pins s2 σ H2 x y v u Q I2 rx ry q) hm
noncomputable def tTest (t : TE) : TT := fun σ H Q => t σ H fun x H' => ∃ k, x = .bl k ∧ Q k H'
theorem pt_cmpR {op : CmpOp} {r : R2} (ho : OpR X (compareOp op) r) (ha : PE X a ta) (hb : PE X b tb) (hm : behindInMarks op b = false) : PT X (.Compare a [op] [b] pos) (tTest (tOp r ta tb)) := by
  intro pins s σ H Q I h
  refine wpAny_isTrue_Compare1 (thn (ha pins s σ H _ I h) fun v s1 ⟨x, H1, I1, r1, q1⟩ => thn (hb pins s1 σ H1 _ I1 q1) fun u s2 ⟨y, H2, I2, r2, q2⟩ =>
    thn (ho pins s2 σ H2 x y v u _ I2 r1 r2 q2) fun c s3 ⟨z, H3, I3, r3, k, e, q3⟩ => ?_) hm
  subst e
  cases r3
  exact wpAny_truthy_bool ⟨H3, I3, q3⟩
noncomputable def tChain (r r' : R2) (ta tb tc : TE) : TE := fun σ H Q => ta σ H fun x H1 => tb σ H1 fun y H2 => r x y H2 fun z H3 => ∃ k, z = .bl k ∧
  (if k = true then tc σ H3 fun w' H4 => r' y w' H4 Q else Q (.bl false) H3)
theorem pe_chain {op op' : CmpOp} {r r' : R2} (ho : OpR X (compareOp op) r) (ho' : OpR X (compareOp op') r') (ha : PE X a ta) (hb : PE X b tb) (hc : PE X c tc)
    (hm : lastMarks [op, op'] [b, c] = false := by with_unfolding_all rfl) : PE X (.Compare a [op, op'] [b, c] pos) (tChain r r' ta tb tc) := by
  intro pins s σ H Q I h
  refine Compare_chain (thn (ha pins s σ H _ I h) fun v s1 ⟨x, H1, I1, r1, q1⟩ => chain_link (thn (hb pins s1 σ H1 _ I1 q1) fun u s2 ⟨y, H2, I2, r2, q2⟩ =>
    thn (ho pins s2 σ H2 x y v u _ I2 r1 r2 q2) fun d s3 ⟨z, H3, I3, r3, k, e, q3⟩ => ?_)) hm
  subst e
  cases r3
  refine wpAny_truthy_bool ?_
  cases k with
  | false => exact ite_ff ⟨.bl false, H3, I3, rfl, q3⟩
  | true => exact ite_tt (chain_last (thn (hc pins s3 σ H3 _ I3 q3) fun w' s4 ⟨z', H4, I4, r4, q4⟩ => ho' pins s4 σ H4 y z' u w' Q I4 r2 r4 q4))
theorem line63 : (sizeLine : Nat) < 2 ^ 63 := by rw [sizeLine_eq]; decide
theorem op_add_str : OpR X (binaryOp .Add) (fun x y H Q => ∃ i j, x = .str i ∧ y = .str j ∧ i.length + j.length ≤ sizeLine ∧ Q (.str (i ++ j)) H) := by
  intro pins s σ H x y v u Q I rx ry h
  obtain ⟨i, j, rfl, rfl, hz, q⟩ := h
  obtain ⟨t, rfl⟩ := rx
  obtain ⟨t', rfl⟩ := ry
  exact add_str (fun t' tk => ⟨.str (i ++ j), H, I.tok _, ⟨_, rfl⟩, q⟩) hz
theorem vals1 {x : V} {us : List Value} (r : Vals [x] us) : ∃ u, us = [u] ∧ RelV x u := by
  cases r with
  | cons r1 r2 => cases r2; exact ⟨_, rfl, r1⟩
theorem vals2 {x y : V} {us : List Value} (r : Vals [x, y] us) : ∃ u w', us = [u, w'] ∧ RelV x u ∧ RelV y w' := by
  cases r with
  | cons r1 r2 =>
    cases r2 with
    | cons r3 r4 => cases r4; exact ⟨_, _, rfl, r1, r3⟩
theorem call_int1 : CallR X (.type "int") (fun xs H Q => (∃ i, xs = [.int i] ∧ Q (.int i) H) ∨ ∃ k, xs = [.bl k] ∧ Q (.int (if k then 1 else 0)) H) := by
  intro pins s σ H xs us Q I r h
  rcases h with ⟨i, rfl, q⟩ | ⟨k, rfl, q⟩
  · obtain ⟨u, rfl, t, rfl⟩ := vals1 r
    exact call_int_int ⟨.int i, H, I, ⟨_, rfl⟩, q⟩
  · obtain ⟨u, rfl, r1⟩ := vals1 r
    cases r1
    exact call_int_bool ⟨.int (if k then 1 else 0), H, I.tok _, ⟨_, rfl⟩, q⟩
end
end L2

namespace L2
open PySem PySem.Spec PyProof.Rows

structure ObjM (h : Heap) (x dx C : Addr) (mA : Str → Option Value) : Prop where
  obj : h.get? x = some (PySem.W.instObj C dx)
  ns : h.Ns1 dx mA
  ne : dx ≠ x

theorem lookIn_ns {h : Heap} {dx : Addr} {mA : Str → Option Value} (n : h.Ns1 dx mA) : ∃ od, h.get? dx = some od ∧ ∀ name, PySem.W.lookIn name od = some (mA name) := by
  obtain ⟨o, es, ep, ho, hd, hk, _, hm⟩ := n
  refine ⟨o, ho, fun name => ?_⟩
  have e := hm name
  unfold nsFind findBy at e
  rw [← Array.find?_toList] at e
  unfold PySem.W.lookIn
  rw [hd]
  dsimp only
  split
  · rename_i y q
    rw [q] at e
    exact congrArg some e
  · rename_i q
    rw [q] at e
    have a : es.toList.any (·.refKey) = false := by
      rw [List.any_eq_false]
      intro y hy
      obtain ⟨z, t, hkey⟩ := hk y (Array.mem_toList_iff.mp hy)
      simp [DictEntry.refKey, hkey]
    have a' : ¬ es.toList.any (·.refKey) = true := by rw [a]; exact Bool.false_ne_true
    rw [if_neg a']
    exact congrArg some e

theorem ObjM.look {h : Heap} {x dx C : Addr} {mA : Str → Option Value} (I : ObjM h x dx C mA) : ∃ od, PySem.W.InstAt h x (PySem.W.instObj C dx) C (some od) ∧ ∀ name, PySem.W.lookIn name od = some (mA name) :=
  let ⟨od, ho, hl⟩ := lookIn_ns I.ns
  ⟨od, ⟨I.obj, rfl, rfl, ho⟩, hl⟩

section
variable {prog : Program} {w : World} {A : Around} {E : Value → Shared → Prop} {s : Shared} {K : PySem.W.Frag} {x dx C f : Addr} {mA : Str → Option Value} {name : Str} {v : Value}

end

theorem RelO.some_of {v : V} {o : Option Value} (r : RelO (some v) o) : ∃ u, o = some u ∧ RelV v u := by
  cases o with
  | none => exact (show False from r).elim
  | some u => exact ⟨u, rfl, r⟩
theorem handed_of {v : V} {u : Value} (r : RelV v u) : PySem.W.handedIn u = true := by
  cases v with
  | non => cases (show u = Value.none from r); rfl
  | bl b => cases (show u = Value.bool b from r); rfl
  | int i => obtain ⟨t, e⟩ := (show ∃ t, u = Value.int i t from r); cases e; rfl
  | str x => obtain ⟨t, e⟩ := (show ∃ t, u = Value.str x t from r); cases e; rfl
  | byt b => obtain ⟨t, e⟩ := (show ∃ t, u = Value.bytes b t from r); cases e; rfl
  | flt b => obtain ⟨t, e⟩ := (show ∃ t, u = Value.float b t from r); cases e; rfl
  | ref a => cases (show u = Value.ref a from r); rfl
  | ty n => cases (show u = Value.type n from r); rfl

section
variable {P : Program} {w : World} {H H' : Hp} {h h' : Heap} {a C dx : Addr} {fs fs' : List (Str × V)}
theorem ins_get (hok : HOk P w H h) (e : H a = some (.ins C dx fs)) : ∃ mA, ObjM h a dx C mA ∧ (∀ f, RelO (fs.lookup f) (mA f)) ∧ PySem.Within mA (fs.map (·.1)) ∧ fs.length ≤ 1000 ∧ H dx = some (.own a) := by
  obtain ⟨d, z, ne, ob, mA, n, r, q⟩ := (show ObjOk P w H h a (.ins C dx fs) from hok a _ e)
  exact ⟨mA, ⟨ob, n, ne⟩, r, q, z, d⟩
end

structure Cls (K : PySem.W.Frag) (C : Addr) : Prop where
  pg : PySem.W.plainGet K C Str.empty = true
  hd : PySem.W.hasDictIn K C = true
  po : PySem.W.plainOver K C = true
  sa : PySem.W.findIn K (.ref C) "__setattr__" = some (some (.builtin "object.__setattr__"))
theorem Cls.get {K : PySem.W.Frag} {C : Addr} (c : Cls K C) (f : Str) : PySem.W.plainGet K C f = true := c.pg
section
variable {X : Cx} {pins : List (Addr × Obj)} {σ : St} {H : Hp} {s : Shared} {a C dx : Addr} {fs : List (Str × V)} {f : Str} {v : V} {A : Around} {E : Value → Shared → Prop}

theorem attr_of {prog : Program} {w : World} {env : Env} {e : Expr} {f : Str} {pos : Pos} {s : Shared} {Q : Value → Shared → Prop} (hb : attributeBase e f env (eval e env) = eval e env)
    (h : wpAny (model prog w) A (eval e env) (fun o s₁ => wpAny (model prog w) A (getAttr o f true) Q E s₁) E s) : wpAny (model prog w) A (eval (.Attribute e f pos) env) Q E s :=
  Attribute_any_ h (by rw [arm_eval_Attribute, hb])
end

section
variable {X : Cx} {o e value : Expr} {f : Str} {pos pos' tpos : Pos} {ta tv : TE}
end

section
variable {X : Cx} {pins : List (Addr × Obj)} {σ : St} {H : Hp} {s : Shared} {A : Around} {E : Value → Shared → Prop} {Q : Value → Shared → Prop} {c : Value} {b : Bool}
inductive TyOf (K : PySem.W.Frag) (H : Hp) : V → Value → Prop where
  | non : TyOf K H .non (.type "NoneType")
  | bl (x : Bool) : TyOf K H (.bl x) (.type "bool")
  | int (i : Int) : TyOf K H (.int i) (.type "int")
  | str (x : Str) : TyOf K H (.str x) (.type "str")
  | flt (x : UInt64) : TyOf K H (.flt x) (.type "float")
  | lst {a : Addr} {xs : List V} (e : H a = some (.lst xs)) : TyOf K H (.ref a) (.type "list")
  | frz {a : Addr} {o : Obj} {xs : List V} (e : H a = some (.frz o (.lst xs))) : TyOf K H (.ref a) (.type "list")
  | tup {a : Addr} {xs : List V} (e : H a = some (.tup xs)) : TyOf K H (.ref a) (.type "tuple")
  | dK {a : Addr} {kvs : List (Key × V)} (e : H a = some (.dK kvs)) : TyOf K H (.ref a) (.type "dict")
  | dT {a : Addr} {kvs : List (List Key × V)} (e : H a = some (.dT kvs)) : TyOf K H (.ref a) (.type "dict")
  | ins {a C dx : Addr} {fs : List (Str × V)} (e : H a = some (.ins C dx fs)) (cl : Cls K C) (ha : PySem.W.findIn K (.ref C) "__class__" = some (some (.builtin "object.__class__")))
      (hn : PySem.W.specialIn K (.builtin "object.__class__") "__get__" = some (some (.builtin "getset_descriptor.__get__"))) (htk : PySem.W.takesIn K (.builtin "object.__class__") = some true)
      (hm : PySem.W.mroIn K C (.type "object") = some true) : TyOf K H (.ref a) (.ref C)
theorem isinst_ok {x : V} {u t : Value} (I : Inv X pins σ H s) (rx : RelV x u) (ty : TyOf X.K H x t) (e : PySem.W.kitOne X.K t c = some b) (h : ∀ tk, Q (.bool b) { s with toks := tk }) :
    wpAny (model X.prog X.w) A (call (.builtin "isinstance") [u, c]) Q E s := by
  cases ty with
  | non => cases (show u = Value.none from rx); exact PySem.W.kia_one PySem.W.kitx_none I.kIn True.intro e (fun z => nomatch z) h
  | bl y => cases (show u = Value.bool y from rx); exact PySem.W.kia_one PySem.W.kitx_bool I.kIn True.intro e (fun z => nomatch z) h
  | int i => obtain ⟨t, q⟩ := (show ∃ t, u = Value.int i t from rx); cases q; exact PySem.W.kia_one PySem.W.kitx_int I.kIn True.intro e (fun z => nomatch z) h
  | str y => obtain ⟨t, q⟩ := (show ∃ t, u = Value.str y t from rx); cases q; exact PySem.W.kia_one PySem.W.kitx_str I.kIn True.intro e (fun z => nomatch z) h
  | flt y => obtain ⟨t, q⟩ := (show ∃ t, u = Value.float y t from rx); cases q; exact PySem.W.kia_one PySem.W.kitx_float I.kIn True.intro e (fun z => nomatch z) h
  | @lst a xs ea =>
    cases (show u = Value.ref a from rx)
    obtain ⟨_, _, n, _, h1⟩ := (show ObjOk X.prog X.w H s.heap a (.lst xs) from I.hok a _ ea)
    exact PySem.W.kia_one PySem.W.kitx_list I.kIn ⟨_, h1, rfl⟩ e (fun z => nomatch z) h
  | @frz a ob xs ea =>
    cases (show u = Value.ref a from rx)
    obtain ⟨_, _, _, n, _, h1⟩ := (show ObjOk X.prog X.w H s.heap a (.frz ob (.lst xs)) from I.hok a _ ea)
    exact PySem.W.kia_one PySem.W.kitx_list I.kIn ⟨_, h1, rfl⟩ e (fun z => nomatch z) h
  | @tup a xs ea =>
    cases (show u = Value.ref a from rx)
    obtain ⟨_, _, _, p⟩ := (show ObjOk X.prog X.w H s.heap a (.tup xs) from I.hok a _ ea)
    obtain ⟨o, h1, h2, _⟩ := p
    exact PySem.W.kia_one PySem.W.kitx_tuple I.kIn ⟨o, h1, h2⟩ e (fun z => nomatch z) h
  | @dK a kvs ea =>
    cases (show u = Value.ref a from rx)
    obtain ⟨_, _, vs, _, p⟩ := (show ObjOk X.prog X.w H s.heap a (.dK kvs) from I.hok a _ ea)
    obtain ⟨o, es, ep, h1, h2, _⟩ := p
    exact PySem.W.kia_one PySem.W.kitx_dict I.kIn ⟨o, h1, h2.1⟩ e (fun z => nomatch z) h
  | @dT a kvs ea =>
    cases (show u = Value.ref a from rx)
    obtain ⟨_, _, xs, _, o, es, ep, h1, h2, _⟩ := (show ObjOk X.prog X.w H s.heap a (.dT kvs) from I.hok a _ ea)
    exact PySem.W.kia_one PySem.W.kitx_dict I.kIn ⟨o, h1, h2.1⟩ e (fun z => nomatch z) h
  | @ins a C dx fs ea cl ha hn htk hm =>
    cases (show u = Value.ref a from rx)
    obtain ⟨mA, O, _⟩ := ins_get I.hok ea
    obtain ⟨od, J, _⟩ := O.look
    exact PySem.W.kia_one (PySem.W.kitx_own (cl.get _) cl.hd ha hn htk hm) I.kIn J e (fun z => nomatch z) h
end
end L2

namespace L2
open PySem PySem.Spec PyProof.Rows

structure Room (k : Nat) (A : Around) : Prop where
  hd : A.handled = none
  dp : A.depth + 3 * k + 5 < recursionLimit
  un : A.units + 16 * k + 200 < cLine
theorem Room.mono {j k : Nat} {A : Around} (r : Room k A) (h : j ≤ k) : Room j A := ⟨r.hd, by have := r.dp; omega, by have := r.un; omega⟩
theorem Room.deeper {k : Nat} {A : Around} (r : Room (k + 1) A) (env : Env) : Room k (A.deeper env) :=
  ⟨r.hd, by have := r.dp; show A.depth + 1 + 3 * k + 5 < _; omega, by have := r.un; show A.units + 3 + 16 * k + 200 < _; omega⟩
theorem make_depth {A : Around} {C : Addr} {us : List Value} {kw : List (Str × Value)} : (A.under (.builtin "type.__call__" ⟨.ref C :: us, kw⟩)).depth = A.depth + 1 := by
  first | rfl | simp [Around.under, Code.weight, Code.isCreation, Code.isGuard, Code.isCaller, Code.frames, Code.isFrame, guardIds]
theorem make_units {A : Around} {C : Addr} {us : List Value} {kw : List (Str × Value)} : (A.under (.builtin "type.__call__" ⟨.ref C :: us, kw⟩)).units = A.units + 1 := by
  first | rfl | simp [Around.under, Code.cUnits, Code.frames, Code.isFrame]
theorem Room.make {k : Nat} {A : Around} (r : Room (k + 1) A) (C : Addr) (us : List Value) (kw : List (Str × Value)) : Room k (A.under (.builtin "type.__call__" ⟨.ref C :: us, kw⟩)) :=
  ⟨r.hd, by have := r.dp; rw [make_depth]; omega, by have := r.un; rw [make_units]; omega⟩
theorem Room.depth {k : Nat} {A : Around} (r : Room k A) : A.depth < recursionLimit := by have := r.dp; omega
theorem Room.units {k : Nat} {A : Around} (r : Room k A) : A.units + 64 < cLine := by have := r.un; omega
theorem Room.units0 {k : Nat} {A : Around} (r : Room k A) : A.units < cLine := by have := r.un; omega

noncomputable def tNil : TA := fun _ H Q => Q [] H
noncomputable def tCons (ta : TE) (tr : TA) : TA := fun σ H Q => ta σ H fun x H1 => tr σ H1 fun xs H2 => Q (x :: xs) H2
section
variable {X : Cx} {e : Expr} {es : List Expr} {te : TE} {t : TA} {pos : Pos}
theorem pa_nil : PA X [] tNil := fun _ _ _ _ H Q I h => Calls.spliced_nil ⟨[], H, I, .nil, h⟩
theorem pa_cons (ha : PE X e te) (hr : PA X es t) (hs : starEach (e :: es) X.env = (false, eval e X.env) :: starEach es X.env := by rfl) : PA X (e :: es) (tCons te t) := by
  intro pos pins s σ H Q I h
  rw [hs]
  show wpAny _ _ (spliced ((false, eval e X.env) :: backTo pos (starEach es X.env))) _ _ s
  refine Calls.spliced_cons (thn (ha pins s σ H _ I h) fun u s1 ⟨x, H1, I1, r1, q1⟩ => ?_)
  exact thn (hr pos pins s1 σ H1 _ I1 q1) fun us s2 ⟨xs, H2, I2, r2, q2⟩ => ⟨x :: xs, H2, I2, .cons r1 r2, q2⟩

noncomputable def tTup (t : TA) : TE := fun σ H Q => t σ H fun xs H1 => xs.length ≤ sizeLine ∧ ∀ p, H1 p = none → Q (.ref p) (upd H1 p (.tup xs))
noncomputable def tLst (t : TA) : TE := fun σ H Q => t σ H fun xs H1 => xs.length ≤ sizeLine ∧ ∀ p, H1 p = none → Q (.ref p) (upd H1 p (.lst xs))
theorem pe_tup {x1} (h : PA X es t) : PE X (.Tuple es x1 pos) (tTup t) := by
  intro pins s σ H Q I hq
  refine wpAny_Tuple_spliced (thn (h pos pins s σ H _ I hq) fun us s1 ⟨xs, H1, I1, r, z, q⟩ => ⟨by rw [← r.length]; exact z, ?_⟩)
  have hf : H1 s1.heap.objs.size = none := I1.hok.fresh (Nat.le_refl _)
  refine ⟨.ref s1.heap.objs.size, upd H1 s1.heap.objs.size (.tup xs), I1.laid (t' := s1.toks) (fun b u e => Heap.get?_push_of_some _ e) (Nat.le_refl _) ?_, rfl, q _ hf⟩
  exact ⟨z, us, r, ⟨_, Heap.get?_push_size _ rfl, rfl, _, rfl⟩⟩
theorem pe_lst (h : PA X es t) : PE X (.List es pos) (tLst t) := by
  intro pins s σ H Q I hq
  refine wpAny_List_spliced (thn (h pos pins s σ H _ I hq) fun us s1 ⟨xs, H1, I1, r, z, q⟩ => ⟨by rw [← r.length]; exact z, ?_⟩)
  have hf : H1 s1.heap.objs.size = none := I1.hok.fresh (Nat.le_refl _)
  refine ⟨.ref s1.heap.objs.size, upd H1 s1.heap.objs.size (.lst xs), I1.laid (t' := s1.toks) (fun b u e => Heap.get?_push_of_some _ e) (Nat.le_refl _) ?_, rfl, q _ hf⟩
  exact ⟨z, us, 0, r, Heap.get?_push_size _ rfl⟩
end

noncomputable abbrev Sp := List V → Hp → VK → XK → Prop
noncomputable abbrev CXT := List Env → Hp → Shared → XK → Value → Shared → Prop

structure Env0 (P : Program) (w : World) (K : PySem.W.Frag) (mg : Str → Option Value) (base : Heap) (A : Around) (outer : List Env) (s : Shared) (H : Hp) : Prop where
  frames : A.frames = some outer
  mod : Mod K mg base
  bs : ∀ b o, base.get? b = some o → s.heap.get? b = some o ∧ H b = none
  bsz : base.objs.size ≤ s.heap.objs.size
  funs : s.heap.FunFrames base outer
  frf : ∀ b ∈ frs outer, H b = none
  hok : HOk P w H s.heap
  bare : AllBare s.gens
noncomputable def CE (outer : List Env) (P : Program) (w : World) (H : Hp) (s : Shared) (Q : VK) (u : Value) (s' : Shared) : Prop :=
  ∃ v H', s'.os = s.os ∧ AllBare s'.gens ∧ Un (frs outer) [] H H' s.heap s'.heap ∧ HOk P w H' s'.heap ∧ RelV v u ∧ Q v H'
noncomputable def CR (CX : CXT) (outer : List Env) (P : Program) (w : World) (H : Hp) (s : Shared) (Q : VK) (E : XK) (r : Result) (s' : Shared) : Prop :=
  match r with
  | .ok (.ret u) => CE outer P w H s Q u s'
  | .ok _ => False
  | .error e => CX outer H s E e s'
structure FnOk (P : Program) (w : World) (K : PySem.W.Frag) (mg : Str → Option Value) (base : Heap) (CX : CXT) (k : Nat) (f : Addr) (fd : FuncData) (ps : List Str) (sp : Sp) : Prop where
  len : ∀ vs H Q E, sp vs H Q E → vs.length = ps.length
  run : ∀ (A : Around) (outer : List Env) (s : Shared) (H : Hp) (args : Args) (us : List Value) (vs : List V) (Q : VK) (E : XK), Room k A → Env0 P w K mg base A outer s H → BindsTo s fd args (ps.zip us) → Vals vs us → sp vs H Q E →
    codeAny (model P w) A (.call (.ref f) args) (CR CX outer P w H s Q E) s
theorem Env0.make {P : Program} {w : World} {K : PySem.W.Frag} {mg : Str → Option Value} {base : Heap} {A : Around} {outer : List Env} {s : Shared} {H : Hp} (e : Env0 P w K mg base A outer s H) (C : Addr) (us : List Value) (kw : List (Str × Value)) :
    Env0 P w K mg base (A.under (.builtin "type.__call__" ⟨.ref C :: us, kw⟩)) outer s H := ⟨by first | exact e.frames | (simpa [Around.under, Code.envs, Code.isFrame, pushEnvs] using e.frames), e.mod, e.bs, e.bsz, e.funs, e.frf, e.hok, e.bare⟩
section
variable {X : Cx} {pins : List (Addr × Obj)} {σ : St} {H : Hp} {s s' : Shared}
theorem Inv.env0 (I : Inv X pins σ H s) : Env0 X.prog X.w X.K X.mg X.base X.A X.stack s H :=
  ⟨I.ok.frames, I.ok.mod, I.bs, Nat.le_trans I.ok.bsz I.sz, I.stack, I.stkFree, I.hok, I.bare⟩
theorem Inv.after {Q : VK} {u : Value} (I : Inv X pins σ H s) (h : CE X.stack X.prog X.w H s Q u s') : EP X pins σ Q u s' := by
  obtain ⟨v, H', os, bare, un, hok, r, q⟩ := h
  obtain ⟨hh, g, d, t, os'⟩ := s'
  obtain rfl : os' = s.os := os
  exact ⟨v, H', I.call (h' := hh) (g' := g) (d' := d) (t' := t) (ch := []) un hok bare (fun b z => absurd z (by simp)), r, q⟩
end

noncomputable def tCall (sp : Sp) (dvs : List V) (E : XK) (t : TA) : TE := fun σ H Q => t σ H fun vs H1 => sp (vs ++ dvs) H1 Q E
noncomputable def Binds (K : PySem.W.Frag) (fd : FuncData) (ps : List Str) (ds : List Value) : Prop :=
  ∀ (s : Shared) (us : List Value), K.In s.heap → (us ++ ds).length = ps.length → BindsTo s fd ⟨us, []⟩ (ps.zip (us ++ ds))
theorem Binds.all {K : PySem.W.Frag} {fd : FuncData} {ps : List Str} (h : ∀ us : List Value, us.length = ps.length → bindArgs fd ⟨us, []⟩ = pure (ps.zip us)) : Binds K fd ps [] := fun s us _ hl => by
  rw [List.append_nil] at hl ⊢
  exact .of_eq (h us hl)

noncomputable def Passes (CX : CXT) (X : Cx) (E : XK) : Prop := ∀ (pins : List (Addr × Obj)) (σ : St) (H : Hp) (s : Shared) (e : Value) (s' : Shared), Inv X pins σ H s → CX X.stack H s E e s' → X.xe e s'

section
variable {X : Cx} {CX : CXT} {k : Nat} {f C : Addr} {fd : FuncData} {ps : List Str} {sp : Sp} {dvs : List V} {ds : List Value} {E : XK} {x m : Str} {p pos apos : Pos} {e o : Expr} {es : List Expr} {ta : TE} {t : TA}

theorem run_fn {pins : List (Addr × Obj)} {σ : St} {H : Hp} {s : Shared} {Q : VK} {us : List Value} {vs : List V} (F : FnOk X.prog X.w X.K X.mg X.base CX k f fd ps sp) (hr : Room k X.A) (hb : Binds X.K fd ps ds) (hd : Vals dvs ds) (hx : Passes CX X E)
    (I : Inv X pins σ H s) (r : Vals vs us) (h : sp (vs ++ dvs) H Q E) : wpAny (model X.prog X.w) X.A (call (.ref f) us) (EP X pins σ Q) X.xe s := by
  have r2 : Vals (vs ++ dvs) (us ++ ds) := r.append hd
  have hl : (us ++ ds).length = ps.length := by rw [← r2.length]; exact F.len _ _ _ _ h
  refine wpAny_call (codeAny_mono (F.run X.A X.stack s H ⟨us, []⟩ (us ++ ds) (vs ++ dvs) Q E hr I.env0 (hb s us I.kIn hl) r2 h) fun r s' hq => ?_)
  cases r with
  | error e => exact hx pins σ H s e s' I hq
  | ok fl =>
    cases fl with
    | ret u => exact I.after hq
    | next => exact False.elim hq
    | brk => exact False.elim hq
    | cont => exact False.elim hq

theorem pe_call (F : FnOk X.prog X.w X.K X.mg X.base CX k f fd ps sp) (hr : Room k X.A) (hg : Gl X x) (hm : X.mg x = some (.ref f)) (hk : PySem.W.keepIn X.K (.ref f) = true) (hb : Binds X.K fd ps ds) (hd : Vals dvs ds) (hx : Passes CX X E)
    (ha : PA X (e :: es) t) (hdb : (x == ("__debug__" : Str)) = false := by decide) (he : starEach (e :: es) X.env = (false, eval e X.env) :: starEach es X.env := by rfl) (hpl : (backTo pos (starEach es X.env)).any (·.1) = false := by rfl) :
    PE X (.Call (.Name x p) (e :: es) [] pos) (tCall sp dvs E t) := by
  intro pins s σ H Q I h
  refine wpAny_Call_Name_kw (ld_glob I hg hm ?_ hdb)
  refine PySem.W.callWith_K (h₀ := X.base) I.ok.mod.kin hk (thn (ha pos pins s σ H _ I h) fun us s1 ⟨vs, H1, I1, r, q⟩ => ⟨I1.kIn, ?_⟩) he hpl
  exact run_fn F hr hb hd hx I1 r q
theorem pe_call0 (F : FnOk X.prog X.w X.K X.mg X.base CX k f fd ps sp) (hr : Room k X.A) (hg : Gl X x) (hm : X.mg x = some (.ref f)) (hk : PySem.W.keepIn X.K (.ref f) = true) (hb : Binds X.K fd ps ds) (hd : Vals dvs ds) (hx : Passes CX X E)
    (hdb : (x == ("__debug__" : Str)) = false := by decide) : PE X (.Call (.Name x p) [] [] pos) (tCall sp dvs E tNil) := by
  intro pins s σ H Q I h
  refine wpAny_Call_Name_kw (ld_glob I hg hm ?_ hdb)
  exact PySem.W.callWith_K0 I.kIn hk (run_fn (us := []) F hr hb hd hx I .nil h)

end

section
variable {X : Cx} {CX : CXT} {k : Nat} {f C : Addr} {fd : FuncData} {ps ks : List Str} {sp : Sp} {E : XK} {x m : Str} {p pos apos kpos : Pos} {e o : Expr} {es : List Expr} {kws : List Keyword} {te ta : TE} {t tk : TA} {nm : Option Str}
variable {g : List Value → List Value → List Value} {gV : List V → List V → List V}
end

structure FnScope (N P : List Str) (sc : Scope) : Prop where
  kind : sc.kind = .function
  co : sc.isCoroutine = false
  gen : sc.isGenerator = false
  nd : N.Nodup
  pre : N.take P.length = P
  par : ∀ x ∈ P, sc.names.lookup x = some .local ∨ sc.names.lookup x = some .cell
  nofree : ∀ y ∈ sc.names, y.2 ≠ .free

theorem bindL_out {kindOf : Str → Option NameKind} {x : Str} : ∀ {binds : List (Str × Value)} {m : Str → Option Value}, (∀ v, (x, v) ∉ binds) → bindL kindOf binds m x = m x
  | [], _, _ => rfl
  | (n, v) :: r, m, h => by
    unfold bindL
    rw [bindL_out fun w hw => h w (List.mem_cons_of_mem _ hw)]
    split
    · have : x ≠ n := by rintro rfl; exact h v List.mem_cons_self
      simp [this]
    · rfl
theorem bindC_out {kindOf : Str → Option NameKind} {x : Str} : ∀ {binds : List (Str × Value)} {m : Str → Option Value}, (∀ v, (x, v) ∉ binds) → bindC kindOf binds m x = m x
  | [], _, _ => rfl
  | (n, v) :: r, m, h => by
    unfold bindC
    rw [bindC_out fun w hw => h w (List.mem_cons_of_mem _ hw)]
    split
    · rfl
    · have : x ≠ n := by rintro rfl; exact h v List.mem_cons_self
      simp [this]
theorem bindL_get {kindOf : Str → Option NameKind} {x : Str} {v : Value} : ∀ {P : List Str} {vs : List Value} {i : Nat} {m : Str → Option Value}, P.Nodup → P[i]? = some x → vs[i]? = some v → kindOf x = some .local →
    bindL kindOf (P.zip vs) m x = some v
  | [], _, _, _, _, h, _, _ => by simp at h
  | _ :: _, [], _, _, _, _, h, _ => by simp at h
  | p :: P, w :: vs, 0, m, nd, h1, h2, hk => by
    simp at h1 h2; subst h1; subst h2
    show bindL kindOf ((p, w) :: P.zip vs) m p = _
    unfold bindL
    rw [bindL_out fun v hv => (List.nodup_cons.mp nd).1 (List.of_mem_zip hv).1, if_pos hk]
    simp
  | p :: P, w :: vs, i + 1, m, nd, h1, h2, hk => by
    show bindL kindOf ((p, w) :: P.zip vs) m x = _
    unfold bindL
    exact bindL_get (i := i) (List.nodup_cons.mp nd).2 (by simpa using h1) (by simpa using h2) hk
theorem bindC_get {kindOf : Str → Option NameKind} {x : Str} {v : Value} : ∀ {P : List Str} {vs : List Value} {i : Nat} {m : Str → Option Value}, P.Nodup → P[i]? = some x → vs[i]? = some v → kindOf x ≠ some .local →
    bindC kindOf (P.zip vs) m x = some v
  | [], _, _, _, _, h, _, _ => by simp at h
  | _ :: _, [], _, _, _, _, h, _ => by simp at h
  | p :: P, w :: vs, 0, m, nd, h1, h2, hk => by
    simp at h1 h2; subst h1; subst h2
    show bindC kindOf ((p, w) :: P.zip vs) m p = _
    unfold bindC
    rw [bindC_out fun v hv => (List.nodup_cons.mp nd).1 (List.of_mem_zip hv).1, if_neg hk]
    simp
  | p :: P, w :: vs, i + 1, m, nd, h1, h2, hk => by
    show bindC kindOf ((p, w) :: P.zip vs) m x = _
    unfold bindC
    exact bindC_get (i := i) (List.nodup_cons.mp nd).2 (by simpa using h1) (by simpa using h2) hk

noncomputable def start (N : List Str) (vs : List V) : St := vs.map some ++ List.replicate (N.length - vs.length) none

noncomputable def cxOf (CX : CXT) (P : Program) (w : World) (K : PySem.W.Frag) (mg : Str → Option Value) (base : Heap) (N : List Str) (qual : Str) (scope : Scope) (f : Addr) (cd : Value) (A : Around) (outer : List Env) (s : Shared) (H : Hp) (E : XK) : Cx where
  prog := P
  w := w
  K := K
  mg := mg
  base := base
  A := A.deeper (envOfC qual scope s.heap.objs.size f cd)
  N := N
  s₀ := s
  H₀ := H
  env := envOfC qual scope s.heap.objs.size f cd
  outer := outer
  stack := envOfC qual scope s.heap.objs.size f cd :: outer
  ex := []
  calm := true
  fn := fun _ => true
  pn := []
  xe := fun e s' => wpAny (model P w) (A.deeper (envOfC qual scope s.heap.objs.size f cd)) (leaving (envOfC qual scope s.heap.objs.size f cd) e) (fun _ s'' => CX outer H s E e s'') (fun e' s'' => CX outer H s E e' s'') s'

theorem cell_has {sc : Scope} {n : Nat} {x : Str} (h : sc.names.lookup x = some .cell) : ∃ c, (cellsFrom n sc.names []).lookup x = some c := by
  have q := PySem.W.cellsFrom_some sc.names n [] (.inl h)
  exact Option.isSome_iff_exists.mp q

theorem inv_start {CX : CXT} {P : Program} {w : World} {K : PySem.W.Frag} {mg : Str → Option Value} {base : Heap} {N ps : List Str} {qual : Str} {scope : Scope} {f : Addr} {cd : Value} {A : Around} {outer : List Env} {s s1 : Shared} {H : Hp} {E : XK} {us : List Value} {vs : List V}
    (S : FnScope N ps scope) (hd : A.handled = none) (e0 : Env0 P w K mg base A outer s H) (hl : vs.length = ps.length) (r : Vals vs us)
    (x : InCallC s s.heap.objs.size (bindL (envOfC qual scope s.heap.objs.size f cd).kindOf (ps.zip us) fun _ => none) (cellsFrom (s.heap.objs.size + 1) scope.names []) (bindC (envOfC qual scope s.heap.objs.size f cd).kindOf (ps.zip us) fun _ => none) s1) :
    Inv (cxOf CX P w K mg base N qual scope f cd A outer s H E) [] (start N vs) H s1 := by
  have hpl : ps.length ≤ N.length := by have := congrArg List.length S.pre; rw [List.length_take] at this; omega
  obtain ⟨h1, tk, rfl, hk⟩ := x.done
  have noA : ∀ b : Addr, b ∉ (cxOf CX P w K mg base N qual scope f cd A outer s H E).ex := fun b z => absurd (show b ∈ ([] : List Addr) from z) (by simp)
  refine ⟨⟨e0.mod, S.kind, rfl, rfl, Nat.le_refl _, fun y z c h1 h2 => ?_, fun y hy => ?_, fun y c _ h => ?_, fun _ => hd, Around.frames_deeper e0.frames, .inr ⟨rfl, rfl⟩, fun b z => absurd z (noA b), e0.bs, e0.bsz, fun b _ _ => noA b, fun b z => absurd z (noA b), e0.funs, e0.frf⟩,
    rfl, e0.bare, Un.kept hk, ⟨_, x.toInCall.ns, fun i y v h1 h2 h3 => ?_⟩, fun y c h => ⟨_, x.cell y c h⟩, e0.hok.fresh (Nat.le_refl _), fun y c h => ?_, fun p hp => absurd (show p ∈ ([] : List (Addr × Obj)) from hp) (by simp), e0.hok.kept hk, ?_⟩
  · exact name_of_addr x.apart (PySem.mem_of_lookup h1) (PySem.mem_of_lookup h2)
  · have hy : scope.names.lookup y = some .cell ∨ scope.names.lookup y = some .free := hy
    rcases hy with hy | hy
    · exact cell_has hy
    · exact absurd rfl (S.nofree _ (PySem.mem_of_lookup hy))
  · exact Nat.le_of_lt (x.above y c (PySem.mem_of_lookup h))
  · have hi : i < vs.length := by
      unfold start at h2
      by_cases hi : i < vs.length
      · exact hi
      · rw [List.getElem?_append_right (by simpa using hi)] at h2
        rw [List.getElem?_replicate] at h2
        split at h2 <;> cases h2
    have ha : vs[i]? = some v := by
      unfold start at h2
      rw [List.getElem?_append_left (by simpa using hi), List.getElem?_map] at h2
      cases e : vs[i]? with
      | none => rw [e] at h2; cases h2
      | some a => rw [e] at h2; cases h2; rfl
    obtain ⟨u, hu, rv⟩ := r.get ha
    have hp : ps[i]? = some y := by
      rw [← S.pre, List.getElem?_take_of_lt (by omega)]; exact h1
    have ndP : ps.Nodup := by rw [← S.pre]; exact S.nd.sublist (List.take_sublist _ _)
    refine ⟨u, rv, ?_⟩
    rcases S.par y (List.mem_of_getElem? hp) with k | k
    · exact .inl ⟨k, bindL_get ndP hp hu k⟩
    · obtain ⟨c, e⟩ := cell_has (n := s.heap.objs.size + 1) k
      refine .inr ⟨.inl k, c, e, ?_⟩
      have q := x.cell y c e
      rw [bindC_get ndP hp hu (by show scope.names.lookup y ≠ _; rw [k]; decide)] at q
      exact q
  · exact e0.hok.fresh (Nat.le_of_lt (x.above y c (PySem.mem_of_lookup h)))
  · unfold start
    show _ = N.length
    rw [List.length_append, List.length_map, List.length_replicate]
    omega

theorem fn_of {CX : CXT} {P : Program} {w : World} {K : PySem.W.Frag} {mg : Str → Option Value} {base : Heap} {k : Nat} {f : Addr} {name qual : Str} {params : Arguments} {body : List Stmt} {scope : Scope} {dV kV doc pm cdv ct oc : Value} {an od : Option Addr}
    {osl : Array (Option Value)} {N ps : List Str} {sp : Sp} (lk : K.lookup f = some ⟨oc, od, .func (PySem.W.fnOf name qual params body scope dV kV doc pm an cdv ct), osl⟩) (hcd : PySem.W.codeIn K cdv qual = true) (S : FnScope N ps scope)
    (len : ∀ vs H Q E, sp vs H Q E → vs.length = ps.length)
    (hbody : ∀ (A : Around) (outer : List Env) (s : Shared) (H : Hp) (vs : List V) (Q : VK) (E : XK), Room k (A.deeper (envOfC qual scope s.heap.objs.size f cdv)) → sp vs H Q E →
      ∃ t, PSs (cxOf CX P w K mg base N qual scope f cdv A outer s H E) body t ∧ t { nx := fun _ H' => Q .non H', rt := Q } (start N vs) H) :
    FnOk P w K mg base CX (k + 1) f (PySem.W.fnOf name qual params body scope dV kV doc pm an cdv ct) ps sp := by
  refine ⟨len, fun A outer s H args us vs Q E hr e0 hb r hsp => ?_⟩
  have hl := len _ _ _ _ hsp
  have KX : K.In s.heap := e0.mod.kin.keeps fun b o e => (e0.bs b o e).1
  have lim : s.heap.NoLimit := e0.mod.nolimit.keeps fun b o e => (e0.bs b o e).1
  have hkind : ∀ y ∈ ps.zip us, scope.names.lookup y.1 = some .local ∨ (scope.names.lookup y.1 = some .cell ∧ ((cellsFrom (s.heap.objs.size + 1) scope.names []).lookup y.1).isSome = true) := fun ⟨n, v⟩ hy => by
    rcases S.par n (List.of_mem_zip hy).1 with q | q
    · exact .inl q
    · exact .inr ⟨q, PySem.W.cellsFrom_some _ _ _ (.inl q)⟩
  refine codeAny_call_function hr.depth (KX _ _ lk) rfl S.co S.gen rfl (PySem.W.codeRec_of KX hcd) (hb _ _ _ _ ?_)
  refine wpAny_newFunctionEnv_cells S.kind hkind fun env he s1 x => ?_
  subst he
  refine ⟨lim.keeps x.toInCall.keep, codeAny_func ?_⟩
  obtain ⟨t, ht, hq⟩ := hbody A outer s H vs Q E (hr.deeper _) hsp
  have I : Inv (cxOf CX P w K mg base N qual scope f cdv A outer s H E) [] (start N vs) H s1 := inv_start S hr.hd e0 hl r x
  refine wpAny_mono (ht [] s1 (start N vs) H _ I hq) (fun fl s' hs => ?_) fun e s' hs => hs
  have fin : ∀ {σ' : St} {H' : Hp} {v : V} {u : Value}, Inv (cxOf CX P w K mg base N qual scope f cdv A outer s H E) [] σ' H' s' → RelV v u → Q v H' → CE outer P w H s Q u s' :=
    fun {σ' H' v u} J rv q => ⟨v, H', J.os, J.bare, J.base, J.hok, rv, q⟩
  cases fl with
  | ret u =>
    obtain ⟨v, σ', H', J, rv, q⟩ := hs
    exact fin J rv q
  | next =>
    obtain ⟨σ', H', J, q⟩ := hs
    exact fin (v := V.non) (u := Value.none) J rfl q
  | brk =>
    obtain ⟨_, _, _, q⟩ := hs
    exact False.elim q
  | cont =>
    obtain ⟨_, _, _, q⟩ := hs
    exact False.elim q
end L2

namespace L2
open PySem PySem.Spec PyProof.Rows
section
variable {X : Cx} {x : Str} {p pos : Pos} {e : Expr} {es : List Expr} {t : TA} {id T : String} {r : List V → Hp → VK → Prop}

noncomputable def tCB (r : List V → Hp → VK → Prop) (t : TA) : TE := fun σ H Q => t σ H fun vs H1 => r vs H1 Q
theorem pe_callB (hc : CallR X (.builtin id) r) (hg : Gl X x) (hm : X.mg x = none) (hv : bootBuiltins x = some (.builtin id)) (ha : PA X (e :: es) t) (hn : x ≠ "__name__" := by decide) (hdb : (x == ("__debug__" : Str)) = false := by decide)
    (he : starEach (e :: es) X.env = (false, eval e X.env) :: starEach es X.env := by rfl) (hpl : (backTo pos (starEach es X.env)).any (·.1) = false := by rfl) : PE X (.Call (.Name x p) (e :: es) [] pos) (tCB r t) := by
  intro pins s σ H Q I h
  refine wpAny_Call_Name_kw (ld_blt I hg hm hv ?_ hn hdb)
  exact PyProof.Rows.callWith_builtin1 (thn (ha pos pins s σ H _ I h) fun us s1 ⟨vs, H1, I1, r1, q1⟩ => hc pins s1 σ H1 vs us Q I1 r1 q1) he hpl
theorem pe_callTy (hc : CallR X (.type T) r) (hg : Gl X x) (hm : X.mg x = none) (hv : bootBuiltins x = some (.type T)) (ha : PA X (e :: es) t) (hn : x ≠ "__name__" := by decide) (hdb : (x == ("__debug__" : Str)) = false := by decide)
    (he : starEach (e :: es) X.env = (false, eval e X.env) :: starEach es X.env := by rfl) (hpl : (backTo pos (starEach es X.env)).any (·.1) = false := by rfl) : PE X (.Call (.Name x p) (e :: es) [] pos) (tCB r t) := by
  intro pins s σ H Q I h
  refine wpAny_Call_Name_kw (ld_blt I hg hm hv ?_ hn hdb)
  exact PyProof.Rows.callWith_type1 (thn (ha pos pins s σ H _ I h) fun us s1 ⟨vs, H1, I1, r1, q1⟩ => hc pins s1 σ H1 vs us Q I1 r1 q1) he hpl
end
end L2

namespace HT
open PySem PyProof.Rows

section
open PySem.SeqAt
open PySem.AutoSeq1 (wpAny_loadPart')
open PySem.MeetsSeq PySem.MeetsSeq2 PySem.MeetsSeq3

end

section
variable {prog : Program} {w : World} {A : Around} {E : Value → Shared → Prop} {s : Shared}

theorem cat_tup {t b : Addr} {vs ws : List Value} {Q : Value → Shared → Prop} (ht : IsTup s.heap t vs.toArray) (hb : IsTup s.heap b ws.toArray) (hv : vs ≠ [])
    (h1 : ws = [] → Q (.ref t) s) (h2 : ws ≠ [] → Q (.ref s.heap.objs.size) { s with heap := s.heap.push { cls := .type "tuple", data := .seq (vs ++ ws).toArray } })
    (hsz : vs.length + ws.length ≤ sizeLine) : wpAny (model prog w) A (binaryOp .Add (.ref t) (.ref b)) Q E s := by
  obtain ⟨⟨cls, dd, data, sl⟩, ho, hc, n, hd⟩ := id ht
  obtain ⟨⟨cls2, dd2, data2, sl2⟩, ho2, hc2, n2, hd2⟩ := id hb
  simp only at hc hd hc2 hd2
  subst hc hd hc2 hd2
  have e : vs.toArray ++ ws.toArray = (vs ++ ws).toArray := by simp
  by_cases hw : ws = []
  · exact concat_meets ⟨_, ho, rfl⟩ ⟨_, ho2, rfl⟩ noFill_tuple_add seq_tuple_add PySem.F.slot_tuple_add PySem.F.entry_tuple_add (PySem.F.args_tuple_add_2 _ _)
      (tuple_addW1 t b vs.toArray ws.toArray n n2 dd dd2 sl sl2 (by simpa using hv) (by simp [hw])) ⟨ho, ho2, h1 hw⟩
  · refine concat_meets ⟨_, ho, rfl⟩ ⟨_, ho2, rfl⟩ noFill_tuple_add seq_tuple_add PySem.F.slot_tuple_add PySem.F.entry_tuple_add (PySem.F.args_tuple_add_2 _ _)
      (tuple_addW2 t b vs.toArray ws.toArray n n2 dd dd2 sl sl2 (by simpa using hv) (by simpa using hw) (by rw [List.size_toArray, List.size_toArray]; exact hsz)) ⟨ho, ho2, ?_⟩
    rw [e]
    exact h2 hw

noncomputable def sIx (n d : Nat) : Option Int → Nat
  | none => d
  | some v => if v < 0 then (v + (n : Int)).toNat else min v.toNat n
end
end HT

namespace L2
open PySem PySem.Spec PyProof.Rows

noncomputable abbrev TO := St → Hp → (Option Int → Hp → Prop) → Prop
noncomputable def PO (X : Cx) (e : Option Expr) (t : TO) : Prop :=
  ∀ (pins : List (Addr × Obj)) (s : Shared) (σ : St) (H : Hp) (Q : Option Int → Hp → Prop), Inv X pins σ H s → t σ H Q →
    wpAny (model X.prog X.w) X.A (evalPart e X.env) (fun u s' => ∃ o H', Inv X pins σ H' s' ∧ IsPart u o ∧ Q o H') X.xe s
noncomputable def tNoPart : TO := fun _ H Q => Q none H
noncomputable def tPart (t : TE) : TO := fun σ H Q => t σ H fun x H1 => ∃ i, x = .int i ∧ Q (some i) H1

theorem intsAre_of {ns : List Int} : ∀ {us : List Value}, Vals (ns.map V.int) us → IntsAre us ns := by
  induction ns with
  | nil => intro us r; rw [List.map_nil] at r; cases r; exact .nil
  | cons n ns ih =>
    intro us r
    rw [List.map_cons] at r
    cases r with
    | cons r1 r2 =>
      obtain ⟨t, e⟩ := r1
      subst e
      exact .cons n t (ih r2)

section
variable {X : Cx} {e : Expr} {te : TE} {lo hi : Option Expr} {tl th : TO} {pos p2 : Pos}

theorem po_none : PO X none tNoPart := by
  intro pins s σ H Q I h
  rw [evalPart_none]
  exact wpAny_pure ⟨none, H, I, .none, h⟩
theorem po_some (h : PE X e te) : PO X (some e) (tPart te) := by
  intro pins s σ H Q I hw
  rw [evalPart_some]
  refine thn (h pins s σ H _ I hw) fun u s1 ⟨x, H1, I1, r1, q1⟩ => ?_
  obtain ⟨i, rfl, q⟩ := q1
  obtain ⟨t, rfl⟩ := r1
  exact ⟨some i, H1, I1, .int i t, q⟩

noncomputable def SlR (X : Cx) (r : V → Option Int → Option Int → Hp → VK → Prop) : Prop :=
  ∀ (pins : List (Addr × Obj)) (s : Shared) (σ : St) (H : Hp) (x : V) (v vl vu : Value) (lo hi : Option Int) (sl : Addr) (Q : VK), Inv X pins σ H s → RelV x v → s.heap.IsSliceOf sl vl vu .none → IsPart vl lo → IsPart vu hi → r x lo hi H Q →
    ∃ T id, typeLookup (.type T) "__getitem__" = pure (some (.builtin id)) ∧ s.TypeIs v T ∧ wpAny (model X.prog X.w) X.A (getItem v (.ref sl)) (EP X pins σ Q) X.xe s
noncomputable def tSl (r : V → Option Int → Option Int → Hp → VK → Prop) (te : TE) (tl th : TO) : TE := fun σ H Q => te σ H fun x H1 => tl σ H1 fun l H2 => th σ H2 fun u H3 => r x l u H3 Q
theorem pe_slice {r : V → Option Int → Option Int → Hp → VK → Prop} (hr : SlR X r) (he : PE X e te) (hl : PO X lo tl) (hu : PO X hi th) : PE X (.Subscript e (.Slice lo hi none p2) pos) (tSl r te tl th) := by
  intro pins s σ H Q I h
  refine Subscript_ (thn (he pins s σ H _ I h) fun v s1 ⟨x, H1, I1, r1, q1⟩ => ?_)
  refine wpAny_Slice (thn (hl pins s1 σ H1 _ I1 q1) fun vl s2 ⟨l, H2, I2, pl, q2⟩ => thn (hu pins s2 σ H2 _ I2 q2) fun vu s3 ⟨u, H3, I3, pu, q3⟩ => ?_)
  rw [evalPart_none]
  refine wpAny_pure ?_
  have I4 : Inv X pins σ H3 { s3 with heap := s3.heap.push { cls := .type "slice", data := .fields #[vl, vu, .none] } } := I3.kept (t' := s3.toks) fun b ob q => Heap.get?_push_of_some _ q
  obtain ⟨T, id, hT, ht, hg⟩ := hr pins { s3 with heap := s3.heap.push { cls := .type "slice", data := .fields #[vl, vu, .none] } } σ H3 x v vl vu l u s3.heap.objs.size Q I4 r1 (Heap.IsSliceOf.new ..) pl pu q3
  show wpAny (model X.prog X.w) X.A (subscriptTail e (.Slice lo hi none p2) v (.ref s3.heap.objs.size)) (EP X pins σ Q) X.xe { s3 with heap := s3.heap.push { cls := .type "slice", data := .fields #[vl, vu, .none] } }
  exact tail_any (ops := [.ref s3.heap.objs.size, v]) ht hT hg (by with_unfolding_all rfl)

noncomputable def cutV (xs : List V) (lo hi : Option Int) : List V := (xs.drop (HT.sIx xs.length 0 lo)).take (HT.sIx xs.length xs.length hi - HT.sIx xs.length 0 lo)
theorem cutV_length (xs : List V) (lo hi : Option Int) : (cutV xs lo hi).length ≤ xs.length := by
  unfold cutV
  rw [List.length_take, List.length_drop]
  omega
noncomputable def rCatT (K : PySem.W.Frag) : R2 := fun x y H Q => ∃ a b xs ys, x = .ref a ∧ y = .ref b ∧ SqT K H a xs ∧ SqT K H b ys ∧ xs ≠ [] ∧ xs.length + ys.length ≤ sizeLine ∧
  (ys = [] → Q (.ref a) H) ∧ (ys ≠ [] → ∀ p, H p = none → Q (.ref p) (upd H p (.tup (xs ++ ys))))
theorem Vals.nil_iff {xs : List V} {us : List Value} (r : Vals xs us) : us = [] ↔ xs = [] := by
  cases r with
  | nil => simp
  | cons _ _ => simp
theorem op_catT : OpR X (binaryOp .Add) (rCatT X.K) := by
  intro pins s σ H x y v u Q I rx ry h
  obtain ⟨a, b, xs, ys, rfl, rfl, ha, hb, hx, hz, q1, q2⟩ := h
  cases rx
  cases ry
  obtain ⟨its, r1, p1, _⟩ := I.tuple ha
  obtain ⟨its2, r2, p2, _⟩ := I.tuple hb
  refine HT.cat_tup p1 p2 (fun z => hx (r1.nil_iff.mp z)) (fun z => ⟨.ref a, H, I, rfl, q1 (r2.nil_iff.mp z)⟩) (fun z => ?_) (by rw [← r1.length, ← r2.length]; exact hz)
  refine ⟨.ref s.heap.objs.size, _, I.laid (t' := s.toks) (o := .tup (xs ++ ys)) (fun b ob q => Heap.get?_push_of_some _ q) (Nat.le_refl _) ?_, rfl, q2 (fun w => z (r2.nil_iff.mpr w)) _ (I.hok.fresh (Nat.le_refl _))⟩
  exact ⟨by rw [List.length_append]; exact hz, _, r1.append r2, IsTup.new _ _⟩
end
end L2

namespace L2
open PySem PySem.Spec PyProof.Rows

noncomputable def ixN (n : Nat) (i : Int) : Option Nat := if 0 ≤ i then (if i < n then some i.toNat else none) else if -(n : Int) ≤ i then some (i + n).toNat else none
noncomputable def atI {α : Type} (xs : List α) (i : Int) : Option α := (ixN xs.length i).bind fun j => xs[j]?
theorem ixN_seq {n : Nat} {i : Int} {j : Nat} (h : ixN n i = some j) : seqIndex? i n = some j ∧ j < n ∧ -(n : Int) ≤ i ∧ i < n := by
  unfold ixN at h
  by_cases h0 : 0 ≤ i
  · rw [if_pos h0] at h
    by_cases h1 : i < n
    · rw [if_pos h1] at h
      have e : i.toNat = j := Option.some.inj h
      exact ⟨by rw [seqIndex_of h0 h1, e], by omega, by omega, h1⟩
    · rw [if_neg h1] at h; cases h
  · rw [if_neg h0] at h
    by_cases h1 : -(n : Int) ≤ i
    · rw [if_pos h1] at h
      have e : (i + n).toNat = j := Option.some.inj h
      exact ⟨by rw [seqIndex_neg (by omega) h1, e], by omega, h1, by omega⟩
    · rw [if_neg h1] at h; cases h
theorem atI_get {α : Type} {xs : List α} {i : Int} {v : α} (h : atI xs i = some v) : ∃ j, seqIndex? i xs.length = some j ∧ xs[j]? = some v ∧ j < xs.length ∧ -(xs.length : Int) ≤ i ∧ i < xs.length := by
  unfold atI at h
  cases e : ixN xs.length i with
  | none => rw [e] at h; cases h
  | some j =>
    rw [e] at h
    obtain ⟨h1, h2, h3, h4⟩ := ixN_seq e
    exact ⟨j, h1, h, h2, h3, h4⟩
theorem atI_nat {α : Type} {xs : List α} {j : Nat} {v : α} (h : xs[j]? = some v) : atI xs (j : Int) = some v := by
  have hj : j < xs.length := (List.getElem?_eq_some_iff.mp h).1
  have e : ixN xs.length (j : Int) = some j := by
    unfold ixN
    rw [if_pos (by omega), if_pos (by omega)]; simp
  unfold atI; rw [e]; exact h
noncomputable def PlainIx (b : Expr) : Prop := ∀ o i, subscripted b false o i = operate [o, i] (getItem o i)
noncomputable def IxR (X : Cx) (r : R2) : Prop :=
  ∀ (value slice : Expr) (pins : List (Addr × Obj)) (s : Shared) (σ : St) (H : Hp) (x y : V) (v u : Value) (Q : VK), Inv X pins σ H s → RelV x v → RelV y u → r x y H Q →
    subscripted slice false v u = operate [v, u] (getItem v u) → wpAny (model X.prog X.w) X.A (subscriptTail value slice v u) (EP X pins σ Q) X.xe s
noncomputable def MtR (X : Cx) (id : String) (r : V → List V → Hp → VK → Prop) : Prop :=
  ∀ (pins : List (Addr × Obj)) (s : Shared) (σ : St) (H : Hp) (x : V) (xs : List V) (v : Value) (us : List Value) (Q : VK), Inv X pins σ H s → RelV x v → Vals xs us → r x xs H Q →
    wpAny (model X.prog X.w) X.A (call (.builtin id) (v :: us)) (EP X pins σ Q) X.xe s
section
variable {X : Cx} {a b : Expr} {ta tb : TE} {pos : Pos}
theorem pe_ix {r : R2} (hr : IxR X r) (ha : PE X a ta) (hb : PE X b tb) (hs : PlainIx b) : PE X (.Subscript a b pos) (tOp r ta tb) := by
  intro pins s σ H Q I h
  exact Subscript_ (binT ha hb I h fun v u s2 x y H2 I2 rx ry q => hr a b pins s2 σ H2 x y v u Q I2 rx ry q (hs _ _))

noncomputable def rIxL (K : PySem.W.Frag) : R2 := fun x y H Q => ∃ p xs i v, x = .ref p ∧ y = .int i ∧ SqL K H p xs ∧ atI xs i = some v ∧ Q v H
noncomputable def rIxS : R2 := fun x y H Q => ∃ z i c, x = .str z ∧ y = .int i ∧ z.length ≤ sizeLine ∧ atI z.cps.toList i = some c ∧ Q (.str ⟨#[c]⟩) H
theorem ix_list : IxR X (rIxL X.K) := by
  intro value slice pins s σ H x y v u Q I rx ry h hs
  obtain ⟨p, xs, i, z, rfl, rfl, hq, he, q⟩ := h
  cases rx
  obtain ⟨t, rfl⟩ := ry
  obtain ⟨its, r, pl, hz⟩ := I.list hq
  obtain ⟨j, h1, h2, h3, h4, h5⟩ := atI_get he
  obtain ⟨w, ew, rw'⟩ := r.get h2
  have hl := r.length
  have hn := line63
  have fin : EP X pins σ Q w s := ⟨z, H, I, rw', q⟩
  by_cases h0 : 0 ≤ i
  · have hj : i.toNat = j := by
      rw [seqIndex_of h0 h5] at h1
      exact Option.some.inj h1
    exact item_listR pl.isList h0 (by omega) (by rw [hj]; simpa using ew) fin hs
  · have hj : (i + (its.toArray.size : Int)).toNat = j := by
      rw [seqIndex_neg (by omega) h4] at h1
      rw [List.size_toArray, ← hl]
      exact Option.some.inj h1
    exact subscriptTail_builtinR (x := w) pl.isList.typeIs slot_list_getitem.lookup
      (wpAny_getItem_list_neg (Q := fun r s' => r = w ∧ EP X pins σ Q r s') pl.isList (by omega) (by rw [List.size_toArray] <;> omega) (by omega) (by rw [hj]; simpa using ew) ⟨rfl, fin⟩) hs
theorem ix_str : IxR X rIxS := by
  intro value slice pins s σ H x y v u Q I rx ry h hs
  obtain ⟨z, i, c, rfl, rfl, hz, he, q⟩ := h
  obtain ⟨t, rfl⟩ := rx
  obtain ⟨t', rfl⟩ := ry
  obtain ⟨j, h1, h2, h3, h4, h5⟩ := atI_get he
  have hl : z.cps.toList.length = z.length := by simp [Str.length]
  rw [hl] at h1 h4 h5
  have hn := line63
  exact tail_any (typeIs_str s z t) slot_str_getitem.lookup (getItem_str (c := c) (by
    have e1 : decide (i < -(2 ^ 63 : Int)) = false := decide_eq_false (by omega)
    have e2 : decide (i ≥ 2 ^ 63) = false := decide_eq_false (by omega)
    rw [e1, e2, Bool.or_false]) (by rw [h1]; simpa using h2) ⟨.str ⟨#[c]⟩, H, I.tok _, ⟨_, rfl⟩, q⟩) hs
theorem mapSeq_set (its : List Value) (n j : Nat) (u : Value) : Obj.mapSeq (·.setIfInBounds j u) { cls := .type "list", data := .seq its.toArray n } = { cls := .type "list", data := .seq (its.set j u).toArray n } := by
  simp [Obj.mapSeq]
theorem Inv.lst {pins : List (Addr × Obj)} {σ : St} {H : Hp} {s : Shared} {p : Addr} {xs : List V} (I : Inv X pins σ H s) (h : H p = some (.lst xs)) :
    ∃ (its : List Value) (n : Nat), Vals xs its ∧ s.heap.get? p = some { cls := .type "list", data := .seq its.toArray n } ∧ xs.length ≤ sizeLine := by
  obtain ⟨z, its, n, r, e⟩ := I.hok p _ h
  exact ⟨its, n, r, e, z⟩
theorem Inv.lstUpd {pins : List (Addr × Obj)} {σ : St} {H : Hp} {s : Shared} {p : Addr} {xs ys : List V} {its its' : List Value} {n n' : Nat} {f : Obj → Obj} (I : Inv X pins σ H s) (h : H p = some (.lst xs))
    (ho : s.heap.get? p = some { cls := .type "list", data := .seq its.toArray n }) (hf : f { cls := .type "list", data := .seq its.toArray n } = { cls := .type "list", data := .seq its'.toArray n' }) (r : Vals ys its') (hz : ys.length ≤ sizeLine) (t : Nat) :
    Inv X pins σ (upd H p (.lst ys)) { s with heap := s.heap.update p f, toks := t } := by
  have e : (s.heap.update p f).get? p = some { cls := .type "list", data := .seq its'.toArray n' } := by
    rw [Heap.get?_update_self f ho (by rw [hf] <;> rfl), hf]
  refine I.write (x := p) (e := p) (by rw [h]; trivial) (.inl rfl) (fun b u hb q => (Heap.get?_update_other _ _ (Ne.symm hb)).trans q) ⟨_, e⟩ ?_
  exact ⟨hz, its', n', r, e⟩
noncomputable def rSetL : V → V → V → Hp → (Hp → Prop) → Prop := fun o i v H Q => ∃ p xs k j, o = .ref p ∧ i = .int k ∧ H p = some (.lst xs) ∧ ixN xs.length k = some j ∧ Q (upd H p (.lst (xs.set j v)))
theorem set_list : PSet X rSetL := by
  intro pins s σ H o i v ov iv u Q I ro ri rv h
  obtain ⟨p, xs, k, j, rfl, rfl, hp, hj, q⟩ := h
  cases ro
  obtain ⟨t, rfl⟩ := ri
  obtain ⟨its, n, r, ho, hz⟩ := I.lst hp
  obtain ⟨h1, h2, h3, h4⟩ := ixN_seq hj
  have hl := r.length
  have hn := line63
  have I' : Inv X pins σ (upd H p (.lst (xs.set j v))) { s with heap := s.heap.update p (Obj.mapSeq (·.setIfInBounds j u)) } :=
    I.lstUpd hp ho (mapSeq_set its n j u) (r.set rv j) (by rw [List.length_set]; exact hz) s.toks
  by_cases h0 : 0 ≤ k
  · have hk : k.toNat = j := by
      rw [seqIndex_of h0 h4] at h1
      exact Option.some.inj h1
    exact PySem.W.ki_setAt ho h0 (by omega) (by rw [List.size_toArray, ← hl]; exact h4) (by rw [hk]; exact ⟨_, I', q⟩)
  · have hk : (k + (its.toArray.size : Int)).toNat = j := by
      rw [seqIndex_neg (by omega) h3] at h1
      rw [List.size_toArray, ← hl]
      exact Option.some.inj h1
    exact PySem.W.ki_setBack ho (by omega) (by rw [List.size_toArray, ← hl]; exact h3) (by omega) (by rw [hk]; exact ⟨_, I', q⟩)

theorem slice_bounds (lo hi : Option Int) (n : Nat) : (sliceBounds lo hi none n).1 = ((HT.sIx n 0 lo : Nat) : Int) ∧ (sliceBounds lo hi none n).2.1 = ((HT.sIx n n hi : Nat) : Int) ∧ (sliceBounds lo hi none n).2.2 = 1 := by
  refine ⟨?_, ?_, rfl⟩
  · cases lo with
    | none => simp [sliceBounds, HT.sIx]
    | some i =>
      simp only [sliceBounds, HT.sIx, Option.getD_none, show (1 : Int) > 0 by decide, if_true]
      by_cases h : i < 0
      · simp only [h, if_true] <;> omega
      · simp only [h, if_false] <;> omega
  · cases hi with
    | none => simp [sliceBounds, HT.sIx]
    | some i =>
      simp only [sliceBounds, HT.sIx, Option.getD_none, show (1 : Int) > 0 by decide, if_true]
      by_cases h : i < 0
      · simp only [h, if_true] <;> omega
      · simp only [h, if_false] <;> omega
theorem slicePick_cut (its : List Value) (lo hi : Option Int) : slicePick its.toArray lo hi none = ((its.drop (HT.sIx its.length 0 lo)).take (HT.sIx its.length its.length hi - HT.sIx its.length 0 lo)).toArray := by
  obtain ⟨h1, h2, h3⟩ := slice_bounds lo hi its.toArray.size
  unfold slicePick
  rw [h1, h2, h3]
  simp only [sliceRange_one, pick_run, List.size_toArray] <;> rfl
noncomputable def rSlL (K : PySem.W.Frag) : V → Option Int → Option Int → Hp → VK → Prop := fun x lo hi H Q => ∃ a xs, x = .ref a ∧ SqL K H a xs ∧ ∀ p, H p = none → Q (.ref p) (upd H p (.lst (cutV xs lo hi)))
theorem sl_list : SlR X (rSlL X.K) := by
  intro pins s σ H x v vl vu lo hi sl Q I rx hs pl pu h
  obtain ⟨a, xs, rfl, hx, q⟩ := h
  cases rx
  obtain ⟨its, r, ht, hz⟩ := I.list hx
  have hlen := r.length
  refine ⟨"list", _, slot_list_getitem.lookup, ht.isList.typeIs, ?_⟩
  refine wpAny_getItem_list_slice ht.isList hs pl pu .none (by simp) ?_ (by rw [List.size_toArray] <;> omega)
  rw [slicePick_cut, ← hlen]
  refine ⟨.ref s.heap.objs.size, _, I.laid (t' := s.toks) (o := .lst (cutV xs lo hi)) (fun b ob q => Heap.get?_push_of_some _ q) (Nat.le_refl _) ?_, rfl, q _ (I.hok.fresh (Nat.le_refl _))⟩
  exact ⟨Nat.le_trans (cutV_length xs lo hi) hz, _, 0, (r.drop (HT.sIx xs.length 0 lo)).take (HT.sIx xs.length xs.length hi - HT.sIx xs.length 0 lo), Heap.get?_push_size _ rfl⟩

noncomputable def flatV : V → Bool
  | .non => true
  | .bl _ => true
  | .int _ => true
  | .str _ => true
  | _ => false
noncomputable def eqV : V → V → Bool
  | .non, .non => true
  | .bl a, .bl b => a == b
  | .bl a, .int b => (if a then 1 else 0) == b
  | .int a, .bl b => a == (if b then 1 else 0)
  | .int a, .int b => a == b
  | .str a, .str b => a == b
  | _, _ => false
theorem eqAt_V {A : Around} {s : Shared} {y x : V} {u v : Value} (ry : RelV y u) (rx : RelV x v) (fy : flatV y = true) (fx : flatV x = true) : SeqAt.EqAt A s u v (eqV y x) := by
  cases y with
  | non =>
    cases ry
    cases x with
    | non => cases rx; exact SeqAt.EqAt.same _
    | bl b => cases rx; exact SeqAt.EqAt.none_bool b
    | int b => obtain ⟨t, rfl⟩ := rx; exact SeqAt.EqAt.none_int b t
    | str b => obtain ⟨t, rfl⟩ := rx; exact SeqAt.EqAt.none_str b t
    | _ => exact absurd (show false = true from fx) Bool.false_ne_true
  | bl a =>
    cases ry
    cases x with
    | non => cases rx; exact SeqAt.EqAt.bool_none a
    | bl b => cases rx; exact SeqAt.EqAt.bool_bool a b
    | int b => obtain ⟨t, rfl⟩ := rx; exact SeqAt.EqAt.bool_int a b t
    | str b => obtain ⟨t, rfl⟩ := rx; exact SeqAt.EqAt.bool_str a b t
    | _ => exact absurd (show false = true from fx) Bool.false_ne_true
  | int a =>
    obtain ⟨t', rfl⟩ := ry
    cases x with
    | non => cases rx; exact SeqAt.EqAt.int_none a t'
    | bl b => cases rx; exact SeqAt.EqAt.int_bool a t' b
    | int b => obtain ⟨t, rfl⟩ := rx; exact SeqAt.EqAt.int_int a t' b t
    | str b => obtain ⟨t, rfl⟩ := rx; exact SeqAt.EqAt.int_str a t' b t
    | _ => exact absurd (show false = true from fx) Bool.false_ne_true
  | str a =>
    obtain ⟨t', rfl⟩ := ry
    cases x with
    | non => cases rx; exact SeqAt.EqAt.str_none a t'
    | bl b => cases rx; exact SeqAt.EqAt.str_bool a t' b
    | int b => obtain ⟨t, rfl⟩ := rx; exact SeqAt.EqAt.str_int a t' b t
    | str b => obtain ⟨t, rfl⟩ := rx; exact SeqAt.EqAt.str_str a t' b t
    | _ => exact absurd (show false = true from fx) Bool.false_ne_true
  | _ => exact absurd (show false = true from fy) Bool.false_ne_true
noncomputable def eqU (x : V) (u : Value) : Bool := match u with
  | .none => eqV .non x
  | .bool b => eqV (.bl b) x
  | .int i _ => eqV (.int i) x
  | .str z _ => eqV (.str z) x
  | _ => false
theorem eqU_of {x y : V} {u : Value} (r : RelV y u) (f : flatV y = true) : eqU x u = eqV y x := by
  cases y with
  | non => cases r; rfl
  | bl b => cases r; rfl
  | int i => obtain ⟨t, rfl⟩ := r; rfl
  | str z => obtain ⟨t, rfl⟩ := r; rfl
  | _ => exact absurd (show false = true from f) Bool.false_ne_true
theorem any_eqU {x : V} : ∀ {xs : List V} {us : List Value}, Vals xs us → xs.all flatV = true → us.any (eqU x) = xs.any fun y => eqV y x
  | _, _, .nil, _ => rfl
  | y :: xs, u :: us, .cons r t, f => by
    rw [List.all_cons, Bool.and_eq_true] at f
    rw [List.any_cons, List.any_cons, eqU_of r f.1, any_eqU t f.2]
theorem mem_eqAt {A : Around} {s : Shared} {x : V} {v : Value} (rx : RelV x v) (fx : flatV x = true) : ∀ {xs : List V} {us : List Value}, Vals xs us → xs.all flatV = true → ∀ u ∈ us, SeqAt.EqAt A s u v (eqU x u)
  | _, _, .nil, _ => fun u hu => by cases hu
  | y :: xs, u :: us, .cons r t, f => fun u' hu => by
    rw [List.all_cons, Bool.and_eq_true] at f
    rcases List.mem_cons.mp hu with rfl | hu
    · rw [eqU_of r f.1]; exact eqAt_V r rx f.1 fx
    · exact mem_eqAt rx fx t f.2 u' hu
noncomputable def inV (x : V) (xs : List V) : Bool := xs.any fun y => eqV y x
noncomputable def rIn (K : PySem.W.Frag) (neg : Bool) : R2 := fun x y H Q => ∃ p xs, y = .ref p ∧ (SqL K H p xs ∨ SqT K H p xs) ∧ flatV x = true ∧ xs.all flatV = true ∧ Q (.bl (if neg then !inV x xs else inV x xs)) H
theorem op_in_seq : OpR X (compareOp .In) (rIn X.K false) := by
  intro pins s σ H x y v u Q I rx ry h
  obtain ⟨p, xs, rfl, hq, fx, fs, q⟩ := h
  cases ry
  rcases hq with hq | hq
  · obtain ⟨its, r, pl, hz⟩ := I.list hq
    refine SeqAt.in_listAt (eqU x) pl.isList (fun w hw => mem_eqAt rx fx r fs w (by simpa using hw)) ⟨.bl _, H, I, rfl, ?_⟩
    rw [show its.toArray.any (eqU x) = its.any (eqU x) by simp, any_eqU r fs]
    exact q
  · obtain ⟨its, r, pl, hz⟩ := I.tuple hq
    refine SeqAt.in_tupleAt (eqU x) pl (fun w hw => mem_eqAt rx fx r fs w (by simpa using hw)) ⟨.bl _, H, I, rfl, ?_⟩
    rw [show its.toArray.any (eqU x) = its.any (eqU x) by simp, any_eqU r fs]
    exact q
theorem op_notIn_seq : OpR X (compareOp .NotIn) (rIn X.K true) := by
  intro pins s σ H x y v u Q I rx ry h
  obtain ⟨p, xs, rfl, hq, fx, fs, q⟩ := h
  cases ry
  rcases hq with hq | hq
  · obtain ⟨its, r, pl, hz⟩ := I.list hq
    refine SeqAt.notIn_listAt (eqU x) pl.isList (fun w hw => mem_eqAt rx fx r fs w (by simpa using hw)) ⟨.bl _, H, I, rfl, ?_⟩
    rw [show its.toArray.any (eqU x) = its.any (eqU x) by simp, any_eqU r fs]
    exact q
  · obtain ⟨its, r, pl, hz⟩ := I.tuple hq
    refine SeqAt.notIn_tupleAt (eqU x) pl (fun w hw => mem_eqAt rx fx r fs w (by simpa using hw)) ⟨.bl _, H, I, rfl, ?_⟩
    rw [show its.toArray.any (eqU x) = its.any (eqU x) by simp, any_eqU r fs]
    exact q
theorem op_notIn_str : OpR X (compareOp .NotIn) (fun x y H Q => ∃ i j, x = .str i ∧ y = .str j ∧ Q (.bl (!(!(Builtin.Str.occurrences j i 0 j.length 1).isEmpty))) H) := by
  intro pins s σ H x y v u Q I rx ry h
  obtain ⟨i, j, rfl, rfl, q⟩ := h
  obtain ⟨t, rfl⟩ := rx
  obtain ⟨t', rfl⟩ := ry
  exact notIn_str ⟨.bl _, H, I, rfl, q⟩

theorem call_len_seq : CallR X (.builtin "len") (fun xs H Q => ∃ p ys, xs = [.ref p] ∧ (SqL X.K H p ys ∨ SqT X.K H p ys) ∧ Q (.int ys.length) H) := by
  intro pins s σ H xs us Q I r h
  obtain ⟨p, ys, rfl, hq, q⟩ := h
  obtain ⟨u, rfl, rx⟩ := vals1 r
  cases rx
  have hn := line63
  rcases hq with hq | hq
  · obtain ⟨its, r', pl, hz⟩ := I.list hq
    have hlen := r'.length
    exact Calls.call_len_list pl.isList (by simp only [List.size_toArray] <;> omega) ⟨.int ys.length, H, I.tok _, ⟨s.toks + 1, by rw [List.size_toArray, hlen]⟩, q⟩
  · obtain ⟨its, r', pl, hz⟩ := I.tuple hq
    have hlen := r'.length
    exact len_tuple pl (by simp only [List.size_toArray] <;> omega) ⟨.int ys.length, H, I.tok _, ⟨s.toks + 1, by rw [List.size_toArray, hlen]⟩, q⟩
theorem call_len_str : CallR X (.builtin "len") (fun xs H Q => ∃ z, xs = [.str z] ∧ z.length ≤ sizeLine ∧ Q (.int z.length) H) := by
  intro pins s σ H xs us Q I r h
  obtain ⟨z, rfl, hz, q⟩ := h
  obtain ⟨u, rfl, t, rfl⟩ := vals1 r
  have hn := line63
  exact len_str (by omega) ⟨.int z.length, H, I.tok _, ⟨_, rfl⟩, q⟩
theorem call_list_of : CallR X (.type "list") (fun xs H Q => ∃ p ys, xs = [.ref p] ∧ (SqL X.K H p ys ∨ SqT X.K H p ys) ∧ ∀ l, H l = none → Q (.ref l) (upd H l (.lst ys))) := by
  intro pins s σ H xs us Q I r h
  obtain ⟨p, ys, rfl, hq, q⟩ := h
  obtain ⟨u, rfl, rx⟩ := vals1 r
  cases rx
  have fin : ∀ (its : List Value), Vals ys its → ys.length ≤ sizeLine → ∀ (h' : Heap) (c' : Nat), (∀ b o', s.heap.get? b = some o' → h'.get? b = some o') →
      h'.get? s.heap.objs.size = some { cls := .type "list", dict := none, data := .seq its.toArray c', slots := #[] } → EP X pins σ Q (.ref s.heap.objs.size) { s with heap := h' } := fun its r' hz h' c' kp e =>
    ⟨.ref s.heap.objs.size, _, I.laid (t' := s.toks) kp (Nat.le_refl _) (show ObjOk X.prog X.w _ h' _ (.lst ys) from ⟨hz, its, c', r', e⟩), rfl, q _ (I.hok.fresh (Nat.le_refl _))⟩
  rcases hq with hq | hq
  · obtain ⟨its, r', pl, hz⟩ := I.list hq
    have hlen := r'.length
    obtain ⟨o, ho, hc, n, hd⟩ := pl.isList
    exact call_list_seq p (.inl rfl) ho hc hd (fun h' c' kp e => fin its r' hz h' c' kp e) (by simp only [List.size_toArray] <;> omega)
  · obtain ⟨its, r', pl, hz⟩ := I.tuple hq
    have hlen := r'.length
    obtain ⟨o, ho, hc, n, hd⟩ := pl
    exact call_list_seq p (.inr rfl) ho hc hd (fun h' c' kp e => fin its r' hz h' c' kp e) (by simp only [List.size_toArray] <;> omega)
theorem call_tuple_of : CallR X (.type "tuple") (fun xs H Q => ∃ p ys, xs = [.ref p] ∧ ((SqL X.K H p ys ∧ ∀ l, H l = none → Q (.ref l) (upd H l (.tup ys))) ∨ (SqT X.K H p ys ∧ Q (.ref p) H))) := by
  intro pins s σ H xs us Q I r h
  obtain ⟨p, ys, rfl, h⟩ := h
  obtain ⟨u, rfl, rx⟩ := vals1 r
  cases rx
  rcases h with ⟨hq, q⟩ | ⟨hq, q⟩
  · obtain ⟨its, r', pl, hz⟩ := I.list hq
    have hlen := r'.length
    refine call_tuple_list pl.isList (fun h' kp => ?_) (by simp only [List.size_toArray] <;> omega)
    have I1 : Inv X pins σ H { s with heap := h' } := I.kept (t' := s.toks) kp
    have I2 : Inv X pins σ (upd H h'.objs.size (.tup ys)) { s with heap := h'.push { cls := .type "tuple", data := .seq its.toArray } } :=
      I1.laid (t' := s.toks) (fun b o e => Heap.get?_push_of_some _ e) (Nat.le_refl _) (show ObjOk X.prog X.w _ _ _ (.tup ys) from ⟨hz, its, r', IsTup.new _ _⟩)
    exact ⟨.ref h'.objs.size, _, I2, rfl, q _ (I1.hok.fresh (Nat.le_refl _))⟩
  · obtain ⟨its, r', pl, hz⟩ := I.tuple hq
    exact call_tuple_same pl ⟨.ref p, H, I, rfl, q⟩

noncomputable def tyV (K : PySem.W.Frag) (T : String) (x : V) (H : Hp) : Prop := match x with
  | .str _ => T = "str"
  | .int _ => T = "int"
  | .ref p => (T = "list" ∧ ∃ xs, SqL K H p xs) ∨ (T = "tuple" ∧ ∃ o, K.lookup p = some o ∧ o.cls = .type "tuple" ∧ o.dict = none) ∨
      (T = "dict" ∧ ((∃ kvs, H p = some (.dK kvs)) ∨ ∃ kvs, H p = some (.dT kvs))) ∨ (T = "set" ∧ ∃ S n, H p = some (.set S n))
  | _ => False
theorem tyV_is {pins : List (Addr × Obj)} {σ : St} {H : Hp} {s : Shared} {T : String} {x : V} {v : Value} (I : Inv X pins σ H s) (r : RelV x v) (ty : tyV X.K T x H) :
    s.TypeIs v T ∧ ∀ a, v = .ref a → ∃ ob, s.heap.get? a = some ob ∧ ob.dict = none := by
  cases x with
  | str z =>
    obtain ⟨t, rfl⟩ := r
    cases (show T = "str" from ty)
    exact ⟨typeIs_str s z t, fun _ e => nomatch e⟩
  | int i =>
    obtain ⟨t, rfl⟩ := r
    cases (show T = "int" from ty)
    exact ⟨typeIs_int s i t, fun _ e => nomatch e⟩
  | ref p =>
    cases r
    rcases ty with ⟨rfl, xs, hq⟩ | ⟨rfl, o, hk, hc, hd⟩ | ⟨rfl, hk⟩ | ⟨rfl, S, n, hk⟩
    · obtain ⟨its, _, pl, _⟩ := I.list hq
      refine ⟨pl.isList.typeIs, fun a e => ?_⟩
      cases e
      obtain ⟨o, n, e, c, hd, _⟩ := pl
      exact ⟨o, e, hd⟩
    · refine ⟨⟨o, I.kIn p o hk, hc⟩, fun a e => ?_⟩
      cases e
      exact ⟨o, I.kIn _ o hk, hd⟩
    · have z : ∃ o, s.heap.get? p = some o ∧ o.ExactDict := by
        rcases hk with ⟨kvs, hk⟩ | ⟨kvs, hk⟩
        · obtain ⟨_, _, _, _, o, _, _, e, ex, _⟩ := I.hok p _ hk
          exact ⟨o, e, ex⟩
        · obtain ⟨_, _, _, _, o, _, _, e, ex, _⟩ := I.hok p _ hk
          exact ⟨o, e, ex⟩
      obtain ⟨o, e, ex⟩ := z
      refine ⟨⟨o, e, ex.1⟩, fun a e2 => ?_⟩
      cases e2
      exact ⟨o, e, ex.2.1⟩
    · obtain ⟨o, _, _, _, e, ex, _⟩ := I.hok p _ hk
      refine ⟨⟨o, e, ex.1⟩, fun a e2 => ?_⟩
      cases e2
      exact ⟨o, e, ex.2.1⟩
  | _ => exact False.elim ty
noncomputable def tBM0 (K : PySem.W.Frag) (T : String) (r : V → List V → Hp → VK → Prop) (to : TE) : TE := fun σ H Q => to σ H fun x H1 => tyV K T x H1 ∧ r x [] H1 Q
noncomputable def tBM (K : PySem.W.Frag) (T : String) (r : V → List V → Hp → VK → Prop) (to : TE) (t : TA) : TE := fun σ H Q => to σ H fun x H1 => tyV K T x H1 ∧ t σ H1 fun xs H2 => r x xs H2 Q
variable {o e : Expr} {es : List Expr} {to : TE} {t : TA} {name : Str} {apos cpos : Pos} {T id : String} {r : V → List V → Hp → VK → Prop}
theorem pe_bm0 (pa : PlainAttrs T) (slot : Slot T name id) (hty : typeOf (.builtin id) = pure (.type "method_descriptor")) (hm : MtR X id r) (ho : PE X o to)
    (hbase : attributeBase o name X.env (eval o X.env) = eval o X.env := by rfl) (hline : (apos.endLine == cpos.line) = true := by rfl) : PE X (.Call (.Attribute o name apos) [] [] cpos) (tBM0 X.K T r to) := by
  intro pins s σ H Q I h
  refine wpAny_Call_method0_late hbase hline (thn (ho pins s σ H _ I h) fun v s1 ⟨x, H1, I1, r1, ty, q1⟩ => ?_)
  obtain ⟨h1, h2⟩ := tyV_is I1 r1 ty
  exact ⟨T, id, pa, slot, hty, h1, h2, Calls.callWith_builtin rfl (PySem.evalArgs_none (hm pins s1 σ H1 x [] v [] Q I1 r1 .nil q1))⟩
theorem pe_bm (pa : PlainAttrs T) (slot : Slot T name id) (hty : typeOf (.builtin id) = pure (.type "method_descriptor")) (hm : MtR X id r) (ho : PE X o to) (ha : PA X (e :: es) t)
    (hbase : attributeBase o name X.env (eval o X.env) = eval o X.env := by rfl)
    (hfew : ((backTo cpos (starEach (e :: es) X.env)).all (fun x => !x.1) && (backToKw cpos (keywordEach [] X.env)).all (fun x => x.1.isSome)
      && decide ((e :: es).length + ([] : List Keyword).length + (if ([] : List Keyword).isEmpty then 0 else 1) < 30)) = true := by rfl)
    (hline : (apos.endLine == cpos.line) = true := by rfl) (hs : starEach (e :: es) X.env = (false, eval e X.env) :: starEach es X.env := by rfl) (hplain : (backTo cpos (starEach es X.env)).any (·.1) = false := by rfl) :
    PE X (.Call (.Attribute o name apos) (e :: es) [] cpos) (tBM X.K T r to t) := by
  intro pins s σ H Q I h
  refine wpAny_Call_method_late hbase hfew hline rfl (thn (ho pins s σ H _ I h) fun v s1 ⟨x, H1, I1, r1, ty, q1⟩ => ?_)
  obtain ⟨h1, h2⟩ := tyV_is I1 r1 ty
  refine ⟨T, id, pa, slot, hty, h1, h2, ?_⟩
  have hA := ha cpos pins s1 σ H1 _ I1 q1
  rw [hs] at hA ⊢
  refine Calls.callWith_builtin (by show (false || (backTo cpos (starEach es X.env)).any (·.1)) = false; rw [hplain] <;> rfl) (Calls.evalArgs_plain ?_)
  exact thn hA fun us s2 ⟨vs, H2, I2, r2, q2⟩ => hm pins s2 σ H2 x vs v us Q I2 r1 r2 q2
/- xs.append(e), list.index on a module's tuple .. are MtR facts of 06m -/
end
end L2

namespace L2
open PySem PySem.Spec PyProof.Rows

noncomputable def MtM (X : Cx) (id : String) (r : V → List V → Hp → VK → Prop) : Prop :=
  ∀ (pins : List (Addr × Obj)) (s : Shared) (σ : St) (H : Hp) (x : V) (xs : List V) (v : Value) (us : List Value) (Q : VK), Inv X pins σ H s → RelV x v → Vals xs us → r x xs H Q →
    wpAny (model X.prog X.w) X.A (call (.builtin id) (v :: us)) (EP X pins σ Q) X.xe s

theorem Vals.one : ∀ {x : V} {us : List Value}, Vals [x] us → ∃ u, us = [u] ∧ RelV x u
  | _, _, .cons r .nil => ⟨_, rfl, r⟩
theorem Vals.zero : ∀ {us : List Value}, Vals [] us → us = []
  | _, .nil => rfl
theorem Vals.dropLast {xs : List V} {us : List Value} (h : Vals xs us) : Vals xs.dropLast us.dropLast := by
  induction h with
  | nil => exact .nil
  | cons r t ih =>
    cases t with
    | nil => exact .nil
    | cons q t' => exact .cons r ih
theorem Vals.eraseIdx : ∀ {xs : List V} {us : List Value} (i : Nat), Vals xs us → Vals (xs.eraseIdx i) (us.eraseIdx i)
  | _, _, _, .nil => .nil
  | _, _, 0, .cons _ t => t
  | _, _, i + 1, .cons r t => .cons r (Vals.eraseIdx i t)
theorem Vals.rep {xs : List V} {us : List Value} (h : Vals xs us) : ∀ k : Nat, Vals (List.replicate k xs).flatten (List.replicate k us).flatten
  | 0 => .nil
  | k + 1 => by
    rw [List.replicate_succ, List.replicate_succ, List.flatten_cons, List.flatten_cons]
    exact Vals.append h (Vals.rep h k)
theorem erase_last {α : Type} (l : List α) : l.eraseIdx (l.length - 1) = l.dropLast := by
  induction l with
  | nil => rfl
  | cons a r ih =>
    cases r with
    | nil => rfl
    | cons b r =>
      have e : (a :: b :: r).length - 1 = ((b :: r).length - 1) + 1 := by
        have h1 : (a :: b :: r).length = r.length + 2 := rfl
        have h2 : (b :: r).length = r.length + 1 := rfl
        omega
      rw [e, List.eraseIdx_cons_succ, ih]
      all_goals rfl
theorem len_erase {α : Type} : ∀ (l : List α) (i : Nat), (l.eraseIdx i).length ≤ l.length
  | [], _ => Nat.le_refl _
  | _ :: _, 0 => Nat.le_succ _
  | _ :: r, i + 1 => Nat.succ_le_succ (len_erase r i)
theorem foldl_rep (its : List Value) : ∀ (k : Nat) (acc : List Value),
    List.foldl (fun x1 x2 => x1 ++ x2) acc.toArray (List.replicate k its.toArray) = (acc ++ (List.replicate k its).flatten).toArray
  | 0, acc => by simp
  | k + 1, acc => by
    have e : acc.toArray ++ its.toArray = (acc ++ its).toArray := by simp
    have e2 : (acc ++ its) ++ (List.replicate k its).flatten = acc ++ (List.replicate (k + 1) its).flatten := by
      rw [List.replicate_succ, List.flatten_cons, List.append_assoc]
    rw [← e2, ← foldl_rep its k (acc ++ its), ← e, List.replicate_succ, List.foldl_cons]

section
variable {X : Cx} {pins : List (Addr × Obj)} {σ : St} {H : Hp} {s : Shared} {l b : Addr} {xs ys zs : List V}

theorem Inv.lset {its its' : List Value} {n : Nat} {f : Array Value → Array Value} {t' : Nat} (I : Inv X pins σ H s) (hH : H l = some (.lst xs))
    (e : s.heap.get? l = some { cls := .type "list", data := .seq its.toArray n }) (hf : f its.toArray = its'.toArray) (hv : Vals ys its') (hz : ys.length ≤ sizeLine) :
    Inv X pins σ (upd H l (.lst ys)) { s with heap := s.heap.update l (Obj.mapSeq f), toks := t' } := by
  have q := PySem.IsL.update e f
  rw [hf] at q
  refine I.write (x := l) (e := l) (by rw [hH]; exact trivial) (.inl rfl) (fun b' u hb hu => (Heap.get?_update_other s.heap (Obj.mapSeq f) (Ne.symm hb)).trans hu) ⟨_, q⟩ ?_
  exact ⟨hz, its', _, hv, q⟩
theorem Inv.lnew {its : List Value} {t' : Nat} (I : Inv X pins σ H s) (hv : Vals ys its) (hz : ys.length ≤ sizeLine) :
    Inv X pins σ (upd H s.heap.objs.size (.lst ys)) { s with heap := s.heap.push { cls := .type "list", data := .seq its.toArray }, toks := t' } :=
  I.laid (fun _ _ q => Heap.get?_push_of_some _ q) (Nat.le_refl _) ⟨hz, its, 0, hv, Heap.get?_push_size _ rfl⟩
theorem Inv.fresh (I : Inv X pins σ H s) : H s.heap.objs.size = none := I.hok.fresh (Nat.le_refl _)
theorem Inv.lstM (I : Inv X pins σ H s) (hH : H l = some (.lst xs)) : xs.length ≤ sizeLine ∧ ∃ (its : List Value) (n : Nat), Vals xs its ∧ xs.length = its.length ∧ s.heap.get? l = some { cls := .type "list", data := .seq its.toArray n } := by
  obtain ⟨z, its, n, r, e⟩ := I.hok l _ hH
  exact ⟨z, its, n, r, r.length, e⟩

theorem notLongL {n : Nat} (h : n ≤ sizeLine) : Builtin.List.listTooLong n = false := by
  unfold Builtin.List.listTooLong
  exact decide_eq_false (by omega)
end

section
variable {X : Cx}

noncomputable def rAppend : V → List V → Hp → VK → Prop := fun x vs H Q => ∃ l xs y, x = .ref l ∧ vs = [y] ∧ H l = some (.lst xs) ∧ xs.length < sizeLine ∧ Q .non (upd H l (.lst (xs ++ [y])))
theorem mt_append : MtM X "list.append" rAppend := by
  intro pins s σ H x vs v us Q I rx rv h
  obtain ⟨l, xs, y, rfl, rfl, hH, hz, q⟩ := h
  cases rx
  obtain ⟨u, rfl, ru⟩ := rv.one
  obtain ⟨z, its, n, r, hl, e⟩ := I.lstM hH
  refine call_meets F.slot_list_append ⟨_, e, rfl⟩ F.entry_list_append (F.args_list_append_2 _ _) (PySem.list_append l its.toArray n u (by rw [List.size_toArray]; omega)) ⟨e, ?_⟩
  refine ⟨.non, _, I.lset (its' := its ++ [u]) hH e (by simp) (r.append (.cons ru .nil)) ?_, rfl, q⟩
  rw [List.length_append, List.length_singleton]
  omega

noncomputable def rExtend : V → List V → Hp → VK → Prop := fun x vs H Q => ∃ l b xs zs, x = .ref l ∧ vs = [.ref b] ∧ H l = some (.lst xs) ∧ H b = some (.lst zs) ∧ xs.length + zs.length ≤ sizeLine ∧ Q .non (upd H l (.lst (xs ++ zs)))
theorem mt_extend : MtM X "list.extend" rExtend := by
  intro pins s σ H x vs v us Q I rx rv h
  obtain ⟨l, b, xs, zs, rfl, rfl, hH, hB, hz, q⟩ := h
  cases rx
  obtain ⟨u, rfl, ru⟩ := rv.one
  cases ru
  obtain ⟨z, its, n, r, hl, e⟩ := I.lstM hH
  obtain ⟨z2, its2, n2, r2, hl2, e2⟩ := I.lstM hB
  have hsz : its.toArray.size + its2.toArray.size ≤ sizeLine := by rw [List.size_toArray, List.size_toArray]; omega
  have hlong : ¬ (!its.toArray.isEmpty && Builtin.List.listTooLong (its.toArray.size + its2.toArray.size)) = true := by
    rw [notLongL hsz, Bool.and_false]
    exact Bool.false_ne_true
  refine call_meets F.slot_list_extend ⟨_, e, rfl⟩ F.entry_list_extend (F.args_list_extend_2 _ _)
    (AutoSeq1.list_extend_list_list_0 l its.toArray n b its2.toArray n2 hlong (by rw [List.size_toArray]; omega) (by omega)) ⟨e, e2, ?_⟩
  refine ⟨.non, _, I.lset (its' := its ++ its2) hH e (by simp) (r.append r2) ?_, rfl, q⟩
  rw [List.length_append]
  omega

noncomputable def rPop : V → List V → Hp → VK → Prop := fun x vs H Q => ∃ l xs y, x = .ref l ∧ vs = [] ∧ H l = some (.lst xs) ∧ xs[xs.length - 1]? = some y ∧ Q y (upd H l (.lst xs.dropLast))
theorem mt_pop : MtM X "list.pop" rPop := by
  intro pins s σ H x vs v us Q I rx rv h
  obtain ⟨l, xs, y, rfl, rfl, hH, hy, q⟩ := h
  cases rx
  have hus := rv.zero
  subst hus
  obtain ⟨z, its, n, r, hl, e⟩ := I.lstM hH
  obtain ⟨u, hu, ru⟩ := r.get hy
  have hy' : its.toArray[its.toArray.size - 1]? = some u := by
    show its.toArray[its.length - 1]? = some u
    rw [← Array.getElem?_toList, ← hl]
    exact hu
  refine call_meets F.slot_list_pop ⟨_, e, rfl⟩ F.entry_list_pop (F.args_list_pop_1 _) (MeetsSeq.list_pop_last l its.toArray n u hy' (by rw [List.size_toArray]; omega)) ⟨e, ?_⟩
  refine ⟨y, _, I.lset (its' := its.dropLast) hH e ?_ r.dropLast ?_, ru, q⟩
  · show its.toArray.eraseIdxIfInBounds (its.toArray.size - 1) = its.dropLast.toArray
    rw [List.size_toArray, List.eraseIdxIfInBounds_toArray, erase_last]
  · rw [List.length_dropLast]
    omega

noncomputable def rPopAt : V → List V → Hp → VK → Prop := fun x vs H Q => ∃ l xs i k y, x = .ref l ∧ vs = [.int i] ∧ H l = some (.lst xs) ∧ -(2 ^ 63) ≤ i ∧ i < 2 ^ 63 ∧ seqIndex? i xs.length = some k ∧ xs[k]? = some y ∧ Q y (upd H l (.lst (xs.eraseIdx k)))
theorem mt_popAt : MtM X "list.pop" rPopAt := by
  intro pins s σ H x vs v us Q I rx rv h
  obtain ⟨l, xs, i, k, y, rfl, rfl, hH, h1, h2, hk, hy, q⟩ := h
  cases rx
  obtain ⟨u, rfl, ru⟩ := rv.one
  obtain ⟨t, rfl⟩ := ru
  obtain ⟨z, its, n, r, hl, e⟩ := I.lstM hH
  obtain ⟨w, hw, rw'⟩ := r.get hy
  refine call_meets F.slot_list_pop ⟨_, e, rfl⟩ F.entry_list_pop (F.args_list_pop_2 _ _)
    (MeetsSeq.list_pop_at l its.toArray n i t k w (fitsIndex_both h1 h2) (by rw [List.size_toArray, ← hl]; exact hk) (by rw [← Array.getElem?_toList]; exact hw) (by rw [List.size_toArray]; omega)) ⟨e, ?_⟩
  refine ⟨y, _, I.lset (its' := its.eraseIdx k) hH e ?_ (r.eraseIdx k) ?_, rw', q⟩
  · show its.toArray.eraseIdxIfInBounds k = (its.eraseIdx k).toArray
    rw [List.eraseIdxIfInBounds_toArray]
  · have := len_erase xs k
    omega

noncomputable def rCat : R2 := fun x y H Q => ∃ l b xs zs, x = .ref l ∧ y = .ref b ∧ H l = some (.lst xs) ∧ H b = some (.lst zs) ∧ xs.length + zs.length ≤ sizeLine ∧ ∀ p, H p = none → Q (.ref p) (upd H p (.lst (xs ++ zs)))
theorem op_cat : OpR X (binaryOp .Add) rCat := by
  intro pins s σ H x y v u Q I rx ry h
  obtain ⟨l, b, xs, zs, rfl, rfl, hH, hB, hz, q⟩ := h
  cases rx
  cases ry
  obtain ⟨z, its, n, r, hl, e⟩ := I.lstM hH
  obtain ⟨z2, its2, n2, r2, hl2, e2⟩ := I.lstM hB
  refine PySem.P.add_list e e2 ?_ (by rw [List.size_toArray, List.size_toArray]; omega)
  have ea : its.toArray ++ its2.toArray = (its ++ its2).toArray := by simp
  rw [ea]
  exact ⟨.ref _, _, I.lnew (t' := s.toks) (r.append r2) (by rw [List.length_append]; omega), rfl, q _ I.fresh⟩
noncomputable def rRep : R2 := fun x y H Q => ∃ l k xs, x = .ref l ∧ y = .int k ∧ H l = some (.lst xs) ∧ -(2 ^ 63) ≤ k ∧ k < 2 ^ 63 ∧ xs.length * k.toNat ≤ sizeLine ∧
  ∀ p, H p = none → Q (.ref p) (upd H p (.lst (List.replicate k.toNat xs).flatten))
theorem len_rep {α : Type} (xs : List α) (k : Nat) : (List.replicate k xs).flatten.length = k * xs.length := by
  induction k with
  | zero => simp
  | succ k ih => rw [List.replicate_succ, List.flatten_cons, List.length_append, ih, Nat.succ_mul, Nat.add_comm]
theorem op_rep : OpR X (binaryOp .Mult) rRep := by
  intro pins s σ H x y v u Q I rx ry h
  obtain ⟨l, k, xs, rfl, rfl, hH, h1, h2, hz, q⟩ := h
  cases rx
  obtain ⟨t, rfl⟩ := ry
  obtain ⟨z, its, n, r, hl, e⟩ := I.lstM hH
  have hlen : its.toArray.size * k.toNat ≤ sizeLine := by rw [List.size_toArray, ← hl]; exact hz
  have hcap : ¬ its.toArray.size * k.toNat > (2 ^ 63 - 1) / 8 := by
    have : (sizeLine : Nat) ≤ (2 ^ 63 - 1) / 8 := by decide
    omega
  have hfit : ¬ (!Builtin.List.listFitsIndex k) = true := by
    rw [fitsIndex_both h1 h2]
    exact Bool.false_ne_true
  have hlong : ¬ Builtin.List.listTooLong (its.toArray.size * k.toNat) = true := by
    rw [notLongL hlen]
    exact Bool.false_ne_true
  have hnew : List.foldl (fun x1 x2 => x1 ++ x2) #[] (List.replicate (if its.toArray.isEmpty = true then 0 else k.toNat) its.toArray) = (List.replicate k.toNat its).flatten.toArray := by
    have f0 : ∀ m : Nat, List.foldl (fun x1 x2 => x1 ++ x2) #[] (List.replicate m its.toArray) = (List.replicate m its).flatten.toArray := fun m => by
      have := foldl_rep its m []
      rw [List.nil_append] at this
      exact this
    rw [f0]
    cases its with
    | nil => simp
    | cons a r' => rw [if_neg (by simp)]
  refine wpAny_binaryOp_repeat_ref (T := "list") (U := "int") (by decide) ⟨_, e, rfl⟩ (fun s' => typeIs_int s' k t) noFill_list_mul F.fills_int_mul F.slot_int_rmul repeat_list F.slot_int_index.lookup
    (call_meets F.slot_int_rmul (typeIs_int s k t) F.entry_int_rmul (F.args_int_rmul_2 _ _) (int___rmul___int_list k t l its.toArray n)
      ⟨e, rfl, ⟨_, e, rfl⟩, call_meets F.slot_list_mul ⟨_, e, rfl⟩ F.entry_list_mul (F.args_list_mul_2 _ _) (AutoListH.list___mul___list_int_3 l its.toArray n k t hfit hcap hlong) ⟨e, ?_⟩⟩)
  rw [hnew]
  exact ⟨.ref _, _, I.lnew (t' := s.toks) (r.rep k.toNat) (by rw [len_rep, Nat.mul_comm]; exact hz), rfl, q _ I.fresh⟩

end

section
variable {prog : Program} {w : World} {A : Around} {E : Value → Shared → Prop} {s : Shared}
end

section
variable {X : Cx}
end
end L2

namespace Att
open PySem PySem.W PySem.Calls PyProof.Rows

theorem ints_of_wellAll {P : Params} {h : Heap} : ∀ (ns : List Int) (vs : List Value), WellAll P h vs (ns.map WData.int) → IntsAre vs ns := by
  intro ns
  induction ns with
  | nil =>
    intro vs w
    rw [List.map_nil] at w
    cases w
    exact .nil
  | cons n ns ih =>
    intro vs w
    rw [List.map_cons] at w
    cases w with
    | cons a b =>
      cases a
      exact .cons _ _ (ih _ b)

theorem script_of {l : OpenLaw} {n : Nat} (hn : l.most = some n) {P : Params} {h : Heap} {args : List WData} {vals : List Value}
    (hpre : l.row.toRowW.claim.pre args = true) (hwl : WellAll P h vals args) :
    ∃ a vs ns, vals = [Value.ref a] ∧ args = [WData.list (ns.map WData.int)] ∧ h.get? a = some { cls := .type "list", data := .seq vs.toArray } ∧ IntsAre vs ns ∧ ns.length ≤ n := by
  have hsh : WShape.hasAll [] args [.list .int] = true := (pre_splitW hpre).1
  have hc : l.pre.holds [] { args := args } = true := (pre_splitW hpre).2
  obtain ⟨d, r, rfl, h1, h2⟩ := hasAllW_cons hsh
  obtain rfl := hasAllW_nil h2
  obtain ⟨xs, rfl, h3⟩ := hasW_list h1
  obtain ⟨ns, rfl⟩ := items_int h3
  have hlen : ns.length ≤ n := by
    unfold OpenLaw.pre at hc
    have h4 : (WTm.not (.lt (.lit (.int (n : Int))) (.len (.arg 0)))).holds [] { args := [.list (ns.map .int)] } = true := by
      have h4 := (holds_andW hc).1
      rw [hn] at h4
      exact h4
    have h5 := condW_of h4 (w_not (w_lt w_lit (w_len_list (w_arg rfl))))
    rw [List.length_map] at h5
    refine Nat.le_of_not_lt fun q => ?_
    have q' : (n : Int) < ((ns.length : Nat) : Int) := by omega
    first
      | (rw [decide_eq_true q'] at h5; exact absurd h5 (by decide))
      | (simp at h5; omega)
  cases hwl with
  | cons w1 w2 =>
    cases w2
    cases w1 with
    | list ho hall => exact ⟨_, _, ns, rfl, rfl, ho, ints_of_wellAll ns _ hall, hlen⟩

theorem post_true (l : OpenLaw) (args : List WData) : l.row.toRowW.claim.post args (.bool true) args = true :=
  postW_of (r := l.row.toRowW) (X := (true == true))
    (show WShape.has [] (.bool true) .bool = true by first | rfl | decide | simp [WShape.has, WShape.arms, WShape.armsAll])
    (show (WTm.eq .res (.lit (.bool true))).value [] { args := args, res := some (.bool true), after := args } = some (.bool (true == true)) from w_eq_bool (w_res rfl) w_lit) rfl

theorem attach_call {l : OpenLaw} {n : Nat} {q : Program} {loose : List Str} {XP : (Str → Option Value) → Heap → Prop} {YP : World → Heap → Prop} {d : DefRec}
    (hn : l.most = some n) (hdf : d.params.defaults = [])
    (call : ∀ (w : World) (s₀ s₁ : Shared) (mg mb : Str → Option Value) (fa : Addr) (o : Obj) (pm cd doc : Value) (a : Addr) (vs : List Value) (ns : List Int),
      Ground q loose [] XP w s₀ mg mb s₁.heap → YP w s₁.heap →
      s₁.heap.get? fa = some o → o.data = .func (docDef d.name d.params d.body d.scope pm cd doc) → s₁.heap.CodeRec cd d.name → mg d.name = some (.ref fa) →
      s₁.heap.get? a = some { cls := .type "list", data := .seq vs.toArray } → IntsAre vs ns → ns.length ≤ n → s₁.gens = #[] →
      codeAny (model l.prog w) callerA (.call (.ref fa) ⟨[.ref a], []⟩) (fun r s' => r = .ok (.ret (.bool true)) ∧ OldK s₁.heap s'.heap ∧ s'.os = s₁.os ∧ AllBare s'.gens) s₁) :
    WalkO q loose XP YP l.row.toRowW d [] (fun f vs => PySem.call f vs) := by
  intro w s₀ s₁ mg mb G Y fa o pm cd doc dV kV ho hd hcd hD hmg hg args vals as hpre hlay hrd hwl hlo
  obtain rfl : dV = .none := Dflts.none hD hdf
  obtain rfl : kV = .none := Dflts.noKw hD
  obtain ⟨a, vs, ns, rfl, rfl, hobj, hints, hlen⟩ := script_of hn hpre hwl
  refine enter_call (codeAny_mono (call w s₀ s₁ mg mb fa o pm cd doc a vs ns G Y ho (fd_plain hd) hcd hmg hobj hints hlen hg) fun r s' hq => ?_)
  obtain ⟨rfl, h2, h3, h4⟩ := hq
  exact ⟨.inl ⟨.bool true, .bool true, [], rfl, fun _ => rfl, .bool true, post_true l _, fun _ => ⟨List.Pairwise.nil, fun _ hm => (nomatch hm)⟩⟩, h2, h3, h4⟩

section
variable {prog : Program} {w : World} {A : Around} {E : Value → Shared → Prop} {s : Shared} {K : Frag}

end
end Att

namespace L2
open PySem PySem.Spec PyProof.Rows

theorem vals_ints : ∀ {vs : List Value} {ns : List Int}, IntsAre vs ns → Vals (ns.map V.int) vs
  | _, _, .nil => .nil
  | _, _, .cons n t h => .cons ⟨t, rfl⟩ (vals_ints h)

noncomputable def Only (H : Hp) : Prop := ∀ b, H b = none ∨ ∃ o xs, H b = some (.frz o (.lst xs))

theorem law_call {P : Program} {w : World} {K : PySem.W.Frag} {mg mb : Str → Option Value} {CX : CXT} {k : Nat} {fa a : Addr} {fd : FuncData} {x : Str} {sp : Sp} {s₁ : Shared} {vs : List Value} {ns : List Int}
    (KX : K.In s₁.heap) (hns : s₁.heap.Ns mainGlobals mg) (hb : s₁.heap.Ns builtinsNs mb) (hbb : ∀ x : Str, x ≠ "__name__" → mb x = bootBuiltins x) (hlim : s₁.heap.NoLimit) (hg : s₁.gens = #[])
    (ha : s₁.heap.get? a = some { cls := .type "list", data := .seq vs.toArray }) (hi : IntsAre vs ns) (hl : ns.length ≤ sizeLine) (hr : Room k callerA)
    (F : ∀ base : Heap, K.In base → base.Ns mainGlobals mg → FnOk P w K mg base CX k fa fd [x] sp) (hbind : ∀ (s : Shared) (u : Value), BindsTo s fd ⟨[u], []⟩ [(x, u)])
    (hsp : ∀ H : Hp, Only H → SqL K H a (ns.map V.int) → sp [.ref a] H (fun v _ => v = .bl true) fun _ _ _ => False)
    (hCX : ∀ H e s', CX [] H s₁ (fun _ _ _ => False) e s' → False) :
    codeAny (model P w) callerA (.call (.ref fa) ⟨[.ref a], []⟩) (fun r s' => r = .ok (.ret (.bool true)) ∧ OldK s₁.heap s'.heap ∧ s'.os = s₁.os ∧ AllBare s'.gens) s₁ := by
  have rv := vals_ints hi
  have lenV := hi.length
  -- from an abstract heap in which nothing but the script may be tracked
  have core : ∀ H : Hp, Only H → SqL K H a (ns.map V.int) → HOk P w H s₁.heap → (∀ b, H b ≠ none → b = a) → (H a ≠ none → K.lookup a = none) →
      codeAny (model P w) callerA (.call (.ref fa) ⟨[.ref a], []⟩) (fun r s' => r = .ok (.ret (.bool true)) ∧ OldK s₁.heap s'.heap ∧ s'.os = s₁.os ∧ AllBare s'.gens) s₁ := by
    intro H hO hS hok hA hK
    have base_of : ∀ {b : Addr} {o : Obj}, s₁.heap.get? b = some o → H b = none → (hidT s₁.heap H).get? b = some o := fun e n => hidT_get e n
    have noA : ∀ {b : Addr} {o : Obj} {es : Array DictEntry} {ep : Nat}, s₁.heap.get? b = some o → o.data = .dict es ep → H b = none := fun {b o es ep} e d => by
      cases q : H b with
      | none => rfl
      | some u =>
        have e' : b = a := hA b (by rw [q]; simp)
        subst e'
        rw [ha] at e; cases e
        have d' : Data.seq vs.toArray _ = Data.dict es ep := d
        cases d'
    have nsK : ∀ {b : Addr} {m : Str → Option Value}, s₁.heap.Ns b m → (hidT s₁.heap H).Ns b m := fun {b m} ⟨o, es, ep, e, d, r⟩ => ⟨o, es, ep, base_of e (noA e d), d, r⟩
    have hKb : K.In (hidT s₁.heap H) := fun b o e => base_of (KX b o e) (by
      cases q : H b with
      | none => rfl
      | some u =>
        have e' : b = a := hA b (by rw [q]; simp)
        subst e'
        rw [hK (by rw [q]; simp)] at e; cases e)
    have hM : Mod K mg (hidT s₁.heap H) := ⟨hKb, nsK hns, ⟨mb, nsK hb, hbb⟩, let ⟨mc, h1, h2⟩ := hlim; ⟨mc, nsK h1, h2⟩⟩
    have e0 : Env0 P w K mg (hidT s₁.heap H) callerA [] s₁ H := ⟨rfl, hM, fun b o e => of_hidT e, Nat.le_of_eq (hidT_size _ _), trivial, fun b hb => absurd (show b ∈ ([] : List Addr) from hb) (by simp), hok, .of_eq hg⟩
    refine codeAny_mono ((F _ hKb (nsK hns)).run callerA [] s₁ H ⟨[.ref a], []⟩ [.ref a] [.ref a] _ _ hr e0 (hbind s₁ (.ref a)) (.cons rfl .nil) (hsp H hO hS)) fun r s' h => ?_
    cases r with
    | error e => exact (hCX H e s' h).elim
    | ok fl =>
      cases fl with
      | next => exact False.elim h
      | brk => exact False.elim h
      | cont => exact False.elim h
      | ret u =>
        obtain ⟨v, H', os, bare, un, hok', r', q⟩ := h
        have q' : v = .bl true := q
        subst q'
        obtain rfl : u = Value.bool true := r'
        refine ⟨rfl, OldK.of_keep fun b o e => ?_, os, bare⟩
        cases q : H b with
        | none => exact un.keep b o e q (by intro z; exact absurd (show b ∈ ([] : List Addr) from z) (by simp)) (by simp)
        | some u =>
          rcases hO b with z | ⟨ob, xs, z⟩
          · rw [q] at z; cases z
          · have z2 := un.frzs b ob _ z
            obtain ⟨e1, _⟩ := hok b _ z
            obtain ⟨e2, _⟩ := hok' b _ z2
            rw [e] at e1; cases e1
            exact e2
  cases hk : K.lookup a with
  | some o =>
    -- the script is one of the module's own objects
    have e := KX a o hk
    rw [ha] at e
    cases e
    refine core (fun _ => none) (fun _ => .inl rfl) (.inr ⟨_, vs.toArray, _, hk, rfl, rfl, rfl, by rw [List.size_toArray, lenV]; exact hl, by simpa using rv⟩) (fun b u z => by have z' : (none : Option HO) = some u := z; cases z') (fun b z => absurd rfl z) fun z => absurd rfl z
  | none =>
    refine core (fun b => if b = a then some (.frz { cls := .type "list", data := .seq vs.toArray } (.lst (ns.map V.int))) else none) (fun b => ?_) (.inl (.inr ⟨{ cls := .type "list", data := .seq vs.toArray }, if_pos rfl⟩)) (fun b u z => ?_) (fun b z => ?_) fun _ => hk
    · by_cases hb : b = a
      · exact .inr ⟨_, _, if_pos hb⟩
      · exact .inl (if_neg hb)
    · by_cases hb : b = a
      · have z' := (if_pos hb).symm.trans z
        cases z'
        subst hb
        exact ⟨ha, by rw [List.length_map]; exact hl, vs, _, rv, ha⟩
      · have z' := (if_neg hb).symm.trans z
        cases z'
    · by_cases hb : b = a
      · exact hb
      · exact absurd (if_neg hb) z
end L2

namespace L2
open PySem PySem.Spec PyProof.Rows

theorem walk_of {l : PySem.W.OpenLaw} {n k : Nat} {q : Program} {loose : List Str} {XP : (Str → Option Value) → Heap → Prop} {YP : World → Heap → Prop} {d : DefRec} {K : Params → PySem.W.Frag} {CX : World → CXT} {sp : World → Sp} {x : Str}
    (hn : l.most = some n) (hn2 : n ≤ sizeLine) (hdf : d.params.defaults = []) (hr : Room k callerA)
    (hY : ∀ (w : World) (h : Heap), YP w h → (K w.params).In h)
    (F : ∀ (w : World) (mg : Str → Option Value) (fa : Addr) (h : Heap), (K w.params).In h → h.Ns mainGlobals mg → mg d.name = some (.ref fa) →
      ∃ fd : FuncData, (∀ (s : Shared) (u : Value), BindsTo s fd ⟨[u], []⟩ [(x, u)]) ∧
        ∀ base : Heap, (K w.params).In base → base.Ns mainGlobals mg → FnOk l.prog w (K w.params) mg base (CX w) k fa fd [x] (sp w))
    (hsp : ∀ (w : World) (H : Hp) (a : Addr) (ns : List Int), ns.length ≤ n → Only H → SqL (K w.params) H a (ns.map V.int) → sp w [.ref a] H (fun v _ => v = .bl true) fun _ _ _ => False)
    (hCX : ∀ (w : World) (H : Hp) (s : Shared) (e : Value) (s' : Shared), CX w [] H s (fun _ _ _ => False) e s' → False) :
    PySem.W.WalkO q loose XP YP l.row.toRowW d [] (fun f vs => PySem.call f vs) := by
  refine Att.attach_call hn hdf fun w s₀ s₁ mg mb fa o pm cd doc a vs ns G Y ho hd hcd hmg hobj hints hlen hg => ?_
  have KX := hY w _ Y
  obtain ⟨fd, hb, hF⟩ := F w mg fa _ KX G.T.g hmg
  exact law_call KX G.T.g G.T.b G.T.builtins G.T.nolimit hg hobj hints (Nat.le_trans hlen hn2) hr hF hb (fun H hO hS => hsp w H a ns hlen hO hS) fun H e s' => hCX w H s₁ e s'
end L2

namespace L2
open PySem PySem.Spec PyProof.Rows

noncomputable def defArgs (s : Stmt) : Arguments := match s with
  | .FunctionDef _ a _ _ _ _ _ _ _ _ => a
  | _ => { posonlyargs := [], args := [], vararg := none, kwonlyargs := [], kw_defaults := [], kwarg := none, defaults := [] }
noncomputable def defBody (s : Stmt) : List Stmt := match s with
  | .FunctionDef _ _ b _ _ _ _ _ _ _ => b
  | _ => []
noncomputable def defScope (s : Stmt) : Scope := match s with
  | .FunctionDef _ _ _ _ _ _ sc _ _ _ => sc
  | _ => { kind := .function, names := [], isGenerator := false, isCoroutine := false }

noncomputable abbrev CX0 : CXT := fun _ _ _ _ _ _ => False
noncomputable abbrev E0 : XK := fun _ _ _ => False
theorem pass0 {X : Cx} : Passes CX0 X E0 := fun _ _ _ _ _ _ _ h => h.elim

structure Fun (K : PySem.W.Frag) (x qual : Str) (st : Stmt) (f : Addr) (fd : FuncData) : Prop where
  ex : ∃ (oc : Value) (od : Option Addr) (kV doc pm : Value) (an : Option Addr) (cdv ct : Value) (osl : Array (Option Value)),
    fd = PySem.W.fnOf x qual (defArgs st) (defBody st) (defScope st) .none kV doc pm an cdv ct ∧ K.lookup f = some ⟨oc, od, .func fd, osl⟩ ∧ PySem.W.codeIn K cdv qual = true
  kp : PySem.W.keepIn K (.ref f) = true
section
variable {P : Program} {w : World} {K : PySem.W.Frag} {mg : Str → Option Value} {base : Heap}
theorem Fun.ok {x qual : Str} {st : Stmt} {f : Addr} {fd : FuncData} {N ps : List Str} {k : Nat} {sp : Sp} (F : Fun K x qual st f fd) (S : FnScope N ps (defScope st)) (len : ∀ vs H Q E, sp vs H Q E → vs.length = ps.length)
    (hbody : ∀ (cdv : Value) (A : Around) (outer : List Env) (s : Shared) (H : Hp) (vs : List V) (Q : VK) (E : XK), Room k (A.deeper (envOfC qual (defScope st) s.heap.objs.size f cdv)) → sp vs H Q E →
      ∃ t, PSs (cxOf CX0 P w K mg base N qual (defScope st) f cdv A outer s H E).nox (defBody st) t ∧ t { nx := fun _ H' => Q .non H', rt := Q } (start N vs) H) : FnOk P w K mg base CX0 (k + 1) f fd ps sp := by
  obtain ⟨oc, od, kV, doc, pm, an, cdv, ct, osl, rfl, lk, hcd⟩ := F.ex
  refine fn_of lk hcd S len fun A outer s H vs Q E hr hsp => ?_
  obtain ⟨t, h, q⟩ := hbody cdv A outer s H vs Q E hr hsp
  exact ⟨t, h.nox, q⟩
theorem Fun.binds {x qual : Str} {st : Stmt} {f : Addr} {fd : FuncData} {ps : List Str} (F : Fun K x qual st f fd)
    (h : ∀ (kV doc pm : Value) (an : Option Addr) (cdv ct : Value) (us : List Value), us.length = ps.length → bindArgs (PySem.W.fnOf x qual (defArgs st) (defBody st) (defScope st) .none kV doc pm an cdv ct) ⟨us, []⟩ = pure (ps.zip us)) : Binds K fd ps [] := by
  obtain ⟨oc, od, kV, doc, pm, an, cdv, ct, osl, rfl, lk, hcd⟩ := F.ex
  exact .all (h kV doc pm an cdv ct)
theorem fun_mk {x qual : Str} {st : Stmt} {f : Addr} {oc : Value} {od an : Option Addr} {osl : Array (Option Value)} {kV doc pm cdv ct : Value} (l : K.lookup f = some ⟨oc, od, .func (PySem.W.fnOf x qual (defArgs st) (defBody st) (defScope st) .none kV doc pm an cdv ct), osl⟩)
    (c : PySem.W.codeIn K cdv qual = true) (k : PySem.W.keepIn K (.ref f) = true) : Fun K x qual st f (PySem.W.fnOf x qual (defArgs st) (defBody st) (defScope st) .none kV doc pm an cdv ct) := ⟨⟨oc, od, kV, doc, pm, an, cdv, ct, osl, rfl, l, c⟩, k⟩
end
theorem hu_of {A : Around} {k : Nat} (hr : Room k A) : A.units + 1 < cLine := Nat.lt_of_le_of_lt (Nat.add_le_add_left (by decide : 1 ≤ 64) _) hr.units
theorem small1000 {n : Nat} (h : n ≤ 1000) : n < sizeLine := Nat.lt_of_le_of_lt h (by decide)

section
variable {X : Cx}
theorem pv (i : Nat) {x : Str} {pos : Pos} (hN : X.N[i]? = some x := by rfl) (hv : Vis X.env.scope x := by first | exact Or.inl rfl | exact Or.inr (Or.inl rfl) | exact Or.inr (Or.inr rfl)) (hd : (x == ("__debug__" : Str)) = false := by decide)
    (hcd : (x == ("__classdict__" : Str)) = false := by decide) : PE X (.Name x pos) (tVar i) := pe_var hN hv hd hcd
end

theorem iteF {A B : Prop} (h : B) : if false = true then A else B := by
  rw [if_neg Bool.false_ne_true]
  exact h
theorem iteT {A B : Prop} (h : A) : if true = true then A else B := by
  rw [if_pos rfl]
  exact h
theorem ite2 {c A B : Prop} [Decidable c] (h1 : c → A) (h2 : ¬ c → B) : if c then A else B := by
  by_cases h : c
  · rw [if_pos h]
    exact h1 h
  · rw [if_neg h]
    exact h2 h
noncomputable def Same (H H' : Hp) : Prop := ∀ b o, H b = some o → H' b = some o
theorem Same.refl (H : Hp) : Same H H := fun _ _ h => h
theorem Same.trans {H H1 H2 : Hp} (a : Same H H1) (b : Same H1 H2) : Same H H2 := fun c o h => b c o (a c o h)
theorem Same.free {H H' : Hp} (e : Same H H') {l : Addr} (h : H' l = Option.none) : H l = Option.none := by
  cases q : H l with
  | none => rfl
  | some o =>
    rw [e l o q] at h
    cases h
theorem Same.seq {K : PySem.W.Frag} {H H' : Hp} {a : Addr} {xs : List V} (e : Same H H') (h : SqL K H a xs) : SqL K H' a xs := by
  rcases h with (h | ⟨o, h⟩) | h
  · exact .inl (.inl (e _ _ h))
  · exact .inl (.inr ⟨o, e _ _ h⟩)
  · exact .inr h

end L2

set_option Elab.async false
set_option linter.all false
set_option maxRecDepth 100000
namespace L2
open PySem PySem.Spec PyProof.Rows
section
variable {X : Cx}
noncomputable def CDivB (i j : Int) : Prop := 0 < j ∧ j.natAbs.log2 < 9000
theorem op_fdivB : OpR X (binaryOp .FloorDiv) (rI CDivB fun i j => .int (i / j)) := opI fun i j _ _ _ _ _ hc q => by
  have h1 : (0 : Int) < j := hc.1
  exact floordiv_int (by omega) (by rw [Int.fdiv_eq_ediv_of_nonneg i (by omega)]; exact q) (.inl (PyProof.noPylong_of_log2 hc.2))
theorem CDivB.of {i j : Int} (h1 : 0 < j) (h2 : j < 2 ^ 250) : CDivB i j := by
  refine ⟨h1, ?_⟩
  have h3 : j.natAbs < 2 ^ 250 := by omega
  have h4 : j.natAbs ≠ 0 := by omega
  have := (Nat.log2_lt h4).mpr h3
  omega
noncomputable def CMulB (i j : Int) : Prop := (i.natAbs < 2 ^ 250 ∧ j.natAbs < 2 ^ 250) ∨ CMul i j
theorem CMulB.ok {i j : Int} (h : CMulB i j) : IntMulOk i j := by
  rcases h with ⟨h1, h2⟩ | h
  · refine IntMulOk.of_bits (Nat.le_trans (PyProof.Rows.intBits_le h1) (by decide)) (Nat.le_trans (PyProof.Rows.intBits_le h2) (by decide))
  · exact h.ok
theorem op_mulB : OpR X (binaryOp .Mult) (rI CMulB fun i j => .int (i * j)) := opI fun _ _ _ _ _ _ _ hc q => mul_int q hc.ok
theorem call_sumL (hc : X.calm = true) : CallR X (.builtin "sum") (fun xs H Q => ∃ (p : Addr) (ns : List Int), xs = [.ref p] ∧ SqL X.K H p (ns.map V.int) ∧ Q (.int ns.sum) H) := by
  intro pins s σ H xs us Q I r h
  obtain ⟨p, ns, rfl, hq, q⟩ := h
  obtain ⟨u, rfl, rx⟩ := vals1 r
  cases rx
  obtain ⟨its, r', pl, hz⟩ := I.list hq
  have hi : IntsAre its ns := intsAre_of r'
  obtain ⟨xs, hx⟩ := hi.allInts.items
  have hl' : s.heap.IsList p (intItems xs) := hx ▸ pl.isList
  refine sum_intListG (I.ok.hd hc) hl' fun h' tk t' hk => ?_
  have e1 : ns = xs.toList.map (·.1) := by
    rw [← nums_intItems, ← hx]
    exact (show numsOf its.toArray.toList = ns from hi.numsOf).symm
  have e2 : preSum (numAt xs) xs.size = ns.sum := by
    rw [preSum_eq, List.take_of_length_le (by simp), e1]
  rw [e2]
  exact ⟨.int ns.sum, H, I.kept hk, ⟨_, rfl⟩, q⟩
noncomputable def rIsi (K : PySem.W.Frag) : List V → Hp → VK → Prop := fun xs H Q => ∃ x T t b, xs = [x, .ty T] ∧ TyOf K H x t ∧ PySem.W.kitOne K t (.type T) = some b ∧ Q (.bl b) H
theorem call_isi : CallR X (.builtin "isinstance") (rIsi X.K) := by
  intro pins s σ H xs us Q I r h
  obtain ⟨x, T, t, b, rfl, ty, e, q⟩ := h
  obtain ⟨u, w', rfl, rx, rt⟩ := vals2 r
  cases rt
  exact isinst_ok I rx ty e fun tk => ⟨.bl b, H, I.tok tk, rfl, q⟩
end
noncomputable def plainE : Expr → Bool
  | .Starred _ _ => false
  | _ => true
theorem starEach_plain {e : Expr} {rest : List Expr} {env : Env} (h : plainE e = true) : starEach (e :: rest) env = (false, eval e env) :: starEach rest env := by
  cases e <;> first
    | rfl
    | cases h
theorem any_plain {pos : Pos} {env : Env} : ∀ {es : List Expr}, es.all plainE = true → (backTo pos (starEach es env)).any (·.1) = false
  | [], _ => rfl
  | e :: es, h => by
    rw [List.all_cons, Bool.and_eq_true] at h
    rw [starEach_plain h.1]
    show (false || (backTo pos (starEach es env)).any (·.1)) = false
    rw [any_plain h.2]
    rfl
theorem all_plain {pos : Pos} {env : Env} : ∀ {es : List Expr}, es.all plainE = true → (backTo pos (starEach es env)).all (fun x => !x.1) = true
  | [], _ => rfl
  | e :: es, h => by
    rw [List.all_cons, Bool.and_eq_true] at h
    rw [starEach_plain h.1]
    show (true && (backTo pos (starEach es env)).all (fun x => !x.1)) = true
    rw [all_plain h.2]
    rfl
section
variable {X : Cx} {CX : CXT} {k : Nat} {f C : Addr} {fd : FuncData} {ps : List Str} {sp : Sp} {dvs : List V} {ds : List Value} {E : XK} {x m : Str} {p pos apos : Pos} {e o : Expr} {es : List Expr} {ta te : TE} {t : TA} {id T : String} {r : List V → Hp → VK → Prop}
theorem pa_c (ha : PE X e te) (hr : PA X es t) (hp : plainE e = true := by rfl) : PA X (e :: es) (tCons te t) := pa_cons ha hr (starEach_plain hp)
theorem pe_callF (F : FnOk X.prog X.w X.K X.mg X.base CX k f fd ps sp) (hr : Room k X.A) (hg : Gl X x) (hm : X.mg x = some (.ref f)) (hk : PySem.W.keepIn X.K (.ref f) = true) (hb : Binds X.K fd ps ds) (hd : Vals dvs ds) (hx : Passes CX X E)
    (ha : PA X (e :: es) t) (hdb : (x == ("__debug__" : Str)) = false := by decide) (hp : (e :: es).all plainE = true := by rfl) : PE X (.Call (.Name x p) (e :: es) [] pos) (tCall sp dvs E t) := by
  rw [List.all_cons, Bool.and_eq_true] at hp
  exact pe_call F hr hg hm hk hb hd hx ha hdb (starEach_plain hp.1) (any_plain hp.2)
theorem pe_callBF (hc : CallR X (.builtin id) r) (hg : Gl X x) (hm : X.mg x = none) (hv : bootBuiltins x = some (.builtin id)) (ha : PA X (e :: es) t) (hn : x ≠ "__name__" := by decide) (hdb : (x == ("__debug__" : Str)) = false := by decide)
    (hp : (e :: es).all plainE = true := by rfl) : PE X (.Call (.Name x p) (e :: es) [] pos) (tCB r t) := by
  rw [List.all_cons, Bool.and_eq_true] at hp
  exact pe_callB hc hg hm hv ha hn hdb (starEach_plain hp.1) (any_plain hp.2)
theorem pe_callTF (hc : CallR X (.type T) r) (hg : Gl X x) (hm : X.mg x = none) (hv : bootBuiltins x = some (.type T)) (ha : PA X (e :: es) t) (hn : x ≠ "__name__" := by decide) (hdb : (x == ("__debug__" : Str)) = false := by decide)
    (hp : (e :: es).all plainE = true := by rfl) : PE X (.Call (.Name x p) (e :: es) [] pos) (tCB r t) := by
  rw [List.all_cons, Bool.and_eq_true] at hp
  exact pe_callTy hc hg hm hv ha hn hdb (starEach_plain hp.1) (any_plain hp.2)
theorem pi_rangeF {tg a : Expr} (hg : Gl X "range") (hm : X.mg "range" = none) (ha : PA X [a] t) (hp : plainE a = true := by rfl) : PI X tg (.Call (.Name "range" p) [a] [] pos) (iRng1 t) :=
  pi_range1 hg hm ha (by rw [starEach_plain hp]; rfl)
theorem pe_bmF {name : Str} {cpos : Pos} {to : TE} {rm : V → List V → Hp → VK → Prop} (pa : PlainAttrs T) (slot : Slot T name id) (hty : typeOf (.builtin id) = pure (.type "method_descriptor")) (hm : MtR X id rm) (ho : PE X o to) (ha : PA X (e :: es) t)
    (hbase : attributeBase o name X.env (eval o X.env) = eval o X.env := by rfl) (hline : (apos.endLine == cpos.line) = true := by rfl) (hp : (e :: es).all plainE = true := by rfl) (hl : (e :: es).length < 30 := by decide) :
    PE X (.Call (.Attribute o name apos) (e :: es) [] cpos) (tBM X.K T rm to t) := by
  have hp' := hp
  rw [List.all_cons, Bool.and_eq_true] at hp'
  refine pe_bm pa slot hty hm ho ha hbase ?_ hline (starEach_plain hp'.1) (any_plain hp'.2)
  rw [all_plain hp]
  show decide ((e :: es).length + 0 + 0 < 30) = true
  exact decide_eq_true hl
end
theorem bt_len : bootBuiltins "len" = some (.builtin "len") := by decide +kernel
theorem bt_sum : bootBuiltins "sum" = some (.builtin "sum") := by decide +kernel
theorem bt_isinstance : bootBuiltins "isinstance" = some (.builtin "isinstance") := by decide +kernel
theorem bt_all : bootBuiltins "all" = some (.builtin "all") := by decide +kernel
theorem bt_int : bootBuiltins "int" = some (.type "int") := by decide +kernel
theorem bt_str : bootBuiltins "str" = some (.type "str") := by decide +kernel
theorem bt_list : bootBuiltins "list" = some (.type "list") := by decide +kernel
theorem bt_tuple : bootBuiltins "tuple" = some (.type "tuple") := by decide +kernel
theorem bt_set : bootBuiltins "set" = some (.type "set") := by decide +kernel
theorem kit_str_str {K : PySem.W.Frag} : PySem.W.kitOne K (.type "str") (.type "str") = some true := by rfl
theorem kit_int_str {K : PySem.W.Frag} : PySem.W.kitOne K (.type "int") (.type "str") = some false := by with_unfolding_all rfl
end L2

set_option Elab.async false
set_option linter.all false
set_option maxRecDepth 100000
namespace L2
open PySem PySem.Spec PyProof.Rows
structure QE (X : Cx) (e : Expr) (t : TE) : Prop where
  out : PE X e t
structure QT (X : Cx) (e : Expr) (t : TT) : Prop where
  out : PT X e t
structure QW (X : Cx) (e : Expr) (t : TT) : Prop where
  out : PW X e t
structure QA (X : Cx) (e : List Expr) (t : TA) : Prop where
  out : PA X e t
structure QSs (X : Cx) (e : List Stmt) (t : TS) : Prop where
  out : PSs X e t
structure QS (X : Cx) (e : Stmt) (t : TS) : Prop where
  out : PS X e t
structure QG (X : Cx) (e : Expr) (t : TG) : Prop where
  out : PG X e t
structure QI (X : Cx) (tg e : Expr) (t : TI) : Prop where
  out : PI X tg e t
structure QO (X : Cx) (e : Option Expr) (t : TO) : Prop where
  out : PO X e t
theorem qv {X : Cx} (i : Nat) {x : Str} {pos : Pos} (hN : X.N[i]? = some x := by rfl) (hv : Vis X.env.scope x := by first | exact Or.inl rfl | exact Or.inr (Or.inl rfl) | exact Or.inr (Or.inr rfl)) (hd : (x == ("__debug__" : Str)) = false := by decide) (hcd : (x == ("__classdict__" : Str)) = false := by decide) : QE X (.Name x pos) (tVar i) := ⟨pv (i := i) (hN := hN) (hv := hv) (hd := hd) (hcd := hcd)⟩
theorem qe_int {X : Cx} {i j pos} : QE X (.Constant (.int i) j pos) (tC (.int i)) := ⟨pe_int ⟩
theorem qe_bl {X : Cx} {b j pos} : QE X (.Constant (.bool b) j pos) (tC (.bl b)) := ⟨pe_bl ⟩
theorem qe_non {X : Cx} {j pos} : QE X (.Constant .none j pos) (tC .non) := ⟨pe_non ⟩
theorem qe_str {X : Cx} {x j pos} : QE X (.Constant (.str x) j pos) (tC (.str x)) := ⟨pe_str ⟩
theorem qe_glob {X : Cx} {x : Str} {v : V} {u : Value} {pos : Pos} (hg : Gl X x) (hm : X.mg x = some u) (r : RelV v u) (hd : (x == ("__debug__" : Str)) = false := by decide) : QE X (.Name x pos) (tC v) := ⟨pe_glob (hg := hg) (hm := hm) (r := r) (hd := hd)⟩
theorem qe_bltn {X : Cx} {x : Str} {v : V} {u : Value} {pos : Pos} (hg : Gl X x) (hm : X.mg x = none) (hv : bootBuiltins x = some u) (r : RelV v u) (hn : x ≠ "__name__" := by decide) (hd : (x == ("__debug__" : Str)) = false := by decide) : QE X (.Name x pos) (tC v) := ⟨pe_bltn (hg := hg) (hm := hm) (hv := hv) (r := r) (hn := hn) (hd := hd)⟩
theorem qe_op {X : Cx} {a : Expr} {b : Expr} {ta : TE} {tb : TE} {pos : Pos} {op : Operator} {r : R2} (ho : OpR X (binaryOp op) r) (ha : QE X a ta) (hb : QE X b tb) : QE X (.BinOp a op b pos) (tOp r ta tb) := ⟨pe_op (ho := ho) (ha := ha.out) (hb := hb.out)⟩
theorem qe_un {X : Cx} {a : Expr} {ta : TE} {pos : Pos} {op : UnaryOp} {r : V → Hp → VK → Prop} (ho : UnR X (unaryOp op) r) (ha : QE X a ta) : QE X (.UnaryOp op a pos) (tUn r ta) := ⟨pe_un (ho := ho) (ha := ha.out)⟩
theorem qe_cmpR {X : Cx} {a : Expr} {b : Expr} {ta : TE} {tb : TE} {pos : Pos} {op : CmpOp} {r : R2} (ho : OpR X (compareOp op) r) (ha : QE X a ta) (hb : QE X b tb) (hm : behindInMarks op b = false) : QE X (.Compare a [op] [b] pos) (tOp r ta tb) := ⟨pe_cmpR (ho := ho) (ha := ha.out) (hb := hb.out) (hm := hm)⟩
theorem qt_cmpR {X : Cx} {a : Expr} {b : Expr} {ta : TE} {tb : TE} {pos : Pos} {op : CmpOp} {r : R2} (ho : OpR X (compareOp op) r) (ha : QE X a ta) (hb : QE X b tb) (hm : behindInMarks op b = false) : QT X (.Compare a [op] [b] pos) (tTest (tOp r ta tb)) := ⟨pt_cmpR (ho := ho) (ha := ha.out) (hb := hb.out) (hm := hm)⟩
theorem qt_val {X : Cx} {e : Expr} {t : TE} (h : QE X e t) (he : ∀ whole, isTrue e X.env whole = (do let v ← whole; standAt e.pos; holding [v] (truthy v)) := by intro _; rfl) : QT X e (tB t) := ⟨pt_val (h := h.out) (he := he)⟩
theorem qw_and1 {X : Cx} {a : Expr} {pos : Pos} {tA : TT} (ha : QT X a tA) : QW X (.BoolOp .And [a] pos) tA := ⟨pw_and1 (ha := ha.out)⟩
theorem qw_or1 {X : Cx} {a : Expr} {pos : Pos} {tA : TT} (ha : QT X a tA) : QW X (.BoolOp .Or [a] pos) tA := ⟨pw_or1 (ha := ha.out)⟩
theorem qw_and {X : Cx} {a : Expr} {b : Expr} {pos : Pos} {tA : TT} {tB' : TT} {rest : List Expr} (ha : QT X a tA) (hb : QW X (.BoolOp .And (b :: rest) pos) tB') : QW X (.BoolOp .And (a :: b :: rest) pos) (tAnd tA tB') := ⟨pw_and (ha := ha.out) (hb := hb.out)⟩
theorem qw_or {X : Cx} {a : Expr} {b : Expr} {pos : Pos} {tA : TT} {tB' : TT} {rest : List Expr} (ha : QT X a tA) (hb : QW X (.BoolOp .Or (b :: rest) pos) tB') : QW X (.BoolOp .Or (a :: b :: rest) pos) (tOr tA tB') := ⟨pw_or (ha := ha.out) (hb := hb.out)⟩
theorem qt_not {X : Cx} {a : Expr} {pos : Pos} {tA : TT} (ha : QT X a tA) : QT X (.UnaryOp .Not a pos) (tNot tA) := ⟨pt_not (ha := ha.out)⟩
theorem qe_one {X : Cx} {a : Expr} {pos : Pos} {op} {t : TE} (h : QE X a t) : QE X (.BoolOp op [a] pos) t := ⟨pe_one (h := h.out)⟩
theorem qe_and {X : Cx} {a : Expr} {b : Expr} {ta : TE} {tb : TE} {pos : Pos} {rest : List Expr} (ha : QE X a ta) (hb : QE X (.BoolOp .And (b :: rest) pos) tb) : QE X (.BoolOp .And (a :: b :: rest) pos) (tAndV ta tb) := ⟨pe_and (ha := ha.out) (hb := hb.out)⟩
theorem qe_or {X : Cx} {a : Expr} {b : Expr} {ta : TE} {tb : TE} {pos : Pos} {rest : List Expr} (ha : QE X a ta) (hb : QE X (.BoolOp .Or (b :: rest) pos) tb) : QE X (.BoolOp .Or (a :: b :: rest) pos) (tOrV ta tb) := ⟨pe_or (ha := ha.out) (hb := hb.out)⟩
theorem qe_not {X : Cx} {a : Expr} {ta : TE} {pos : Pos} (ha : QE X a ta) : QE X (.UnaryOp .Not a pos) (tNotV ta) := ⟨pe_not (ha := ha.out)⟩
theorem qss_nil {X : Cx} : QSs X [] tNext := ⟨pss_nil ⟩
theorem qss_cons {X : Cx} {st : Stmt} {rest : List Stmt} {t : TS} {u : TS} (h1 : QS X st t) (h2 : QSs X rest u) : QSs X (st :: rest) (tSeq t u) := ⟨pss_cons (h1 := h1.out) (h2 := h2.out)⟩
theorem qss_one {X : Cx} {st : Stmt} {t : TS} (h1 : QS X st t) : QSs X [st] t := ⟨pss_one (h1 := h1.out)⟩
theorem qs_expr {X : Cx} {e : Expr} {te : TE} {pos : Pos} (he : QE X e te) (hs : swapsWith e none pos.line X.env = pure false := by rfl) : QS X (.Expr e pos) (tDrop te) := ⟨ps_expr (he := he.out) (hs := hs)⟩
theorem qs_ret {X : Cx} {e : Expr} {te : TE} {pos : Pos} (he : QE X e te) : QS X (.Return (some e) pos) (tRet te) := ⟨ps_ret (he := he.out)⟩
theorem qs_if {X : Cx} {t : TS} {u : TS} {pos : Pos} {c : Expr} {a b : List Stmt} {tc : TT} (hc : QT X c tc) (ha : QSs X a t) (hb : QSs X b u) : QS X (.If c a b pos) (tIfS tc t u) := ⟨ps_if (hc := hc.out) (ha := ha.out) (hb := hb.out)⟩
theorem qg_name {X : Cx} {pos : Pos} {i : Nat} {x : Str} (hN : X.N.Nodup) (hi : X.N[i]? = some x) (hx : Loc X.env.scope x) (hf : X.fn x = true ∨ X.env.scope.names.lookup x = some .local := by first | exact .inl rfl | exact .inr rfl | assumption) : QG X (.Name x pos) (gName i) := ⟨pg_name (hN := hN) (hi := hi) (hx := hx) (hf := hf)⟩
theorem qg_sub {X : Cx} {pos : Pos} {o i : Expr} {to ti : TE} {t : TSet} (ho : QE X o to) (hi : QE X i ti) (hs : PSet X t) (ha : ∀ v, assign (.Subscript o i pos) X.env v = (do
      let ov ← holding [v] (eval o X.env)
      let iv ← holding [v, ov] (eval i X.env)
      standAt pos
      holding [v, ov, iv] (setItem ov iv v)
      release [v, ov, iv] []) := by intro _; rfl) : QG X (.Subscript o i pos) (gSub to ti t) := ⟨pg_sub (ho := ho.out) (hi := hi.out) (hs := hs) (ha := ha)⟩
theorem qs_asg {X : Cx} {pos : Pos} {tg e : Expr} {te : TE} {g : TG} (he : QE X e te) (hg : QG X tg g) (hs : swapsWithSole [tg] e pos.line X.env = pure false := by rfl) (hw : swappedStores [tg] e X.env = pure none := by rfl) (h1 : (assignEach [tg] X.env).map (·.2) = [assign tg X.env] := by rfl) : QS X (.Assign [tg] e pos) (tAsg te g) := ⟨ps_asg (he := he.out) (hg := hg.out) (hs := hs) (hw := hw) (h1 := h1)⟩
theorem qs_set {X : Cx} {pos : Pos} {i : Nat} {x : Str} {e : Expr} {te : TE} {pos' : Pos} (hN : X.N.Nodup) (hi : X.N[i]? = some x) (hx : Loc X.env.scope x) (he : QE X e te) (hs : swapsWith e (some (.Name x pos')) pos.line X.env = pure false := by rfl) (hf : X.fn x = true ∨ X.env.scope.names.lookup x = some .local := by first | exact .inl rfl | exact .inr rfl | assumption) : QS X (.Assign [.Name x pos'] e pos) (tAsg te (gName i)) := ⟨ps_set (hN := hN) (hi := hi) (hx := hx) (he := he.out) (hs := hs) (hf := hf)⟩
theorem qs_while {X : Cx} {pos : Pos} {c : Expr} {body : List Stmt} {tc : TT} {tb : TS} (hp : PassesOwn (model X.prog X.w) X.A X.env X.xe) (hc : QT X c tc) (hb : QSs X body tb) : QS X (.While c body [] pos) (tWhile tc tb) := ⟨ps_while (hp := hp) (hc := hc.out) (hb := hb.out)⟩
theorem qi_list {X : Cx} {tg : Expr} {l : Expr} {tl : TE} (hl : QE X l tl) : QI X tg l (iList X.K tl) := ⟨pi_list (hl := hl.out)⟩
theorem qi_tup {X : Cx} {tg : Expr} {l : Expr} {tl : TE} (hl : QE X l tl) : QI X tg l (iTup X.K tl) := ⟨pi_tup (hl := hl.out)⟩
theorem qs_for {X : Cx} {tg : Expr} {iter : Expr} {body : List Stmt} {wi : TI} {g : TG} {tb : TS} {pos : Pos} (hp : PassesOwn (model X.prog X.w) X.A X.env X.xe) (hc : X.calm = true) (hi : QI X tg iter wi) (hg : QG X tg g) (hb : QSs X body tb) (hs : ∀ x, foldedSetIterable iter X.env x = pure x := by intro _; rfl) : QS X (.For tg iter body [] pos) (tFor wi g tb) := ⟨ps_for (hp := hp) (hc := hc) (hi := hi.out) (hg := hg.out) (hb := hb.out) (hs := hs)⟩
theorem qe_tup {X : Cx} {es : List Expr} {t : TA} {pos : Pos} {x1} (h : QA X es t) : QE X (.Tuple es x1 pos) (tTup t) := ⟨pe_tup (h := h.out)⟩
theorem qe_lst {X : Cx} {es : List Expr} {t : TA} {pos : Pos} (h : QA X es t) : QE X (.List es pos) (tLst t) := ⟨pe_lst (h := h.out)⟩
theorem qa_nil {X : Cx} : QA X [] tNil := ⟨pa_nil ⟩
theorem qa_c {X : Cx} {e : Expr} {es : List Expr} {te : TE} {t : TA} (ha : QE X e te) (hr : QA X es t) (hp : plainE e = true := by rfl) : QA X (e :: es) (tCons te t) := ⟨pa_c (ha := ha.out) (hr := hr.out) (hp := hp)⟩
theorem qe_callF {X : Cx} {CX : CXT} {k : Nat} {f : Addr} {fd : FuncData} {ps : List Str} {sp : Sp} {dvs : List V} {ds : List Value} {E : XK} {x : Str} {p : Pos} {pos : Pos} {e : Expr} {es : List Expr} {t : TA} (F : FnOk X.prog X.w X.K X.mg X.base CX k f fd ps sp) (hr : Room k X.A) (hg : Gl X x) (hm : X.mg x = some (.ref f)) (hk : PySem.W.keepIn X.K (.ref f) = true) (hb : Binds X.K fd ps ds) (hd : Vals dvs ds) (hx : Passes CX X E) (ha : QA X (e :: es) t) (hdb : (x == ("__debug__" : Str)) = false := by decide) (hp : (e :: es).all plainE = true := by rfl) : QE X (.Call (.Name x p) (e :: es) [] pos) (tCall sp dvs E t) := ⟨pe_callF (F := F) (hr := hr) (hg := hg) (hm := hm) (hk := hk) (hb := hb) (hd := hd) (hx := hx) (ha := ha.out) (hdb := hdb) (hp := hp)⟩
theorem qe_callBF {X : Cx} {x : Str} {p : Pos} {pos : Pos} {e : Expr} {es : List Expr} {t : TA} {id : String} {r : List V → Hp → VK → Prop} (hc : CallR X (.builtin id) r) (hg : Gl X x) (hm : X.mg x = none) (hv : bootBuiltins x = some (.builtin id)) (ha : QA X (e :: es) t) (hn : x ≠ "__name__" := by decide) (hdb : (x == ("__debug__" : Str)) = false := by decide) (hp : (e :: es).all plainE = true := by rfl) : QE X (.Call (.Name x p) (e :: es) [] pos) (tCB r t) := ⟨pe_callBF (hc := hc) (hg := hg) (hm := hm) (hv := hv) (ha := ha.out) (hn := hn) (hdb := hdb) (hp := hp)⟩
theorem qe_callTF {X : Cx} {x : Str} {p : Pos} {pos : Pos} {e : Expr} {es : List Expr} {t : TA} {T : String} {r : List V → Hp → VK → Prop} (hc : CallR X (.type T) r) (hg : Gl X x) (hm : X.mg x = none) (hv : bootBuiltins x = some (.type T)) (ha : QA X (e :: es) t) (hn : x ≠ "__name__" := by decide) (hdb : (x == ("__debug__" : Str)) = false := by decide) (hp : (e :: es).all plainE = true := by rfl) : QE X (.Call (.Name x p) (e :: es) [] pos) (tCB r t) := ⟨pe_callTF (hc := hc) (hg := hg) (hm := hm) (hv := hv) (ha := ha.out) (hn := hn) (hdb := hdb) (hp := hp)⟩
theorem qe_call0 {X : Cx} {CX : CXT} {k : Nat} {f : Addr} {fd : FuncData} {ps : List Str} {sp : Sp} {dvs : List V} {ds : List Value} {E : XK} {x : Str} {p : Pos} {pos : Pos} (F : FnOk X.prog X.w X.K X.mg X.base CX k f fd ps sp) (hr : Room k X.A) (hg : Gl X x) (hm : X.mg x = some (.ref f)) (hk : PySem.W.keepIn X.K (.ref f) = true) (hb : Binds X.K fd ps ds) (hd : Vals dvs ds) (hx : Passes CX X E) (hdb : (x == ("__debug__" : Str)) = false := by decide) : QE X (.Call (.Name x p) [] [] pos) (tCall sp dvs E tNil) := ⟨pe_call0 (F := F) (hr := hr) (hg := hg) (hm := hm) (hk := hk) (hb := hb) (hd := hd) (hx := hx) (hdb := hdb)⟩
theorem qi_rangeF {X : Cx} {p : Pos} {pos : Pos} {t : TA} {tg a : Expr} (hg : Gl X "range") (hm : X.mg "range" = none) (ha : QA X [a] t) (hp : plainE a = true := by rfl) : QI X tg (.Call (.Name "range" p) [a] [] pos) (iRng1 t) := ⟨pi_rangeF (hg := hg) (hm := hm) (ha := ha.out) (hp := hp)⟩
theorem qe_bmF {X : Cx} {apos : Pos} {e : Expr} {o : Expr} {es : List Expr} {t : TA} {id : String} {T : String} {name : Str} {cpos : Pos} {to : TE} {rm : V → List V → Hp → VK → Prop} (pa : PlainAttrs T) (slot : Slot T name id) (hty : typeOf (.builtin id) = pure (.type "method_descriptor")) (hm : MtR X id rm) (ho : QE X o to) (ha : QA X (e :: es) t) (hbase : attributeBase o name X.env (eval o X.env) = eval o X.env := by rfl) (hline : (apos.endLine == cpos.line) = true := by rfl) (hp : (e :: es).all plainE = true := by rfl) (hl : (e :: es).length < 30 := by decide) : QE X (.Call (.Attribute o name apos) (e :: es) [] cpos) (tBM X.K T rm to t) := ⟨pe_bmF (pa := pa) (slot := slot) (hty := hty) (hm := hm) (ho := ho.out) (ha := ha.out) (hbase := hbase) (hline := hline) (hp := hp) (hl := hl)⟩
theorem qe_bm0 {X : Cx} {o : Expr} {to : TE} {name : Str} {apos : Pos} {cpos : Pos} {T : String} {id : String} {r : V → List V → Hp → VK → Prop} (pa : PlainAttrs T) (slot : Slot T name id) (hty : typeOf (.builtin id) = pure (.type "method_descriptor")) (hm : MtR X id r) (ho : QE X o to) (hbase : attributeBase o name X.env (eval o X.env) = eval o X.env := by rfl) (hline : (apos.endLine == cpos.line) = true := by rfl) : QE X (.Call (.Attribute o name apos) [] [] cpos) (tBM0 X.K T r to) := ⟨pe_bm0 (pa := pa) (slot := slot) (hty := hty) (hm := hm) (ho := ho.out) (hbase := hbase) (hline := hline)⟩
theorem qo_none {X : Cx} : QO X none tNoPart := ⟨po_none ⟩
theorem qo_some {X : Cx} {e : Expr} {te : TE} (h : QE X e te) : QO X (some e) (tPart te) := ⟨po_some (h := h.out)⟩
theorem qe_slice {X : Cx} {e : Expr} {te : TE} {lo : Option Expr} {hi : Option Expr} {tl : TO} {th : TO} {pos : Pos} {p2 : Pos} {r : V → Option Int → Option Int → Hp → VK → Prop} (hr : SlR X r) (he : QE X e te) (hl : QO X lo tl) (hu : QO X hi th) : QE X (.Subscript e (.Slice lo hi none p2) pos) (tSl r te tl th) := ⟨pe_slice (hr := hr) (he := he.out) (hl := hl.out) (hu := hu.out)⟩
theorem qe_ix {X : Cx} {a : Expr} {b : Expr} {ta : TE} {tb : TE} {pos : Pos} {r : R2} (hr : IxR X r) (ha : QE X a ta) (hb : QE X b tb) (hs : PlainIx b) : QE X (.Subscript a b pos) (tOp r ta tb) := ⟨pe_ix (hr := hr) (ha := ha.out) (hb := hb.out) (hs := hs)⟩
theorem qw_pt {X : Cx} {e : Expr} {t : TT} (h : QW X e t) : QT X e t := ⟨h.out.pt⟩
end L2

set_option Elab.async false
set_option linter.all false
set_option maxRecDepth 100000
set_option maxHeartbeats 1000000
namespace L2
open PySem PySem.Spec PyProof.Rows
noncomputable def clOf (cells : List (Str × Addr)) : List (Str × NameKind) → List (Str × Addr) → List (Str × Addr)
  | [], acc => acc
  | (n, k) :: r, acc => clOf cells r (if (k == NameKind.free) = true then (n, (cells.lookup n).getD 0) :: acc else acc)
theorem closure_go {env : Env} : ∀ (names : List (Str × NameKind)) (acc : List (Str × Addr)), (∀ y ∈ names, y.2 = .free → ∃ c, env.cells.lookup y.1 = some c) →
    (forIn names acc fun (x : Str × NameKind) (r : List (Str × Addr)) => match x with
      | (name, kind) => if (kind == NameKind.free) = true then do let a ← cellOf env name; pure (ForInStep.yield ((name, a) :: r)) else pure (ForInStep.yield r) : Sem (List (Str × Addr))) = pure (clOf env.cells names acc)
  | [], acc, _ => rfl
  | (n, k) :: r, acc, h => by
    rw [List.forIn_cons]
    have ih := fun acc' => closure_go (env := env) r acc' fun y hy => h y (List.mem_cons_of_mem _ hy)
    by_cases hk : (k == NameKind.free) = true
    · obtain ⟨c, hc⟩ := h (n, k) List.mem_cons_self (by simpa using hk)
      have hc' : env.cells.lookup n = some c := hc
      have e : cellOf env n = pure c := by unfold cellOf; rw [hc']
      simp only [hk, if_true, e]
      rw [clOf, if_pos hk, hc']
      exact ih ((n, c) :: acc)
    · rw [clOf, if_neg hk]
      simp only [hk, if_false]
      exact ih acc
theorem closure_of {scope : Scope} {env : Env} (h : ∀ y ∈ scope.names, y.2 = .free → ∃ c, env.cells.lookup y.1 = some c) : closureFor scope env = pure (clOf env.cells scope.names []) := by
  have e := closure_go (env := env) scope.names [] h
  unfold closureFor
  show (do let r ← _; pure r) = _
  rw [show (forIn scope.names ([] : List (Str × Addr)) fun (x : Str × NameKind) (r : List (Str × Addr)) => match x with
      | (name, kind) => if (kind == NameKind.free) = true then do let a ← cellOf env name; pure (ForInStep.yield ((name, a) :: r)) else pure (ForInStep.yield r) : Sem (List (Str × Addr))) = pure (clOf env.cells scope.names []) from e]
  rfl
theorem clOf_get {cells : List (Str × Addr)} : ∀ {names : List (Str × NameKind)} {acc : List (Str × Addr)}, (∀ y ∈ names, y.2 = .free → ∃ c, cells.lookup y.1 = some c) → (∀ x c, acc.lookup x = some c → cells.lookup x = some c) →
    ∀ x c, (clOf cells names acc).lookup x = some c → cells.lookup x = some c
  | [], acc, _, ha, x, c, h => ha x c h
  | (n, k) :: r, acc, hf, ha, x, c, h => by
    rw [clOf] at h
    refine clOf_get (names := r) (fun y hy => hf y (List.mem_cons_of_mem _ hy)) (fun y d hd => ?_) x c h
    by_cases hk : (k == NameKind.free) = true
    · rw [if_pos hk] at hd
      obtain ⟨e, he⟩ := hf (n, k) List.mem_cons_self (by simpa using hk)
      have he' : cells.lookup n = some e := he
      rw [he', List.lookup_cons] at hd
      cases hy : y == n with
      | true =>
        rw [hy] at hd
        have hy' : y = n := by simpa using hy
        rw [hy', he']
        exact hd
      | false =>
        rw [hy] at hd
        exact ha y d hd
    · rw [if_neg hk] at hd
      exact ha y d hd
theorem clOf_keep {cells : List (Str × Addr)} : ∀ {names : List (Str × NameKind)} {acc : List (Str × Addr)} {x : Str}, (∃ c, acc.lookup x = some c) → ∃ c, (clOf cells names acc).lookup x = some c
  | [], acc, x, h => h
  | (n, k) :: r, acc, x, h => by
    rw [clOf]
    refine clOf_keep (names := r) ?_
    by_cases hk : (k == NameKind.free) = true
    · rw [if_pos hk, List.lookup_cons]
      cases hx : x == n with
      | true => exact ⟨_, rfl⟩
      | false => exact h
    · rw [if_neg hk]; exact h
theorem clOf_has {cells : List (Str × Addr)} : ∀ {names : List (Str × NameKind)} {acc : List (Str × Addr)} {x : Str}, names.lookup x = some .free → ∃ c, (clOf cells names acc).lookup x = some c
  | [], acc, x, h => by cases h
  | (n, k) :: r, acc, x, h => by
    rw [clOf]
    rw [List.lookup_cons] at h
    cases hx : x == n with
    | true =>
      rw [hx] at h
      have hk : k = .free := Option.some.inj h
      refine clOf_keep (names := r) ?_
      rw [hk, if_pos (show (NameKind.free == NameKind.free) = true by rfl), List.lookup_cons, hx]
      exact ⟨_, rfl⟩
    | false =>
      rw [hx] at h
      exact clOf_has (names := r) h
theorem relabel_free {scope : Scope} {env : Env} (hk : env.scope.kind = .function) : ∀ {names : List (Str × NameKind)} {x : Str}, names.lookup x = some .free → env.kindOf x = some .cell →
    (names.map fun (n, k) => if (k == NameKind.free && env.scope.kind == .function && env.kindOf n == some .cell) = true then (n, NameKind.cell) else (n, k)).lookup x = some .cell
  | [], _, h, _ => by cases h
  | (n, k) :: r, x, h, hc => by
    rw [List.lookup_cons] at h
    show List.lookup x ((if (k == NameKind.free && env.scope.kind == .function && env.kindOf n == some .cell) = true then (n, NameKind.cell) else (n, k)) :: _) = _
    cases hx : x == n with
    | true =>
      rw [hx] at h
      have hkk : k = .free := Option.some.inj h
      have hxn : x = n := by simpa using hx
      rw [hkk, hk, ← hxn, hc]
      simp [List.lookup_cons]
    | false =>
      rw [hx] at h
      have ih := relabel_free (scope := scope) hk (names := r) h hc
      by_cases hq : (k == NameKind.free && env.scope.kind == .function && env.kindOf n == some .cell) = true
      · rw [if_pos hq, List.lookup_cons, hx]; exact ih
      · rw [if_neg hq, List.lookup_cons, hx]; exact ih
theorem relabel_back {env : Env} : ∀ {names : List (Str × NameKind)} {x : Str}, (∀ y ∈ names, y.2 ≠ .cell) →
    ((names.map fun (n, k) => if (k == NameKind.free && env.scope.kind == .function && env.kindOf n == some .cell) = true then (n, NameKind.cell) else (n, k)).lookup x = some .cell ∨
     (names.map fun (n, k) => if (k == NameKind.free && env.scope.kind == .function && env.kindOf n == some .cell) = true then (n, NameKind.cell) else (n, k)).lookup x = some .free) → names.lookup x = some .free
  | [], _, _, h => by rcases h with h | h <;> cases h
  | (n, k) :: r, x, hn, h => by
    have ih := relabel_back (env := env) (names := r) (x := x) fun y hy => hn y (List.mem_cons_of_mem _ hy)
    rw [List.map_cons] at h
    rw [List.lookup_cons]
    by_cases hq : (k == NameKind.free && env.scope.kind == .function && env.kindOf n == some .cell) = true
    · have hk : k = .free := by
        rw [Bool.and_eq_true, Bool.and_eq_true] at hq
        simpa using hq.1.1
      simp only [hq, if_true, List.lookup_cons] at h
      cases hx : x == n with
      | true => rw [hk]
      | false =>
        rw [hx] at h
        exact ih h
    · simp only [hq, Bool.false_eq_true, if_false, List.lookup_cons] at h
      cases hx : x == n with
      | true =>
        rw [hx] at h
        rcases h with h | h
        · exact absurd (Option.some.inj h) (hn (n, k) List.mem_cons_self)
        · exact h
      | false =>
        rw [hx] at h
        exact ih h

noncomputable def cxC (X : Cx) (N' : List Str) (scope : Scope) (C : Addr) (s₂ : Shared) (H₂ : Hp) (ex : List Addr) : Cx :=
  { X with N := N', s₀ := s₂, H₀ := H₂, env := compEnvC scope (clOf X.env.cells scope.names []) C X.env, outer := X.stack, stack := X.stack, ex := ex, fn := fun _ => false, pn := [], xe := fun _ _ => False }
noncomputable def selS (is : List Nat) (σ : St) (v : Option V) : St := v :: is.map fun i => (σ[i]?).getD none
structure CompSc (S scope : Scope) (N : List Str) (x : Str) (ys : List Str) (is : List Nat) : Prop where
  kind : scope.kind = .function
  cell : ∀ y ∈ scope.names, y.2 ≠ .cell
  names : ∀ y ∈ scope.names, y.2 = .local → scope.names.lookup y.1 = some .local
  own : scope.names.lookup x = some .local
  free : ∀ y ∈ scope.names, y.2 = .free → S.names.lookup y.1 = some .cell
  vis : ∀ p ∈ ys.zip is, N[p.2]? = some p.1 ∧ scope.names.lookup p.1 = some .free
  len : ys.length = is.length
  nd : (x :: ys).Nodup
noncomputable def PF (X : Cx) (ifs : List Expr) (t : TT) : Prop :=
  ∀ (pins : List (Addr × Obj)) (s : Shared) (σ : St) (H : Hp) (Q : Bool → Hp → Prop), Inv X pins σ H s → t σ H Q →
    wpAny (model X.prog X.w) X.A (forIn ifs true fun c r => if r = true then do let ok ← isTrue c X.env (eval c X.env); pure (ForInStep.yield ok) else pure (ForInStep.yield r)) (TP X pins σ Q) X.xe s
structure QF (X : Cx) (ifs : List Expr) (t : TT) : Prop where
  out : PF X ifs t
noncomputable def tYes : TT := fun _ H Q => Q true H
theorem qf_nil {X : Cx} : QF X [] tYes := ⟨fun _ _ _ H _ I h => wpAny_tests_nil ⟨H, I, h⟩⟩
theorem qf_one {X : Cx} {c : Expr} {t : TT} (h : QT X c t) : QF X [c] t := ⟨fun pins s σ H Q I hw => wpAny_tests_one (h.out pins s σ H Q I hw)⟩

section
variable {X : Cx} {S scope : Scope} {N : List Str} {x : Str} {ys : List Str} {is : List Nat} {pins : List (Addr × Obj)} {σ : St} {H₂ : Hp} {s₂ : Shared} {fp : List Addr}
theorem CompSc.cellOf' (K : CompSc S scope N x ys is) (hX : X.env.scope = S) (ok : X.Ok) : ∀ y ∈ scope.names, y.2 = .free → ∃ c, X.env.cells.lookup y.1 = some c := fun y hy h =>
  ok.has y.1 (.inl (by show X.env.scope.names.lookup y.1 = _; rw [hX]; exact K.free y hy h))
theorem CompSc.cl (K : CompSc S scope N x ys is) (hX : X.env.scope = S) (ok : X.Ok) : ∀ y c, (clOf X.env.cells scope.names []).lookup y = some c → X.env.cells.lookup y = some c :=
  clOf_get (K.cellOf' hX ok) fun _ _ z => by cases z
theorem mem_free {names : List (Str × NameKind)} {y : Str} {k : NameKind} (h : names.lookup y = some k) : (y, k) ∈ names := by
  induction names with
  | nil => cases h
  | cons p r ih =>
    obtain ⟨n, k'⟩ := p
    rw [List.lookup_cons] at h
    cases hx : y == n with
    | true =>
      rw [hx] at h
      have e1 : y = n := by simpa using hx
      have e2 : k' = k := Option.some.inj h
      rw [e1, e2]
      exact List.mem_cons_self
    | false =>
      rw [hx] at h
      exact List.mem_cons_of_mem _ (ih h)
theorem cxC_ok (K : CompSc S scope N x ys is) (hX : X.env.scope = S) (I : Inv X pins σ H₂ s₂) {C : Addr} (hC : s₂.heap.objs.size ≤ C) (hfp : ∀ b ∈ fp, FpOk X pins H₂ b) (hlt : ∀ b ∈ fp, b < s₂.heap.objs.size) : (cxC X (x :: ys) scope C s₂ H₂ fp).Ok where
  mod := I.ok.mod
  kind := K.kind
  glob := I.ok.glob
  blt := I.ok.blt
  above := hC
  inj := fun y z c h1 h2 => I.ok.inj y z c (K.cl hX I.ok y c h1) (K.cl hX I.ok z c h2)
  has := fun y hy => clOf_has (relabel_back (env := X.env) K.cell hy)
  cab := fun y c h => by cases h
  hd := I.ok.hd
  frames := I.ok.frames
  stk := .inl rfl
  exf := fun b hb => ⟨fun e => absurd (Nat.lt_of_lt_of_le (hlt b hb) (Nat.le_trans hC (Nat.le_of_eq (Eq.symm e)))) (Nat.lt_irrefl _), fun y c h => (hfp b hb).2.2.2.2.1 y c (K.cl hX I.ok y c h)⟩
  bs := I.bs
  bsz := Nat.le_trans I.ok.bsz I.sz
  noex := fun b o e hb => by
    rcases (hfp b hb).2.2.2.1 with z | z
    · exact I.ok.noex b o e z
    · exact absurd (Nat.lt_of_lt_of_le (Heap.lt_size e) (Nat.le_trans I.ok.bsz z)) (Nat.lt_irrefl _)
  exfs := fun b hb z => by
    rcases List.mem_cons.mp (I.stkSub b z) with e | e
    · exact (hfp b hb).2.1 e
    · exact (hfp b hb).2.2.1 e
  funs := I.stack
  frf := I.stkFree
theorem cxC_inv (K : CompSc S scope N x ys is) (hX : X.env.scope = S) (hN : X.N = N) (hk : S.kind = .function) (I : Inv X pins σ H₂ s₂) {C D : Addr} {h₁ : Heap} {tk : Nat} {oD : Obj} (hC : s₂.heap.objs.size ≤ C) (hD : s₂.heap.objs.size ≤ D) (hDC : D ≠ C)
    (hfp : ∀ b ∈ fp, FpOk X pins H₂ b) (hlt : ∀ b ∈ fp, b < s₂.heap.objs.size) (old : ∀ b o, s₂.heap.get? b = some o → h₁.get? b = some o) (hn : h₁.Ns C fun _ => none) (hacc : h₁.get? D = some oD) (hod : ∀ v, oD.data ≠ .cell v) :
    Inv (cxC X (x :: ys) scope C s₂ H₂ fp) [(D, oD)] (selS is σ none) H₂ { s₂ with heap := h₁, toks := tk } := by
  have ok := cxC_ok K hX I hC hfp hlt
  refine ⟨ok, rfl, I.bare, Un.kept old, ⟨_, hn, fun i y v h1 h2 h3 => ?_⟩, fun y c h => ?_, I.hok.fresh hC, fun y c h => I.freeC y c (K.cl hX I.ok y c h), fun p hp => ?_, I.hok.kept old, ?_⟩
  · cases i with
    | zero =>
      have h2' : some (none : Option V) = some (some v) := h2
      cases h2'
    | succ i =>
      have h1' : ys[i]? = some y := h1
      have h2' : (is.map fun i => (σ[i]?).getD none)[i]? = some (some v) := h2
      rw [List.getElem?_map] at h2'
      cases hj : is[i]? with
      | none => rw [hj] at h2'; cases h2'
      | some j =>
        rw [hj] at h2'
        have h2'' : (σ[j]?).getD none = some v := Option.some.inj h2'
        have hσ : σ[j]? = some (some v) := by
          cases q : σ[j]? with
          | none => rw [q] at h2''; cases h2''
          | some z => rw [q] at h2''; exact congrArg some h2''
        have hz : (y, j) ∈ ys.zip is := by
          obtain ⟨a1, e1⟩ := List.getElem?_eq_some_iff.mp h1'
          obtain ⟨a2, e2⟩ := List.getElem?_eq_some_iff.mp hj
          rw [← e1, ← e2, ← List.getElem_zip (h := by rw [List.length_zip]; omega)]
          exact List.getElem_mem _
        obtain ⟨v1, v2⟩ := K.vis _ hz
        have kc : X.env.kindOf y = some .cell := by show X.env.scope.names.lookup y = _; rw [hX]; exact K.free _ (mem_free v2) rfl
        obtain ⟨m, hm, hl⟩ := I.loc
        obtain ⟨u, r, l⟩ := hl j y v (by rw [hN]; exact v1) hσ (.inr (.inl kc))
        refine ⟨u, r, .inr ?_⟩
        rcases l with ⟨l1, _⟩ | ⟨_, c, l2, l3⟩
        · rw [kc] at l1; cases l1
        · obtain ⟨c', hc'⟩ := clOf_has (cells := X.env.cells) (acc := []) v2
          have e : c' = c := by have := K.cl hX I.ok y c' hc'; rw [l2] at this; exact (Option.some.inj this).symm
          subst e
          refine ⟨.inl (relabel_free (scope := scope) (by rw [hX]; exact hk) v2 kc), c', hc', ?_⟩
          obtain ⟨o, ho, hd⟩ := l3
          exact ⟨o, old _ _ ho, hd⟩
  · obtain ⟨v, o, ho, hd⟩ := I.cell y c (K.cl hX I.ok y c h)
    exact ⟨v, o, old _ _ ho, hd⟩
  · have e : p = (D, oD) := by simpa [cxC] using hp
    subst e
    refine ⟨hacc, I.hok.fresh hD, hDC, fun z => ?_, hod⟩
    obtain ⟨_, o, ho, _⟩ := ok.funs.mem z
    exact absurd (Nat.lt_of_lt_of_le (Heap.lt_size ho) hD) (Nat.lt_irrefl _)
  · show (selS is σ none).length = (x :: ys).length
    unfold selS
    rw [List.length_cons, List.length_map, List.length_cons, K.len]
theorem cxC_end (I : Inv X pins σ H₂ s₂) {C D : Addr} {N' : List Str} {σ' : St} {H' : Hp} {s' : Shared} {pl : List (Addr × Obj)} (I' : Inv (cxC X N' scope C s₂ H₂ fp) pl σ' H' s') (hD : s₂.heap.objs.size ≤ D) (hDn : H' D = none)
    (hfp : ∀ b ∈ fp, FpOk X pins H₂ b) {zs : List V} {its : List Value} {n : Nat} (hz : zs.length ≤ sizeLine) (r : Vals zs its) (hd : s'.heap.get? D = some { cls := .type "list", data := .seq its.toArray n }) :
    Inv X pins σ (upd H' D (.lst zs)) s' := by
  have b : Un (frs X.stack) fp H₂ H' s₂.heap s'.heap := I'.base
  have ne : ∀ c o, s₂.heap.get? c = some o → c ≠ D := fun c o e z => absurd (Nat.lt_of_lt_of_le (Heap.lt_size e) (Nat.le_trans hD (Nat.le_of_eq (Eq.symm z)))) (Nat.lt_irrefl _)
  have D2 : H₂ D = none := I.hok.fresh hD
  refine I.call' I'.os ⟨b.keep, b.slot, fun c o e n hx => ?_, b.there, fun c xs e => ?_, fun c o u e => ?_, fun c ps e => ?_⟩ (fun c u e => ?_) I'.bare fun c hc => ⟨(hfp c hc).2.2.2.1, (hfp c hc).2.1, (hfp c hc).2.2.2.2.1, (hfp c hc).2.2.2.2.2⟩
  · rw [upd_ne (ne c o e)]; exact b.free c o e n hx
  · rw [upd_ne (ne_of_none e D2)]; exact b.tups c xs e
  · rw [upd_ne (ne_of_none e D2)]; exact b.frzs c o u e
  · rw [upd_ne (ne_of_none e D2)]; exact b.tbls c ps e
  · by_cases hc : c = D
    · subst hc
      rw [upd_same] at e
      cases e
      exact ⟨hz, its, n, r, hd⟩
    · rw [upd_ne hc] at e
      exact (I'.hok c u e).stay (fun _ _ _ q => q) (fun d q => by rw [upd_ne (ne_of_none q hDn)]; exact q) fun d xs q => by rw [upd_ne (ne_of_none q hDn)]; exact q
end

section
variable {prog : Program} {w : World} {A : Around} {R : Result → Shared → Prop} {s : Shared}
theorem comp_loop {elt target iter : Expr} {ifs : List Expr} {scope : Scope} {pos : Pos} {it acc : Value} {env : Env} (I : Nat → Shared → Prop)
    (turn : ∀ n s, I n s → wpAny (model prog w) A (pyNext it) (fun r s₁ => match r with
      | none => R (.ok .next) s₁
      | some v => wpAny (model prog w) A (letOwnedTupleGo target it v) (fun _ s₁' => wpAny (model prog w) A (assign target env v) (fun _ s₂ =>
          wpAny (model prog w) A (forIn ifs true fun c r => if r = true then do let ok ← isTrue c env (eval c env); pure (ForInStep.yield ok) else pure (ForInStep.yield r)) (fun ok s₃ =>
            if ok = true then wpAny (model prog w) A (eval elt env) (fun x s₄ =>
              wpAny (model prog w) A (call (.builtin "list.append") [acc, x]) (fun _ s₅ => ∃ m, m < n ∧ I m s₅) (fun _ _ => False) s₄) (fun _ _ => False) s₃
            else ∃ m, m < n ∧ I m s₃) (fun _ _ => False) s₂) (fun _ _ => False) s₁') (fun _ _ => False) s₁) (fun _ _ => False) s)
    (n : Nat) (h : I n s) :
    codeAny (model prog w) A (.compLoop (.ListComp elt [⟨target, iter, ifs, 0⟩] scope pos) 0 it acc env) R s := by
  refine codeAny_loop rfl I (fun n s hI => ?_) n h
  show wpAny _ A ((compTurn (.ListComp elt [⟨target, iter, ifs, 0⟩] scope pos) 0 it acc env).onRaise (fun x => do noteFrame x env; theTreesLotGoes x)) _ _ s
  refine wpAny_noted ?_
  rw [compTurn_list]
  have nf : ∀ {E : Value → Shared → Prop} (e : Value) (s' : Shared), False → E e s' := fun _ _ z => z.elim
  refine wpAny_bind (wpAny_standAt (wpAny_bind (wpAny_mono (turn n s hI) (fun r s₁ h₁ => ?_) nf)))
  cases r with
  | none => exact wpAny_pure h₁
  | some v =>
    refine wpAny_bind (wpAny_mono h₁ (fun _ s₁' h₁' => ?_) nf)
    refine wpAny_bind (wpAny_mono h₁' (fun _ s₂ h₂ => wpAny_bind (wpAny_mono h₂ (fun ok s₃ h₃ => ?_) nf)) nf)
    cases ok with
    | false => exact wpAny_pure ⟨rfl, h₃⟩
    | true =>
      exact wpAny_bind (wpAny_bind (wpAny_mono h₃ (fun x s₄ h₄ => wpAny_bind (wpAny_mono h₄ (fun _ s₅ h₅ => wpAny_pure (wpAny_pure ⟨rfl, h₅⟩)) nf)) nf))
end
noncomputable def CompW (is : List Nat) (tc : TT) (te : TE) (σ : St) (Q : VK) (J : It) (H1 : Hp) : Prop := ∃ W : Nat → Nat → List V → Hp → Prop, (∃ m, W 0 m [] H1) ∧ ∀ i m zs H, W i m zs H →
  (J.stop i H ∧ zs.length ≤ sizeLine ∧ ∀ p, H p = none → Q (.ref p) (upd H p (.lst zs))) ∨
  (J.go i H ∧ zs.length ≤ sizeLine ∧ ∀ x H', J.yld i H x H' → tc (selS is σ (some x)) H' fun b H2 => if b = true then te (selS is σ (some x)) H2 fun y H3 => ∃ m', m' < m ∧ W (i + 1) m' (zs ++ [y]) H3 else ∃ m', m' < m ∧ W (i + 1) m' zs H2)
noncomputable def tComp (wi : TI) (is : List Nat) (tc : TT) (te : TE) : TE := fun σ H Q => wi σ H (CompW is tc te σ Q)
section
variable {X : Cx} {S scope : Scope} {N : List Str} {x : Str} {ys : List Str} {is : List Nat} {pins : List (Addr × Obj)} {σ : St} {H₂ : Hp} {s₂ : Shared} {fp : List Addr} {elt iter : Expr} {px pos : Pos} {ifs : List Expr} {tc : TT} {te : TE}
theorem comp_block {J : It} {it : Addr} {tn : Nat → Heap → Prop} {Q : VK} {RR : Value → Addr → Result → Shared → Prop} {E : Value → Shared → Prop} (K : CompSc S scope N x ys is) (hX : X.env.scope = S) (hN : X.N = N) (hk : S.kind = .function) (hc : X.calm = true)
    (hf : ∀ C s₂ H₂ ex, QF (cxC X (x :: ys) scope C s₂ H₂ ex) ifs tc) (he : ∀ C s₂ H₂ ex, QE (cxC X (x :: ys) scope C s₂ H₂ ex) elt te)
    (I : Inv X pins σ H₂ s₂) (T : Turn X.prog X.w X.K (.Name x px) J fp it tn) (st : tn 0 s₂.heap) (hfp : ∀ b ∈ fp, FpOk X pins H₂ b)
    {W : Nat → Nat → List V → Hp → Prop} {m0 : Nat} (w0 : W 0 m0 [] H₂)
    (turn : ∀ i m zs H, W i m zs H → (J.stop i H ∧ zs.length ≤ sizeLine ∧ ∀ p, H p = none → Q (.ref p) (upd H p (.lst zs))) ∨
      (J.go i H ∧ zs.length ≤ sizeLine ∧ ∀ x H', J.yld i H x H' → tc (selS is σ (some x)) H' fun b H2 => if b = true then te (selS is σ (some x)) H2 fun y H3 => ∃ m', m' < m ∧ W (i + 1) m' (zs ++ [y]) H3 else ∃ m', m' < m ∧ W (i + 1) m' zs H2))
    (fin : ∀ D C s' H' m', Inv X pins σ H' s' → FpOk X pins H' C → s'.heap.Ns C m' → Q (.ref D) H' → RR (.ref D) C (.ok .next) s') :
    wpAny (model X.prog X.w) X.A (newList []) (fun acc s₃ => wpAny (model X.prog X.w) X.A (newFunctionEnv scope X.env.globals (clOf X.env.cells scope.names []) [] X.env.qual none .none (some X.env)) (fun cenv s₄ =>
      codeAny (model X.prog X.w) X.A (.compStart (.ListComp elt [⟨.Name x px, iter, ifs, 0⟩] scope pos) 0 (.ref it) acc { cenv with scope := relabel scope X.env }) (RR acc cenv.locals) s₄) E s₃) E s₂ := by
  refine wpAny_newObj_type (wpAny_newFunctionEnv K.cell (by intro y hy; simp at hy) (fun h₁ hns₁ hsb₁ => ?_) K.kind)
  dsimp only at hns₁ hsb₁ ⊢
  generalize hH2 : s₂.heap.push { cls := .type "list", dict := none, data := .seq ([] : List Value).toArray } = H2 at hns₁ hsb₁ ⊢
  have hCs : H2.objs.size = s₂.heap.objs.size + 1 := by rw [← hH2, Heap.size_push]
  have hDC : s₂.heap.objs.size ≠ H2.objs.size := by rw [hCs]; exact Nat.ne_of_lt (Nat.lt_succ_self _)
  have hC : s₂.heap.objs.size ≤ H2.objs.size := by rw [hCs]; exact Nat.le_succ _
  have hlt : ∀ b ∈ fp, b < s₂.heap.objs.size := fun b hb => by obtain ⟨o, e, _⟩ := T.obj 0 _ st b hb; exact Heap.lt_size e
  have old : ∀ b o, s₂.heap.get? b = some o → h₁.get? b = some o := fun b o e => hsb₁.extBut b o (by rw [hCs]; exact Nat.ne_of_lt (Nat.lt_succ_of_lt (Heap.lt_size e))) (Heap.get?_push_of_some _ (hH2 ▸ Heap.get?_push_of_some _ e))
  have hacc : h₁.get? s₂.heap.objs.size = some { cls := .type "list", data := .seq ([] : List Value).toArray 0 } := hsb₁.extBut _ _ hDC (Heap.get?_push_of_some _ (hH2 ▸ Heap.get?_push_size _ rfl))
  have st₁ : tn 0 h₁ := T.keep _ _ _ st fun b _ o e => old b o e
  -- the records of the iterator through the block
  have fpC : ∀ {H' : Hp} {pl : List (Addr × Obj)}, (∀ p ∈ pl, ∀ b ∈ fp, p.1 ≠ b) → (∀ b ∈ fp, H' b = none) → ∀ b ∈ fp, FpOk (cxC X (x :: ys) scope H2.objs.size s₂ H₂ fp) pl H' b := fun {H' pl} hpl hn b hb => by
    have ok := cxC_ok K hX I hC hfp hlt
    exact ⟨hn b hb, (ok.exf b hb).1, ok.exfs b hb, .inl hb, (ok.exf b hb).2, fun p hp => hpl p hp b hb⟩
  have Dfp : ∀ (o : Obj), ∀ p ∈ [(s₂.heap.objs.size, o)], ∀ b ∈ fp, p.1 ≠ b := fun o p hp b hb e => by
    have e1 : p = (s₂.heap.objs.size, o) := by simpa using hp
    subst e1
    exact absurd (hlt b hb) (by rw [← e]; exact Nat.lt_irrefl _)
  have loop : ∀ s₃ : Shared, s₃ = { s₂ with heap := h₁, toks := s₂.toks + ([] : List (Str × Value)).length } →
      codeAny (model X.prog X.w) X.A (.compLoop (.ListComp elt [⟨.Name x px, iter, ifs, 0⟩] scope pos) 0 (.ref it) (.ref s₂.heap.objs.size) (compEnvC scope (clOf X.env.cells scope.names []) H2.objs.size X.env))
        (RR (.ref s₂.heap.objs.size) H2.objs.size) s₃ := by
    rintro s₃ rfl
    have I0 := cxC_inv K hX hN hk I (tk := s₂.toks + ([] : List (Str × Value)).length) hC (Nat.le_refl _) hDC hfp hlt old hns₁ hacc (fun v z => by cases z)
    refine comp_loop (fun n s' => ∃ (i : Nat) (v0 : Option V) (zs : List V) (its : List Value) (k : Nat) (H' : Hp), Inv (cxC X (x :: ys) scope H2.objs.size s₂ H₂ fp) [(s₂.heap.objs.size, { cls := .type "list", data := .seq its.toArray k })] (selS is σ v0) H' s' ∧
      Vals zs its ∧ tn i s'.heap ∧ (∀ b ∈ fp, H' b = none) ∧ W i n zs H') ?_ m0 ⟨0, none, [], [], 0, H₂, I0, .nil, st₁, fun b hb => (hfp b hb).1, w0⟩
    rintro n s3 ⟨i, v0, zs, its, k, H3, I3, rv, st3, fr3, w3⟩
    have hD3 := I3.pin _ (List.mem_append_right _ (List.mem_singleton.mpr rfl))
    rcases turn i n zs H3 w3 with ⟨stop, hz, q⟩ | ⟨go, hz, step⟩
    · refine thn (T.done (cxC X (x :: ys) scope H2.objs.size s₂ H₂ fp) rfl rfl rfl hc i _ s3 _ H3 _ I3 (fpC (Dfp _) fr3) st3 stop) fun r s4 ⟨hr, I4⟩ => ?_
      subst hr
      have hD4 := I4.pin _ (List.mem_append_right _ (List.mem_singleton.mpr rfl))
      have I5 := cxC_end I I4 (Nat.le_refl _) hD4.2.1 hfp hz rv hD4.1
      obtain ⟨m', hm', _⟩ := I4.loc
      refine fin _ _ s4 _ m' I5 ?_ hm' (q _ hD4.2.1)
      refine I.fpOk hC ?_
      rw [upd_ne (Ne.symm hDC)]
      exact I4.free
    · refine thn (T.item (cxC X (x :: ys) scope H2.objs.size s₂ H₂ fp) rfl rfl rfl hc i _ s3 _ H3 _ I3 (fpC (Dfp _) fr3) st3 go) fun r s4 ⟨u, hr, h4⟩ => ?_
      subst hr
      refine thn h4 fun _ s5 ⟨xv, H5, I5, r5, y5, st5, fr5⟩ => ?_
      have I5' := I5.pinned (fpC (Dfp _) fr5) (T.obj _ _ st5)
      have pg : PG (cxC X (x :: ys) scope H2.objs.size s₂ H₂ fp) (.Name x px) (gName 0) := pg_name K.nd rfl (.inl (lookup_relabel_local K.own)) (.inr (lookup_relabel_local K.own))
      refine thn (pg _ s5 _ H5 xv u (fun σ2 H2 => σ2 = selS is σ (some xv) ∧ H2 = H5) I5' r5 ⟨rfl, rfl⟩) fun _ s6 ⟨σ6, H6, I6, e6, e6'⟩ => ?_
      subst e6
      subst e6'
      -- what stays of the list and the iterator
      have back : ∀ {s7 : Shared} {H7 : Hp}, Inv (cxC X (x :: ys) scope H2.objs.size s₂ H₂ fp) ([(s₂.heap.objs.size, { cls := .type "list", data := .seq its.toArray k })] ++ pinsAt fp s5.heap) (selS is σ (some xv)) H7 s7 →
          tn (i + 1) s7.heap ∧ (∀ b ∈ fp, H7 b = none) ∧ s7.heap.get? s₂.heap.objs.size = some { cls := .type "list", data := .seq its.toArray k } ∧ H7 s₂.heap.objs.size = none := fun {s7 H7} I7 => by
        refine ⟨T.keep _ _ _ st5 fun b hb o e => (I7.pin (b, o) (List.mem_append_right _ (List.mem_append_right _ (mem_pinsAt hb e)))).1, fun b hb => ?_, ?_, ?_⟩
        · obtain ⟨o, e, d⟩ := T.obj _ _ st5 b hb
          exact (I7.pin (b, o) (List.mem_append_right _ (List.mem_append_right _ (mem_pinsAt hb e)))).2.1
        · exact (I7.pin (s₂.heap.objs.size, { cls := .type "list", data := .seq its.toArray k }) (List.mem_append_right _ (List.mem_append_left _ (List.mem_singleton.mpr rfl)))).1
        · exact (I7.pin (s₂.heap.objs.size, { cls := .type "list", data := .seq its.toArray k }) (List.mem_append_right _ (List.mem_append_left _ (List.mem_singleton.mpr rfl)))).2.1
      refine thn ((hf _ _ _ _).out _ s6 _ H6 _ I6 (step xv H6 y5)) fun b s7 ⟨H7, I7, q7⟩ => ?_
      cases b with
      | false =>
        have q7' : ∃ m', m' < n ∧ W (i + 1) m' zs H7 := by simpa using q7
        obtain ⟨m', hm', w7⟩ := q7'
        obtain ⟨b1, b2, b3, b4⟩ := back I7
        rw [if_neg Bool.false_ne_true]
        exact ⟨m', hm', i + 1, some xv, zs, its, k, H7, I7.unpinned, rv, b1, b2, w7⟩
      | true =>
        rw [if_pos rfl]
        have q7' := q7
        rw [if_pos rfl] at q7'
        refine thn ((he _ _ _ _).out _ s7 _ H7 _ I7 q7') fun yv s8 ⟨y, H8, I8, r8, m', hm', w8⟩ => ?_
        obtain ⟨b1, b2, b3, b4⟩ := back I8
        refine append_at b3 (fun h9 sb9 e9 => ?_) (by rw [List.size_toArray, ← rv.length]; exact hz)
        have ok := cxC_ok K hX I hC hfp hlt
        have I8' : Inv (cxC X (x :: ys) scope H2.objs.size s₂ H₂ fp) [] (selS is σ (some xv)) H8 s8 := I8.pins_of fun p hp => by cases hp
        have I9 : Inv (cxC X (x :: ys) scope H2.objs.size s₂ H₂ fp) [] (selS is σ (some xv)) H8 { s8 with heap := h9 } := I8'.turned (t' := s8.toks) (it := s₂.heap.objs.size) (fun b o hb e => (sb9.2 b hb).trans e) b4 hDC (.inr (Nat.le_refl _))
          (fun y c h z => by
            obtain ⟨v, o, ho, _⟩ := I.cell y c (K.cl hX I.ok y c h)
            have := Heap.lt_size ho
            rw [z] at this
            exact Nat.lt_irrefl _ this) (fun p hp => by cases hp)
        refine ⟨m', hm', i + 1, some xv, zs ++ [y], its ++ [yv], k + 1, H8, ?_, rv.append (.cons r8 .nil), T.keep _ _ _ b1 fun b hb o e => (sb9.2 b fun z => absurd (hlt b hb) (by rw [z]; exact Nat.lt_irrefl _)).trans e, b2, w8⟩
        refine I9.pins_of fun p hp => ?_
        have e1 : p = (s₂.heap.objs.size, { cls := .type "list", data := .seq (its ++ [yv]).toArray (k + 1) }) := by simpa using hp
        subst e1
        refine ⟨by rw [e9, List.push_toArray], b4, hDC, fun z => ?_, fun v z => by cases z⟩
        obtain ⟨_, o, ho, _⟩ := ok.funs.mem z
        exact absurd (Heap.lt_size ho) (Nat.lt_irrefl _)
  exact codeAny_compStart_list (loop _ rfl) (T.self _ 0 _ _ _ st₁ (loop _ rfl))
end

section
variable {X : Cx} {S scope : Scope} {N : List Str} {x : Str} {ys : List Str} {is : List Nat} {elt iter : Expr} {px pos : Pos} {ifs : List Expr} {wi : TI} {tc : TT} {te : TE}
theorem qe_comp (K : CompSc S scope N x ys is) (hi : QI X (.Name x px) iter wi) (hf : ∀ C s₂ H₂ ex, QF (cxC X (x :: ys) scope C s₂ H₂ ex) ifs tc) (he : ∀ C s₂ H₂ ex, QE (cxC X (x :: ys) scope C s₂ H₂ ex) elt te)
    (hc : X.calm = true := by rfl) (hX : X.env.scope = S := by rfl) (hN : X.N = N := by rfl) (hk : S.kind = .function := by rfl) (hs : ∀ v, foldedSetIterable iter X.env v = pure v := by intro _; rfl) :
    QE X (.ListComp elt [⟨.Name x px, iter, ifs, 0⟩] scope pos) (tComp wi is tc te) := by
  refine ⟨fun pins s σ H Q I h => ?_⟩
  rw [eval_ListComp]
  refine wpAny_comprehension_free (use := none) rfl hs (closure_of (K.cellOf' hX I.ok)) K.kind K.names (thn (hi.out pins s σ H _ I h) fun v s1 h1 => thn h1 fun itv s2 h2 => ?_)
  obtain ⟨it, fp, tn, J, H2, rfl, I2, T, st2, f2, W, ⟨m0, w0⟩, turn⟩ := h2
  refine comp_block (RR := fun acc C => compPost (model X.prog X.w) X.A X.xe none (EP X pins σ Q) acc C) K hX hN hk hc hf he I2 T st2 f2 w0 turn ?_
  intro D C s' H' m' I' fC hm' q
  obtain ⟨f0, f1, f3, f4, f5, f6⟩ := fC
  exact ⟨m', hm', fun h' hs' => ⟨.ref D, H', I'.turned (t' := s'.toks) (fun b o hb e => (hs'.2 b hb).trans e) f0 f1 f4 f5 f6, rfl, q⟩⟩
theorem qs_setC {i : Nat} {y : Str} {py spos : Pos} (hNd : X.N.Nodup) (hy : X.N[i]? = some y) (hl : X.env.scope.names.lookup y = some .local) (K : CompSc S scope N x ys is) (hi : QI X (.Name x px) iter wi)
    (hf : ∀ C s₂ H₂ ex, QF (cxC X (x :: ys) scope C s₂ H₂ ex) ifs tc) (he : ∀ C s₂ H₂ ex, QE (cxC X (x :: ys) scope C s₂ H₂ ex) elt te)
    (hsw : swapsWith (.ListComp elt [⟨.Name x px, iter, ifs, 0⟩] scope pos) (some (.Name y py)) spos.line X.env = pure true := by rfl)
    (hc : X.calm = true := by rfl) (hX : X.env.scope = S := by rfl) (hN : X.N = N := by rfl) (hk : S.kind = .function := by rfl) (hs : ∀ v, foldedSetIterable iter X.env v = pure v := by intro _; rfl) :
    QS X (.Assign [.Name y py] (.ListComp elt [⟨.Name x px, iter, ifs, 0⟩] scope pos) spos) (tAsg (tComp wi is tc te) (gName i)) := by
  refine ⟨fun pins s σ H D I h => ?_⟩
  rw [exec_Assign_Name_used _ _ _ _ hsw]
  refine wpAny_bind (wpAny_standAt (wpAny_bind ?_))
  show wpAny _ X.A (do let _ ← comprehension (.ListComp elt [⟨.Name x px, iter, ifs, 0⟩] scope pos) scope X.env _ (newList []) false (eval iter X.env) (some (assign (.Name y py) X.env))) _ _ s
  refine wpAny_bind (thn (wpAny_comprehension_free (use := some (assign (.Name y py) X.env)) (Q := fun _ s' => SP X pins D .next s') rfl hs (closure_of (K.cellOf' hX I.ok)) K.kind K.names
    (thn (hi.out pins s σ H _ I h) fun v s1 h1 => thn h1 fun itv s2 h2 => ?_)) fun _ s' hq => wpAny_pure (wpAny_pure hq))
  obtain ⟨it, fp, tn, J, H2, rfl, I2, T, st2, f2, W, ⟨m0, w0⟩, turn⟩ := h2
  refine comp_block (RR := fun acc C => compPost (model X.prog X.w) X.A X.xe (some (assign (.Name y py) X.env)) (fun _ s' => SP X pins D .next s') acc C) (Q := fun v H => D.nx (σ.set i (some v)) H) K hX hN hk hc hf he I2 T st2 f2 w0 turn ?_
  intro Dl C s' H' m' I' fC hm' q
  obtain ⟨f0, f1, f3, f4, f5, f6⟩ := fC
  show wpAny _ X.A (assign (.Name y py) X.env (.ref Dl)) _ _ _
  obtain ⟨oC, es, ep, hoC, hdC, hrC⟩ := hm'
  have Ip : Inv X (pins ++ [(C, oC)]) σ H' s' := I'.pins_of fun p hp => (List.mem_append.mp hp).elim (fun z => I'.pin p (List.mem_append_right _ z)) fun z => by
    have e : p = (C, oC) := by simpa using z
    subst e
    exact ⟨hoC, f0, f1, f3, fun v z => by rw [hdC] at z; cases z⟩
  refine wpAny_assign_Name (store_ok Ip hNd hy (.inl hl) (v := .ref Dl) rfl (fun s'' I'' => ?_) (.inr hl))
  have hC2 := (I''.pin (C, oC) (List.mem_append_right _ (List.mem_append_right _ (List.mem_singleton.mpr rfl)))).1
  refine ⟨m', ⟨oC, es, ep, hC2, hdC, hrC⟩, fun h' hs' => ⟨_, H', I''.unpinned.turned (t' := s''.toks) (fun b o hb e => (hs'.2 b hb).trans e) f0 f1 f4 f5 f6, q⟩⟩
end
theorem comp_range {lo : Int} {n : Nat} {is : List Nat} {tc : TT} {te : TE} {σ : St} {H : Hp} {Q : VK} (Pv : Nat → List V → Hp → Prop) (h0 : Pv 0 [] H) (hl : ∀ i zs H, Pv i zs H → zs.length ≤ sizeLine)
    (hs : ∀ i zs H (R : List V → Hp → Prop), (∀ zs H, Pv (i + 1) zs H → R zs H) → i < n → Pv i zs H → tc (selS is σ (some (.int (lo + i)))) H fun b H2 => if b = true then te (selS is σ (some (.int (lo + i)))) H2 fun y H3 => R (zs ++ [y]) H3 else R zs H2)
    (hd : ∀ zs H, Pv n zs H → ∀ p, H p = none → Q (.ref p) (upd H p (.lst zs))) :
    CompW is tc te σ Q (Itr lo n) H := by
  refine ⟨fun i m zs H => m = n - i ∧ i ≤ n ∧ Pv i zs H, ⟨n, by simp, Nat.zero_le _, h0⟩, ?_⟩
  rintro i m zs H ⟨rfl, hi, p⟩
  by_cases hlt : i < n
  · refine .inr ⟨hlt, hl i zs H p, fun x H' y => ?_⟩
    obtain ⟨e, y⟩ := y
    subst e y
    exact hs i zs _ (fun zs H => ∃ m', m' < n - i ∧ m' = n - (i + 1) ∧ i + 1 ≤ n ∧ Pv (i + 1) zs H) (fun zs H q => ⟨n - (i + 1), by omega, rfl, hlt, q⟩) hlt p
  · have e : i = n := by omega
    subst e
    exact .inl ⟨Nat.le_refl _, hl _ _ _ p, hd zs H p⟩
theorem comp_tup {K : PySem.W.Frag} {a : Addr} {xs : List V} {is : List Nat} {tc : TT} {te : TE} {σ : St} {H : Hp} {Q : VK} (Pv : Nat → List V → Hp → Prop) (h0 : Pv 0 [] H) (hl : ∀ i zs H, Pv i zs H → zs.length ≤ sizeLine) (hq : ∀ i zs H, Pv i zs H → SqT K H a xs)
    (hs : ∀ i x zs H (R : List V → Hp → Prop), (∀ zs H, Pv (i + 1) zs H → R zs H) → xs[i]? = some x → Pv i zs H → tc (selS is σ (some x)) H fun b H2 => if b = true then te (selS is σ (some x)) H2 fun y H3 => R (zs ++ [y]) H3 else R zs H2)
    (hd : ∀ zs H, Pv xs.length zs H → ∀ p, H p = none → Q (.ref p) (upd H p (.lst zs))) :
    CompW is tc te σ Q (Itt K a) H := by
  refine ⟨fun i m zs H => m = xs.length - i ∧ i ≤ xs.length ∧ Pv i zs H, ⟨xs.length, by simp, Nat.zero_le _, h0⟩, ?_⟩
  rintro i m zs H ⟨rfl, hi, p⟩
  by_cases hlt : i < xs.length
  · refine .inr ⟨⟨xs, xs[i], hq i zs H p, List.getElem?_eq_getElem hlt⟩, hl i zs H p, fun x H' y => ?_⟩
    obtain ⟨e, y⟩ := y
    subst e
    exact hs i x zs _ (fun zs H => ∃ m', m' < xs.length - i ∧ m' = xs.length - (i + 1) ∧ i + 1 ≤ xs.length ∧ Pv (i + 1) zs H) (fun zs H q => ⟨xs.length - (i + 1), by omega, rfl, hlt, q⟩) (y xs (hq i zs _ p)) p
  · have e : i = xs.length := by omega
    exact .inl ⟨⟨xs, hq i zs H p, by omega⟩, hl _ _ _ p, by rw [e] at p; exact hd zs H p⟩
end L2

set_option Elab.async false
set_option linter.all false
set_option maxRecDepth 100000
set_option maxHeartbeats 1000000
namespace HT
open PySem PySem.Spec PyProof.Rows
section
variable {prog : Program} {w : World} {A : Around} {E : Value → Shared → Prop} {s : Shared}
end
end HT
namespace L2
open PySem PySem.Spec PyProof.Rows
section
variable {X : Cx} {e st : Expr} {te ts : TE} {pos p2 : Pos}
theorem ints_eqAt {A : Around} {s : Shared} {xs : List V} {its its2 : List Value} (r : Vals xs its) (r2 : Vals xs its2) (f : xs.all flatV = true) : ∀ j (h1 : j < its.toArray.size) (h2 : j < its2.toArray.size), SeqAt.EqAt A s its.toArray[j] its2.toArray[j] true := by
  intro j h1 h2
  have l1 := r.length
  have hj : j < xs.length := by rw [l1]; simpa using h1
  obtain ⟨u, e1, q1⟩ := r.get (List.getElem?_eq_getElem hj)
  obtain ⟨u2, e2, q2⟩ := r2.get (List.getElem?_eq_getElem hj)
  have f1 : flatV xs[j] = true := List.all_eq_true.mp f _ (List.getElem_mem hj)
  have e1' : its.toArray[j] = u := by
    have : its[j]? = some its[j] := List.getElem?_eq_getElem (by simpa using h1)
    rw [e1] at this
    simpa using (Option.some.inj this).symm
  have e2' : its2.toArray[j] = u2 := by
    have : its2[j]? = some its2[j] := List.getElem?_eq_getElem (by simpa using h2)
    rw [e2] at this
    simpa using (Option.some.inj this).symm
  rw [e1', e2']
  have z := eqAt_V (A := A) (s := s) q1 q2 f1 f1
  have e : eqV xs[j] xs[j] = true := by
    cases h : xs[j] with
    | non => rfl
    | bl b => simp [eqV]
    | int i => simp [eqV]
    | str x => simp [eqV]
    | _ => rw [h] at f1; cases f1
  rw [e] at z
  exact z
noncomputable def rSameT (K : PySem.W.Frag) (b : Bool) : R2 := fun x y H Q => ∃ a c xs, x = .ref a ∧ y = .ref c ∧ SqT K H a xs ∧ SqT K H c xs ∧ xs.all flatV = true ∧ Q (.bl b) H
theorem all_true (n : Nat) : ((List.range n).all fun _ => true) = true := by simp
theorem op_eqT (hu : X.A.units < cLine) : OpR X (compareOp .Eq) (rSameT X.K true) := by
  intro pins s σ H x y v u Q I rx ry h
  obtain ⟨a, c, xs, rfl, rfl, ha, hc, f, q⟩ := h
  cases rx
  cases ry
  obtain ⟨its, r, p, _⟩ := I.tuple ha
  obtain ⟨its2, r2, p2, _⟩ := I.tuple hc
  refine SeqAt.eq_tupleAt (e := fun _ => true) p p2 hu (ints_eqAt r r2 f) (fin_bl I q ?_)
  rw [all_true, List.size_toArray, List.size_toArray, ← r.length, ← r2.length]
  simp
end
theorem units_of {k : Nat} {A : Around} (hr : Room k A) : A.units < cLine := hr.units0
end L2

set_option Elab.async false
set_option linter.all false
set_option maxRecDepth 100000
set_option maxHeartbeats 1000000
namespace RvT
open PySem PySem.Spec PyProof.Rows
section
variable {prog : Program} {w : World} {A : Around} {E : Value → Shared → Prop} {s : Shared}
end
end RvT
namespace L2
open PySem PySem.Spec PyProof.Rows
end L2

set_option Elab.async false
set_option linter.all false
set_option maxRecDepth 100000
set_option maxHeartbeats 1000000
namespace HT
open PySem PySem.Spec PyProof.Rows
section
variable {prog : Program} {w : World} {A : Around} {E : Value → Shared → Prop} {s : Shared}
end
end HT
namespace L2
open PySem PySem.Spec PyProof.Rows
section
variable {X : Cx}
end
end L2

set_option Elab.async false
set_option linter.all false
set_option maxRecDepth 100000
set_option maxHeartbeats 1000000
namespace L2
open PySem PySem.Spec PyProof.Rows
section
variable {X : Cx}
theorem sl_str : SlR X (fun x lo hi H Q => ∃ z, x = .str z ∧ z.length ≤ sizeLine ∧ Q (.str (Txt.slice z lo hi)) H) := by
  intro pins s σ H x v vl vu lo hi sl Q I rx hs pl pu h
  obtain ⟨z, rfl, hz, q⟩ := h
  obtain ⟨t, rfl⟩ := rx
  refine ⟨"str", _, F.slot_str_getitem.lookup, typeIs_str _ _ _, ?_⟩
  have fin : ∀ t' k, EP X pins σ Q (.str (Txt.slice z lo hi) t') { s with toks := k } := fun t' k => ⟨.str _, H, I.tok _, ⟨_, rfl⟩, q⟩
  cases pl with
  | none =>
    cases pu with
    | none => exact wpAny_getItem_str_slice (l := none) (u := none) (st := none) hs rfl (post_val_or_str ⟨Nat.le_trans (Txt.slice_le z _ _) hz, fin⟩)
    | int j uj => exact wpAny_getItem_str_slice (l := none) (u := some (j, uj)) (st := none) hs rfl (post_val_or_str ⟨Nat.le_trans (Txt.slice_le z _ _) hz, fin⟩)
  | int i ui =>
    cases pu with
    | none => exact wpAny_getItem_str_slice (l := some (i, ui)) (u := none) (st := none) hs rfl (post_val_or_str ⟨Nat.le_trans (Txt.slice_le z _ _) hz, fin⟩)
    | int j uj => exact wpAny_getItem_str_slice (l := some (i, ui)) (u := some (j, uj)) (st := none) hs rfl (post_val_or_str ⟨Nat.le_trans (Txt.slice_le z _ _) hz, fin⟩)
theorem call_strV : CallR X (.type "str") (fun xs H Q => (∃ z, xs = [.str z] ∧ Q (.str z) H) ∨ ∃ i, xs = [.int i] ∧ i.natAbs.log2 < 1920 ∧ Q (.str (toString i)) H) := by
  intro pins s σ H xs us Q I r h
  rcases h with ⟨z, rfl, q⟩ | ⟨i, rfl, hz, q⟩
  · obtain ⟨u, rfl, t, rfl⟩ := vals1 r
    exact PySem.P.str_of_str ⟨.str z, H, I, ⟨_, rfl⟩, q⟩
  · obtain ⟨u, rfl, t, rfl⟩ := vals1 r
    exact PySem.P.str_of_int hz ⟨.str _, H, I.tok _, ⟨_, rfl⟩, q⟩
theorem strsAre_of {ys : List Str} : ∀ {us : List Value}, Vals (ys.map V.str) us → StrsAre us ys := by
  induction ys with
  | nil => intro us r; rw [List.map_nil] at r; cases r; exact .nil
  | cons n ns ih =>
    intro us r
    rw [List.map_cons] at r
    cases r with
    | cons r1 r2 =>
      obtain ⟨t, e⟩ := r1
      subst e
      exact .cons n t (ih r2)
theorem mt_join : MtR X "str.join" (fun x vs H Q => ∃ (z : Str) (p : Addr) (ys : List Str), x = .str z ∧ vs = [.ref p] ∧ SqL X.K H p (ys.map V.str) ∧ (ys.map (·.length)).sum + ys.length * z.length ≤ 16777216 ∧ Q (.str (Txt.join z ys)) H) := by
  intro pins s σ H x vs v us Q I rx rv h
  obtain ⟨z, p, ys, rfl, rfl, hq, hok, q⟩ := h
  obtain ⟨t, rfl⟩ := rx
  obtain ⟨u, rfl, ru⟩ := vals1 rv
  cases ru
  obtain ⟨its, r', pl, hz⟩ := I.list hq
  exact join_list pl.isList (strsAre_of r') hok fun t' k => ⟨.str _, H, I.tok _, ⟨_, rfl⟩, q⟩
end
theorem comp_list {K : PySem.W.Frag} {a : Addr} {xs : List V} {is : List Nat} {tc : TT} {te : TE} {σ : St} {H : Hp} {Q : VK} (Pv : Nat → List V → Hp → Prop) (h0 : Pv 0 [] H) (hl : ∀ i zs H, Pv i zs H → zs.length ≤ sizeLine) (hq : ∀ i zs H, Pv i zs H → SqL K H a xs)
    (hs : ∀ i x zs H (R : List V → Hp → Prop), (∀ zs H, Pv (i + 1) zs H → R zs H) → xs[i]? = some x → Pv i zs H → tc (selS is σ (some x)) H fun b H2 => if b = true then te (selS is σ (some x)) H2 fun y H3 => R (zs ++ [y]) H3 else R zs H2)
    (hd : ∀ zs H, Pv xs.length zs H → ∀ p, H p = none → Q (.ref p) (upd H p (.lst zs))) :
    CompW is tc te σ Q (Itl K a) H := by
  refine ⟨fun i m zs H => m = xs.length - i ∧ i ≤ xs.length ∧ Pv i zs H, ⟨xs.length, by simp, Nat.zero_le _, h0⟩, ?_⟩
  rintro i m zs H ⟨rfl, hi, p⟩
  by_cases hlt : i < xs.length
  · refine .inr ⟨⟨xs, xs[i], hq i zs H p, List.getElem?_eq_getElem hlt⟩, hl i zs H p, fun x H' y => ?_⟩
    obtain ⟨e, y⟩ := y
    subst e
    exact hs i x zs _ (fun zs H => ∃ m', m' < xs.length - i ∧ m' = xs.length - (i + 1) ∧ i + 1 ≤ xs.length ∧ Pv (i + 1) zs H) (fun zs H q => ⟨xs.length - (i + 1), by omega, rfl, hlt, q⟩) (y xs (hq i zs _ p)) p
  · have e : i = xs.length := by omega
    exact .inl ⟨⟨xs, hq i zs H p, by omega⟩, hl _ _ _ p, by rw [e] at p; exact hd zs H p⟩
end L2

set_option Elab.async false
set_option linter.all false
set_option maxRecDepth 100000
set_option maxHeartbeats 1000000
namespace L2
open PySem PySem.Spec PyProof.Rows
noncomputable def Its (x : Str) : It := ⟨fun i _ => i < x.cps.size, fun i H v H' => H' = H ∧ ∃ c, x.cps[i]? = some c ∧ v = .str ⟨#[c]⟩, fun i _ => i = x.cps.size⟩
theorem turn_str {P : Program} {w : World} {K : PySem.W.Frag} {tg : Expr} (it : Addr) (x : Str) (t : Tok) (T : String) (hT : T = "str_ascii_iterator" ∨ T = "str_iterator") : Turn P w K tg (Its x) [it] it (fun i h => h.IsStrIter it T x t i) where
  mem := by simp
  obj := fun i h st b hb => by
    have e : b = it := by simpa using hb
    subst e
    obtain ⟨o, e, c, d⟩ := st
    exact ⟨o, e, fun v z => by rw [d] at z; cases z⟩
  keep := fun i h h' st k => let ⟨o, ho, r⟩ := st; ⟨o, k it (by simp) o ho, r⟩
  item := by
    intro X hP hw hK hc i pins s σ H E I hf st hg
    subst hP hw hK
    obtain ⟨f0, f1, f2, f3, f4, f5⟩ := hf it (by simp)
    rcases hT with rfl | rfl
    · refine (Walks.strAscii (prog := X.prog) (w := X.w) (I.ok.hd hc) it x t).item i s _ _ hg st fun v h' tk hv st' kk => ?_
      obtain ⟨c, u, hc', rfl⟩ := hv
      have I1 : Inv X pins σ H { s with heap := h', toks := tk } := I.turned (fun b o hb e => kk b o (by simpa using hb) e) f0 f1 f3 f4 f5
      obtain ⟨o, e, cc, d⟩ := id st'
      exact ⟨_, rfl, go_of (s := { s with heap := h', toks := tk }) e cc d (by decide) ⟨.str ⟨#[c]⟩, H, I1, ⟨_, rfl⟩, ⟨rfl, c, hc', rfl⟩, st', fun b hb => (hf b hb).1⟩⟩
    · refine (Walks.strWide (prog := X.prog) (w := X.w) (I.ok.hd hc) it x t).item i s _ _ hg st fun v h' tk hv st' kk => ?_
      obtain ⟨c, u, hc', rfl⟩ := hv
      have I1 : Inv X pins σ H { s with heap := h', toks := tk } := I.turned (fun b o hb e => kk b o (by simpa using hb) e) f0 f1 f3 f4 f5
      obtain ⟨o, e, cc, d⟩ := id st'
      exact ⟨_, rfl, go_of (s := { s with heap := h', toks := tk }) e cc d (by decide) ⟨.str ⟨#[c]⟩, H, I1, ⟨_, rfl⟩, ⟨rfl, c, hc', rfl⟩, st', fun b hb => (hf b hb).1⟩⟩
  done := by
    intro X hP hw hK hc i pins s σ H E I hf st hg
    subst hP hw hK
    obtain ⟨f0, f1, f2, f3, f4, f5⟩ := hf it (by simp)
    have hg' : i = x.cps.size := hg
    subst hg'
    rcases hT with rfl | rfl
    · exact (Walks.strAscii (prog := X.prog) (w := X.w) (I.ok.hd hc) it x t).done s _ _ st fun h' tk kk => ⟨rfl, I.turned (t' := tk) (fun b o hb e => kk b o (by simpa using hb) e) f0 f1 f3 f4 f5⟩
    · exact (Walks.strWide (prog := X.prog) (w := X.w) (I.ok.hd hc) it x t).done s _ _ st fun h' tk kk => ⟨rfl, I.turned (t' := tk) (fun b o hb e => kk b o (by simpa using hb) e) f0 f1 f3 f4 f5⟩
  self := fun A i s Q E st h => by
    rcases hT with rfl | rfl
    · exact wpAny_pyIter_striter_ascii st h
    · exact wpAny_pyIter_striter_wide st h
noncomputable def iStr (te : TE) : TI := fun σ H R => te σ H fun v H1 => ∃ x, v = .str x ∧ R (Its x) H1
theorem qi_str {X : Cx} {tg l : Expr} {tl : TE} (hl : QE X l tl) : QI X tg l (iStr tl) := by
  refine ⟨fun pins s σ H R I h => ?_⟩
  refine thn (hl.out pins s σ H _ I h) fun v s1 ⟨y, H1, I1, r1, q1⟩ => ?_
  obtain ⟨x, rfl, q⟩ := q1
  obtain ⟨t, rfl⟩ := r1
  have go : ∀ (o : Obj) (T : String), (T = "str_ascii_iterator" ∨ T = "str_iterator") → (s1.heap.push o).IsStrIter s1.heap.objs.size T x t 0 → PIE X pins σ tg R (.ref s1.heap.objs.size) { s1 with heap := s1.heap.push o } := fun o T hT st =>
    ⟨s1.heap.objs.size, [s1.heap.objs.size], _, _, H1, rfl, I1.kept (t' := s1.toks) fun b o e => Heap.get?_push_of_some _ e, turn_str _ x t T hT, st, fun b hb => by
      have e : b = s1.heap.objs.size := by simpa using hb
      subst e
      exact I1.fpOk (Nat.le_refl _) (I1.hok.fresh (Nat.le_refl _)), q⟩
  cases ha : x.cps.all (· < 128)
  · exact wpAny_pyIter_wide ha (go _ "str_iterator" (.inr rfl) ⟨_, Heap.get?_push_size _ rfl, rfl, rfl⟩)
  · exact wpAny_pyIter_ascii ha (go _ "str_ascii_iterator" (.inl rfl) ⟨_, Heap.get?_push_size _ rfl, rfl, rfl⟩)
section
variable {X : Cx}
theorem mt_index : MtR X "str.index" (fun x vs H Q => ∃ (z y : Str) (i : Nat) (rest : List Nat), x = .str z ∧ vs = [.str y] ∧ Builtin.Str.occurrences z y 0 z.length 1 = i :: rest ∧ Q (.int i) H) := by
  intro pins s σ H x vs v us Q I rx rv h
  obtain ⟨z, y, i, rest, rfl, rfl, ho, q⟩ := h
  obtain ⟨t, rfl⟩ := rx
  obtain ⟨u, rfl, t', rfl⟩ := vals1 rv
  refine call_gives F.slot_str_index (typeIs_str _ _ _) F.entry_str_index (F.args_str_index_2 _ _) (gives_str_index z y t t' i rest ho) ?_
  exact ⟨.int i, H, I.tok _, ⟨_, rfl⟩, q⟩
theorem vals_strs : ∀ (l : List (Str × Tok)), Vals ((l.map (·.1)).map V.str) (strValues l)
  | [] => .nil
  | (x, t) :: r => .cons ⟨t, rfl⟩ (vals_strs r)
theorem mt_split : MtR X "str.split" (fun x vs H Q => ∃ (z y : Str), x = .str z ∧ vs = [.str y] ∧ (y.length == 0) = false ∧ z.length ≤ sizeLine ∧ (Builtin.Str.partsBetween z (Builtin.Str.occurrences z y 0 z.length (z.length + 1)) y.length).length ≤ sizeLine ∧ (Txt.split z y).length ≤ sizeLine ∧
    ∀ p, H p = none → Q (.ref p) (upd H p (.lst ((Txt.split z y).map V.str)))) := by
  intro pins s σ H x vs v us Q I rx rv h
  obtain ⟨z, y, rfl, rfl, hy, hz, hz2, hz3, q⟩ := h
  obtain ⟨t, rfl⟩ := rx
  obtain ⟨u, rfl, t', rfl⟩ := vals1 rv
  have fin : ∀ (l : List (Str × Tok)) (k : Nat), l.map (·.1) = Txt.split z y → EP X pins σ Q (.ref s.heap.objs.size) { s with heap := s.heap.push { cls := .type "list", data := .seq (strValues l).toArray }, toks := k } := fun l k hl => by
    refine ⟨.ref s.heap.objs.size, _, I.laid (o := .lst ((Txt.split z y).map V.str)) (fun b o e => Heap.get?_push_of_some _ e) (Nat.le_refl _) ?_, rfl, q _ (I.hok.fresh (Nat.le_refl _))⟩
    exact ⟨by rw [List.length_map]; exact hz3, strValues l, 0, by rw [← hl]; exact vals_strs l, Heap.get?_push_size _ rfl⟩
  cases h1 : (decide (z.length < y.length) || decide (Builtin.Str.strKind z < Builtin.Str.strKind y))
  · cases hf : (Builtin.Str.occurrences z y 0 z.length (z.length + 1)).isEmpty
    · refine call_meets F.slot_str_split (typeIs_str _ _ _) F.entry_str_split (F.args_str_split_2 _ _) (meets_str_split_sep z y t t' h1 hy hf hz hz2) ?_
      show wants (EP X pins σ Q) X.xe _ { s with toks := _, heap := s.heap.push { cls := .type "list", data := .seq (strsFrom s.toks (Builtin.Str.partsBetween z (Builtin.Str.occurrences z y 0 z.length (z.length + 1)) y.length)).toArray } }
      rw [strsFrom_eq]
      exact fin (numbered s.toks _) _ ((numbered_texts _ _).trans ((if_neg (ne_true_of_eq_false h1)).trans (if_neg (ne_true_of_eq_false hf))).symm)
    · exact call_meets F.slot_str_split (typeIs_str _ _ _) F.entry_str_split (F.args_str_split_2 _ _) (meets_str_split_not_found z y t t' h1 hy hf) (fin [(z, t)] s.toks ((if_neg (ne_true_of_eq_false h1)).trans (if_pos hf)).symm)
  · exact call_meets F.slot_str_split (typeIs_str _ _ _) F.entry_str_split (F.args_str_split_2 _ _) (meets_str_split_cannot_occur z y t t' h1) (fin [(z, t)] s.toks (if_pos h1).symm)
theorem call_allL (hc : X.calm = true) : CallR X (.builtin "all") (fun xs H Q => ∃ (p : Addr) (bs : List Bool), xs = [.ref p] ∧ SqL X.K H p (bs.map V.bl) ∧ Q (.bl (bs.all id)) H) := by
  intro pins s σ H xs us Q I r h
  obtain ⟨p, bs, rfl, hq, q⟩ := h
  obtain ⟨u, rfl, rx⟩ := vals1 r
  cases rx
  obtain ⟨its, r', pl, hz⟩ := I.list hq
  have hl := pl.isList
  have hlt : p < s.heap.objs.size := by obtain ⟨_, e, _⟩ := hl; exact Heap.lt_size e
  have hlen := r'.length
  rw [List.length_map] at hlen
  refine call_all_walk (wpAny_pyIter_list hl ?_)
  refine ⟨s.heap.objs.size, [s.heap.objs.size, p], [s.heap.objs.size], its.toArray.size, _, _, fun i => (bs[i]?).getD true, rfl, Walks.list (A := X.A.in1) (I.ok.hd hc) _ p (Nat.ne_of_lt hlt) its.toArray,
    ⟨⟨_, Heap.get?_push_size _ rfl, rfl, rfl⟩, hl.push _⟩, fun i v s' Q' E' hP hQ => ?_, fun h' tk hk => ?_⟩
  · have hi : its[i]? = some v := by simpa using hP
    have hb : i < bs.length := by rw [hlen]; exact (List.getElem?_eq_some_iff.mp hi).1
    obtain ⟨w', e1, e2⟩ := r'.get (show (bs.map V.bl)[i]? = some (V.bl bs[i]) by rw [List.getElem?_map, List.getElem?_eq_getElem hb]; rfl)
    rw [hi] at e1
    cases e1
    cases e2
    simp only [List.getElem?_eq_getElem hb, Option.getD_some] at hQ
    exact wpAny_truthy_bool hQ
  · have e : ((List.range its.toArray.size).all fun i => (bs[i]?).getD true) = bs.all id := by
      rw [List.size_toArray, ← hlen, Bool.eq_iff_iff, List.all_eq_true, List.all_eq_true]
      constructor
      · intro z b hb
        obtain ⟨i, hi, rfl⟩ := List.getElem_of_mem hb
        have := z i (List.mem_range.mpr hi)
        simpa [List.getElem?_eq_getElem hi] using this
      · intro z i hi
        have hi' := List.mem_range.mp hi
        have := z _ (List.getElem_mem hi')
        simpa [List.getElem?_eq_getElem hi'] using this
    rw [e]
    refine ⟨.bl (bs.all id), H, I.kept (t' := tk) (fun b o eb => hk b o (fun hm => ?_) (Heap.get?_push_of_some _ eb)), rfl, q⟩
    rw [List.mem_singleton.mp hm] at eb
    exact absurd (Heap.lt_size eb) (Nat.lt_irrefl _)
end
end L2

set_option Elab.async false
set_option linter.all false
set_option maxRecDepth 100000
set_option maxHeartbeats 1000000
namespace L2
open PySem PySem.Spec PyProof.Rows
section
variable {X : Cx}
theorem mt_startswith : MtR X "str.startswith" (fun x vs H Q => ∃ (z y : Str), x = .str z ∧ vs = [.str y] ∧ Q (.bl (decide (0 + y.length ≤ z.length) && Builtin.Str.subAt z y 0)) H) := by
  intro pins s σ H x vs v us Q I rx rv h
  obtain ⟨z, y, rfl, rfl, q⟩ := h
  obtain ⟨t, rfl⟩ := rx
  obtain ⟨u, rfl, t', rfl⟩ := vals1 rv
  refine call_gives F.slot_str_startswith (typeIs_str _ _ _) F.entry_str_startswith (F.args_str_startswith_2 _ _) (gives_str_startswith z y t t') ?_
  exact ⟨.bl _, H, I, rfl, q⟩
theorem call_int_str : CallR X (.type "int") (fun xs H Q => ∃ (z : Str) (n : Int), xs = [.str z] ∧ PySem.intText? z = some n ∧ z.length ≤ 640 ∧ Q (.int n) H) := by
  intro pins s σ H xs us Q I r h
  obtain ⟨z, n, rfl, hn, hl, q⟩ := h
  obtain ⟨u, rfl, t, rfl⟩ := vals1 r
  exact PySem.W.KIN.call_text hn hl ⟨.int n, H, I.tok _, ⟨_, rfl⟩, q⟩
end
end L2

set_option Elab.async false
set_option linter.all false
set_option maxRecDepth 100000
set_option maxHeartbeats 1000000
namespace L2
open PySem PySem.Spec PyProof.Rows
theorem seq_join {t u : TS} {D : Ends} {σ : St} {H : Hp} (J : St → Hp → Prop) (h1 : ∀ N : St → Hp → Prop, (∀ σ H, J σ H → N σ H) → t { D with nx := N } σ H) (h2 : ∀ σ H, J σ H → u D σ H) : tSeq t u D σ H := h1 _ h2
theorem take_snoc {α : Type} {xs : List α} {i : Nat} {x : α} (h : xs[i]? = some x) : xs.take (i + 1) = xs.take i ++ [x] := by
  rw [List.take_succ, h]
  rfl
theorem comp_filter {K : PySem.W.Frag} {a : Addr} {xs : List V} {is : List Nat} {tc : TT} {te : TE} {σ : St} {H : Hp} {Q : VK} (p : V → Bool) (f : V → V) (hx : SqL K H a xs) (hz : xs.length ≤ sizeLine)
    (hc : ∀ x ∈ xs, ∀ R : Bool → Hp → Prop, R (p x) H → tc (selS is σ (some x)) H R)
    (he : ∀ x ∈ xs, p x = true → ∀ R : VK, R (f x) H → te (selS is σ (some x)) H R)
    (hd : ∀ l, H l = none → Q (.ref l) (upd H l (.lst ((xs.filter p).map f)))) : CompW is tc te σ Q (Itl K a) H := by
  refine comp_list (xs := xs) (fun i zs H' => zs = ((xs.take i).filter p).map f ∧ H' = H) ⟨rfl, rfl⟩ ?_ ?_ ?_ ?_
  · rintro i zs H' ⟨rfl, rfl⟩
    rw [List.length_map]
    exact Nat.le_trans (List.length_filter_le _ _) (by rw [List.length_take]; omega)
  · rintro i zs H' ⟨rfl, rfl⟩
    exact hx
  · rintro i x zs H' R hR hxi ⟨rfl, rfl⟩
    have hm := List.mem_of_getElem? hxi
    have e := take_snoc hxi
    refine hc x hm _ ?_
    cases hp : p x with
    | true =>
      refine (if_pos rfl : (if true = true then _ else _) = _) ▸ he x hm hp _ (hR _ _ ⟨?_, rfl⟩)
      rw [e, List.filter_append, List.map_append, List.filter_cons, if_pos hp]
      rfl
    | false =>
      refine (if_neg Bool.false_ne_true : (if false = true then _ else _) = _) ▸ hR _ _ ⟨?_, rfl⟩
      rw [e, List.filter_append, List.map_append, List.filter_cons, if_neg (by rw [hp]; exact Bool.false_ne_true)]
      simp
  · rintro zs H' ⟨rfl, rfl⟩ l hl
    rw [List.take_length]
    exact hd l hl
theorem comp_tmap {K : PySem.W.Frag} {a : Addr} {xs : List V} {is : List Nat} {te : TE} {σ : St} {H : Hp} {Q : VK} (f : V → V) (hx : SqT K H a xs) (hz : xs.length ≤ sizeLine)
    (he : ∀ x ∈ xs, ∀ R : VK, R (f x) H → te (selS is σ (some x)) H R)
    (hd : ∀ l, H l = none → Q (.ref l) (upd H l (.lst (xs.map f)))) : CompW is tYes te σ Q (Itt K a) H := by
  refine comp_tup (xs := xs) (fun i zs H' => zs = (xs.take i).map f ∧ H' = H) ⟨rfl, rfl⟩ ?_ ?_ ?_ ?_
  · rintro i zs H' ⟨rfl, rfl⟩
    rw [List.length_map, List.length_take]
    omega
  · rintro i zs H' ⟨rfl, rfl⟩
    exact hx
  · rintro i x zs H' R hR hxi ⟨rfl, rfl⟩
    unfold tYes
    dsimp only
    rw [if_pos rfl]
    refine he x (List.mem_of_getElem? hxi) _ (hR _ _ ⟨?_, rfl⟩)
    rw [take_snoc hxi, List.map_append]
    rfl
  · rintro zs H' ⟨rfl, rfl⟩ l hl
    rw [List.take_length]
    exact hd l hl
end L2

set_option Elab.async false
set_option linter.all false
set_option maxRecDepth 100000
namespace L2
open PySem PySem.Spec PyProof.Rows

section
variable {κ : Type} [DecidableEq κ]
noncomputable def valV (kvs : List (κ × V)) (k : κ) : Option V := (kvs.find? fun kv => decide (kv.1 = k)).map (·.2)
theorem valV_pos {p : κ × V} {r : List (κ × V)} {k : κ} (e : p.1 = k) : valV (p :: r) k = some p.2 := by simp [valV, List.find?_cons, e]
theorem valV_neg {p : κ × V} {r : List (κ × V)} {k : κ} (e : ¬ p.1 = k) : valV (p :: r) k = valV r k := by simp [valV, List.find?_cons, e]
theorem RelO.isSome_eq {o : Option V} {u : Option Value} (r : RelO o u) : o.isSome = u.isSome := by
  cases o with
  | none => cases u with
    | none => rfl
    | some _ => exact (show False from r).elim
  | some _ => cases u with
    | none => exact (show False from r).elim
    | some _ => rfl
theorem RelO.getD {o : Option V} {u : Option Value} {d : V} {d' : Value} (r : RelO o u) (rd : RelV d d') : RelV (o.getD d) (u.getD d') := by
  cases o with
  | none => cases u with
    | none => exact rd
    | some _ => exact (show False from r).elim
  | some _ => cases u with
    | none => exact (show False from r).elim
    | some _ => exact r

theorem KV.val {kvs : List (κ × V)} {vs : List (κ × Value)} (r : KV kvs vs) (k : κ) : RelO (valV kvs k) (valueAt vs k) := by
  unfold KV at r
  induction r with
  | nil => exact True.intro
  | @cons p q ps qs h t ih =>
    obtain ⟨h1, h2⟩ := h
    by_cases e : p.1 = k
    · have e' : q.1 = k := h1.symm.trans e
      have b : valueAt (q :: qs) k = some q.2 := by simp [valueAt, List.find?_cons, e']
      rw [valV_pos e, b]; exact h2
    · have e' : ¬ q.1 = k := fun z => e (h1.trans z)
      have b : valueAt (q :: qs) k = valueAt qs k := by simp [valueAt, List.find?_cons, e']
      rw [valV_neg e, b]; exact ih
theorem KV.keys {kvs : List (κ × V)} {vs : List (κ × Value)} (r : KV kvs vs) : kvs.map (·.1) = vs.map (·.1) := by
  unfold KV at r
  induction r with
  | nil => rfl
  | cons h t ih => rw [List.map_cons, List.map_cons, ih, h.1]
end


theorem kV_is {P : Program} {w : World} {k : Key} {u : Value} (r : RelV (kV k) u) : (mixKind P w).is k u = true := by
  cases k with
  | inl i => obtain ⟨t, e⟩ := (show ∃ t, u = Value.int i t from r); subst e; exact mixKind_int P w i t
  | inr x => obtain ⟨t, e⟩ := (show ∃ t, u = Value.str x t from r); subst e; exact mixKind_str P w x t
section
variable {P : Program} {w : World} {H : Hp} {h : Heap} {a : Addr}
end

section
variable {X : Cx} {pins : List (Addr × Obj)} {σ : St} {H : Hp} {s : Shared} {a : Addr} {y v : V} {u r : Value} {o : Option V} {A : Around} {E : Value → Shared → Prop}

end

section
variable {X : Cx} {pins : List (Addr × Obj)} {σ : St} {H : Hp} {s : Shared} {a : Addr} {kvs : List (Key × V)} {k : Key} {u : Value} {A : Around} {E : Value → Shared → Prop}
end


section
variable {X : Cx} {o i e value : Expr} {pos pos' tpos : Pos} {td ty tv : TE}
end


section
variable {X : Cx} {pos : Pos}
end

structure M2 (X : Cx) (o : Expr) (m : Str) (apos : Pos) (e f : Expr) (cpos : Pos) : Prop where
  base : attributeBase o m X.env (eval o X.env) = eval o X.env
  few : ((backTo cpos (starEach [e, f] X.env)).all (fun x => !x.1) && (backToKw cpos (keywordEach [] X.env)).all (fun x => x.1.isSome)
    && decide (([e, f] : List Expr).length + ([] : List Keyword).length + (if ([] : List Keyword).isEmpty then 0 else 1) < 30)) = true
  line : (apos.endLine == cpos.line) = true
  trees : backTo cpos (starEach [e, f] X.env) = [(false, eval e X.env), (false, eval f X.env)]

section
variable {X : Cx} {pins : List (Addr × Obj)} {σ : St} {H : Hp} {s : Shared} {a : Addr} {y d : V} {u r : Value} {o : Option V} {A : Around} {E : Value → Shared → Prop}
end

section
variable {X : Cx} {o e f : Expr} {apos cpos : Pos} {td ty tx : TE}
end

section
variable {X : Cx} {pins : List (Addr × Obj)} {σ : St} {H : Hp} {s : Shared} {a : Addr} {kvs : List (Key × V)} {A : Around} {E : Value → Shared → Prop}
end


section
variable {X : Cx} {pins : List (Addr × Obj)} {σ : St} {H : Hp} {s : Shared} {a : Addr} {y : V} {u : Value} {A : Around} {E : Value → Shared → Prop}
end
end L2

namespace L2
open PySem PySem.Spec PyProof.Rows
section
variable {X : Cx}
end
end L2

set_option Elab.async false
set_option linter.all false
set_option maxRecDepth 100000
set_option maxHeartbeats 1000000
namespace EnT
open PySem PySem.Spec PyProof.Rows
open AutoSeq1 (wpAny_loadPart')
section
variable {prog : Program} {w : World} {A : Around} {E : Value → Shared → Prop} {s : Shared}
end
end EnT
namespace L2
open PySem PySem.Spec PyProof.Rows
end L2

set_option Elab.async false
set_option linter.all false
set_option maxRecDepth 100000
set_option maxHeartbeats 1000000
namespace L2
open PySem PySem.Spec PyProof.Rows
section
variable {X : Cx}
end
end L2

set_option Elab.async false
set_option linter.all false
set_option maxRecDepth 100000
set_option maxHeartbeats 1000000
namespace L2
open PySem PySem.Spec PyProof.Rows
inductive KTab (P : Params) : List DictEntry → List (Str × Int) → Prop
  | nil : KTab P [] []
  | cons {k : Str} {v : Int} {t u : Tok} {es : List DictEntry} {l : List (Str × Int)} : KTab P es l → KTab P ({ hash := PyData.keyHash P k, key := .str k t, val := .int v u } :: es) ((k, v) :: l)
structure KD (K : PySem.W.Frag) (w : World) (a : Addr) (l : List (Str × Int)) : Prop where
  ex : ∃ es ep, K.lookup a = some { cls := .type "dict", dict := none, data := .dict es ep, slots := #[] } ∧ KTab w.params es.toList l
  nd : (l.map (·.1)).Nodup
  ns : (a == sysModules) = false
noncomputable def kvsOf (l : List (Str × Int)) : List (Key × V) := l.map fun p => ((Sum.inr p.1 : Key), V.int p.2)
theorem KTab.pairs {P : Program} {w : World} {es : List DictEntry} {l : List (Str × Int)} (h : KTab w.params es l) : (∃ vs, KV (kvsOf l) vs ∧ Pairs (mixKind P w) es vs) ∧ ∀ e ∈ es, ∃ k, (mixKind P w).is k e.key = true ∧ e.hash = (mixKind P w).hash k := by
  induction h with
  | nil => exact ⟨⟨[], .nil, .nil⟩, fun _ h => nomatch h⟩
  | @cons k v t u es l _ ih =>
    obtain ⟨⟨vs, r, p⟩, q⟩ := ih
    refine ⟨⟨(.inr k, .int v u) :: vs, .cons ⟨rfl, ⟨u, rfl⟩⟩ r, .cons (mixKind_str P w k t) rfl p⟩, fun e he => ?_⟩
    rcases List.mem_cons.mp he with rfl | he
    · exact ⟨.inr k, mixKind_str P w k t, rfl⟩
    · exact q e he
section
variable {X : Cx} {pins : List (Addr × Obj)} {σ : St} {H : Hp} {s : Shared} {a : Addr} {l : List (Str × Int)} {k : Key} {u : Value} {A : Around} {E : Value → Shared → Prop}
theorem KD.of (I : Inv X pins σ H s) (d : KD X.K X.w a l) : ∃ vs, KV (kvsOf l) vs ∧ s.heap.DictOf (mixKind X.prog X.w) a vs := by
  obtain ⟨es, ep, hk, t⟩ := d.ex
  obtain ⟨⟨vs, r, p⟩, q⟩ := t.pairs (P := X.prog)
  refine ⟨vs, r, _, es, ep, I.kIn a _ hk, ⟨rfl, rfl, rfl⟩, rfl, fun e he => q e (by simpa using he), p, ?_⟩
  rw [← r.keys]
  unfold kvsOf
  rw [List.map_map]
  have := d.nd
  rw [List.nodup_iff_pairwise_ne] at *
  rw [List.pairwise_map] at *
  exact this.imp fun h z => h (Sum.inr.inj z)
theorem kd_in {Q : Value → Shared → Prop} (I : Inv X pins σ H s) (d : KD X.K X.w a l) (ry : RelV (kV k) u) (h : ∀ s', Inv X pins σ H s' → Q (.bool (valV (kvsOf l) k).isSome) s') : wpAny (model X.prog X.w) A (compareOp .In u (.ref a)) Q E s := by
  obtain ⟨vs, rel, dd⟩ := d.of I
  refine wpAny_in_of (kV_is ry) d.ns dd.mapOf ?_
  rw [← (rel.val k).isSome_eq]
  exact h _ (I.tok _)
theorem kd_get2 {z : V} {r : Value} {Q : Value → Shared → Prop} (I : Inv X pins σ H s) (d : KD X.K X.w a l) (ry : RelV (kV k) u) (rz : RelV z r) (h : ∀ w' s', Inv X pins σ H s' → RelV ((valV (kvsOf l) k).getD z) w' → Q w' s') :
    wpAny (model X.prog X.w) A (call (.builtin "dict.get") [.ref a, u, r]) Q E s := by
  obtain ⟨vs, rel, dd⟩ := d.of I
  exact call_meetsIn PySem.F.slot_dict_get dd.typeIs PySem.F.entry_dict_get (PySem.F.args_dict_get_3 _ _ _) (meets_dict_get_default (mixKind X.prog X.w) a (kV_is ry) d.ns r) ⟨_, dd.mapOf, h _ _ (I.tok _) ((rel.val k).getD rz)⟩
end
section
variable {X : Cx}
noncomputable def rKIn (K : PySem.W.Frag) (w : World) : R2 := fun y x H Q => ∃ a l k, x = .ref a ∧ KD K w a l ∧ y = kV k ∧ Q (.bl (valV (kvsOf l) k).isSome) H
theorem op_in_K : OpR X (compareOp .In) (rKIn X.K X.w) := by
  intro pins s σ H x y v u Q I rx ry h
  obtain ⟨a, l, k, rfl, d, rfl, q⟩ := h
  cases ry
  exact kd_in I d rx fun s' I' => ⟨.bl _, H, I', rfl, q⟩
noncomputable def tKGet (K : PySem.W.Frag) (w : World) (td ty tx : TE) : TE := fun σ H Q => td σ H fun x H1 => ∃ a l, x = .ref a ∧ KD K w a l ∧ ty σ H1 fun y H2 => tx σ H2 fun z H3 => ∃ k, y = kV k ∧ Q ((valV (kvsOf l) k).getD z) H3
theorem m2_of {o e f : Expr} {m : Str} {apos cpos : Pos} (he : plainE e = true) (hf : plainE f = true) (hb : attributeBase o m X.env (eval o X.env) = eval o X.env) (hl : (apos.endLine == cpos.line) = true) : M2 X o m apos e f cpos where
  base := hb
  few := by
    rw [all_plain (by rw [List.all_cons, he, List.all_cons, hf]; rfl)]
    rfl
  line := hl
  trees := by
    rw [starEach_plain he, starEach_plain hf]
    rfl
theorem qe_kget {o e f : Expr} {apos cpos : Pos} {td ty tx : TE} (ho : QE X o td) (he : QE X e ty) (hf : QE X f tx) (h1 : plainE e = true := by rfl) (h2 : plainE f = true := by rfl) (hb : attributeBase o "get" X.env (eval o X.env) = eval o X.env := by rfl) (hl : (apos.endLine == cpos.line) = true := by rfl) :
    QE X (.Call (.Attribute o "get" apos) [e, f] [] cpos) (tKGet X.K X.w td ty tx) := by
  have m := m2_of (X := X) (m := "get") (o := o) h1 h2 hb hl
  refine ⟨fun pins s σ H Q I h => ?_⟩
  refine wpAny_Call_method m.base m.few m.line PySem.F.plainAttrs_dict PySem.F.slot_dict_get PySem.F.type_dict_get (thn (ho.out pins s σ H _ I h) fun u s1 ⟨x, H1, I1, rx, a, l, ex, d, q1⟩ => ?_)
  subst ex
  obtain rfl : u = Value.ref a := rx
  obtain ⟨vs, rel, dd⟩ := d.of I1
  refine ⟨dd.typeIs, fun b q => ?_, ?_⟩
  · cases q
    obtain ⟨ob, _, _, g1, g2, _⟩ := dd
    exact ⟨ob, g1, g2.2.1⟩
  rw [m.trees]
  refine Calls.callWith_builtin rfl (Calls.evalArgs_plain (Calls.spliced_cons (thn (he.out pins s1 σ H1 _ I1 q1) fun iv s2 ⟨y, H2, I2, ry, q2⟩ => Calls.spliced_cons (thn (hf.out pins s2 σ H2 _ I2 q2) fun fv s3 ⟨z, H3, I3, rz, k, ey, q3⟩ => Calls.spliced_nil ?_))))
  subst ey
  exact kd_get2 I3 d ry rz fun w' s4 I4 rw' => ⟨_, H3, I4, rw', q3⟩
end
theorem comp_str {x : Str} {is : List Nat} {te : TE} {σ : St} {H : Hp} {Q : VK} (f : Nat → V) (hz : x.cps.size ≤ sizeLine)
    (he : ∀ c ∈ x.cps.toList, ∀ R : VK, R (f c) H → te (selS is σ (some (.str ⟨#[c]⟩))) H R)
    (hd : ∀ l, H l = none → Q (.ref l) (upd H l (.lst (x.cps.toList.map f)))) : CompW is tYes te σ Q (Its x) H := by
  refine ⟨fun i m zs H' => m = x.cps.size - i ∧ i ≤ x.cps.size ∧ zs = (x.cps.toList.take i).map f ∧ H' = H, ⟨x.cps.size, by simp, Nat.zero_le _, rfl, rfl⟩, ?_⟩
  rintro i m zs H' ⟨rfl, hi, rfl, rfl⟩
  have hl : ((x.cps.toList.take i).map f).length ≤ sizeLine := by
    rw [List.length_map, List.length_take]
    omega
  by_cases hlt : i < x.cps.size
  · refine .inr ⟨hlt, hl, fun v H2 y => ?_⟩
    obtain ⟨e, c, hc, rfl⟩ := y
    subst e
    have hc' : x.cps.toList[i]? = some c := by rw [Array.getElem?_toList]; exact hc
    unfold tYes
    dsimp only
    rw [if_pos rfl]
    refine he c (List.mem_of_getElem? hc') _ ⟨x.cps.size - (i + 1), by omega, rfl, hlt, ?_, rfl⟩
    rw [take_snoc hc', List.map_append]
    rfl
  · have e : i = x.cps.size := by omega
    refine .inl ⟨e, hl, fun l hl2 => ?_⟩
    rw [List.take_of_length_le (by rw [Array.length_toList]; omega)]
    exact hd l hl2
end L2

set_option Elab.async false
set_option linter.all false
set_option maxRecDepth 100000
set_option maxHeartbeats 1000000
namespace L2
open PySem PySem.Spec PyProof.Rows
noncomputable def eqvs : List V → List V → Bool
  | [], [] => true
  | x :: xs, y :: ys => eqV x y && eqvs xs ys
  | _, _ => false
noncomputable def eqJ (xs ys : List V) (j : Nat) : Bool := match xs[j]?, ys[j]? with
  | some a, some b => eqV a b
  | _, _ => true
theorem eqvs_range : ∀ xs ys : List V, ((List.range (min xs.length ys.length)).all (eqJ xs ys) && xs.length == ys.length) = eqvs xs ys
  | [], [] => rfl
  | [], y :: ys => by simp [eqvs]
  | x :: xs, [] => by simp [eqvs]
  | x :: xs, y :: ys => by
    have ih := eqvs_range xs ys
    have e1 : min (x :: xs).length (y :: ys).length = min xs.length ys.length + 1 := by
      simp only [List.length_cons]
      omega
    have e2 : ((x :: xs).length == (y :: ys).length) = (xs.length == ys.length) := by simp
    rw [e1, e2, List.range_succ_eq_map, List.all_cons, List.all_map, Bool.and_assoc]
    show (eqV x y && ((List.range (min xs.length ys.length)).all (eqJ xs ys) && xs.length == ys.length)) = (eqV x y && eqvs xs ys)
    rw [ih]
theorem flat_eqAt {A : Around} {s : Shared} {xs ys : List V} {its its2 : List Value} (r : Vals xs its) (r2 : Vals ys its2) (f : xs.all flatV = true) (f2 : ys.all flatV = true) : ∀ j (h1 : j < its.toArray.size) (h2 : j < its2.toArray.size), SeqAt.EqAt A s its.toArray[j] its2.toArray[j] (eqJ xs ys j) := by
  intro j h1 h2
  have l1 := r.length
  have l2 := r2.length
  have hj : j < xs.length := by rw [l1]; simpa using h1
  have hj2 : j < ys.length := by rw [l2]; simpa using h2
  obtain ⟨u, e1, q1⟩ := r.get (List.getElem?_eq_getElem hj)
  obtain ⟨u2, e2, q2⟩ := r2.get (List.getElem?_eq_getElem hj2)
  have g1 : flatV xs[j] = true := List.all_eq_true.mp f _ (List.getElem_mem hj)
  have g2 : flatV ys[j] = true := List.all_eq_true.mp f2 _ (List.getElem_mem hj2)
  have e1' : its.toArray[j] = u := by
    have : its[j]? = some its[j] := List.getElem?_eq_getElem (by simpa using h1)
    rw [e1] at this
    simpa using (Option.some.inj this).symm
  have e2' : its2.toArray[j] = u2 := by
    have : its2[j]? = some its2[j] := List.getElem?_eq_getElem (by simpa using h2)
    rw [e2] at this
    simpa using (Option.some.inj this).symm
  have e3 : eqJ xs ys j = eqV xs[j] ys[j] := by
    unfold eqJ
    rw [List.getElem?_eq_getElem hj, List.getElem?_eq_getElem hj2]
  rw [e1', e2', e3]
  exact eqAt_V (A := A) (s := s) q1 q2 g1 g2
section
variable {X : Cx}
noncomputable def rEqL (K : PySem.W.Frag) (neg : Bool) : R2 := fun x y H Q => ∃ a c xs ys, x = .ref a ∧ y = .ref c ∧ SqL K H a xs ∧ SqL K H c ys ∧ xs.all flatV = true ∧ ys.all flatV = true ∧ Q (.bl (if neg then !eqvs xs ys else eqvs xs ys)) H
theorem op_eqLL (hu : X.A.units < cLine) : OpR X (compareOp .Eq) (rEqL X.K false) := by
  intro pins s σ H x y v u Q I rx ry h
  obtain ⟨a, c, xs, ys, rfl, rfl, ha, hc, f, f2, q⟩ := h
  cases rx
  cases ry
  obtain ⟨its, r, p, _⟩ := I.list ha
  obtain ⟨its2, r2, p2, _⟩ := I.list hc
  have e := eqvs_range xs ys
  by_cases hl : xs.length = ys.length
  · have hs : its.toArray.size = its2.toArray.size := by rw [List.size_toArray, List.size_toArray, ← r.length, ← r2.length]; exact hl
    refine SeqAt.eq_listAt (e := eqJ xs ys) p.isList p2.isList hs hu (flat_eqAt r r2 f f2) (fin_bl I q ?_)
    show eqvs xs ys = _
    rw [hl, Nat.min_self, beq_self_eq_true, Bool.and_true] at e
    rw [List.size_toArray, ← r.length, hl, e]
  · have hs : (its.toArray.size != its2.toArray.size) = true := by
      rw [List.size_toArray, List.size_toArray, ← r.length, ← r2.length]
      simpa using hl
    refine SeqAt.eq_list_lengthsAt p.isList p2.isList hs hu (fin_bl I q ?_)
    show eqvs xs ys = false
    rw [← e, beq_eq_false_iff_ne.mpr hl, Bool.and_false]
theorem op_neLL (hu : X.A.units < cLine) : OpR X (compareOp .NotEq) (rEqL X.K true) := by
  intro pins s σ H x y v u Q I rx ry h
  obtain ⟨a, c, xs, ys, rfl, rfl, ha, hc, f, f2, q⟩ := h
  cases rx
  cases ry
  obtain ⟨its, r, p, _⟩ := I.list ha
  obtain ⟨its2, r2, p2, _⟩ := I.list hc
  have e := eqvs_range xs ys
  by_cases hl : xs.length = ys.length
  · have hs : its.toArray.size = its2.toArray.size := by rw [List.size_toArray, List.size_toArray, ← r.length, ← r2.length]; exact hl
    refine SeqAt.RcNeAt.lists (e := eqJ xs ys) p.isList p2.isList hs hu (flat_eqAt r r2 f f2) X.prog X.w _ _ (fin_bl I q ?_)
    show (!eqvs xs ys) = _
    rw [hl, Nat.min_self, beq_self_eq_true, Bool.and_true] at e
    rw [List.size_toArray, ← r.length, hl, e]
  · have hs : (its.toArray.size != its2.toArray.size) = true := by
      rw [List.size_toArray, List.size_toArray, ← r.length, ← r2.length]
      simpa using hl
    refine SeqAt.RcNeAt.lists_lengths p.isList p2.isList hs hu X.prog X.w _ _ (fin_bl I q ?_)
    show (!eqvs xs ys) = true
    rw [← e, beq_eq_false_iff_ne.mpr hl, Bool.and_false]
    rfl
end
end L2

set_option Elab.async false
set_option linter.all false
set_option maxRecDepth 100000
set_option maxHeartbeats 1000000
namespace L2
open PySem PySem.Spec PyProof.Rows
theorem led_standIn (t : SetTable) (n : Nat) : (t.standIn n).led = t.led ∧ (t.plain = false → (t.standIn n).plain = false) := ⟨rfl, fun _ => rfl⟩
theorem led_orStandIn (t : SetTable) (n : Nat) : (t.orStandIn n).led = t.led ∧ (t.plain = false → (t.orStandIn n).plain = false) := by
  unfold SetTable.orStandIn; split
  · exact ⟨rfl, id⟩
  · exact led_standIn _ _
theorem led_layNew (t : SetTable) (es : Array (Int × Value)) (h : Int) (x : Value) : (layNew t es h x).2.1.led = t.led ∧ (t.plain = false → (layNew t es h x).2.1.plain = false) := by
  unfold layNew; split
  · exact led_orStandIn _ _
  · exact led_standIn _ _
theorem led_relayAll (t : SetTable) (es : Array (Int × Value)) (n : Nat) : (relayAll t es n).2.1.led = t.led ∧ (t.plain = false → (relayAll t es n).2.1.plain = false) := by
  unfold relayAll; split
  · rename_i t' order ht
    have ht' : t'.led = t.led ∧ (t.plain = false → t'.plain = false) := by
      unfold SetTable.relaid SetTable.laid at ht
      cases hc : SetTable.layClean (SetTable.sizeAbove n - 1) (es.map (·.1)) with
      | none => rw [hc] at ht; exact nomatch ht
      | some ow =>
        rw [hc] at ht
        simp only [Option.pure_def, Option.bind_eq_bind, Option.bind_some, Option.some.injEq, Prod.mk.injEq] at ht
        obtain ⟨rfl, _⟩ := ht
        exact ⟨rfl, id⟩
    dsimp only
    split
    · exact ht'
    · exact led_standIn _ _
  · exact led_standIn _ _

noncomputable def tx : Value → Str
  | .str x _ => x
  | _ => ⟨#[]⟩

noncomputable def TxSet (prog : Program) (w : World) (h : Heap) (a : Addr) (led : Bool) (S : List Str) : Prop :=
  ∃ o es ep t, h.get? a = some o ∧ o.ExactSet ∧ o.data = .set es ep t ∧ ElemsOf (strKind prog w) es.toList ∧ (es.toList.map fun e => tx e.2).Perm S ∧ t.fits es.size = true ∧ t.led = led ∧ (es.size = 0 ∨ t.plain = false)

section
variable {prog : Program} {w : World} {A : Around} {E : Value → Shared → Prop} {s : Shared}

theorem tx_is {e : Value} {k : Str} (h : (strKind prog w).is k e = true) : tx e = k := by
  obtain ⟨t, rfl⟩ := Value.isStrOf_shape h; rfl
theorem elems_tx {l : List (Int × Value)} (h : ElemsOf (strKind prog w) l) {e : Int × Value} (he : e ∈ l) : (strKind prog w).is (tx e.2) e.2 = true ∧ ∃ t, e.2 = .str (tx e.2) t := by
  obtain ⟨⟨k, hk, _⟩, _⟩ := h e he
  rw [tx_is hk]
  exact ⟨hk, Value.isStrOf_shape hk⟩

noncomputable def ins (S : List Str) (x : Str) : List Str := if x ∈ S then S else S ++ [x]

theorem find_tx {l : List (Int × Value)} (h : ElemsOf (strKind prog w) l) {x : Str} :
    (l.findIdx? (fun e => (strKind prog w).is x e.2)).isSome = true ↔ x ∈ l.map (fun e => tx e.2) := by
  rw [List.findIdx?_isSome, List.any_eq_true, List.mem_map]
  constructor
  · rintro ⟨e, he, hx⟩; exact ⟨e, he, tx_is hx⟩
  · rintro ⟨e, he, hx⟩; exact ⟨e, he, hx ▸ (elems_tx h he).1⟩

theorem txset_store {h : Heap} {a : Addr} {o : Obj} {es : Array (Int × Value)} {ep : Nat} {t : SetTable} (ho : h.get? a = some o) (hex : o.ExactSet) (hd : o.data = .set es ep t)
    {es' : Array (Int × Value)} {t' : SetTable} {S : List Str} {led : Bool} (hel : ElemsOf (strKind prog w) es'.toList) (hp : (es'.toList.map fun e => tx e.2).Perm S) (hf : t'.fits es'.size = true) (hl : t'.led = led) (hpl : es'.size = 0 ∨ t'.plain = false) :
    (h.update a (Obj.putSet es' t')).get? a = some { o with data := .set es' (ep + 1) t' } ∧ TxSet prog w (h.update a (Obj.putSet es' t')) a led S := by
  have hg : (h.update a (Obj.putSet es' t')).get? a = some { o with data := .set es' (ep + 1) t' } := by
    have := Heap.get?_update_self (Obj.putSet es' t') ho (by rw [putSet_of es' t' hd]; rfl)
    rw [putSet_of es' t' hd] at this; exact this
  exact ⟨hg, _, es', ep + 1, t', hg, hex, rfl, hel, hp, hf, hl, hpl⟩

theorem txset_add {a : Addr} {led : Bool} {S : List Str} {x : Str} {tk : Tok} {Q : Bool → Shared → Prop} (hS : TxSet prog w s.heap a led S) (hroom : S.length + 1 < scanBound)
    (h : ∀ h' b, Heap.SameBut a s.heap h' → TxSet prog w h' a led (ins S x) → Q b { s with heap := h' }) :
    wpAny (model prog w) A (setAddHashed a (.str x tk) ((strKind prog w).hash x)) Q E s := by
  obtain ⟨o, es, ep, t, ho, hex, hd, hel, hp, hf, hl, hpl⟩ := hS
  have hn : es.size = S.length := by rw [← hp.length_eq, List.length_map, Array.length_toList]
  have hkey : (strKind prog w).is x (.str x tk) = true := by show Value.isStrOf x (.str x tk) = true; simp [Value.isStrOf]
  unfold setAddHashed setAddHashedIn
  refine wpAny_holding (wpAny_bind (wpAny_setState_of ho hd hf ?_))
  dsimp only
  rw [byScan_of (knd := strKind prog w) rfl (by omega) hel]
  simp only [↓reduceIte]
  unfold setAddByScan
  refine wpAny_bind ?_
  refine wpAny_bind (wpAny_rule ?_)
  refine wpAny_bind (wpAny_setScan_of hkey ho hd hf hel ?_)
  have hfi := find_tx hel (x := x)
  cases hr : List.findIdx? (fun e => (strKind prog w).is x e.2) es.toList with
  | some j =>
    rw [hr] at hfi
    have hx : x ∈ S := hp.mem_iff.mp (hfi.mp rfl)
    refine wpAny_pure (wpAny_pure ?_)
    have := h s.heap false (Heap.SameBut.refl a s.heap) (by rw [ins, if_pos hx]; exact ⟨o, es, ep, t, ho, hex, hd, hel, hp, hf, hl, hpl⟩)
    exact this
  | none =>
    rw [hr] at hfi
    have hx : x ∉ S := fun hm => by simpa using hfi.mpr (hp.mem_iff.mpr hm)
    dsimp only
    have hled := led_layNew t es ((strKind prog w).hash x) (.str x tk)
    have hperm := layNew_perm t es ((strKind prog w).hash x) (.str x tk)
    have hfits := layNew_fits t es ((strKind prog w).hash x) (.str x tk)
    generalize hL : layNew t es ((strKind prog w).hash x) (.str x tk) = L at hled hperm hfits ⊢
    obtain ⟨es1, t1, wd, gave⟩ := L
    dsimp only at hled hperm hfits ⊢
    rw [Array.toList_push] at hperm
    have hel1 : ElemsOf (strKind prog w) es1.toList := (hel.push hkey rfl).perm hperm
    have hp1 : (es1.toList.map fun e => tx e.2).Perm (ins S x) := by
      rw [ins, if_neg hx]
      refine (hperm.map _).trans ?_
      rw [List.map_append]
      exact hp.append_right _
    have hz1 : es1.size = S.length + 1 := by
      have := hp1.length_eq
      rw [ins, if_neg hx, List.length_map, Array.length_toList, List.length_append] at this; exact this
    have hg : ∀ (b : Bool) {s₁ : Shared} {Q' : Unit → Shared → Prop}, Q' () s₁ → wpAny (model prog w) A (match b with | true => rule "set.scan.the-table-gave-way" | false => pure ()) Q' E s₁ :=
      fun b s₁ Q' hq => by cases b <;> first | exact wpAny_pure hq | exact wpAny_rule hq
    refine wpAny_bind (hg _ ?_)
    have key : ∀ (g : Bool → Sem Unit), (∀ (b : Bool) (s₁ : Shared) (Q' : Unit → Shared → Prop), Q' () s₁ → wpAny (model prog w) A (g b) Q' E s₁) → ∀ t2 : SetTable, t2.fits es1.size = true → t2.led = led → t2.plain = false →
        wpAny (model prog w) A (do
          storeSet a es1 t2
          if (!wd && t2.tooFull) = true then do
              g (relayAll t2 es1 (SetTable.grown es1.size)).2.2
              storeSet a (relayAll t2 es1 (SetTable.grown es1.size)).1 (relayAll t2 es1 (SetTable.grown es1.size)).2.1
              pure (some true)
            else pure (some true)) (fun r s' => r = some true ∧ ∀ b, Q b s') E s := by
      intro g hg t2 hf2 hl2 hp2
      refine wpAny_bind (wpAny_storeSet_of ho hd ?_ (fits_of_scanBound (by omega)))
      obtain ⟨ho1, hS1⟩ := txset_store (prog := prog) (w := w) ho hex hd hel1 hp1 hf2 hl2 (.inr hp2)
      have hsb1 := Heap.SameBut.update s.heap a (Obj.putSet es1 t2)
      split
      · have hq := relayAll_perm t2 es1 (SetTable.grown es1.size)
        have hfr := relayAll_fits t2 es1 (SetTable.grown es1.size)
        have hlr := led_relayAll t2 es1 (SetTable.grown es1.size)
        generalize relayAll t2 es1 (SetTable.grown es1.size) = Rl at hq hfr hlr ⊢
        obtain ⟨es2, t3, g2⟩ := Rl
        dsimp only at hq hfr hlr ⊢
        have hz2 : es2.size = es1.size := by rw [← Array.length_toList, hq.length_eq, Array.length_toList]
        refine wpAny_bind (hg _ _ _ ?_)
        refine wpAny_bind (wpAny_storeSet_of ho1 rfl ?_ (fits_of_scanBound (by omega)))
        obtain ⟨_, hS2⟩ := txset_store (prog := prog) (w := w) ho1 hex rfl (hel1.perm hq) ((hq.map _).trans hp1) hfr (hlr.1.trans hl2) (.inr (hlr.2 hp2))
        exact wpAny_pure ⟨rfl, fun b => h _ b (hsb1.trans (Heap.SameBut.update _ a _)) hS2⟩
      · exact wpAny_pure ⟨rfl, fun b => h _ b hsb1 hS1⟩
    split
    · rename_i hpt
      refine wpAny_bind ?_
      rw [hashByValue_scannable 8 rfl]
      refine wpAny_pure ?_
      rw [show plainKind (Value.str x tk) = false from rfl]
      simp only [Bool.false_eq_true, ↓reduceIte]
      refine wpAny_mono (key _ ?_ { t1 with plain := false } (SetTable.fits_plain_off hfits) (hled.1.trans hl) rfl) ?_ (fun _ _ e => e)
      · intro b s₁ Q' hq; cases b <;> first | exact wpAny_pure hq | exact wpAny_rule hq
      · rintro r s' ⟨rfl, hq⟩
        exact wpAny_pure (hq _)
    · rename_i hpt
      refine wpAny_bind (wpAny_pure ?_)
      simp only [↓reduceIte]
      refine wpAny_mono (key _ ?_ t1 hfits (hled.1.trans hl) (by simpa using hpt)) ?_ (fun _ _ e => e)
      · intro b s₁ Q' hq; cases b <;> first | exact wpAny_pure hq | exact wpAny_rule hq
      · rintro r s' ⟨rfl, hq⟩
        exact wpAny_pure (hq _)
end
end L2

set_option Elab.async false
set_option linter.all false
set_option maxRecDepth 100000
set_option maxHeartbeats 3200000
namespace L2
open PySem PySem.Spec PyProof.Rows
noncomputable def onces (ys : List Str) : List Str := ys.foldl ins []
theorem onces_snoc (ys : List Str) (y : Str) : onces (ys ++ [y]) = ins (onces ys) y := by simp [onces, List.foldl_append]
theorem ins_len (S : List Str) (x : Str) : (ins S x).length ≤ S.length + 1 := by unfold ins; split <;> simp
theorem onces_take_len (ys : List Str) : ∀ i, (onces (ys.take i)).length ≤ i
  | 0 => by simp [onces]
  | i + 1 => by
    by_cases h : i < ys.length
    · rw [List.take_add_one, List.getElem?_eq_getElem h, Option.toList_some, onces_snoc]
      have := onces_take_len ys i
      have := ins_len (onces (ys.take i)) ys[i]
      omega
    · rw [List.take_of_length_le (by omega)]
      have := onces_take_len ys i
      rw [List.take_of_length_le (by omega)] at this
      omega
theorem txset_kept {prog : Program} {w : World} {h h' : Heap} {a : Addr} {led : Bool} {S : List Str} (hS : TxSet prog w h a led S) (hk : ∀ o, h.get? a = some o → h'.get? a = some o) : TxSet prog w h' a led S := by
  obtain ⟨o, es, ep, t, ho, rest⟩ := hS
  exact ⟨o, es, ep, t, hk o ho, rest⟩

section
variable {prog : Program} {w : World} {A : Around} {R : Result → Shared → Prop} {I : Addr} {fp wr : List Addr} {G : Array GenState → Array GenState → Prop} {n : Nat} {P : Nat → Value → Prop} {St : Nat → Shared → Prop}

theorem txset_loop (W : WalksS prog w A.in1 I fp wr G n P St) (S : Addr) (hSf : S ∉ fp) {led : Bool} {ys : List Str} (hn : ys.length = n)
    (hval : ∀ i v, P i v → ∃ y t, ys[i]? = some y ∧ v = .str y t) (hb : n + 1 < scanBound) :
    ∀ (k i : Nat) (s : Shared), n - i = k → i ≤ n → St i s → TxSet prog w s.heap S led (onces (ys.take i)) →
      (∀ s', Moved (S :: wr) G s s' → TxSet prog w s'.heap S led (onces ys) → R (.ok (.ret .none)) s') →
      codeAny (model prog w) A (.builtin "set.update.loop" ⟨[.ref S, .ref I], []⟩) R s := by
  have hSw : S ∉ wr := fun h => hSf (W.sub _ h)
  have hsub : ∀ b ∈ wr, b ∈ S :: wr := fun b hb => List.mem_cons_of_mem _ hb
  intro k
  induction k with
  | zero =>
    intro i s hk hi hst hS hR
    have hin : i = n := by omega
    rw [hin, ← hn, List.take_length] at hS
    subst hin
    refine codeAny_builtin F.entry_set_update_loop ?_
    rw [Around.under_plainId F.plain_set_update_loop _]
    show wpAny _ A.in1 (pyNext (.ref I) >>= _) _ _ s
    refine wpAny_bind (W.done s _ _ hst fun s' hm => ?_)
    show wpAny _ A.in1 (ret Value.none) _ _ s'
    exact wpAny_pure (hR s' (hm.mono hsub) (txset_kept hS fun o ho => hm.heap S _ hSw ho))
  | succ k ih =>
    intro i s hk hi hst hS hR
    have hlt : i < n := by omega
    refine codeAny_builtin F.entry_set_update_loop ?_
    rw [Around.under_plainId F.plain_set_update_loop _]
    show wpAny _ A.in1 (pyNext (.ref I) >>= _) _ _ s
    refine wpAny_bind (W.item i s _ _ hlt hst fun v s' hP hst' hm => ?_)
    obtain ⟨y, t, hy, rfl⟩ := hval i v hP
    have hS' := txset_kept hS fun o ho => hm.heap S _ hSw ho
    show wpAny _ A.in1 (holding [Value.str y t] (setAdd S (.str y t)) >>= _) _ _ s'
    refine wpAny_bind (wpAny_holding ?_)
    unfold setAdd
    refine wpAny_holding ?_
    refine wpAny_bind ((PySem.strKind prog w).pyHash (k := y) (by show Value.isStrOf y (.str y t) = true; simp [Value.isStrOf]) ?_)
    have hroom : (onces (ys.take i)).length + 1 < scanBound := by have := onces_take_len ys i; omega
    refine txset_add (s := { s' with toks := s'.toks + 1 }) hS' hroom fun h' b hsb hS2 => ?_
    rw [← onces_snoc, show ys.take i ++ [y] = ys.take (i + 1) by rw [List.take_add_one, hy, Option.toList_some]] at hS2
    refine wpAny_pure ⟨plainId_quiet F.plain_set_update_loop _, ih (i + 1) _ (by omega) hlt (W.frame _ s' _ _ hst' (Nat.le_succ _) fun b hb o e => ?_) hS2 fun s'' hm'' hS'' => ?_⟩
    · rw [hsb.2 b (fun h : b = S => hSf (by rw [← h]; exact hb))]; exact e
    · refine hR s'' (Moved.trans W.gtrans ((hm.mono hsub).then_heap (Nat.le_succ _) fun b o hb e => ?_) hm'') hS''
      rw [hsb.2 b (fun h : b = S => hb (by rw [h]; exact List.mem_cons_self))]; exact e
end
end L2

set_option Elab.async false
set_option linter.all false
set_option maxRecDepth 100000
set_option maxHeartbeats 3200000
namespace L2
open PySem PySem.Spec PyProof.Rows
section
variable {prog : Program} {w : World} {A : Around} {E : Value → Shared → Prop} {s : Shared}
noncomputable def byTx (w : World) : Bool := w.params.followText "set-order"
noncomputable def newSetObj (w : World) : Obj := { cls := .type "set", dict := none, data := .set #[] 0 (.fresh 0 0 (!byTx w)) }

theorem new_set_led (a : Value) {Q₁ : Value → Shared → Prop} (h : Q₁ (.ref s.heap.objs.size) { s with heap := s.heap.push (newSetObj w) }) :
    codeAny (model prog w) A (.call (.builtin "set.__new__") ⟨[.type "set", a], []⟩) (wants Q₁ E) s := by
  refine codeAny_of_tree ?_
  show wpAny _ A.in1 (do checkBuiltinCall "set.__new__" ⟨[.type "set", a], []⟩; again (.builtin "set.__new__" ⟨[.type "set", a], []⟩)) _ _ s
  refine wpAny_bind (wpAny_of_eq (F.newCall_set_1 a) (wpAny_pure ⟨plainId_quiet F.plain_set_new _, codeAny_builtin F.entry_set_new ?_⟩))
  rw [Around.under_plainId F.plain_set_new _]
  unfold Builtin.«set.__new__» Builtin.Frozenset.newClass
  have hsub := sub_set_self
  obtain ⟨hp, g, d, tk, os⟩ := s
  dsimp only
  wp_walk
  refine wpAny_askSetting (wpAny_pure ?_)
  dsimp only
  simp only [newObj]
  refine wpAny_bind (wpAny_alloc (wpAny_pure ?_))
  exact wpAny_pure h

theorem call_set_texts {l : Addr} {items : Array Value} {ys : List Str} {Q : Value → Shared → Prop}
    (hh : A.handled = none) (hl : s.heap.IsList l items) (hi : StrsAre items.toList ys) (hb : items.size + 1 < scanBound)
    (h : ∀ (h' : Heap) (tk : Nat), s.toks ≤ tk → TxSet prog w h' s.heap.objs.size (!byTx w) (onces ys) →
      (∀ b o, b < s.heap.objs.size → s.heap.get? b = some o → h'.get? b = some o) → Q (.ref s.heap.objs.size) { s with heap := h', toks := tk }) :
    wpAny (model prog w) A (call (.type "set") [.ref l]) Q E s := by
  obtain ⟨c, tl, hmro⟩ := F.called_set.mro
  have hmade := F.called_set.made
  have hsub := F.called_set.sub
  refine wpAny_call (codeAny_of_tree ?_)
  show wpAny _ _ (callAny (.type "set") _) _ _ _
  refine wpAny_pure ⟨Code.quiet_builtin _ (by decide +kernel), codeAny_builtin F.entry_type_call ?_⟩
  rw [Around.under_plain (weight_type_call_type "set" [.ref l] []) rfl]
  have h1 := F.called_set.notType
  have h2 := F.called_set.canCreate
  have hct := F.typeCall_set_1 (.ref l)
  repeat (any_goals (first | assumption | wp_step))
  refine codeAny_mono (new_set_led (.ref l) (E := E) (Q₁ := fun obj s₁ => obj = .ref s.heap.objs.size ∧ s₁ = { s with heap := s.heap.push (newSetObj w) }) ⟨rfl, rfl⟩) fun r s₁ hr => ?_
  cases r with
  | error e => exact hr
  | ok fl =>
    cases fl with
    | ret obj =>
      obtain ⟨rfl, rfl⟩ := hr
      have hS : (s.heap.push (newSetObj w)).get? s.heap.objs.size = some (newSetObj w) := Heap.get?_push_size _ rfl
      have hT : Shared.TypeIs { s with heap := s.heap.push (newSetObj w) } (.ref s.heap.objs.size) "set" := ⟨_, hS, rfl⟩
      have hli := F.called_set.init.lookup
      have hbi := F.called_set.init.bind (.ref s.heap.objs.size)
      repeat (any_goals (first | assumption | wp_step))
      refine codeAny_mono (codeAny_call_builtin (R := wants (fun r s₂ => r = .none ∧ ∃ h' tk, s.toks ≤ tk ∧ s₂ = { s with heap := h', toks := tk } ∧
          TxSet prog w h' s.heap.objs.size (!byTx w) (onces ys) ∧
          (∀ b o, b < s.heap.objs.size → s.heap.get? b = some o → h'.get? b = some o)) E) F.called_set.init.plain F.entry_set_init (check_set_init_1 hT ?_)) fun r₂ s₂ hr₂ => ?_
      · obtain ⟨ol, hol, hcl, nl, hdl⟩ := hl
        obtain ⟨ocls, odict, odata, oslots⟩ := ol
        simp only at hcl hdl
        subst hcl; subst hdl
        have hol' : (s.heap.push (newSetObj w)).get? l = some { cls := .type "list", dict := odict, data := .seq items nl, slots := oslots } := Heap.get?_push_of_some _ hol
        have hsls := F.sub_list_set
        have hslf := F.sub_list_frozenset
        have hne : (Value.type "list" == Value.type "dict") = false := by decide
        have hl1 : (s.heap.push (newSetObj w)).IsList l items := ⟨_, hol', rfl, nl, rfl⟩
        unfold Builtin.«set.__init__» noKeywords Builtin.Frozenset.updateFrom
        generalize hPI : pyIter = PI
        wp_walk
        subst hPI
        refine wpAny_pyIter_list hl1 ?_
        refine wpAny_bind (wpAny_runValue ?_)
        have hlS : l < s.heap.objs.size := Heap.lt_size hol
        have hh3 : A.in1.in1.in1.handled = none := by simp [hh]
        have hneI : l ≠ (s.heap.push (newSetObj w)).objs.size := by
          rw [Heap.size_push]; exact Nat.ne_of_lt (Nat.lt_succ_of_lt hlS)
        have hSf : s.heap.objs.size ∉ [(s.heap.push (newSetObj w)).objs.size, l] := by
          rw [Heap.size_push]; simp only [List.mem_cons, List.mem_singleton, List.not_mem_nil, or_false, not_or]
          exact ⟨Nat.ne_of_lt (Nat.lt_succ_self _), Nat.ne_of_gt hlS⟩
        have hval : ∀ (i : Nat) (v : Value), items[i]? = some v → ∃ y t, ys[i]? = some y ∧ v = .str y t := fun i v hv => by
          rw [← Array.getElem?_toList] at hv
          obtain ⟨y, t, e1, e2⟩ := StrsAre.item hi i v hv
          exact ⟨y, t, e2, e1⟩
        refine txset_loop ((Walks.list hh3 _ l hneI items).toS) s.heap.objs.size
          hSf (led := !byTx w) (ys := ys) (by rw [← Array.length_toList]; exact hi.length.symm) hval hb (items.size - 0) 0 _ (by omega) (Nat.zero_le _)
          ⟨⟨_, Heap.get?_push_size _ rfl, rfl, rfl⟩, (hl1.push _)⟩ ?hS0 ?hR
        case hS0 =>
          exact ⟨newSetObj w, #[], 0, .fresh 0 0 (!byTx w), Heap.get?_push_of_some _ hS, ⟨rfl, rfl, rfl⟩, rfl, fun e he => by simp at he, by simp [onces], rfl, rfl, .inl rfl⟩
        case hR =>
          intro s' hm hS'
          have htk := hm.toks
          obtain ⟨h', g', d', tk', os'⟩ := s'
          have eg : g' = s.gens := hm.gens
          have ed : d' = s.drawn := hm.drawn
          have eo : os' = s.os := hm.os
          subst eg; subst ed; subst eo
          show wpAny _ _ _ _ _ _
          refine wpAny_pure ?_
          show wpAny _ _ (ret Value.none) _ _ _
          refine wpAny_pure ⟨rfl, h', tk', htk, rfl, hS', fun b o hb e => ?_⟩
          have hb1 : b ≠ s.heap.objs.size := Nat.ne_of_lt hb
          have hb2 : b ≠ (s.heap.push (newSetObj w)).objs.size := by
            rw [Heap.size_push]; exact Nat.ne_of_lt (Nat.lt_succ_of_lt hb)
          exact hm.heap b o (by simp only [List.mem_cons, List.mem_singleton, List.not_mem_nil, or_false, not_or]; exact ⟨hb1, hb2⟩) (Heap.get?_push_of_some _ (Heap.get?_push_of_some _ e))
      · cases r₂ with
        | error e => exact hr₂
        | ok fl₂ =>
          cases fl₂ with
          | ret r =>
            obtain ⟨rfl, h', tk, htk, rfl, hS', hk'⟩ := hr₂
            repeat (any_goals (first | assumption | wp_step))
            exact h _ _ htk hS' hk'
          | _ => exact hr₂.elim
    | _ => exact hr.elim
end
end L2

set_option Elab.async false
set_option linter.all false
set_option maxRecDepth 100000
set_option maxHeartbeats 3200000
namespace L2
open PySem PySem.Spec PyProof.Rows
section
variable {prog : Program} {w : World} {A : Around} {E : Value → Shared → Prop} {s : Shared}
end
end L2

set_option Elab.async false
set_option linter.all false
set_option maxRecDepth 100000
set_option maxHeartbeats 3200000
namespace L2
open PySem PySem.Spec PyProof.Rows
section
variable {prog : Program} {w : World} {A : Around} {E : Value → Shared → Prop} {s : Shared}
end
end L2

set_option Elab.async false
set_option linter.all false
set_option maxRecDepth 100000
set_option maxHeartbeats 3200000
namespace L2
open PySem PySem.Spec PyProof.Rows
section
variable {prog : Program} {w : World} {A : Around} {E : Value → Shared → Prop} {s : Shared}
end
end L2

set_option Elab.async false
set_option linter.all false
set_option maxRecDepth 100000
set_option maxHeartbeats 3200000
namespace L2
open PySem PySem.Spec PyProof.Rows
section
variable {prog : Program} {w : World} {A : Around} {E : Value → Shared → Prop} {s : Shared}

end
end L2

set_option Elab.async false
set_option linter.all false
set_option maxRecDepth 100000
set_option maxHeartbeats 3200000
namespace L2
open PySem PySem.Spec PyProof.Rows
section
variable {prog : Program} {w : World} {A : Around} {E : Value → Shared → Prop} {s : Shared}

end
end L2

set_option Elab.async false
set_option linter.all false
set_option maxRecDepth 100000
set_option maxHeartbeats 3200000
namespace L2
open PySem PySem.Spec PyProof.Rows
section
variable {prog : Program} {w : World} {A : Around} {E : Value → Shared → Prop} {s : Shared}

end
end L2

set_option Elab.async false
set_option linter.all false
set_option maxRecDepth 100000
set_option maxHeartbeats 3200000
namespace L2
open PySem PySem.Spec PyProof.Rows
noncomputable def TxO (P : Program) (w : World) (a : Addr) (S : List Str) : HO := .ext fun h => TxSet P w h a (!byTx w) S
section
variable {X : Cx}
theorem call_setS (hc : X.calm = true) : CallR X (.type "set") (fun xs H Q => ∃ (p : Addr) (ss : List Str), xs = [.ref p] ∧ SqL X.K H p (ss.map V.str) ∧ ss.length < 4000 ∧
    ∀ a : Addr, H a = none → Q (.ref a) (upd H a (TxO X.prog X.w a (onces ss)))) := by
  intro pins s σ H xs us Q I r h
  obtain ⟨p, ss, rfl, hq, hn, q⟩ := h
  obtain ⟨u, rfl, rx⟩ := vals1 r
  cases rx
  obtain ⟨its, r', pl, hz⟩ := I.list hq
  have hlen := r'.length
  rw [List.length_map] at hlen
  refine call_set_texts (I.ok.hd hc) pl.isList (by simpa using strsAre_of r') (by rw [List.size_toArray]; unfold scanBound; omega) fun h' tk htk hS hk => ?_
  refine ⟨.ref s.heap.objs.size, _, I.laid (t' := tk) (o := TxO X.prog X.w s.heap.objs.size (onces ss)) (fun b o e => hk b o (Heap.lt_size e) e) (Nat.le_refl _) ?_, rfl, q _ (I.hok.fresh (Nat.le_refl _))⟩
  obtain ⟨o, es, ep, t, ho, rest⟩ := id hS
  exact ⟨hS, ⟨o, ho⟩, fun h1 h2 x k => txset_kept x k⟩
end
end L2

set_option Elab.async false
set_option linter.all false
set_option maxRecDepth 100000
set_option maxHeartbeats 3200000
namespace L2
open PySem PySem.Spec PyProof.Rows
end L2

set_option Elab.async false
set_option linter.all false
set_option maxRecDepth 100000
set_option maxHeartbeats 3200000
namespace L2
open PySem PySem.Spec PyProof.Rows
section
variable {prog : Program} {w : World} {A : Around} {E : Value → Shared → Prop} {s : Shared}
end
section
variable {X : Cx}
end
end L2

set_option Elab.async false
set_option linter.all false
set_option maxRecDepth 100000
set_option maxHeartbeats 3200000
namespace L2
open PySem PySem.Spec PyProof.Rows
theorem comp_tfil {K : PySem.W.Frag} {a : Addr} {xs : List V} {is : List Nat} {tc : TT} {te : TE} {σ : St} {H : Hp} {Q : VK} (p : V → Bool) (S : Hp → Hp → Prop) (sr : ∀ H, S H H) (st : ∀ H1 H2 H3, S H1 H2 → S H2 H3 → S H1 H3) (hx : ∀ H1, S H H1 → SqT K H1 a xs) (hz : xs.length ≤ sizeLine)
    (hc : ∀ x ∈ xs, ∀ H1, S H H1 → ∀ R : Bool → Hp → Prop, (∀ H2, S H1 H2 → R (p x) H2) → tc (selS is σ (some x)) H1 R)
    (he : ∀ x ∈ xs, ∀ H1, ∀ R : VK, R x H1 → te (selS is σ (some x)) H1 R)
    (hd : ∀ H1 l, S H H1 → H1 l = none → Q (.ref l) (upd H1 l (.lst (xs.filter p)))) : CompW is tc te σ Q (Itt K a) H := by
  refine comp_tup (xs := xs) (fun i zs H' => zs = (xs.take i).filter p ∧ S H H') ⟨rfl, sr H⟩ ?_ ?_ ?_ ?_
  · rintro i zs H' ⟨rfl, _⟩
    exact Nat.le_trans (List.length_filter_le _ _) (by rw [List.length_take]; omega)
  · rintro i zs H' ⟨rfl, s1⟩
    exact hx _ s1
  · rintro i x zs H' R hR hxi ⟨rfl, s1⟩
    have hm := List.mem_of_getElem? hxi
    have e := take_snoc hxi
    refine hc x hm H' s1 _ fun H2 s2 => ?_
    cases hp : p x with
    | true =>
      refine (if_pos rfl : (if true = true then _ else _) = _) ▸ he x hm H2 _ (hR _ _ ⟨?_, st _ _ _ s1 s2⟩)
      rw [e, List.filter_append, List.filter_cons, if_pos hp]
      rfl
    | false =>
      refine (if_neg Bool.false_ne_true : (if false = true then _ else _) = _) ▸ hR _ _ ⟨?_, st _ _ _ s1 s2⟩
      rw [e, List.filter_append, List.filter_cons, if_neg (by rw [hp]; exact Bool.false_ne_true)]
      simp
  · rintro zs H' ⟨rfl, s1⟩ l hl
    rw [List.take_length]
    exact hd H' l s1 hl
end L2
namespace L2
open PySem PySem.Spec PyProof.Rows
end L2

set_option Elab.async false
set_option linter.all false
set_option maxRecDepth 100000
set_option maxHeartbeats 3200000
namespace L2
open PySem PySem.Spec PyProof.Rows
section
variable {X : Cx}
end
end L2

set_option Elab.async false
set_option linter.all false
set_option maxRecDepth 100000
set_option maxHeartbeats 3200000
namespace L2
open PySem PySem.Spec PyProof.Rows
section
variable {P : Program} {w : World} {H H' : Hp} {h h' : Heap} {cs : List Addr}
end
section
variable {P : Program} {w : World} {K : PySem.W.Frag} {mg : Str → Option Value} {base : Heap}
end
end L2

set_option Elab.async false
set_option linter.all false
set_option maxRecDepth 100000
set_option maxHeartbeats 3200000
namespace L2
open PySem PySem.Spec PyProof.Rows
section
variable {X : Cx} {params : Arguments} {body : Expr} {scope : Scope} {lpos : Pos} {c P : Addr} {qual : Str}
end
end L2

set_option Elab.async false
set_option linter.all false
set_option maxRecDepth 100000
set_option maxHeartbeats 3200000
namespace L2
open PySem PySem.Spec PyProof.Rows
section
variable {X : Cx} {params : Arguments} {body a : Expr} {scope : Scope} {lpos p pos : Pos} {c P g : Addr} {qual x : Str} {k kl : Nat} {gd : FuncData} {pg ps ys : List Str} {is : List Nat} {sp : Sp} {ta te : TE}
end
end L2

set_option Elab.async false
set_option linter.all false
set_option maxRecDepth 100000
set_option maxHeartbeats 3200000
namespace L2
open PySem PySem.Spec PyProof.Rows
end L2

set_option Elab.async false
set_option linter.all false
set_option maxRecDepth 100000
set_option maxHeartbeats 3200000
namespace L2
open PySem PySem.Spec PyProof.Rows
section
variable {X : Cx}
end
section
variable {prog : Program} {w : World} {A : Around} {E : Value → Shared → Prop} {s : Shared}
end
section
variable {X : Cx}
end
end L2

set_option Elab.async false
set_option linter.all false
set_option maxRecDepth 100000
set_option maxHeartbeats 3200000
namespace L2
open PySem PySem.Spec PyProof.Rows
end L2

set_option Elab.async false
set_option linter.all false
set_option maxRecDepth 100000
set_option maxHeartbeats 3200000
namespace L2
open PySem PySem.Spec PyProof.Rows
section
variable {prog : Program} {w : World} {K : Type} [DecidableEq K] {knd : KeyKind prog w K} {A : Around} {R : Result → Shared → Prop} {d l it : Addr} {items : List Value}
end
section
variable {X : Cx}
end
end L2

set_option Elab.async false
set_option linter.all false
set_option maxRecDepth 100000
set_option maxHeartbeats 1000000
namespace L2
open PySem PySem.Spec PyProof.Rows
section
variable {X : Cx}
end
end L2

set_option Elab.async false
set_option linter.all false
set_option maxRecDepth 100000
set_option maxHeartbeats 3200000
namespace ZpT
open PySem PySem.Spec PyProof.Rows
noncomputable def IterAt : Bool → Heap → Addr → Addr → Nat → Prop
  | true, h, it, l, k => h.IsTupleIter it l k
  | false, h, it, l, k => h.IsListIter it l k
noncomputable def SeqAt : Bool → Heap → Addr → Array Value → Prop
  | true, h, l, xs => h.IsTuple l xs
  | false, h, l, xs => h.IsList l xs
noncomputable def zO (f0 : Value) (b : Bool) (TI TO : Addr) : Obj := { cls := .type "zip", dict := none, data := .fields #[f0, .bool b, .bool false, .ref TI, .ref TO], slots := #[] }
noncomputable def F0 (f0 : Value) : Prop := f0 = .none ∨ ∃ T : Addr, f0 = rawInt T
structure Ap (z TI TO i1 i2 : Addr) : Prop where
  TIz : TI ≠ z
  TOz : TO ≠ z
  i1z : i1 ≠ z
  i2z : i2 ≠ z
  TITO : TI ≠ TO
  TIi1 : TI ≠ i1
  TIi2 : TI ≠ i2
  TOi1 : TO ≠ i1
  TOi2 : TO ≠ i2
  i12 : i1 ≠ i2
section
variable {prog : Program} {w : World} {A : Around} {E : Value → Shared → Prop} {s : Shared}
end
end ZpT

set_option Elab.async false
set_option linter.all false
set_option maxRecDepth 100000
set_option maxHeartbeats 3200000
namespace ZpT
open PySem PySem.Spec PyProof.Rows
structure Of (z TO i1 i2 l : Addr) : Prop where
  z : l ≠ z
  o : l ≠ TO
  i : l ≠ i1
  j : l ≠ i2
structure St (b1 b2 : Bool) (z TI TO i1 i2 l1 l2 : Addr) (k1 k2 : Nat) (h : Heap) : Prop where
  z : ∃ f0 fb, h.get? z = some (zO f0 fb TI TO) ∧ F0 f0
  I : IsPair h TI (.ref i1) (.ref i2)
  O : ∃ a b, IsPair h TO a b
  n1 : IterAt b1 h i1 l1 k1
  n2 : IterAt b2 h i2 l2 k2
section
variable {prog : Program} {w : World} {A : Around} {E : Value → Shared → Prop} {s : Shared}
end
end ZpT

set_option Elab.async false
set_option linter.all false
set_option maxRecDepth 100000
set_option maxHeartbeats 3200000
namespace ZpT
open PySem PySem.Spec PyProof.Rows
section
variable {prog : Program} {w : World} {A : Around} {E : Value → Shared → Prop} {s : Shared}
end
end ZpT

set_option Elab.async false
set_option linter.all false
set_option maxRecDepth 100000
set_option maxHeartbeats 3200000
namespace ZpT
open PySem PySem.Spec PyProof.Rows
section
variable {prog : Program} {w : World} {A : Around} {E : Value → Shared → Prop} {s : Shared}
end
section
variable {prog : Program} {w : World} {A : Around} {E : Value → Shared → Prop} {s : Shared}
end
end ZpT

set_option Elab.async false
set_option linter.all false
set_option maxRecDepth 100000
set_option maxHeartbeats 3200000
namespace L2
open PySem PySem.Spec PyProof.Rows
open ZpT (St Ap Of SeqAt IterAt)
end L2

set_option Elab.async false
set_option linter.all false
set_option maxRecDepth 100000
set_option maxHeartbeats 3200000
namespace L2
open PySem PySem.Spec PyProof.Rows
open ZpT (Ap Of SeqAt IterAt)
section
variable {X : Cx} {A : Around} {b1 b2 : Bool} {z TI TO i1 i2 a1 a2 S : Addr} {xs ys : List V} {pins : List (Addr × Obj)} {σ : St} {R : Result → Shared → Prop}
end
end L2

set_option Elab.async false
set_option linter.all false
set_option maxRecDepth 100000
set_option maxHeartbeats 3200000
namespace L2
open PySem PySem.Spec PyProof.Rows
open ZpT (Ap Of SeqAt IterAt)
section
variable {X : Cx} {e1 e2 : Expr} {t : TA} {p pos : Pos} {b1 b2 : Bool}
end
end L2

set_option Elab.async false
set_option linter.all false
set_option maxRecDepth 100000
set_option maxHeartbeats 1000000
namespace L2
open PySem PySem.Spec PyProof.Rows
section
variable {X : Cx} {S scope : Scope} {N : List Str} {x x2 : Str} {ys : List Str} {is : List Nat} {pins : List (Addr × Obj)} {σ : St} {H₂ : Hp} {s₂ : Shared} {fp : List Addr} {elt iter : Expr} {px px2 pp pos : Pos} {pq : Nat} {ifs : List Expr} {tc : TT} {te : TE} {wi : TI}
end
end L2

set_option Elab.async false
set_option linter.all false
set_option maxRecDepth 100000
set_option maxHeartbeats 3200000
namespace L2
open PySem PySem.Spec PyProof.Rows PySem.W
end L2

set_option Elab.async false
set_option linter.all false
set_option maxRecDepth 100000
set_option maxHeartbeats 3200000
namespace L2
open PySem PySem.Spec PyProof.Rows PySem.W
section
variable {prog : Program} {w : World} {A : Around} {E : Value → Shared → Prop} {s : Shared}
end
end L2

set_option Elab.async false
set_option linter.all false
set_option maxRecDepth 100000
set_option maxHeartbeats 3200000
namespace L2
open PySem PySem.Spec PyProof.Rows PySem.W
section
variable {prog : Program} {w : World} {h : Heap}
end
section
variable {X : Cx}
end
end L2

set_option Elab.async false
set_option linter.all false
set_option maxRecDepth 100000
set_option maxHeartbeats 1000000
namespace L2
open PySem PySem.Spec PyProof.Rows
section
variable {prog : Program} {w : World} {A : Around} {E : Value → Shared → Prop} {s : Shared} {c it : Addr} {oc : Obj} {es : Array DictEntry} {ep i : Nat}
end
section
variable {X : Cx}
theorem qe_chain {a b c : Expr} {ta tb tc : TE} {pos : Pos} {op op' : CmpOp} {r r' : R2} (ho : OpR X (compareOp op) r) (ho' : OpR X (compareOp op') r') (ha : QE X a ta) (hb : QE X b tb) (hc : QE X c tc)
    (hm : lastMarks [op, op'] [b, c] = false := by with_unfolding_all rfl) : QE X (.Compare a [op, op'] [b, c] pos) (tChain r r' ta tb tc) := ⟨pe_chain ho ho' ha.out hb.out hc.out hm⟩
end
end L2

set_option Elab.async false
set_option linter.all false
set_option maxRecDepth 100000
set_option maxHeartbeats 1000000
namespace L2
open PySem PySem.Spec PyProof.Rows
section
variable {X : Cx}
end
end L2

set_option Elab.async false
set_option linter.all false
set_option maxRecDepth 100000
set_option maxHeartbeats 1000000
namespace L2
open PySem PySem.Spec PyProof.Rows
section
variable {X : Cx}
end
end L2

set_option Elab.async false
set_option linter.all false
set_option maxRecDepth 100000
set_option maxHeartbeats 1000000
namespace L2
open PySem PySem.Spec PyProof.Rows
open PySem.W (hideAll of_hideAll hideAll_get hideAll_none funFrames_hide)
noncomputable def CXO (P : Program) (w : World) : CXT := fun outer H s E v s' => ∃ (e t C : Addr) (args : List Value) (H' : Hp) (B : Heap), v = .ref e ∧ s'.os = s.os ∧ AllBare s'.gens ∧ Un (frs outer) [] H H' s.heap s'.heap ∧ HOk P w H' s'.heap ∧
  Heap.FlyingW B outer e (.ref C) (.ref t) s'.heap ∧ s'.heap.TupAt t args ∧ (∀ b o, s'.heap.get? b = some o → ((∃ o', s.heap.get? b = some o') ∨ ∃ u, H' b = some u) → b ∉ frs outer → B.get? b = some o) ∧ H' e = none ∧ s.heap.get? e = none ∧ E (.ref C) (some e) H'
theorem ObjOk.there {P : Program} {w : World} {H : Hp} {h : Heap} {a : Addr} {o : HO} (x : ObjOk P w H h a o) : ∃ q, h.get? a = some q := by
  induction o with
  | lst xs => obtain ⟨_, _, _, _, e⟩ := x; exact ⟨_, e⟩
  | tup xs => obtain ⟨_, _, _, q, e, _⟩ := x; exact ⟨q, e⟩
  | dK kvs => obtain ⟨_, _, _, _, q, _, _, e, _⟩ := x; exact ⟨q, e⟩
  | dT kvs => obtain ⟨_, _, _, _, q, _, _, e, _⟩ := x; exact ⟨q, e⟩
  | set S n => obtain ⟨q, _, _, _, e, _⟩ := x; exact ⟨q, e⟩
  | ins C dx fs => obtain ⟨_, _, _, e, _⟩ := x; exact ⟨_, e⟩
  | own y => exact x
  | xd fs => obtain ⟨_, ⟨q, _, _, e, _⟩, _⟩ := x; exact ⟨q, e⟩
  | rng lo hi => obtain ⟨_, _, _, e⟩ := x; exact ⟨_, e⟩
  | frz q u _ => obtain ⟨e, _⟩ := x; exact ⟨_, e⟩
  | tbl ps => exact ⟨_, x⟩
  | met f y => exact ⟨_, x⟩
  | ext φ => exact x.2.1
section
variable {P : Program} {w : World} {X : Cx} {pins : List (Addr × Obj)} {σ : St} {H : Hp} {s : Shared}
theorem exc_out {E : XK} {e t C : Addr} {args : List Value} {B h' : Heap} {g' : Array GenState} {d' : Drawn} {t' : Nat} (I : Inv X pins σ H s) (hx : X.ex = []) (hst : X.stack = X.env :: X.outer) (hfr : X.env.frame = some X.env.locals) (hg : AllBare g')
    (cov : ∀ b o, s.heap.get? b = some o → ((∃ o', X.s₀.heap.get? b = some o') ∨ ∃ u, H b = some u) → b ∉ frs X.stack → B.get? b = some o)
    (up : s.heap.UpToSlots h') (fly : Heap.FlyingW B X.outer e (.ref C) (.ref t) h') (tup : h'.TupAt t args) (hHe : H e = none) (hse : X.s₀.heap.get? e = none) (hE : E (.ref C) (some e) H) :
    CXO X.prog X.w X.outer X.H₀ X.s₀ E (.ref e) { s with heap := h', gens := g', drawn := d', toks := t' } := by
  have hB : B.StaysIn h' := fly.1
  have nin : ∀ {b : Addr} {o : Obj}, X.s₀.heap.get? b = some o → b ∉ X.fs → b ∉ frs X.stack := fun {b o} hb hf hm => by
    rcases List.mem_cons.mp (I.stkSub b hm) with q | q
    · have := Heap.lt_size hb
      rw [q] at this
      exact absurd (Nat.lt_of_lt_of_le this I.ok.above) (Nat.lt_irrefl _)
    · exact hf q
  have tin : ∀ {b : Addr} {u : HO}, H b = some u → b ∉ frs X.stack := fun {b u} hb hm => by
    rw [I.stkFree b hm] at hb
    cases hb
  have old : ∀ b o, s.heap.get? b = some o → ((∃ o', X.s₀.heap.get? b = some o') ∧ b ∉ X.fs ∨ ∃ u, H b = some u) → h'.get? b = some o := fun b o hb q => by
    rcases q with ⟨⟨o', ho'⟩, hf⟩ | ⟨u, hu⟩
    · exact hB b o (cov b o hb (.inl ⟨o', ho'⟩) (nin ho' hf))
    · exact hB b o (cov b o hb (.inr ⟨u, hu⟩) (tin hu))
  have nex : ∀ b, b ∉ X.ex := fun b hb => by rw [hx] at hb; cases hb
  refine ⟨e, t, C, args, H, B, rfl, I.os, hg, ?_, ?_, fly, tup, ?_, hHe, hse, hE⟩
  · constructor
    · intro b o hb hn hf _
      exact old b o (I.base.keep b o hb hn hf (nex b)) (.inl ⟨⟨o, hb⟩, hf⟩)
    · intro b o hb hn hf _
      obtain ⟨sl, hs⟩ := I.base.slot b o hb hn hf (nex b)
      obtain ⟨_, o2, ho2, hd2⟩ := I.ok.funs.mem hf
      have eo : o2 = o := Option.some.inj (ho2.symm.trans hb)
      subst eo
      obtain ⟨sl2, hs2⟩ := up b _ hs (fun ws z => hd2 ws z)
      exact ⟨sl2, hs2⟩
    · intro b o hb hn _
      exact I.base.free b o hb hn (nex b)
    · intro b o hb _
      by_cases hf : b ∈ X.fs
      · obtain ⟨sl, hs⟩ := I.base.slot b o hb (I.ok.frf b hf) hf (nex b)
        obtain ⟨_, o2, ho2, hd2⟩ := I.ok.funs.mem hf
        have eo : o2 = o := Option.some.inj (ho2.symm.trans hb)
        subst eo
        obtain ⟨sl2, hs2⟩ := up b _ hs (fun ws z => hd2 ws z)
        exact ⟨_, hs2⟩
      · obtain ⟨o', ho'⟩ := I.base.there b o hb (nex b)
        exact ⟨o', old b o' ho' (.inl ⟨⟨o, hb⟩, hf⟩)⟩
    · exact I.base.tups
    · exact I.base.frzs
    · exact I.base.tbls
  · intro a o ha
    refine (I.hok a o ha).stay (fun b u hb q => old b u q (.inr ?_)) (fun b q => q) (fun b xs q => q)
    rcases hb with rfl | hb
    · exact ⟨o, ha⟩
    · exact ⟨_, hb⟩
  · intro b o hb q hf
    have fin : ∀ o1, s.heap.get? b = some o1 → b ∉ frs X.stack → B.get? b = some o := fun o1 h1 hn => by
      have z := cov b o1 h1 q hn
      have z2 := hB b o1 z
      rw [hb] at z2
      rw [Option.some.inj z2]
      exact z
    rcases q with ⟨o0, h0⟩ | ⟨u, hu⟩
    · obtain ⟨o1, h1⟩ := I.base.there b o0 h0 (nex b)
      exact fin o1 h1 (nin h0 hf)
    · obtain ⟨o1, h1⟩ := (I.hok b u hu).there
      exact fin o1 h1 (tin hu)
end
end L2

set_option Elab.async false
set_option linter.all false
set_option maxRecDepth 100000
set_option maxHeartbeats 1000000
namespace L2
open PySem PySem.Spec PyProof.Rows
open PySem.W (hideAll of_hideAll hideAll_get hideAll_none funFrames_hide)
structure FnX (X : Cx) (E : XK) : Prop where
  xe : ∀ e s', wpAny (model X.prog X.w) X.A (leaving X.env e) (fun _ s'' => CXO X.prog X.w X.outer X.H₀ X.s₀ E e s'') (fun e' s'' => CXO X.prog X.w X.outer X.H₀ X.s₀ E e' s'') s' → X.xe e s'
  ex : X.ex = []
  stk : X.stack = X.env :: X.outer
  fr : X.env.frame = some X.env.locals
noncomputable def MadeX (X : Cx) (E : XK) : Prop := ∀ (pins : List (Addr × Obj)) (σ : St) (H : Hp) (s : Shared) (h' : Heap) (e C : Addr) (args : List Value), Inv X pins σ H s → Heap.MadeExcOf s.heap h' e (.ref C) args → E (.ref C) (some e) H → X.xe (.ref e) { s with heap := h' }
section
variable {X : Cx} {E : XK}
theorem stk_frs {env : Env} {l : List Env} : ∀ e ∈ env :: l, ∀ a, e.frame = some a → a ∈ frs (env :: l) := fun e he a ha => List.mem_filterMap.mpr ⟨e, he, ha⟩
theorem FnX.made (F : FnX X E) : MadeX X E := by
  intro pins σ H s h' e C args I hx hE
  refine F.xe _ _ ?_
  have hfr : X.A.frames = some (X.env :: X.outer) := by rw [I.ok.frames, F.stk]
  have hst := I.stack
  rw [F.stk] at hst
  refine wpAny_leaves_madeW (base := hideAll s.heap (frs X.stack)) (h := s.heap) hfr F.fr (fun b o q => of_hideAll _ q) ?_ hx fun h'' t fly tup htn up => ?_
  · refine funFrames_hide hst ?_
    rw [F.stk]
    exact stk_frs
  · exact exc_out (s := s) (g' := s.gens) (d' := s.drawn) (t' := s.toks) I F.ex F.stk F.fr I.bare (fun b o hb _ hn => hideAll_get _ hb hn) ((Heap.UpToSlots.of_keeps hx.keeps).trans up) fly tup (by
      cases q : H e with
      | none => rfl
      | some u =>
        obtain ⟨o, ho⟩ := (I.hok e u q).there
        rw [hx.new] at ho
        cases ho) (by
      cases q : X.s₀.heap.get? e with
      | none => rfl
      | some o =>
        obtain ⟨o', ho'⟩ := I.base.there e o q (by rw [F.ex]; exact fun z => nomatch z)
        rw [hx.new] at ho'
        cases ho') hE
theorem FnX.passes (F : FnX X E) : Passes (CXO X.prog X.w) X E := by
  intro pins σ H s v s' I h
  obtain ⟨e, t, C, args, H', B, rfl, os, bare, un, hok, fly, tup, cov, hHe, hse, hE⟩ := h
  refine F.xe _ _ ?_
  have J : Inv X pins σ H' s' := I.call' (ch := []) os un hok bare (fun b z => absurd z (by simp))
  have hfr : X.A.frames = some (X.env :: X.outer) := by rw [I.ok.frames, F.stk]
  rw [F.stk] at fly
  refine wpAny_leaves_onW hfr F.fr fly fun h' fly' up => ?_
  have se : X.s₀.heap.get? e = none := by
    cases q : X.s₀.heap.get? e with
    | none => rfl
    | some o =>
      obtain ⟨o', ho'⟩ := I.base.there e o q (by rw [F.ex]; exact fun z => nomatch z)
      rw [hse] at ho'
      cases ho'
  refine exc_out (s := s') (g' := s'.gens) (d' := s'.drawn) (t' := s'.toks) J F.ex F.stk F.fr J.bare (fun b o hb q hn => cov b o hb ?_ hn) up fly' (tup.of_slots up) hHe se hE
  rcases q with ⟨o', ho'⟩ | q
  · exact .inl (I.base.there b o' ho' (by rw [F.ex]; exact fun z => nomatch z))
  · exact .inr q
theorem FnX.of {P : Program} {w : World} {K : PySem.W.Frag} {mg : Str → Option Value} {base : Heap} {N : List Str} {qual : Str} {scope : Scope} {f : Addr} {cd : Value} {A : Around} {outer : List Env} {s : Shared} {H : Hp} : FnX (cxOf (CXO P w) P w K mg base N qual scope f cd A outer s H E) E := ⟨fun _ _ h => h, rfl, rfl, rfl⟩
end
end L2

set_option Elab.async false
set_option linter.all false
set_option maxRecDepth 100000
set_option maxHeartbeats 1000000
namespace L2
open PySem PySem.Spec PyProof.Rows
noncomputable abbrev bmVE : List Value := [.type "ValueError", .type "Exception", .type "BaseException", .type "object"]
noncomputable abbrev OwnV (x : Str) (C : Addr) (mg : Str → Option Value) (base : Heap) : Prop := OwnCls x C bmVE "ValueError.__new__" mg base
noncomputable def sRaise (E : XK) (C : Addr) (t : TA) : TS := fun _ σ H => t σ H fun vs H1 => vs.length ≤ sizeLine ∧ ∀ e, H1 e = none → E (.ref C) (some e) H1
section
variable {X : Cx} {E : XK} {x : Str} {C : Addr} {np cpos pos : Pos} {e₀ : Expr} {rest : List Expr} {t : TA}
theorem qs_raise (M : MadeX X E) (hg : Gl X x) (O : OwnV x C X.mg X.base) (hc : X.calm = true) (ha : QA X (e₀ :: rest) t)
    (he : starEach (e₀ :: rest) X.env = (false, eval e₀ X.env) :: starEach rest X.env := by rfl) (hpl : (backTo cpos (starEach rest X.env)).any (·.1) = false := by rfl) (hd : (x == ("__debug__" : Str)) = false := by decide) :
    QS X (.Raise (some (.Call (.Name x np) (e₀ :: rest) [] cpos)) none pos) (sRaise E C t) := by
  refine ⟨fun pins s σ H D I h => ?_⟩
  obtain ⟨tl, N, nm, q, bs, hdct, sn, sub, ab, col, dd, k0, k1, k2, k3, k5, mN, hC, hN, hni, T⟩ := O.obj
  refine wpAny_Raise_call_subU (C := C) (nm := nm) (q := q) (N := N) (bs := bs) (bm := tl) (hdct := hdct) (sn := sn) (sub := sub) (ab := ab) (col := col) (dd := dd) (k0 := k0) (k1 := k1) (k2 := k2) (k3 := k3) (k5 := k5)
    PySem.F.excBase_ValueError rfl PySem.F.excBase_ValueError (mN := mN) (T.hasType PySem.F.excBase_ValueError.hasBase) (I.ok.hd hc) (by rw [he]; show (false || (backTo cpos (starEach rest X.env)).any (·.1)) = false; rw [hpl]; rfl) hni (ld_glob I hg O.bound ⟨rfl, ?_⟩ hd)
  have z := ha.out cpos pins s σ H _ I h
  rw [he] at z ⊢
  refine Calls.evalArgs_plain (thn z fun us s2 ⟨vs, H2, I2, r, hl, q⟩ => ?_)
  refine ⟨rfl, by show us.length ≤ sizeLine; rw [← r.length]; exact hl, I2.bk _ _ hC, hN.keeps I2.bk, T.keeps I2.bk, fun h' e hm => ?_⟩
  refine M pins σ H2 s2 h' e C us I2 hm (q e ?_)
  cases qe : H2 e with
  | none => rfl
  | some u =>
    obtain ⟨o, ho⟩ := (I2.hok e u qe).there
    rw [hm.new] at ho
    cases ho
end
theorem Fun.okX {P : Program} {w : World} {K : PySem.W.Frag} {mg : Str → Option Value} {base : Heap} {x qual : Str} {st : Stmt} {f : Addr} {fd : FuncData} {N ps : List Str} {k : Nat} {sp : Sp} (F : Fun K x qual st f fd) (S : FnScope N ps (defScope st)) (len : ∀ vs H Q E, sp vs H Q E → vs.length = ps.length)
    (hbody : ∀ (cdv : Value) (A : Around) (outer : List Env) (s : Shared) (H : Hp) (vs : List V) (Q : VK) (E : XK), Room k (A.deeper (envOfC qual (defScope st) s.heap.objs.size f cdv)) → sp vs H Q E →
      ∃ t, PSs (cxOf (CXO P w) P w K mg base N qual (defScope st) f cdv A outer s H E) (defBody st) t ∧ t { nx := fun _ H' => Q .non H', rt := Q } (start N vs) H) : FnOk P w K mg base (CXO P w) (k + 1) f fd ps sp := by
  obtain ⟨oc, od, kV, doc, pm, an, cdv, ct, osl, rfl, lk, hcd⟩ := F.ex
  exact fn_of lk hcd S len fun A outer s H vs Q E hr hsp => hbody cdv A outer s H vs Q E hr hsp
end L2

set_option Elab.async false
set_option linter.all false
set_option maxRecDepth 100000
set_option maxHeartbeats 1000000
namespace L2
open PySem PySem.Spec PyProof.Rows
section
variable {M : Model} {A : Around} {E : Value → Shared → Prop}
variable {nm q nm' q' : Str} {C N D N' : Addr} {bs bm bs' bm' : List Value} {hdct hdct' : Bool} {sn sn' : List Str} {sub sub' : List Value} {ab ab' : Bool} {col col' : Option Bool} {dd dd' : Option Addr} {k0 k1 k2 k3 k5 k0' k1' k2' k3' k5' : Option Value} {newId newId' : String}
theorem excMatches_own {h : Heap} {g : Array GenState} {d : Drawn} {t : Nat} {os : OsState} {e : Addr} {oe : Obj} {Q : Bool → Shared → Prop}
    (hC : h.get? C = some (excClassObj nm q C N bs bm hdct sn sub ab col dd k0 k1 k2 k3 k5 newId)) (hD : h.get? D = some (excClassObj nm' q' D N' bs' bm' hdct' sn' sub' ab' col' dd' k0' k1' k2' k3' k5' newId')) (he : h.get? e = some oe) (hcls : oe.cls = .ref C) (hbase : bm'.contains (.type "BaseException") = true) {b : Bool} (hb : (Value.ref C :: bm).contains (.ref D) = b)
    (hq : Q b ⟨h, g, d, t, os⟩) : wpAny M A (excMatches (.ref e) (.ref D)) Q E ⟨h, g, d, t, os⟩ := by
  have hcB : (Value.ref D :: bm').contains (.type "BaseException") = true := by rw [List.contains_cons, hbase, Bool.or_true]
  have f := tc_notTuple
  unfold excMatches
  cases b <;> (repeat (first | (with_reducible refine wpAny_loadPart_at he ?_; rw [hcls]) | with_reducible refine wpAny_loadPart_at hD ?_ | (with_reducible refine wpAny_isSubtype_exc hD ?_; rw [hcB]) | (with_reducible refine wpAny_isSubtype_exc hC ?_; rw [hb]) | wp_step)) <;> exact hq
end
end L2

set_option Elab.async false
set_option linter.all false
set_option maxRecDepth 100000
set_option maxHeartbeats 1000000
namespace L2
open PySem PySem.Spec PyProof.Rows
section
variable {X : Cx} {pins : List (Addr × Obj)} {σ : St} {H H' : Hp} {s s' : Shared}
theorem inv_land {B h' : Heap} (I : Inv X pins σ H s) (os : s'.os = s.os) (bare : AllBare s'.gens) (un : Un (frs X.stack) [] H H' s.heap s'.heap) (hok : HOk X.prog X.w H' s'.heap)
    (cov : ∀ b o, s'.heap.get? b = some o → ((∃ o', s.heap.get? b = some o') ∨ ∃ u, H' b = some u) → b ∉ frs X.stack → B.get? b = some o) (hB : B.StaysIn h') (up : s'.heap.UpToSlots h') : Inv X pins σ H' { s' with heap := h' } := by
  have nf : ∀ b, b ∈ frs X.stack → H' b = none := fun b hb => by
    obtain ⟨_, o, ho, _⟩ := I.stack.mem hb
    exact un.free b o ho (I.stkFree b hb) (fun z => nomatch z)
  have old : ∀ b o, s'.heap.get? b = some o → ((∃ o', s.heap.get? b = some o') ∨ ∃ u, H' b = some u) → b ∉ frs X.stack → h'.get? b = some o := fun b o hb q n => hB b o (cov b o hb q n)
  refine I.call' (s' := { s' with heap := h' }) (ch := []) os ⟨fun b o hb hn hf _ => ?_, fun b o hb hn hf _ => ?_, un.free, fun b o hb _ => ?_, un.tups, un.frzs, un.tbls⟩ (fun a o ha => ?_) bare (fun b z => absurd z (by simp))
  · exact old b o (un.keep b o hb hn hf (fun z => nomatch z)) (.inl ⟨o, hb⟩) hf
  · obtain ⟨sl, hs⟩ := un.slot b o hb hn hf (fun z => nomatch z)
    obtain ⟨_, o2, ho2, hd2⟩ := I.stack.mem hf
    have eo : o2 = o := Option.some.inj (ho2.symm.trans hb)
    subst eo
    obtain ⟨sl2, hs2⟩ := up b _ hs (fun ws z => hd2 ws z)
    exact ⟨sl2, hs2⟩
  · by_cases hf : b ∈ frs X.stack
    · obtain ⟨sl, hs⟩ := un.slot b o hb (I.stkFree b hf) hf (fun z => nomatch z)
      obtain ⟨_, o2, ho2, hd2⟩ := I.stack.mem hf
      have eo : o2 = o := Option.some.inj (ho2.symm.trans hb)
      subst eo
      obtain ⟨sl2, hs2⟩ := up b _ hs (fun ws z => hd2 ws z)
      exact ⟨_, hs2⟩
    · obtain ⟨o', ho'⟩ := un.there b o hb (fun z => nomatch z)
      exact ⟨o', old b o' ho' (.inl ⟨o, hb⟩) hf⟩
  · refine (hok a o ha).stay (fun b u hb q => ?_) (fun _ q => q) (fun _ _ q => q)
    have hu : ∃ u, H' b = some u := by
      rcases hb with rfl | hb
      · exact ⟨o, ha⟩
      · exact ⟨_, hb⟩
    refine old b u q (.inr hu) fun hf => ?_
    obtain ⟨u', hu'⟩ := hu
    rw [nf b hf] at hu'
    cases hu'
theorem Inv.known {a : Addr} {o : HO} (I : Inv X pins σ H s) (hn : H a = none) (h0 : X.s₀.heap.get? a = none) (h1 : a ≠ X.env.locals) (h2 : ∀ x c, X.env.cells.lookup x = some c → c ≠ a) (h3 : ∀ p ∈ X.pn ++ pins, p.1 ≠ a) (ob : ObjOk X.prog X.w (upd H a o) s.heap a o) : Inv X pins σ (upd H a o) s := by
  have ne : ∀ {b u}, H b = some u → b ≠ a := fun e z => by rw [z, hn] at e; cases e
  refine ⟨I.ok, I.os, I.bare, ⟨I.base.keep, I.base.slot, fun b u hb q hx => ?_, I.base.there, fun b xs q => ?_, fun b u v q => ?_, fun b ps q => ?_⟩, I.loc, I.cell, ?_, fun x c e => ?_, fun p hp => ?_, fun b u q => ?_, I.len⟩
  · rw [upd_ne (fun z => by rw [z, h0] at hb; cases hb)]
    exact I.base.free b u hb q hx
  · have z := I.base.tups b xs q
    rw [upd_ne (ne z)]
    exact z
  · have z := I.base.frzs b u v q
    rw [upd_ne (ne z)]
    exact z
  · obtain ⟨more, z⟩ := I.base.tbls b ps q
    exact ⟨more, by rw [upd_ne (ne z)]; exact z⟩
  · rw [upd_ne (Ne.symm h1)]
    exact I.free
  · rw [upd_ne (h2 x c e)]
    exact I.freeC x c e
  · obtain ⟨e, n, r⟩ := I.pin p hp
    exact ⟨e, by rw [upd_ne (h3 p hp)]; exact n, r⟩
  · by_cases hb : b = a
    · subst hb
      rw [upd_same] at q
      cases q
      exact ob
    · rw [upd_ne hb] at q
      exact (I.hok b u q).stay (fun _ _ _ q => q) (fun c q => by rw [upd_ne (ne q)]; exact q) (fun c xs q => by rw [upd_ne (ne q)]; exact q)
theorem unbind_ok {M : Model} {A : Around} {E : Value → Shared → Prop} {i : Nat} {x : Str} {v : V} {Q : Unit → Shared → Prop} (I : Inv X pins σ H s) (hN : X.N.Nodup) (hi : X.N[i]? = some x) (hk : X.env.scope.names.lookup x = some .local) (hv : σ[i]? = some (some v))
    (h : ∀ s', Inv X pins (σ.set i none) H s' → Q () s') : wpAny M A (unbindName X.env x) Q E s := by
  obtain ⟨m, hn, hl⟩ := id I.loc
  have hcls : (X.env.scope.kind == .class || (X.env.scope.kind == .module && X.env.locals != X.env.globals)) = false := by rw [I.ok.kind]; rfl
  have hiσ : i < σ.length := by rw [I.len]; exact (List.getElem?_eq_some_iff.mp hi).1
  have cne := I.cne
  obtain ⟨oL, _, _, hoL, _⟩ := id hn
  obtain ⟨u0, _, q0⟩ := hl i x v hi hv (.inl hk)
  have hm : m x = some u0 := by
    rcases q0 with ⟨_, e⟩ | ⟨k, _⟩
    · exact e
    · rcases k with k | k
      · have k' : X.env.scope.names.lookup x = some .cell := k
        rw [hk] at k'
        cases k'
      · have k' : X.env.scope.names.lookup x = some .free := k
        rw [hk] at k'
        cases k'
  refine wpAny_unbindName_local hk hn hm hcls fun h' u hn' hs => ?_
  refine h _ ⟨I.ok, I.os, I.bare, ⟨fun b o e n hb hx => ?_, fun b o e n hb hx => ?_, I.base.free, fun b o e hx => ?_, I.base.tups, I.base.frzs, I.base.tbls⟩, ⟨_, hn', fun j y v' e1 e2 e3 => ?_⟩, fun y c e => ?_, I.free, I.freeC, fun p hp => ?_, fun b ob e => ?_, by simpa using I.len⟩
  · exact (hs.2 b (Nat.ne_of_lt (Nat.lt_of_lt_of_le (Heap.lt_size e) I.ok.above))).trans (I.base.keep b o e n hb hx)
  · obtain ⟨sl, e1⟩ := I.base.slot b o e n hb hx
    exact ⟨sl, (hs.2 b (Nat.ne_of_lt (Nat.lt_of_lt_of_le (Heap.lt_size e) I.ok.above))).trans e1⟩
  · obtain ⟨o', e1⟩ := I.base.there b o e hx
    exact ⟨o', (hs.2 b (Nat.ne_of_lt (Nat.lt_of_lt_of_le (Heap.lt_size e) I.ok.above))).trans e1⟩
  · by_cases hj : j = i
    · subst hj
      rw [List.getElem?_set_self hiσ] at e2
      cases e2
    · rw [List.getElem?_set_ne (Ne.symm hj)] at e2
      obtain ⟨u', r', q⟩ := hl j y v' e1 e2 e3
      refine ⟨u', r', ?_⟩
      rcases q with ⟨k, e⟩ | ⟨k, c, e, z⟩
      · refine .inl ⟨k, ?_⟩
        have : y ≠ x := fun e => hj (nodup_ix hN e1 (e ▸ hi))
        simp [this, e]
      · exact .inr ⟨k, c, e, z.sameBut hs (cne y c e)⟩
  · obtain ⟨w', z⟩ := I.cell y c e
    exact ⟨w', z.sameBut hs (cne y c e)⟩
  · obtain ⟨e, n, ne, nf, d⟩ := I.pin p hp
    exact ⟨(hs.2 p.1 ne).trans e, n, ne, nf, d⟩
  · refine (I.hok b ob e).stay (fun c w' hc q => (hs.2 c ?_).trans q) (fun _ q => q) fun _ _ q => q
    rintro rfl
    rcases hc with rfl | hc
    · rw [I.free] at e; cases e
    · rw [I.free] at hc; cases hc
end
end L2

set_option Elab.async false
set_option linter.all false
set_option maxRecDepth 100000
set_option maxHeartbeats 1000000
namespace L2
open PySem PySem.Spec PyProof.Rows
section
variable {X : Cx} {pins : List (Addr × Obj)} {σ : St} {H H' : Hp} {s s' : Shared}
noncomputable abbrev Cx.under (X : Cx) (e : Addr) (f : Value → Shared → Prop) : Cx := { X with A := X.A.mark (some (.ref e)), calm := false, xe := f }
theorem Inv.under (I : Inv X pins σ H s) (e : Addr) (f : Value → Shared → Prop) : Inv (X.under e f) pins σ H s :=
  ⟨⟨I.ok.mod, I.ok.kind, I.ok.glob, I.ok.blt, I.ok.above, I.ok.inj, I.ok.has, I.ok.cab, (fun z => nomatch z), I.ok.frames, I.ok.stk, I.ok.exf, I.ok.bs, I.ok.bsz, I.ok.noex, I.ok.exfs, I.ok.funs, I.ok.frf⟩, I.os, I.bare, I.base, I.loc, I.cell, I.free, I.freeC, I.pin, I.hok, I.len⟩
theorem Inv.outof {e : Addr} {f : Value → Shared → Prop} (ok : X.Ok) (I : Inv (X.under e f) pins σ H s) : Inv X pins σ H s :=
  ⟨ok, I.os, I.bare, I.base, I.loc, I.cell, I.free, I.freeC, I.pin, I.hok, I.len⟩
theorem drop_name {M : Model} {A : Around} {E : Value → Shared → Prop} {i : Nat} {x : Str} {pos : Pos} {Q : Unit → Shared → Prop} (I : Inv X pins σ H s) (hN : X.N.Nodup) (hi : X.N[i]? = some x) (hk : X.env.scope.names.lookup x = some .local)
    (h : ∀ s', Inv X pins ((σ.set i (some .non)).set i none) H s' → Q () s') : wpAny M A (do bindName X.env x .none; unbindBehindTheSuite X.env x pos) Q E s := by
  have hiσ : i < σ.length := by rw [I.len]; exact (List.getElem?_eq_some_iff.mp hi).1
  refine wpAny_bind (wpAny_bindName (store_ok (v := .non) I hN hi (.inl hk) rfl (fun s1 I1 => ?_) (.inr hk)))
  unfold unbindBehindTheSuite
  exact wpAny_onRaise (unbind_ok I1 hN hi hk (List.getElem?_set_self hiσ) h)
end
noncomputable def Below2 (base : Heap) (C D : Addr) : Prop := ∃ nm q N bs bm hdct sn sub ab col dd k0 k1 k2 k3 k5 newId, base.get? C = some (excClassObj nm q C N bs bm hdct sn sub ab col dd k0 k1 k2 k3 k5 newId) ∧ (Value.ref C :: bm).contains (.ref D) = true
noncomputable def ExcOf (C e : Addr) : Heap → Prop := fun h => ∃ o, h.get? e = some o ∧ o.cls = .ref C
theorem excOf_ok {P : Program} {w : World} {H : Hp} {h : Heap} {C e : Addr} (x : ExcOf C e h) : ObjOk P w H h e (.ext (ExcOf C e)) := by
  obtain ⟨o, ho, hc⟩ := x
  exact ⟨⟨o, ho, hc⟩, ⟨o, ho⟩, fun h1 h2 ⟨o1, q1, q2⟩ k => ⟨o1, k o1 q1, q2⟩⟩
section
variable {prog : Program} {w : World} {A : Around} {E : Value → Shared → Prop} {s : Shared} {env : Env}
theorem handleBy_own2 {e C D : Addr} {x : Str} {bmB : List Value} {newId : String} {mg : Str → Option Value} {t : Expr} {n : Str} {b₀ : Stmt} {suite : List Stmt} {pos : Pos} {rest : List ExceptHandler} {Q : Flow → Shared → Prop} {F0 F1 : Value → Shared → Prop}
    (hbase : bmB.contains (.type "BaseException") = true) (hF0 : F0 = notedBy (model prog w) (A.mark (some (.ref e))) env (cameBackBy (model prog w) A env E)) (hF1 : F1 = AsSuiteRaised (model prog w) (A.mark (some (.ref e))) env n pos F0)
    (h : wpAny (model prog w) (A.mark (some (.ref e))) (eval t env) (fun c s₁ => c = .ref D ∧ OwnCls x D bmB newId mg s₁.heap ∧ Below2 s₁.heap C D ∧ (∃ oe, s₁.heap.get? e = some oe ∧ oe.cls = .ref C) ∧
      wpAny (model prog w) (A.mark (some (.ref e))) (setFlight (.ref e) none) (fun _ s₂ =>
          wpAny (model prog w) (A.mark (some (.ref e))) (storeName env n (.ref e)) (fun _ s₃ =>
            wpAny (model prog w) (A.mark (some (.ref e))) (execs (b₀ :: suite) env)
              (fun f s₄ => wpAny (model prog w) A (do bindName env n .none; unbindBehindTheSuite env n pos) (fun _ s₅ => Q f s₅) E s₄)
              F1 s₃) F0 s₂) F0 s₁) F0 s) :
    wpAny (model prog w) A (handleBy (.ref e) env (.ExceptHandler (some t) (some n) (b₀ :: suite) pos :: rest)) Q E s := by
  subst hF0 hF1
  refine wpAny_handleBy_cons (codeAny_handlers_test (wpAny_mono h (fun c s₁ h₁ => ?_) fun _ _ y => y)) (by intro q; cases q)
  obtain ⟨rfl, O, ⟨nm', q', N', bs', bm', hdct', sn', sub', ab', col', dd', k0', k1', k2', k3', k5', newId', hC', hin⟩, ⟨oe, he, hcls⟩, hk⟩ := h₁
  obtain ⟨bm, N, nm, q, bs, hdct, sn, sub, ab, col, dd, k0, k1, k2, k3, k5, mN, hC, hN, hni, T⟩ := O.obj
  obtain ⟨hh, g, d, tk, os⟩ := s₁
  exact excMatches_own hC' hC he hcls (T.hasType hbase) hin (codeAny_handlers_suite_as hk)
end
end L2

set_option Elab.async false
set_option linter.all false
set_option maxRecDepth 100000
set_option maxHeartbeats 1000000
namespace L2
open PySem PySem.Spec PyProof.Rows
theorem Below2.keeps {h h' : Heap} {C D : Addr} (b : Below2 h C D) (k : ∀ a o, h.get? a = some o → h'.get? a = some o) : Below2 h' C D := by
  obtain ⟨nm, q, N, bs, bm, hdct, sn, sub, ab, col, dd, k0, k1, k2, k3, k5, newId, hC, hin⟩ := b
  exact ⟨nm, q, N, bs, bm, hdct, sn, sub, ab, col, dd, k0, k1, k2, k3, k5, newId, k _ _ hC, hin⟩
section
variable {X : Cx} {pins : List (Addr × Obj)} {σ : St} {H : Hp} {s : Shared}
theorem Inv.ofWish {f : Value → Shared → Prop} (I : Inv (X.wish f) pins σ H s) : Inv X pins σ H s := ⟨I.ok.unwish, I.os, I.bare, I.base, I.loc, I.cell, I.free, I.freeC, I.pin, I.hok, I.len⟩
noncomputable def handEnds (n : Nat) (D : Ends) : Ends := { nx := fun σ' H' => D.nx ((σ'.set n (some .non)).set n none) H', rt := fun _ _ => False }
noncomputable def tryE (base : Heap) (Dc : Addr) (n : Nat) (ts : TS) (D : Ends) (σ : St) : XK := fun cls eo H' => ∃ C e, cls = .ref C ∧ eo = some e ∧ Below2 base C Dc ∧ ts (handEnds n D) (σ.set n (some (.ref e))) (upd H' e (.ext (ExcOf C e)))
noncomputable def sTryC (base : Heap) (Dc : Addr) (i n : Nat) (sp : Sp) (t : TA) (ts : TS) : TS := fun D σ H => t σ H fun vs H1 => sp vs H1 (fun v H2 => D.nx (σ.set i (some v)) H2) (tryE base Dc n ts D σ)
variable {k : Nat} {f : Addr} {fd : FuncData} {ps : List Str} {sp : Sp} {g x y n : Str} {p np p0 cpos spos hpos pos : Pos} {e₀ : Expr} {es : List Expr} {t : TA} {b₀ : Stmt} {suite : List Stmt} {i j : Nat} {Dc : Addr} {ts : TS}
theorem qs_tryC (hx : X.ex = []) (hstk : X.stack = X.env :: X.outer) (hfr : X.env.frame = some X.env.locals) (F : FnOk X.prog X.w X.K X.mg X.base (CXO X.prog X.w) k f fd ps sp) (hr : Room k X.A) (hg : Gl X g) (hm : X.mg g = some (.ref f)) (hk : PySem.W.keepIn X.K (.ref f) = true) (hb : Binds X.K fd ps [])
    (ha : ∀ f', QA (X.wish f') (e₀ :: es) t) (hN : X.N.Nodup) (hi : X.N[i]? = some x) (hix : X.env.scope.names.lookup x = some .local) (hj : X.N[j]? = some n) (hjn : X.env.scope.names.lookup n = some .local)
    (hgd : Gl X y) (O : OwnV y Dc X.mg X.base) (hs : ∀ e f', QSs (X.under e f') (b₀ :: suite) ts)
    (hdb : (g == ("__debug__" : Str)) = false := by decide) (he : starEach (e₀ :: es) X.env = (false, eval e₀ X.env) :: starEach es X.env := by rfl) (hpl : (backTo cpos (starEach es X.env)).any (·.1) = false := by rfl)
    (hsw : swapsWith (.Call (.Name g p) (e₀ :: es) [] cpos) (some (.Name x p0)) spos.line X.env = pure false := by rfl) (hdd : (y == ("__debug__" : Str)) = false := by decide) :
    QS X (.Try [.Assign [.Name x p0] (.Call (.Name g p) (e₀ :: es) [] cpos) spos] [.ExceptHandler (some (.Name y np)) (some n) (b₀ :: suite) hpos] [] [] pos) (sTryC X.base Dc i j sp t ts) := by
  refine ⟨fun pins s σ H D I h => wpAny_Try_except (wpAny_execs_cons (wpAny_Assign_Name ?_ hsw))⟩
  generalize hf' : (fun (e : Value) (s₁ : Shared) => wpAny (model X.prog X.w) X.A (noteFrame e X.env) (fun _ s₂ => wpAny (model X.prog X.w) X.A (setFlight e none) (fun _ s₃ => wpAny (model X.prog X.w) X.A (handleBy e X.env [.ExceptHandler (some (.Name y np)) (some n) (b₀ :: suite) hpos]) (SP X pins D) X.xe s₃) X.xe s₂) X.xe s₁) = f'
  refine thn (Q := EP X pins σ fun v H2 => D.nx (σ.set i (some v)) H2) ?_ fun v s1 ⟨z, H1, I1, r1, q1⟩ => store_ok I1 hN hi (.inl hix) r1 (fun s2 I2 => wpAny_execs_nil (wpAny_execs_nil ⟨_, H1, I2, q1⟩)) (.inr hix)
  refine wpAny_Call_Name_kw (ld_glob I hg hm ?_ hdb)
  refine PySem.W.callWith_K (h₀ := X.base) I.ok.mod.kin hk (thn ((ha f').out cpos pins s σ H _ (I.wish f') h) fun us s1 ⟨vs, H1, J1, r, q⟩ => ⟨J1.ofWish.kIn, ?_⟩) he hpl
  have I1 : Inv X pins σ H1 s1 := J1.ofWish
  have hl : us.length = ps.length := by rw [← r.length]; exact F.len _ _ _ _ q
  have hb' := hb s1 us I1.kIn (by rw [List.append_nil]; exact hl)
  rw [List.append_nil] at hb'
  refine wpAny_call (codeAny_mono (F.run X.A X.stack s1 H1 ⟨us, []⟩ us vs _ _ hr I1.env0 hb' r q) fun r s' hq => ?_)
  cases r with
  | ok fl =>
    cases fl with
    | ret u => exact I1.after hq
    | next => exact False.elim hq
    | brk => exact False.elim hq
    | cont => exact False.elim hq
  | error v =>
    subst hf'
    obtain ⟨e, t0, C, args, H', B, rfl, os, bare, un, hok, fly, tup, cov, hHe, hse, C', e', ec, ee, below, hts⟩ := hq
    cases ec
    cases ee
    have hfm : X.A.frames = some (X.env :: X.outer) := by rw [I.ok.frames, hstk]
    have fly0 := fly
    rw [hstk] at fly0
    refine wpAny_looks_onW hfm hfr fly0 fun h4 held4 up4 => ?_
    refine wpAny_landsW held4 fun h5 fly5 up5 => ?_
    have I5 := inv_land I1 os bare un hok cov fly5.1 (up4.trans up5)
    refine handleBy_own2 (C := C) (D := Dc) (x := y) (bmB := bmVE) (newId := "ValueError.__new__") (mg := X.mg) rfl rfl rfl (ld_glob (X := X.under e X.xe) (I5.under e X.xe) hgd O.bound ⟨rfl, O.keeps I5.bk, below.keeps I5.bk, fly5.there, ?_⟩ hdd)
    refine lands_againW fly5 fun h6 fly6 up6 => ?_
    have I6 := inv_land I1 os bare un hok cov fly6.1 ((up4.trans up5).trans up6)
    have h0 : X.s₀.heap.get? e = none := by
      cases q : X.s₀.heap.get? e with
      | none => rfl
      | some o =>
        obtain ⟨o', ho'⟩ := I1.base.there e o q (by rw [hx]; exact fun z => nomatch z)
        rw [hse] at ho'
        cases ho'
    have I7 := I6.known (o := .ext (ExcOf C e)) hHe h0 (fun z => by
        obtain ⟨m, ⟨oL, _, _, hoL, _⟩, _⟩ := I1.loc
        rw [← z, hse] at hoL
        cases hoL) (fun x c hc z => by
        obtain ⟨w', oc, hoc, _⟩ := I1.cell x c hc
        rw [z, hse] at hoc
        cases hoc) (fun p hp z => by
        have := (I1.pin p hp).1
        rw [z, hse] at this
        cases this) (excOf_ok fly6.there)
    refine store_ok (v := .ref e) I7 hN hj (.inl hjn) rfl (fun s8 I8 => ?_) (.inr hjn)
    refine wpAny_mono ((hs e _).out pins s8 _ _ _ (I8.under e _) hts) (fun fl s9 q9 => ?_) (fun _ _ z => z)
    cases fl with
    | next =>
      obtain ⟨σ9, H9, J9, q9⟩ := q9
      exact drop_name (J9.outof I.ok) hN hj hjn fun s10 I10 => ⟨_, H9, I10, q9⟩
    | ret u =>
      obtain ⟨_, _, _, _, _, q9⟩ := q9
      exact q9.elim
    | brk =>
      obtain ⟨_, _, _, q9⟩ := q9
      exact q9.elim
    | cont =>
      obtain ⟨_, _, _, q9⟩ := q9
      exact q9.elim
end
end L2

set_option Elab.async false
set_option linter.all false
set_option maxRecDepth 100000
set_option maxHeartbeats 1000000
namespace L2
open PySem PySem.Spec PyProof.Rows PySem.Calls
open PySem.W (Frag InstAt findObj plainGet plainGet_of kin_open kin_hooked class_get handed_on mroIn clsIn Looks subIn typeIn looks_typeIn looks_subIn isIn isi_call)
section
variable {prog : Program} {w : World} {A : Around} {E : Value → Shared → Prop} {s : Shared} {K : Frag} {e C D : Addr} {oe : Obj} {od : Option Obj}
theorem looks_isType {M : Model} {h : Heap} (X : K.In h) (q : (clsIn K C).isSome = true) : Looks M h (isType (.ref C)) true := by
  unfold clsIn at q
  split at q
  · rename_i ho
    intro A' Q' E' s' k z
    unfold isType loadHead
    exact wpAny_bind (wpAny_loadPart (k _ _ (X _ _ ho)) (wpAny_pure z))
  · cases q
end
end L2

set_option Elab.async false
set_option linter.all false
set_option maxRecDepth 100000
set_option maxHeartbeats 1000000
namespace L2
open PySem PySem.Spec PyProof.Rows PySem.Calls
open PySem.W Builtin Builtin.ObjectAttr Builtin.Getset_descriptor
section
variable {prog : Program} {w : World} {A : Around} {E : Value → Shared → Prop} {s : Shared} {K : Frag} {e C D : Addr}
noncomputable def exGet (K : Frag) (C : Addr) : Bool := findIn K (.ref C) "__getattribute__" == some (some (.builtin "BaseException.__getattribute__")) && (findIn K (.ref C) "__getattr__" == some none && mroIn K C (.type "BaseException") == some true)
structure Cl3 (K : Frag) (C : Addr) : Prop where
  get : exGet K C = true
  found : findIn K (.ref C) "__class__" = some (some (.builtin "object.__class__"))
  desc : specialIn K (.builtin "object.__class__") "__get__" = some (some (.builtin "getset_descriptor.__get__"))
  data : takesIn K (.builtin "object.__class__") = some true
  mro : mroIn K C (.type "object") = some true
  cls : (clsIn K C).isSome = true
theorem find_data {M : Model} {h : Heap} (X : K.In h) {name : Str} {a g : Value} (ha : findIn K (.ref C) name = some (some a)) (hg : specialIn K a "__get__" = some (some g)) (hd : takesIn K a = some true) : Looks M h (find (.ref e) (.ref C) name) (.bind g a) := by
  have L1 := looks_findIn (M := M) X ha
  have L2 : Looks M h (getOf (some a)) (some g) := looks_specialIn X hg
  have L3 := looks_takesIn (M := M) X hd
  exact L1.andThen (L2.andThen ((show Looks M h (dataDescriptor? (some a) (some g)) (some (g, a)) from L3.andThen .now).andThen (Looks.tag .now)))
theorem ask_by {name : Str} {tk : Tok} {fill expr : Bool} {Q : Value → Shared → Prop} (X : K.In s.heap) (T : Looks (model prog w) s.heap (typeOf (.ref e)) (.ref C)) (G : exGet K C = true)
    (h : wpAny (model prog w) A.in1 (Builtin.«object.__getattribute__» ⟨[.ref e, .str name tk], []⟩)
      (fun fin s' => match fin with | .done (.ret v) => wpAny (model prog w) A (handedOut v) Q E s' | _ => False) (fun _ _ => False) s) :
    wpAny (model prog w) A (getAttrBy (.ref e) (.str name tk) fill expr) Q E s := by
  unfold exGet at G
  rw [Bool.and_eq_true, Bool.and_eq_true, beq_iff_eq, beq_iff_eq, beq_iff_eq] at G
  obtain ⟨g1, g2, g3⟩ := G
  have L1 := looks_findIn (M := model prog w) X g1
  have L2 := looks_findIn (M := model prog w) X g2
  have L3 : Looks (model prog w) s.heap (isInstance (.ref e) (.type "BaseException")) true := T.andThen (looks_mroIn X g3)
  have z2 : (Value.builtin "BaseException.__getattribute__" == Value.builtin "object.__getattribute__") = false := by decide +kernel
  have z1 : ¬ (onTheHeap (Value.ref C) && Value.builtin "BaseException.__getattribute__" == Value.builtin "object.__getattribute__") = true := by rw [z2]; exact fun z => nomatch z
  have z0 : ¬ (expr && onTheHeap (Value.builtin "BaseException.__getattribute__")) = true := by cases expr <;> exact fun z => nomatch z
  obtain ⟨hh, g, dr, t, os⟩ := s
  unfold getAttrBy
  refine wpAny_holding (wpAny_bind (T.at (wpAny_bind (L1.at ?_))))
  show wpAny _ _ (if (onTheHeap (Value.ref C) && Value.builtin "BaseException.__getattribute__" == Value.builtin "object.__getattribute__") = true then _ else getAttrByItsOwn _ _ _ _ _ _) _ _ _
  rw [if_neg z1]
  unfold getAttrByItsOwn
  show wpAny _ _ (typeLookup (.ref C) "__getattr__" >>= _) _ _ _
  refine wpAny_bind (L2.at (wpAny_bind (wpAny_attempt (wpAny_holding ?_))))
  unfold callGetattribute
  rw [if_neg z0]
  unfold boundAndCalled
  rw [PySem.F.attr_ValueError.ga.bind]
  have hk : builtinKind "BaseException.__getattribute__" = some .slot := by decide +kernel
  have hsp : splitId "BaseException.__getattribute__" = some ("BaseException", "__getattribute__") := by decide +kernel
  refine wpAny_bind (wpAny_pure (wpAny_call (codeAny_call_builtin PySem.F.attr_ValueError.ga.plain PySem.F.entry_bexc_ga ?_)))
  refine @check_slot (model prog w) _ _ ⟨hh, g, dr, t, os⟩ "BaseException.__getattribute__" "BaseException" "__getattribute__" (.ref e) [.str name tk] [] _ hk hsp L3 (PySem.F.args_bexc_ga _ _) ?_
  refine wpAny_mono h (fun fin s' z => ?_) fun _ _ z => z.elim
  rcases fin with (_ | _ | _ | _) | _ <;> first | exact z | exact z.elim
theorem ask_own {name : Str} {tk : Tok} {R : Found} {Q : Fin → Shared → Prop} (T : Looks (model prog w) s.heap (typeOf (.ref e)) (.ref C)) (L : Looks (model prog w) s.heap (find (.ref e) (.ref C) name) R) (hm : R ≠ .missing)
    (h : wpAny (model prog w) A (match R with | .value v => ret v | .bind g a => bindTo g a (.ref e) (.ref C) | .missing => unsupported "") Q E s) :
    wpAny (model prog w) A (Builtin.«object.__getattribute__» ⟨[.ref e, .str name tk], []⟩) Q E s := by
  obtain ⟨hh, gg, d, t, os⟩ := s
  unfold Builtin.«object.__getattribute__»
  refine wpAny_bind (wpAny_pure (wpAny_bind (wpAny_pure (wpAny_bind (T.at (wpAny_bind (L.at ?_)))))))
  cases R with
  | value v => exact h
  | bind g a => exact h
  | missing => exact absurd rfl hm
theorem ask_get {tp : Value} {R : Result → Shared → Prop} (X : K.In s.heap) (T : Looks (model prog w) s.heap (typeOf (.ref e)) (.ref C)) (hm : mroIn K C (.type "object") = some true)
    (h : R (.ok (.ret (.ref C))) s) : codeAny (model prog w) A (.call (.builtin "getset_descriptor.__get__") ⟨[.builtin "object.__class__", .ref e, tp], []⟩) R s := by
  obtain ⟨h0, g, dr, t, os⟩ := s
  have L1 := looks_mroIn (M := model prog w) X hm
  refine codeAny_call_builtin KF.slot_gs.plain KF.entry_gs (KF.slot_gs.check _ _ _ _ _ _ _ _ KF.type_class (KF.args_gs _ _ _) ?_)
  unfold Builtin.«getset_descriptor.__get__» descrGet
  rw [dga_obj]
  refine wpAny_bind (wpAny_pure ?_)
  unfold descrGetter descrCheckInstance descrNameAndClass isInstance
  simp only [KF.owner_class]
  repeat lk
  refine ⟨Code.quiet_builtin _ (by decide +kernel), codeAny_builtin KF.entry_class ?_⟩
  unfold Builtin.«object.__class__» shownTypeOf
  repeat lk
  exact h
theorem ask_class {Q : Option Value → Shared → Prop} (F : Cl3 K C) (X : K.In s.heap) (T : Looks (model prog w) s.heap (typeOf (.ref e)) (.ref C)) (h : Q (some (.ref C)) { s with toks := s.toks + 1 }) : wpAny (model prog w) A (getAttr? (.ref e) "__class__") Q E s := by
  unfold getAttr? getAttrBy?
  refine wpAny_bind (wpAny_mkText (wpAny_bind (wpAny_attempt ?_)))
  refine ask_by (s := { s with toks := s.toks + 1 }) X T F.get (ask_own (s := { s with toks := s.toks + 1 }) (R := .bind (.builtin "getset_descriptor.__get__") (.builtin "object.__class__")) T (find_data X F.found F.desc F.data) (fun z => nomatch z) ?_)
  show wpAny _ _ (holding [Value.builtin "object.__class__"] (call (.builtin "getset_descriptor.__get__") [.builtin "object.__class__", .ref e, .ref C]) >>= ret) _ _ _
  refine wpAny_bind (wpAny_holding (wpAny_call (ask_get (s := { s with toks := s.toks + 1 }) X T F.mro ?_)))
  exact wpAny_pure (handed_on rfl (wpAny_pure h))
theorem ask_value {name : Str} {v : Value} {expr : Bool} {Q : Value → Shared → Prop} (G : exGet K C = true) (X : K.In s.heap) (T : Looks (model prog w) s.heap (typeOf (.ref e)) (.ref C)) (L : Looks (model prog w) s.heap (find (.ref e) (.ref C) name) (.value v)) (hv : handedIn v = true)
    (h : Q v { s with toks := s.toks + 1 }) : wpAny (model prog w) A (getAttr (.ref e) name expr) Q E s := by
  unfold getAttr
  refine wpAny_bind (wpAny_mkText ?_)
  exact ask_by (s := { s with toks := s.toks + 1 }) X T G (ask_own (s := { s with toks := s.toks + 1 }) (R := .value v) T L (fun z => nomatch z) (wpAny_pure (handed_on hv h)))
end
end L2

set_option Elab.async false
set_option linter.all false
set_option maxRecDepth 100000
set_option maxHeartbeats 1000000
namespace L2
open PySem PySem.Spec PyProof.Rows PySem.Calls
theorem kitx_exc {K : PySem.W.Frag} {C e : Addr} (F : Cl3 K C) : PySem.W.KitX K (.ref e) (.ref C) (ExcOf C e) where
  ty := fun M h _ ⟨o, h1, h2⟩ => h2 ▸ (PySem.W.Looks.ld h1).andThen .now
  it := fun _ _ X _ => looks_isType X F.cls
  ne := fun h tp dd its n sl X htp => by
    have z := F.cls
    refine Bool.eq_false_iff.mpr fun q => ?_
    cases Value.ref.inj (beq_iff_eq.mp q)
    unfold PySem.W.clsIn at z
    split at z
    · rename_i ho
      have z' := (X _ _ ho).symm.trans htp
      cases z'
    · cases z
  ca := fun {prog w A E Q s} X p k => by
    obtain ⟨o, h1, h2⟩ := p
    exact ask_class F X (h2 ▸ (PySem.W.Looks.ld h1).andThen .now) k
inductive TyX (K : PySem.W.Frag) (H : Hp) : V → Value → Prop
  | non : TyX K H .non (.type "NoneType")
  | exc {e C : Addr} (h : H e = some (.ext (ExcOf C e))) (F : Cl3 K C) : TyX K H (.ref e) (.ref C)
noncomputable def rIsX (K : PySem.W.Frag) : List V → Hp → VK → Prop := fun xs H Q => ∃ x c t b, xs = [x, c] ∧ TyX K H x t ∧
  ((∃ T, c = .ty T ∧ PySem.W.kitOne K t (.type T) = some b) ∨ (∃ D, c = .ref D ∧ PySem.W.kitOne K t (.ref D) = some b) ∨ (∃ (tp : Addr) (ds : List Addr), c = .ref tp ∧ H tp = some (.tup (ds.map V.ref)) ∧ PySem.W.kitAny K t (ds.map Value.ref) = some b)) ∧ Q (.bl b) H
theorem vals_refs : ∀ {ds : List Addr} {us : List Value}, Vals (ds.map V.ref) us → us = ds.map Value.ref
  | [], _, r => by cases r; rfl
  | d :: ds, _, r => by
    cases r with
    | cons r1 r2 => rw [vals_refs r2, show _ = Value.ref d from r1]; rfl
theorem call_isX {X : Cx} : CallR X (.builtin "isinstance") (rIsX X.K) := by
  intro pins s σ H xs us Q I r h
  obtain ⟨x, c, t, b, rfl, ty, hc, q⟩ := h
  obtain ⟨u, w', rfl, rx, rt⟩ := vals2 r
  have fin : ∀ tk, EP X pins σ Q (.bool b) { s with toks := tk } := fun tk => ⟨.bl b, H, I.tok tk, rfl, q⟩
  obtain ⟨T, rfl, e⟩ | ⟨D, rfl, e⟩ | ⟨tp, ds, rfl, ht, e⟩ := hc
  · cases rt
    cases ty with
    | non => cases (show u = Value.none from rx); exact PySem.W.kia_one PySem.W.kitx_none I.kIn True.intro e (fun z => nomatch z) fin
    | exc hh F => cases rx; exact PySem.W.kia_one (kitx_exc F) I.kIn (I.hok _ _ hh).1 e (fun z => nomatch z) fin
  · cases rt
    cases ty with
    | non => cases (show u = Value.none from rx); exact PySem.W.kia_one PySem.W.kitx_none I.kIn True.intro e (fun z => nomatch z) fin
    | exc hh F => cases rx; exact PySem.W.kia_one (kitx_exc F) I.kIn (I.hok _ _ hh).1 e (fun z => nomatch z) fin
  · cases rt
    obtain ⟨_, its, ri, o, ho, hcl, n, hd⟩ := (show ObjOk X.prog X.w H s.heap tp (.tup _) from I.hok _ _ ht)
    cases vals_refs ri
    obtain ⟨oc, od, odat, osl⟩ := o
    cases hcl
    cases hd
    cases ty with
    | non => cases (show u = Value.none from rx); exact PySem.W.kia_tup PySem.W.kitx_none I.kIn True.intro ho e (fun z => nomatch z) fin
    | exc hh F => cases rx; exact PySem.W.kia_tup (kitx_exc F) I.kIn (I.hok _ _ hh).1 ho e (fun z => nomatch z) fin
end L2

set_option Elab.async false
set_option linter.all false
set_option maxRecDepth 100000
set_option maxHeartbeats 1000000
namespace L2
open PySem PySem.Spec PyProof.Rows PySem.Calls
open PySem.W Builtin Builtin.ObjectAttr
noncomputable def onlyVE : List Value → Bool
  | [.type a, .type b, .type c, .type d] => a == "ValueError" && (b == "Exception" && (c == "BaseException" && d == "object"))
  | .ref _ :: r => onlyVE r
  | _ => false
theorem onlyVE_type {l : List Value} {n : String} (e : onlyVE (.type n :: l) = true) : Value.type n :: l = bmVE := by
  unfold onlyVE at e
  split at e
  · rename_i a b c d q
    rw [Bool.and_eq_true, Bool.and_eq_true, Bool.and_eq_true] at e
    rw [q, beq_iff_eq.mp e.1, beq_iff_eq.mp e.2.1, beq_iff_eq.mp e.2.2.1, beq_iff_eq.mp e.2.2.2]
  · rename_i q
    cases q
  · cases e
theorem passes_VE (self : Value) : ∀ {l : List Value}, onlyVE l = true → refuseLoop self "__setattr__" l = pure () ∧ l.contains (.type "object") = true ∧ l.isEmpty = false
  | .type n :: l, e => by rw [onlyVE_type e]; exact ⟨PySem.F.store_ValueError.passes self, by simp, rfl⟩
  | .ref c :: r, e => by
    obtain ⟨h1, h2, _⟩ := passes_VE self (l := r) e
    exact ⟨by rw [refuseLoop_ref]; exact h1, by rw [List.contains_cons, h2, Bool.or_true], rfl⟩
structure AtC (K : Frag) (C : Addr) (f : Str) : Prop where
  over : ((clsIn K C).any fun cd => onlyVE cd.mro && cd.hasDict) = true
  sa : findIn K (.ref C) "__setattr__" = some (some (.builtin "object.__setattr__"))
  get : exGet K C = true
  no : findIn K (.ref C) f = some none
section
variable {prog : Program} {w : World} {A : Around} {E : Value → Shared → Prop} {s : Shared} {K : Frag} {x C : Addr} {name : Str} {v : Value}
theorem osa_exc {ox : Obj} {od : Option Obj} {tk : Tok} {R : Result → Shared → Prop} (X : K.In s.heap) (I : InstAt s.heap x ox C od) (F : AtC K C name)
    (h : wpAny (model prog w) A.in1 (storeInOwnDict (.ref x) (.ref C) (.str name tk) name v false)
      (fun fin s' => match fin with | .done f => R (.ok f) s' | .again c' => c'.quiet = true ∧ codeAny (model prog w) A c' R s') (fun e s' => R (.error e) s') s) :
    codeAny (model prog w) A (.call (.builtin "object.__setattr__") ⟨[.ref x, .str name tk, v], []⟩) R s := by
  have SF := PySem.F.store_object
  obtain ⟨cd, hc, hoo⟩ := any_some F.over
  rw [Bool.and_eq_true] at hoo
  obtain ⟨p1, p2, p3⟩ := passes_VE (.ref x) hoo.1
  have sub : Looks (model prog w) s.heap (isInstance (.ref x) (.type "object")) true := I.type.andThen (looks_mroIn X (by unfold mroIn; rw [hc, Option.bind_some, if_neg (by rw [p3]; decide), p2]))
  refine codeAny_call_builtin SF.slot.plain SF.entry (@check_slot (model prog w) _ _ s "object.__setattr__" "object" "__setattr__" (.ref x) [.str name tk, v] [] _ SF.kind SF.split sub (SF.args (.ref x) (.str name tk) v) ?_)
  have hm : Looks (model prog w) s.heap (mroOf (.ref C)) cd.mro := (looks_clsIn X hc).andThen .now
  have L3 : Looks (model prog w) s.heap (storeTaker? none) none := .now
  rw [osa_eq, refuse_eq]
  refine wpAny_bind (wpAny_bind (I.type.here (wpAny_bind (hm.here ?_))))
  rw [p1]
  exact wpAny_pure (wpAny_bind (I.type.here (wpAny_bind ((looks_findIn X F.no).here (wpAny_bind (L3.here h))))))
theorem exc_set {arr : Array Value} {sl : Array (Option Value)} {Q : Unit → Shared → Prop} (X : K.In s.heap) (hx : s.heap.get? x = some ⟨.ref C, none, .fields arr, sl⟩) (F : AtC K C name)
    (h : ∀ h', h'.get? x = some ⟨.ref C, some s.heap.objs.size, .fields arr, sl⟩ → h'.Ns1 s.heap.objs.size (fun y => if y = name then some v else none) →
      (∀ b o, b ≠ x → s.heap.get? b = some o → h'.get? b = some o) → Q () { s with heap := h', toks := s.toks + 2 }) :
    wpAny (model prog w) A (setAttr (.ref x) name v) Q E s := by
  have I : InstAt s.heap x ⟨.ref C, none, .fields arr, sl⟩ C none := ⟨hx, rfl, rfl, True.intro⟩
  refine set_plain X I F.sa (osa_exc (s := { s with toks := s.toks + 1 }) X I F ?_)
  obtain ⟨hh, g, dr, t, os⟩ := s
  obtain ⟨cd, hc, hoo⟩ := any_some F.over
  rw [Bool.and_eq_true] at hoo
  have hx1 : (hh.push { cls := .type "dict", data := .dict #[] }).get? x = some ⟨.ref C, none, .fields arr, sl⟩ := Heap.get?_push_of_some _ hx
  have hxs : x ≠ hh.objs.size := Nat.ne_of_lt (Heap.lt_size hx)
  refine wpAny_bind (wpAny_pure (wpAny_bind (wpAny_bind (wpAny_loadPart hx (wpAny_bind (Looks.here (s := ⟨hh, g, dr, t + 1, os⟩) (looks_clsIn X hc) ?_))))))
  rw [hoo.2]
  refine wpAny_bind (wpAny_alloc' (wpAny_bind (wpAny_update' hx1 (wpAny_pure ?_))))
  have hgd : ((hh.push { cls := .type "dict", data := .dict #[] }).update x fun o => { cls := o.cls, dict := some hh.objs.size, data := o.data, slots := o.slots }).get? hh.objs.size = some { cls := .type "dict", data := .dict #[] } :=
    (Heap.get?_update_ne _ _ _ _ hxs.symm).trans (Heap.get?_push_at rfl rfl)
  have hnd : ((hh.push { cls := .type "dict", data := .dict #[] }).update x fun o => { cls := o.cls, dict := some hh.objs.size, data := o.data, slots := o.slots }).Ns hh.objs.size (fun _ => none) :=
    ⟨_, #[], _, hgd, rfl, fun e he => absurd he (by simp), fun _ => rfl⟩
  show wpAny _ _ (storeInDict hh.objs.size (.str name t) name v) _ _ _
  unfold storeInDict newKeyGuard
  refine wpAny_bind (wpAny_pure (wpAny_bind (wpAny_nsSet1 (Heap.Ns1.of_empty hnd) fun h' hn' hs => ?_)))
  obtain ⟨oD, esD, epD, hoD, hdD, hcD⟩ := hn'.count (Within.cons name v Within.nil)
  refine wpAny_bind (wpAny_lookBehind hoD (by rw [hdD]; exact pastItsLine_dict (Nat.le_trans hcD (by rw [List.length_cons, List.length_nil, sizeLine_eq]; omega))) ?_)
  refine wpAny_pure (h h' ?_ hn' fun b o hb q => ?_)
  · exact (hs.2 x hxs).trans (Heap.get?_update_self _ hx1 rfl)
  · exact (hs.2 b (Nat.ne_of_lt (Heap.lt_size q))).trans ((Heap.get?_update_ne _ _ _ _ hb).trans (Heap.get?_push_of_some _ q))
end
noncomputable def ExcF (C e : Addr) : Heap → Prop := fun h => ∃ arr sl, h.get? e = some ⟨.ref C, none, .fields arr, sl⟩
noncomputable def ExcD (C e d : Addr) : Heap → Prop := fun h => ∃ arr sl, h.get? e = some ⟨.ref C, some d, .fields arr, sl⟩
theorem excF_ok {P : Program} {w : World} {H : Hp} {h : Heap} {C e : Addr} (x : ExcF C e h) : ObjOk P w H h e (.ext (ExcF C e)) := by
  obtain ⟨a, sl, q⟩ := x
  exact ⟨⟨a, sl, q⟩, ⟨_, q⟩, fun h1 h2 ⟨a1, s1, q1⟩ k => ⟨a1, s1, k _ q1⟩⟩
theorem excD_ok {P : Program} {w : World} {H : Hp} {h : Heap} {C e d : Addr} (x : ExcD C e d h) : ObjOk P w H h e (.ext (ExcD C e d)) := by
  obtain ⟨a, sl, q⟩ := x
  exact ⟨⟨a, sl, q⟩, ⟨_, q⟩, fun h1 h2 ⟨a1, s1, q1⟩ k => ⟨a1, s1, k _ q1⟩⟩
section
variable {X : Cx} {pins : List (Addr × Obj)} {σ : St} {H : Hp} {s : Shared} {e C d : Addr} {f : Str} {v : V} {u : Value} {A : Around} {E : Value → Shared → Prop}
theorem setx_ok {Q : Unit → Shared → Prop} (I : Inv X pins σ H s) (he : H e = some (.ext (ExcF C e))) (F : AtC X.K C f) (rv : RelV v u)
    (h : ∀ s' d, H d = none → d ≠ e → Inv X pins σ (upd (upd H d (.xd [(f, v)])) e (.ext (ExcD C e d))) s' → Q () s') : wpAny (model X.prog X.w) A (setAttr (.ref e) f u) Q E s := by
  obtain ⟨arr, sl, hx⟩ := (I.hok _ _ he).1
  refine exc_set I.kIn hx F fun h' h1 h2 h3 => ?_
  have hf := I.hok.fresh (Nat.le_refl s.heap.objs.size)
  have ne : s.heap.objs.size ≠ e := Nat.ne_of_gt (Heap.lt_size hx)
  obtain ⟨oD, es, ep, hoD, r⟩ := id h2
  have e1 : (s.heap.push oD).get? s.heap.objs.size = some oD := Heap.get?_push_at rfl (Heap.get?_some_iff.mp hoD).2
  refine h _ s.heap.objs.size hf ne ?_
  have I1 := I.laid (a := s.heap.objs.size) (o := .xd [(f, v)]) (h' := s.heap.push oD) (t' := s.toks) (fun b q z => Heap.get?_push_of_some _ z) (Nat.le_refl _) ⟨_, ⟨oD, es, ep, e1, r⟩, fun g => by
    show RelO (List.lookup g [(f, v)]) (if g = f then some u else none)
    rw [List.lookup_cons]
    by_cases z : g = f
    · rw [z, if_pos rfl, beq_self_eq_true]; exact rv
    · rw [if_neg z, beq_false_of_ne z]; exact True.intro⟩
  refine I1.write (x := e) (e := e) (by rw [upd_ne ne.symm, he]; exact True.intro) (.inl rfl) (fun b q hb z => ?_) ⟨_, h1⟩ (excD_ok ⟨arr, sl, h1⟩)
  by_cases zb : b = s.heap.objs.size
  · rw [zb] at z ⊢
    rw [e1] at z
    rw [← z]
    exact hoD
  · exact h3 b q hb (by rw [← Heap.get?_push_ne _ _ _ zb]; exact z)
theorem getx_ok {b : Bool} {fs : List (Str × V)} {Q : Value → Shared → Prop} (I : Inv X pins σ H s) (he : H e = some (.ext (ExcD C e d))) (hd : H d = some (.xd fs)) (F : AtC X.K C f) (l : fs.lookup f = some v)
    (h : ∀ u s', Inv X pins σ H s' → RelV v u → Q u s') : wpAny (model X.prog X.w) A (getAttr (.ref e) f b) Q E s := by
  obtain ⟨arr, sl, hx⟩ := (I.hok _ _ he).1
  obtain ⟨mA, hn, r⟩ := (show ObjOk X.prog X.w H s.heap d (.xd fs) from I.hok _ _ hd)
  obtain ⟨u, hu, ru⟩ := RelO.some_of (v := v) (o := mA f) (by rw [← l]; exact r f)
  obtain ⟨od, ho, hl⟩ := lookIn_ns hn
  obtain ⟨cd, hc, hoo⟩ := any_some F.over
  rw [Bool.and_eq_true] at hoo
  have hh : hasDictIn X.K C = true := by unfold hasDictIn; rw [hc]; exact hoo.2
  have J : InstAt s.heap e ⟨.ref C, some d, .fields arr, sl⟩ C (some od) := ⟨hx, rfl, rfl, ho⟩
  exact ask_value F.get I.kIn J.type (looks_find I.kIn J (findObj_own hh F.no rfl (by rw [hl, hu]))) (handed_of ru) (h u _ (I.tok _) ru)
end
noncomputable def sXset (K : Frag) (ta tv : TE) (f : Str) : TS := fun D σ H => tv σ H fun y H1 => ta σ H1 fun x H2 => ∃ e C, x = .ref e ∧ H2 e = some (.ext (ExcF C e)) ∧ AtC K C f ∧
  ∀ d, H2 d = none → d ≠ e → D.nx σ (upd (upd H2 d (.xd [(f, y)])) e (.ext (ExcD C e d)))
noncomputable def tXget (K : Frag) (ta : TE) (f : Str) : TE := fun σ H Q => ta σ H fun x H1 => ∃ e C d fs v, x = .ref e ∧ H1 e = some (.ext (ExcD C e d)) ∧ H1 d = some (.xd fs) ∧ AtC K C f ∧ fs.lookup f = some v ∧ Q v H1
section
variable {X : Cx} {o value : Expr} {ta tv : TE} {f : Str} {pos pos' : Pos}
theorem qs_xset (ha : QE X o ta) (hv : QE X value tv) (hs : swapsWith value (some (.Attribute o f pos')) pos.line X.env = pure false) : QS X (.Assign [.Attribute o f pos'] value pos) (sXset X.K ta tv f) := by
  refine ⟨fun pins s σ H D I h => ?_⟩
  refine plainObj_wpAny_Assign_Attribute (thn (hv.out pins s σ H _ I h) fun u s1 ⟨y, H1, I1, ry, q⟩ => thn (ha.out pins s1 σ H1 _ I1 q) fun ov s2 ⟨x, H2, I2, rx, e, C, ex, he, F, q2⟩ => ?_) hs
  subst ex
  cases rx
  exact setx_ok I2 he F ry fun s3 d hd ne I3 => ⟨σ, _, I3, q2 d hd ne⟩
theorem qe_xget (ha : QE X o ta) (hb : attributeBase o f X.env (eval o X.env) = eval o X.env) : QE X (.Attribute o f pos) (tXget X.K ta f) := by
  refine ⟨fun pins s σ H Q I h => ?_⟩
  refine attr_of hb (thn (ha.out pins s σ H _ I h) fun u s1 ⟨x, H1, I1, rx, e, C, d, fs, v, ex, he, hd, F, l, q⟩ => ?_)
  subst ex
  cases rx
  exact getx_ok I1 he hd F l fun u' s2 I2 ru => ⟨v, H1, I2, ru, q⟩
end
end L2

set_option Elab.async false
set_option linter.all false
set_option maxRecDepth 100000
set_option maxHeartbeats 1000000
namespace L2
open PySem PySem.Spec PyProof.Rows PySem.Calls
open PySem.W
noncomputable def excMk (K : Frag) (C : Addr) : Bool := match K.lookup C with
  | some ⟨.type "type", _, .cls kd, sm⟩ => (match kd.mro, sm.toList with
    | .ref C' :: tl, [_, _, _, _, some (.builtin n), _] => C' == C && (n == "ValueError.__new__" && (!kd.hasDel && tailIn K bmVE tl))
    | _, _ => false)
  | _ => false
theorem excMk_of {K : Frag} {h : Heap} {C : Addr} (X : K.In h) (q : excMk K C = true) : ∃ nm qn N bs tl hd sn sub ab col dd k0 k1 k2 k3 k5, h.get? C = some (excClassObj nm qn C N bs tl hd sn sub ab col dd k0 k1 k2 k3 k5 "ValueError.__new__") ∧ OwnTail h bmVE tl := by
  unfold excMk at q
  split at q
  · rename_i dd kd sm ho
    split at q
    · rename_i C' tl k0 k1 k2 k3 n k5 hm hs
      rw [Bool.and_eq_true, Bool.and_eq_true, Bool.and_eq_true, beq_iff_eq, beq_iff_eq, Bool.not_eq_true'] at q
      obtain ⟨rfl, rfl, hdel, ht⟩ := q
      obtain ⟨nm, bs, mro, ns, qn, hd, sn, sub, ab, col, del⟩ := kd
      cases hdel
      cases hm
      obtain ⟨l⟩ := sm
      cases hs
      exact ⟨nm, qn, ns, bs, tl, hd, sn, sub, ab, col, dd, k0, k1, k2, k3, k5, X _ _ ho, tail_of_in X ht⟩
    · cases q
  · cases q
section
variable {prog : Program} {w : World} {A : Around} {E : Value → Shared → Prop} {hh : Heap} {g : Array GenState} {dr : Drawn} {t : Nat} {os : OsState} {K : Frag}
variable {nm q : Str} {C N fI : Addr} {bs tl : List Value} {hdct : Bool} {sn : List Str} {sub : List Value} {ab : Bool} {col : Option Bool} {dd : Option Addr} {k0 k1 k2 k3 k5 : Option Value}
theorem made_init {rest : List Value} {Q : Fin → Shared → Prop} (X : K.In hh) (T : OwnTail hh bmVE tl) (hC : hh.get? C = some (excClassObj nm q C N bs tl hdct sn sub ab col dd k0 k1 k2 k3 k5 "ValueError.__new__"))
    (hi : findIn K (.ref C) "__init__" = some (some (.ref fI))) (hf : typeIn K (.ref fI) = some (.type "function")) (hr : rest.length ≤ sizeLine)
    (hq : ∀ h' e, Heap.MadeExcOf hh h' e (.ref C) rest → wpAny (model prog w) A (call (.ref fI) (.ref e :: rest)) (fun r s' => r = .none ∧ Q (.done (.ret (.ref e))) s') E ⟨h', g, dr, t, os⟩) :
    wpAny (model prog w) A (Builtin.«type.__call__» ⟨.ref C :: rest, []⟩) Q E ⟨hh, g, dr, t, os⟩ := by
  have Fn := PySem.F.excBase_ValueError
  repeat (first | with_reducible refine wpAny_loadPart_at hC ?_ | with_reducible refine wpAny_madeBy_exc hC ?_ | wp_step)
  refine codeAny_call_builtin_code (Code.quiet_builtin _ Fn.quiet) (wpAny_check_new_subU Fn rfl T hC (codeAny_exc_new_subU Fn rfl Fn T hC ?_ hr))
  show wpAny _ _ _ _ _ _
  generalize hb : ((hh.push { cls := .type "tuple", data := .seq rest.toArray }).push { cls := .ref C, data := .fields #[.ref hh.objs.size, .none, .none, .none, .bool false, .none] }) = hN
  have keep : ∀ b o, hh.get? b = some o → hN.get? b = some o := fun b o z => by rw [← hb]; exact Heap.get?_push_of_some _ (Heap.get?_push_of_some _ z)
  have there : hN.get? (hh.objs.size + 1) = some { cls := .ref C, data := .fields #[.ref hh.objs.size, .none, .none, .none, .bool false, .none] } := by rw [← hb]; heap_get
  have tup : hN.get? hh.objs.size = some { cls := .type "tuple", data := .seq rest.toArray } := by rw [← hb]; exact Heap.get?_push_of_some _ (Heap.get?_push_at rfl rfl)
  have hC1 := keep _ _ hC
  have X1 : K.In hN := X.keeps keep
  have isC : (Value.ref C :: tl).contains (.ref C) = true := by simp
  unfold isInstance
  repeat (first | with_reducible refine wpAny_loadPart_at there ?_ | (with_reducible refine wpAny_isSubtype_exc hC1 ?_; rw [isC]) | wp_step)
  refine (looks_findIn X1 hi).here (s := ⟨hN, g, dr, t, os⟩) ?_
  refine wpAny_holding (wpAny_bind ((bind_fn X1 _ hf).here (s := ⟨hN, g, dr, t, os⟩) ?_))
  refine wpAny_bind (wpAny_mono (hq hN (hh.objs.size + 1) ⟨keep, Heap.get?_none_of_le (Nat.le_succ _), hh.objs.size, there, Heap.get?_none_of_le (Nat.le_refl _), tup⟩) (fun r s' z => ?_) fun _ _ z => z)
  obtain ⟨rfl, z⟩ := z
  wp_walk
  exact z
theorem made_call {rest : List Value} {Q : Value → Shared → Prop} (X : K.In hh) (T : OwnTail hh bmVE tl) (hC : hh.get? C = some (excClassObj nm q C N bs tl hdct sn sub ab col dd k0 k1 k2 k3 k5 "ValueError.__new__"))
    (hi : findIn K (.ref C) "__init__" = some (some (.ref fI))) (hf : typeIn K (.ref fI) = some (.type "function")) (hr : rest.length ≤ sizeLine)
    (hq : ∀ h' e, Heap.MadeExcOf hh h' e (.ref C) rest → wpAny (model prog w) (A.under (.builtin "type.__call__" ⟨.ref C :: rest, []⟩)) (call (.ref fI) (.ref e :: rest)) (fun r s' => r = .none ∧ Q (.ref e) s') E ⟨h', g, dr, t, os⟩) :
    wpAny (model prog w) A (call (.ref C) rest) Q E ⟨hh, g, dr, t, os⟩ := by
  have z1 := tc_lookup
  have z2 := tc_bind (.ref C)
  have z3 : (⟨hh, g, dr, t, os⟩ : Shared).TypeIs (.ref C) "type" := ⟨_, hC, rfl⟩
  refine wpAny_call (codeAny_of_tree ?_)
  show wpAny _ _ (callAny (.ref C) _) _ _ _
  repeat (any_goals (first | assumption | with_reducible refine wpAny_loadPart_at hC ?_ | wp_step))
  exact ⟨rfl, codeAny_call_builtin_at (Code.quiet_builtin _ (by decide +kernel)) entry_typeCall (wpAny_check_type_call_sub hC (made_init X T hC hi hf hr hq))⟩
end
end L2

set_option Elab.async false
set_option linter.all false
set_option maxRecDepth 100000
set_option maxHeartbeats 1000000
namespace L2
open PySem PySem.Spec PyProof.Rows PySem.Calls
open PySem.W
theorem Inv.newly {X : Cx} {pins : List (Addr × Obj)} {σ : St} {H : Hp} {s : Shared} {h' : Heap} {e : Addr} {o : HO} (hx : X.ex = []) (I : Inv X pins σ H s) (k : ∀ b u, s.heap.get? b = some u → h'.get? b = some u) (hn : s.heap.get? e = none) (ob : ObjOk X.prog X.w (upd H e o) h' e o) :
    H e = none ∧ Inv X pins σ (upd H e o) { s with heap := h' } := by
  have hHe : H e = none := by
    cases q : H e with
    | none => rfl
    | some u =>
      obtain ⟨o', ho'⟩ := (I.hok e u q).there
      rw [hn] at ho'
      cases ho'
  refine ⟨hHe, (I.kept (t' := s.toks) k).known hHe ?_ (fun z => ?_) (fun x c hc z => ?_) (fun p hp z => ?_) ob⟩
  · cases q : X.s₀.heap.get? e with
    | none => rfl
    | some o0 =>
      obtain ⟨o', ho'⟩ := I.base.there e o0 q (by rw [hx]; exact fun z => nomatch z)
      rw [hn] at ho'
      cases ho'
  · obtain ⟨m, ⟨oL, _, _, hoL, _⟩, _⟩ := I.loc
    rw [← z, hn] at hoL
    cases hoL
  · obtain ⟨w', oc, hoc, _⟩ := I.cell x c hc
    rw [z, hn] at hoc
    cases hoc
  · have := (I.pin p hp).1
    rw [z, hn] at this
    cases this
noncomputable def tXnew (C : Addr) (t : TA) : TE := fun σ H Q => t σ H fun vs H1 => vs.length ≤ sizeLine ∧ ∀ e, H1 e = none → Q (.ref e) (upd H1 e (.ext (ExcOf C e)))
noncomputable def tXmake (C : Addr) (sp : Sp) (t : TA) : TE := fun σ H Q => t σ H fun vs H1 => vs.length ≤ sizeLine ∧ ∀ e, H1 e = none → sp (.ref e :: vs) (upd H1 e (.ext (ExcF C e))) (fun v H2 => v = .non ∧ Q (.ref e) H2) E0
structure MkX (K : Frag) (C f : Addr) : Prop where
  cls : excMk K C = true
  init : findIn K (.ref C) "__init__" = some (some (.ref f))
  fn : typeIn K (.ref f) = some (.type "function")
  kp : keepIn K (.ref C) = true
section
variable {X : Cx} {x : Str} {C f : Addr} {k : Nat} {fd : FuncData} {ps : List Str} {sp : Sp} {p pos : Pos} {e₀ : Expr} {es : List Expr} {t : TA}
theorem qe_xnew (hx : X.ex = []) (hg : Gl X x) (O : OwnV x C X.mg X.base) (kp : keepIn X.K (.ref C) = true) (ha : QA X (e₀ :: es) t) (hdb : (x == ("__debug__" : Str)) = false := by decide)
    (he : starEach (e₀ :: es) X.env = (false, eval e₀ X.env) :: starEach es X.env := by rfl) (hpl : (backTo pos (starEach es X.env)).any (·.1) = false := by rfl) : QE X (.Call (.Name x p) (e₀ :: es) [] pos) (tXnew C t) := by
  refine ⟨fun pins s σ H Q I h => ?_⟩
  obtain ⟨tl, N, nm, q, bs, hdct, sn, sub, ab, col, dd, k0, k1, k2, k3, k5, mN, hC, hN, hni, T⟩ := O.obj
  refine wpAny_Call_Name_kw (ld_glob I hg O.bound ?_ hdb)
  refine callWith_K (h₀ := X.base) I.ok.mod.kin kp (thn (ha.out pos pins s σ H _ I h) fun us s1 ⟨vs, H1, I1, r, hl, q1⟩ => ⟨I1.kIn, ?_⟩) he hpl
  refine wpAny_call_exc_subU PySem.F.excBase_ValueError rfl PySem.F.excBase_ValueError (T.keeps I1.bk) (I1.bk _ _ hC) (hN.keeps I1.bk) hni (fun h' e hm => ?_) (by show us.length ≤ sizeLine; rw [← r.length]; exact hl)
  obtain ⟨tt, ht, _⟩ := hm.there
  obtain ⟨hHe, I2⟩ := I1.newly (e := e) (o := .ext (ExcOf C e)) hx hm.keeps hm.new (excOf_ok ⟨_, ht, rfl⟩)
  exact ⟨.ref e, _, I2, rfl, q1 e hHe⟩
theorem qe_xmake (hx : X.ex = []) (M : MkX X.K C f) (F : FnOk X.prog X.w X.K X.mg X.base CX0 k f fd ps sp) (hr : Room (k + 1) X.A) (hg : Gl X x) (hm : X.mg x = some (.ref C)) (hb : Binds X.K fd ps []) (ha : QA X (e₀ :: es) t)
    (hdb : (x == ("__debug__" : Str)) = false := by decide) (he : starEach (e₀ :: es) X.env = (false, eval e₀ X.env) :: starEach es X.env := by rfl) (hpl : (backTo pos (starEach es X.env)).any (·.1) = false := by rfl) :
    QE X (.Call (.Name x p) (e₀ :: es) [] pos) (tXmake C sp t) := by
  refine ⟨fun pins s σ H Q I h => ?_⟩
  refine wpAny_Call_Name_kw (ld_glob I hg hm ?_ hdb)
  refine callWith_K (h₀ := X.base) I.ok.mod.kin M.kp (thn (ha.out pos pins s σ H _ I h) fun us s1 ⟨vs, H1, I1, r, hl, q1⟩ => ⟨I1.kIn, ?_⟩) he hpl
  obtain ⟨nm, qn, N, bs, tl, hd, sn, sub, ab, col, dd, k0, k1, k2, k3, k5, hC, T⟩ := excMk_of I1.kIn M.cls
  refine made_call I1.kIn T hC M.init M.fn (by show us.length ≤ sizeLine; rw [← r.length]; exact hl) fun h' e hmade => ?_
  obtain ⟨tt, ht, _⟩ := hmade.there
  obtain ⟨hHe, I2⟩ := I1.newly (e := e) (o := .ext (ExcF C e)) hx hmade.keeps hmade.new (excF_ok ⟨_, _, ht⟩)
  have hq := q1 e hHe
  have r2 : Vals (V.ref e :: vs) (Value.ref e :: us) := .cons rfl r
  have hl2 : (Value.ref e :: us).length = ps.length := by rw [← r2.length]; exact F.len _ _ _ _ hq
  have hb' := hb { s1 with heap := h' } (Value.ref e :: us) I2.kIn (by rw [List.append_nil]; exact hl2)
  rw [List.append_nil] at hb'
  refine wpAny_call (codeAny_mono (F.run _ X.stack _ _ ⟨Value.ref e :: us, []⟩ (Value.ref e :: us) _ _ E0 (hr.make C us []) (I2.env0.make C us []) hb' r2 hq) fun r s' hq' => ?_)
  cases r with
  | error e => exact hq'.elim
  | ok fl =>
    cases fl with
    | ret u =>
      obtain ⟨v, H', I3, rv, ev, q3⟩ := I2.after hq'
      subst ev
      exact ⟨rv, ⟨V.ref e, H', I3, rfl, q3⟩⟩
    | next => exact False.elim hq'
    | brk => exact False.elim hq'
    | cont => exact False.elim hq'
end
end L2

set_option Elab.async false
set_option linter.all false
set_option maxRecDepth 100000
set_option maxHeartbeats 1000000
namespace L2
open PySem PySem.Spec PyProof.Rows PySem.Calls
theorem setGen_toks (s : Shared) (g : Nat) (x : GenState) : (s.setGen g x).toks = s.toks := rfl
theorem runs_toks {M : Model} {Γ : PySem.Ctx} {p : Pos} {t : Sem Fin} {fs : List Frame} {s s' : Shared} {e : End} (h : Runs M Γ p t fs s e s') : s.toks ≤ s'.toks := by
  induction h
  all_goals first
    | exact Nat.le_refl _
    | assumption
    | (rename_i ih; exact Nat.le_trans (Nat.le_succ _) ih)
    | (rename_i ih1 ih2; exact Nat.le_trans ih1 ih2)
    | (rename_i ih1 _ ih2; exact Nat.le_trans ih1 ih2)
    | (rename_i ih1 _ _ ih2; exact Nat.le_trans ih1 ih2)
theorem wakes_toks {M : Model} {Γ : PySem.Ctx} {p : Pos} {g : Nat} {r : Resume} {s s' : Shared} {res : GenResult} (h : Wakes M Γ p g r s res s') : s.toks ≤ s'.toks := by
  unfold Wakes at h
  split at h
  · exact h.elim
  · split at h
    · obtain ⟨_, _, h1, _, _, rfl⟩ := h; (have z := runs_toks h1; rw [setGen_toks] at z ⊢; exact z)
    · rw [h.2]; exact Nat.le_refl _
    · rw [h.2]; exact Nat.le_refl _
  · obtain ⟨_, _, h1, _, _, rfl⟩ := h; (have z := runs_toks h1; rw [setGen_toks] at z ⊢; exact z)
  · rw [h.2]; exact Nat.le_refl _
  · rw [h.2]; exact Nat.le_refl _
theorem wp_toks {α : Type} {M : Model} {Γ : PySem.Ctx} (n : Nat) : ∀ (t : Sem α) (Q : α → Pos → Shared → Prop) (E : Value → Pos → Shared → Prop) (p : Pos) (s : Shared), n ≤ s.toks → Sem.wp M Γ t Q E p s →
    Sem.wp M Γ t (fun a p' s' => Q a p' s' ∧ n ≤ s'.toks) (fun a p' s' => E a p' s' ∧ n ≤ s'.toks) p s := by
  intro t
  induction t <;> intro Q E p s hn h
  all_goals try (simp only [Sem.wp] at h ⊢)
  all_goals first
    | exact ⟨h, hn⟩
    | exact h.elim
    | (rename_i ih; exact ih _ _ _ _ _ hn h)
    | (rename_i ih; exact ih _ _ _ _ _ (Nat.le_trans hn (Nat.le_succ _)) h)
    | (rename_i ih; obtain ⟨o, h1, h2⟩ := h; exact ⟨o, h1, ih _ _ _ _ _ hn h2⟩)
    | (rename_i ih; obtain ⟨h1, h2⟩ := h; exact ⟨h1, ih _ _ _ _ _ hn h2⟩)
    | (rename_i ih; obtain ⟨r, s1, h1, h2⟩ := h; exact ⟨r, s1, h1, ih _ _ _ _ _ (Nat.le_trans hn (runs_toks h1)) h2⟩)
    | (rename_i ih; obtain ⟨r, s1, h1, h2⟩ := h; exact ⟨r, s1, h1, ih _ _ _ _ _ (Nat.le_trans hn (wakes_toks h1)) h2⟩)
theorem wpAny_toks {α : Type} {M : Model} {A : Around} {t : Sem α} {Q : α → Shared → Prop} {E : Value → Shared → Prop} {s : Shared} {n : Nat} (hn : n ≤ s.toks) (h : wpAny M A t Q E s) :
    wpAny M A t (fun a s' => Q a s' ∧ n ≤ s'.toks) (fun e s' => E e s' ∧ n ≤ s'.toks) s := fun Γ p hi => wp_toks n t _ _ p s hn (h Γ p hi)
end L2

set_option Elab.async false
set_option linter.all false
set_option maxRecDepth 100000
set_option maxHeartbeats 1000000
namespace L2
open PySem PySem.Spec PyProof.Rows PySem.Calls
open Builtin Builtin.Str
structure QEp (X : Cx) (e : Expr) (t : TE) : Prop where
  out : ∀ (pins : List (Addr × Obj)) (s : Shared) (σ : St) (H : Hp) (Q : VK), Inv X pins σ H s → 1 ≤ s.toks → t σ H Q → wpAny (model X.prog X.w) X.A (eval e X.env) (EP X pins σ Q) X.xe s
structure QAp (X : Cx) (es : List Expr) (t : TA) : Prop where
  out : ∀ (pos : Pos) (pins : List (Addr × Obj)) (s : Shared) (σ : St) (H : Hp) (Q : List V → Hp → Prop), Inv X pins σ H s → 1 ≤ s.toks → t σ H Q → wpAny (model X.prog X.w) X.A (spliced (backTo pos (starEach es X.env))) (AP X pins σ Q) X.xe s
section
variable {X : Cx} {e b : Expr} {es : List Expr} {te tb : TE} {t : TA}
theorem thn2 {α β : Type} {M : Model} {A : Around} {E : Value → Shared → Prop} {m : Sem α} {Q : α → Shared → Prop} {R : α → Shared → Prop} {s : Shared} (hn : 1 ≤ s.toks) (h : wpAny M A m Q E s) (k : ∀ a s', Q a s' → 1 ≤ s'.toks → R a s') : wpAny M A m R E s :=
  wpAny_mono (wpAny_toks hn h) (fun a s' z => k a s' z.1 z.2) fun _ _ z => z.1
theorem qap_of (h : QA X es t) : QAp X es t := ⟨fun pos pins s σ H Q I _ q => h.out pos pins s σ H Q I q⟩
theorem qap_c (ha : QE X e te) (hr : QAp X es t) (hp : plainE e = true := by rfl) : QAp X (e :: es) (tCons te t) := by
  refine ⟨fun pos pins s σ H Q I hn h => ?_⟩
  rw [starEach_plain hp]
  refine Calls.spliced_cons (thn2 (β := Unit) hn (ha.out pins s σ H _ I h) fun u s1 ⟨x, H1, I1, r1, q1⟩ n1 => ?_)
  exact thn (hr.out pos pins s1 σ H1 _ I1 n1 q1) fun us s2 ⟨xs, H2, I2, r2, q2⟩ => ⟨x :: xs, H2, I2, .cons r1 r2, q2⟩
theorem qap_p (ha : QEp X e te) (hr : QAp X es t) (hp : plainE e = true := by rfl) : QAp X (e :: es) (tCons te t) := by
  refine ⟨fun pos pins s σ H Q I hn h => ?_⟩
  rw [starEach_plain hp]
  refine Calls.spliced_cons (thn2 (β := Unit) hn (ha.out pins s σ H _ I hn h) fun u s1 ⟨x, H1, I1, r1, q1⟩ n1 => ?_)
  exact thn (hr.out pos pins s1 σ H1 _ I1 n1 q1) fun us s2 ⟨xs, H2, I2, r2, q2⟩ => ⟨x :: xs, H2, I2, .cons r1 r2, q2⟩
theorem qa_firstS {c : Str} {j : Nat} {p pos' : Pos} {op : Operator} {r : R2} (ho : OpR X (binaryOp op) r) (hb : QE X b tb) (hr : QAp X es t) : QA X (.BinOp (.Constant (.str c) j p) op b pos' :: es) (tCons (tOp r (tC (.str c)) tb) t) := by
  refine ⟨fun pos pins s σ H Q I h => ?_⟩
  rw [starEach_plain rfl]
  refine Calls.spliced_cons (wpAny_BinOp (Calls.Constant_str ?_))
  have n0 : 1 ≤ ({ s with toks := s.toks + 1 } : Shared).toks := Nat.succ_le_succ (Nat.zero_le _)
  refine thn2 (β := Unit) n0 (hb.out pins _ σ H _ (I.tok _) h) fun u s1 ⟨y, H1, I1, r1, q1⟩ n1 => ?_
  refine thn2 (β := Unit) n1 (ho pins s1 σ H1 (.str c) y _ u _ I1 ⟨_, rfl⟩ r1 q1) fun u2 s2 ⟨x, H2, I2, r2, q2⟩ n2 => ?_
  exact thn (hr.out pos pins s2 σ H2 _ I2 n2 q2) fun us s3 ⟨xs, H3, I3, r3, q3⟩ => ⟨x :: xs, H3, I3, .cons r2 r3, q3⟩
end
theorem gives_replace1 (x y z : Str) (t u v k : Tok) (hyz : (y == z) = false) (h0 : (u == 0 || v == 0) = false) (huv : (u == v) = false) (hy : (y.length == 0) = false)
    (hl : tooLong (x.length + (occurrences x y 0 x.length 1).length * z.length) = false) :
    Gives («str.replace» ⟨[.str x t, .str y u, .str z v, .int 1 k], []⟩) (if (occurrences x y 0 x.length 1).isEmpty = true then .val (.str x t) else .str (glued z (partsBetween x (occurrences x y 0 x.length 1) y.length))) := by
  show Gives (if ((occurrences x y 0 x.length 1).isEmpty || (y.length == 0 && z.length == 0)) = true then (do rule "str.replace.nothing"; ret (.str x t)) else
      (do let b ← isSame (.str y u) (.str z v); if b = true then (do rule "str.replace.old-is-new"; ret (.str x t)) else if tooLong (x.length + (occurrences x y 0 x.length 1).length * z.length) = true then unsupported "str.replace:memory" else retStr (glued z (partsBetween x (occurrences x y 0 x.length 1) y.length)))) _
  rw [hy, Bool.false_and, Bool.or_false]
  cases hc : (occurrences x y 0 x.length 1).isEmpty
  · rw [isSame_str_other y z u v h0 huv hyz, hl]
    exact .of_eq rfl
  · exact .rule (.of_eq rfl)
noncomputable def repl1 (x y z : Str) : Str := if (occurrences x y 0 x.length 1).isEmpty = true then x else glued z (partsBetween x (occurrences x y 0 x.length 1) y.length)
noncomputable def tRepl1 (y z : Str) (to : TE) : TE := fun σ H Q => to σ H fun v H1 => ∃ x, v = .str x ∧ x.length + z.length ≤ 1000000 ∧ (repl1 x y z).length ≤ 1000000 ∧ Q (.str (repl1 x y z)) H1
section
variable {X : Cx} {o : Expr} {to : TE} {y z : Str} {j1 j2 j3 : Nat} {p1 p2 p3 apos cpos : Pos}
theorem qep_repl1 (ho : QE X o to) (hyz : (y == z) = false := by decide) (hy : (y.length == 0) = false := by decide) (hbase : attributeBase o "replace" X.env (eval o X.env) = eval o X.env := by rfl) (hline : (apos.endLine == cpos.line) = true := by rfl) :
    QEp X (.Call (.Attribute o "replace" apos) [.Constant (.str y) j1 p1, .Constant (.str z) j2 p2,   .Constant (.int 1) j3 p3] [] cpos) (tRepl1 y z to) := by
  refine ⟨fun pins s σ H Q I hn h => ?_⟩
  refine wpAny_Call_method_late hbase rfl hline rfl (thn2 (β := Unit) hn (ho.out pins s σ H _ I h) fun v s1 ⟨x, H1, I1, r1, w, ew, l1, l2, q1⟩ n1 => ?_)
  subst ew
  obtain ⟨tk, rfl⟩ := r1
  refine ⟨"str", "str.replace", PySem.F.plainAttrs_str, PySem.F.slot_str_replace, PySem.F.type_str_replace, typeIs_str _ _ _, (fun _ z => nomatch z), ?_⟩
  refine Calls.callWith_builtin rfl (Calls.evalArgs_plain (Calls.spliced_cons (Calls.Constant_str (k := j1) (pos := p1) (Calls.spliced_cons (Calls.Constant_str (k := j2) (pos := p2) (Calls.spliced_cons (wpAny_Constant_int (k := j3) (pos := p3) (Calls.spliced_nil ?_))))))))
  have hocc := StrLaws.occ_length_le w y 0 w.length 1
  have hml : (occurrences w y 0 w.length 1).length * z.length ≤ 1 * z.length := Nat.mul_le_mul_right _ hocc
  refine call_gives PySem.F.slot_str_replace (typeIs_str _ _ _) PySem.F.entry_str_replace (PySem.F.args_str_replace_4 _ _ _ _) (gives_replace1 w y z _ _ _ _ hyz ?_ ?_ hy ?_) ?_
  · show (s1.toks == 0 || s1.toks + 1 == 0) = false
    rw [beq_false_of_ne (by omega), beq_false_of_ne (by omega)]; rfl
  · show (s1.toks == s1.toks + 1) = false
    exact beq_false_of_ne (by omega)
  · unfold tooLong
    rw [sizeLine_eq]
    exact decide_eq_false (by omega)
  · unfold repl1 at l2 q1
    split
    · rename_i hc
      rw [if_pos hc] at q1
      exact ⟨V.str _, H1, I1.tok _, ⟨_, rfl⟩, q1⟩
    · rename_i hc
      rw [if_neg hc] at q1 l2
      exact ⟨by rw [sizeLine_eq]; omega, V.str _, H1, I1.tok _, ⟨_, rfl⟩, q1⟩
end
end L2

set_option Elab.async false
set_option linter.all false
set_option maxRecDepth 100000
set_option maxHeartbeats 1000000
namespace L2
open PySem PySem.Spec PyProof.Rows PySem.Calls
open Builtin Builtin.Str
noncomputable def tFsR (c : Str) (ta : TE) : TE := fun σ H Q => ta σ H fun v H1 => ∃ x, v = .str x ∧ c.length + (reprText x).length ≤ 1000000 ∧ Q (.str (c ++ reprText x)) H1
section
variable {X : Cx} {e : Expr} {ta : TE} {c : Str} {j : Nat} {p1 p2 pos : Pos}
theorem len_cat (a b : Str) : (a ++ b).length = a.length + b.length := strLen_append a b
theorem qe_fsR (ha : QE X e ta) (hc : c.length ≤ 1000 := by decide) : QE X (.JoinedStr [.Constant (.str c) j p1, .FormattedValue e 114 none p2] pos) (tFsR c ta) := by
  refine ⟨fun pins s σ H Q I h => wpAny_JoinedStr (Calls.Constant_str (k := j) (pos := p1) ⟨c, _, rfl, ?_, ?_⟩)⟩
  · rw [len_cat, sizeLine_eq]
    show 0 + c.length ≤ _
    omega
  · refine wpAny_FormattedValue_repr (thn (ha.out pins _ σ H _ (I.tok _) h) fun v s1 ⟨x, H1, I1, r1, y, ey, hl, q1⟩ => ?_)
    subst ey
    obtain ⟨tk, rfl⟩ := r1
    have l1 : (reprText y).length ≤ sizeLine := by rw [sizeLine_eq]; omega
    have l2 : (Str.empty ++ c ++ reprText y).length ≤ sizeLine := by
      rw [len_cat, len_cat, sizeLine_eq]
      show 0 + c.length + _ ≤ _
      omega
    have e2 : Str.empty ++ c ++ reprText y = c ++ reprText y := by
      show (⟨(#[] ++ c.cps) ++ (reprText y).cps⟩ : Str) = ⟨c.cps ++ (reprText y).cps⟩
      rw [Array.empty_append]
    refine wpAny_pyReprObj_str (wpAny_formatField_str ?_ ?_ l1) l1
    · exact ⟨_, _, rfl, l2, l2, V.str _, H1, I1.tok _, ⟨_, rfl⟩, by rw [e2]; exact q1⟩
    · exact ⟨_, _, rfl, l2, l2, V.str _, H1, I1.tok _, ⟨_, rfl⟩, by rw [e2]; exact q1⟩
end
noncomputable def rInsert : V → List V → Hp → VK → Prop := fun x vs H Q => ∃ l xs i y, x = .ref l ∧ vs = [.int i, y] ∧ H l = some (.lst xs) ∧ 0 ≤ i ∧ i < 2 ^ 63 ∧ xs.length < 1000000 ∧ Q .non (upd H l (.lst (xs.take i.toNat ++ y :: xs.drop i.toNat)))
section
variable {X : Cx}
theorem mt_insert : MtM X "list.insert" rInsert := by
  intro pins s σ H x vs v us Q I rx rv h
  obtain ⟨l, xs, i, y, rfl, rfl, hH, h1, h2, hlen, q⟩ := h
  cases rx
  obtain ⟨u, u', rfl, ru, ru'⟩ := vals2 rv
  obtain ⟨t, rfl⟩ := ru
  obtain ⟨z, its, n, r, hl, e⟩ := I.lstM hH
  refine call_meets PySem.F.slot_list_insert ⟨_, e, rfl⟩ PySem.F.entry_list_insert (PySem.F.args_list_insert_3 _ _ _)
    (AutoListH.list_insert_list_int_val_1 l its.toArray n i t u' (by rw [fitsIndex_both (by omega) h2]; decide) (by rw [List.size_toArray, sizeLine_eq]; omega)) ⟨e, ?_⟩
  refine ⟨.non, _, I.lset (its' := its.take i.toNat ++ u' :: its.drop i.toNat) hH e ?_ ?_ ?_, rfl, q⟩
  · show (let k := if i < 0 then (i + ((its.toArray.size : Nat) : Int)).toNat else min i.toNat its.toArray.size; (its.toArray.extract 0 k).push u' ++ its.toArray.extract k) = _
    rw [if_neg (by omega)]
    apply Array.ext'
    simp only [List.size_toArray, Array.toList_append, Array.toList_push, Array.toList_extract, List.extract_eq_take_drop, List.drop_zero, Nat.sub_zero]
    by_cases hk : i.toNat ≤ its.length
    · rw [Nat.min_eq_left hk, List.take_of_length_le (l := List.drop i.toNat its) (by rw [List.length_drop]; omega)]
      simp
    · rw [Nat.min_eq_right (by omega), List.take_of_length_le (Nat.le_refl _), List.take_of_length_le (l := its) (i := i.toNat) (by omega), List.drop_eq_nil_of_le (i := i.toNat) (by omega), List.drop_eq_nil_of_le (i := its.length) (Nat.le_refl _)]
      simp
  · exact (r.take _).append (.cons ru' (r.drop _))
  · rw [List.length_append, List.length_cons, List.length_take, List.length_drop, sizeLine_eq]
    omega
end
end L2

set_option Elab.async false
set_option linter.all false
set_option maxRecDepth 100000
set_option maxHeartbeats 1000000
namespace L2
open PySem PySem.Spec PyProof.Rows PySem.Calls
open PySem.W
noncomputable def excNo (K : Frag) (C : Addr) : Bool := excMk K C && (match K.lookup C with
  | some ⟨_, _, .cls kd, _⟩ => nsOkIn K kd.ns && nsIn K kd.ns "__init__" == some none
  | _ => false)
theorem ownV_of {K : Frag} {h : Heap} {mg : Str → Option Value} {x : Str} {C : Addr} (X : K.In h) (m : mg x = some (.ref C)) (q : excNo K C = true) : OwnV x C mg h := by
  refine ⟨m, ?_⟩
  unfold excNo at q
  rw [Bool.and_eq_true] at q
  obtain ⟨q1, q2⟩ := q
  obtain ⟨nm, qn, N, bs, tl, hd, sn, sub, ab, col, dd, k0, k1, k2, k3, k5, hC, T⟩ := excMk_of X q1
  split at q2
  · rename_i c0 d0 kd s0 ho
    rw [Bool.and_eq_true, beq_iff_eq] at q2
    have e := (X _ _ ho).symm.trans hC
    cases e
    exact ⟨tl, N, nm, qn, bs, hd, sn, sub, ab, col, dd, k0, k1, k2, k3, k5, _, hC, .of_isNs (isNs_of_in X q2.1), nsMap_none_of_in X q2.1 q2.2, T⟩
  · cases q2
noncomputable def belowIn (K : Frag) (C D : Addr) : Bool := excMk K C && (match K.lookup C with
  | some ⟨_, _, .cls kd, _⟩ => kd.mro.contains (.ref D)
  | _ => false)
theorem below_of {K : Frag} {h : Heap} {C D : Addr} (X : K.In h) (q : belowIn K C D = true) : Below2 h C D := by
  unfold belowIn at q
  rw [Bool.and_eq_true] at q
  obtain ⟨q1, q2⟩ := q
  obtain ⟨nm, qn, N, bs, tl, hd, sn, sub, ab, col, dd, k0, k1, k2, k3, k5, hC, T⟩ := excMk_of X q1
  split at q2
  · rename_i c0 d0 kd s0 ho
    have e := (X _ _ ho).symm.trans hC
    cases e
    exact ⟨nm, qn, N, bs, tl, hd, sn, sub, ab, col, dd, k0, k1, k2, k3, k5, _, hC, q2⟩
  · cases q2
noncomputable def cl3In (K : Frag) (C : Addr) : Bool := exGet K C && (findIn K (.ref C) "__class__" == some (some (.builtin "object.__class__")) && (specialIn K (.builtin "object.__class__") "__get__" == some (some (.builtin "getset_descriptor.__get__"))
  && (takesIn K (.builtin "object.__class__") == some true && (mroIn K C (.type "object") == some true && (clsIn K C).isSome))))
theorem cl3_of {K : Frag} {C : Addr} (q : cl3In K C = true) : Cl3 K C := by
  unfold cl3In at q
  rw [Bool.and_eq_true, Bool.and_eq_true, Bool.and_eq_true, Bool.and_eq_true, Bool.and_eq_true] at q
  exact ⟨q.1, beq_iff_eq.mp q.2.1, beq_iff_eq.mp q.2.2.1, beq_iff_eq.mp q.2.2.2.1, beq_iff_eq.mp q.2.2.2.2.1, q.2.2.2.2.2⟩
noncomputable def atIn (K : Frag) (C : Addr) (f : Str) : Bool := ((clsIn K C).any fun cd => onlyVE cd.mro && cd.hasDict) && (findIn K (.ref C) "__setattr__" == some (some (.builtin "object.__setattr__")) && (exGet K C && findIn K (.ref C) f == some none))
theorem at_of {K : Frag} {C : Addr} {f : Str} (q : atIn K C f = true) : AtC K C f := by
  unfold atIn at q
  rw [Bool.and_eq_true, Bool.and_eq_true, Bool.and_eq_true] at q
  exact ⟨q.1, beq_iff_eq.mp q.2.1, q.2.2.1, beq_iff_eq.mp q.2.2.2⟩
noncomputable def mkIn (K : Frag) (C f : Addr) : Bool := excMk K C && (findIn K (.ref C) "__init__" == some (some (.ref f)) && (typeIn K (.ref f) == some (.type "function") && keepIn K (.ref C)))
theorem mk_of {K : Frag} {C f : Addr} (q : mkIn K C f = true) : MkX K C f := by
  unfold mkIn at q
  rw [Bool.and_eq_true, Bool.and_eq_true, Bool.and_eq_true] at q
  exact ⟨q.1, beq_iff_eq.mp q.2.1, beq_iff_eq.mp q.2.2.1, q.2.2.2⟩
noncomputable def clsBody : Stmt → List Stmt
  | .ClassDef _ _ _ b .. => b
  | _ => []
noncomputable def clsDef (s : Stmt) (i : Nat) : Stmt := (clsBody s).getD i (.Pass ⟨0, 0, 0, 0⟩)
theorem qg_pairS {X : Cx} {a b i j : Expr} {p1 p2 pos : Pos} {k : Nat} {t1 t2 : TG} (hc : X.calm = true) (h1 : QG X (.Subscript a i p1) t1) (h2 : QG X (.Subscript b j p2) t2) : QG X (.Tuple [.Subscript a i p1, .Subscript b j p2] k pos) (gTup X.K 2 (gCons t1 (gCons t2 gNil))) :=
  ⟨pg_tup hc (pgs_cons h1.out (pgs_cons h2.out pgs_nil))⟩
end L2

set_option Elab.async false
set_option linter.all false
set_option maxRecDepth 100000
set_option maxHeartbeats 1000000
namespace L2
open PySem PySem.Spec PyProof.Rows PySem.Calls
theorem bt_ValueError : bootBuiltins "ValueError" = some (.type "ValueError") := by decide +kernel
theorem comp_strF {x : Str} {is : List Nat} {tc : TT} {te : TE} {σ : St} {H : Hp} {Q : VK} (p : Nat → Bool) (hz : x.cps.size ≤ sizeLine)
    (hc : ∀ c ∈ x.cps.toList, ∀ R : Bool → Hp → Prop, R (p c) H → tc (selS is σ (some (.str ⟨#[c]⟩))) H R)
    (he : ∀ c ∈ x.cps.toList, ∀ R : VK, R (.str ⟨#[c]⟩) H → te (selS is σ (some (.str ⟨#[c]⟩))) H R)
    (hd : ∀ l, H l = none → Q (.ref l) (upd H l (.lst ((x.cps.toList.filter p).map fun c => V.str ⟨#[c]⟩)))) : CompW is tc te σ Q (Its x) H := by
  refine ⟨fun i m zs H' => m = x.cps.size - i ∧ i ≤ x.cps.size ∧ zs = ((x.cps.toList.take i).filter p).map (fun c => V.str ⟨#[c]⟩) ∧ H' = H, ⟨x.cps.size, by simp, Nat.zero_le _, rfl, rfl⟩, ?_⟩
  rintro i m zs H' ⟨rfl, hi, rfl, rfl⟩
  have hl : (((x.cps.toList.take i).filter p).map fun c => V.str ⟨#[c]⟩).length ≤ sizeLine := by
    rw [List.length_map]
    refine Nat.le_trans (List.length_filter_le _ _) ?_
    rw [List.length_take]
    omega
  by_cases hlt : i < x.cps.size
  · refine .inr ⟨hlt, hl, fun v H2 y => ?_⟩
    obtain ⟨e, c, hc', rfl⟩ := y
    subst e
    have hc2 : x.cps.toList[i]? = some c := by rw [Array.getElem?_toList]; exact hc'
    have hm := List.mem_of_getElem? hc2
    have e := take_snoc hc2
    refine hc c hm _ ?_
    cases hp : p c with
    | true =>
      refine (if_pos rfl : (if true = true then _ else _) = _) ▸ he c hm _ ⟨x.cps.size - (i + 1), by omega, rfl, hlt, ?_, rfl⟩
      rw [e, List.filter_append, List.map_append, List.filter_cons, if_pos hp]
      rfl
    | false =>
      refine (if_neg Bool.false_ne_true : (if false = true then _ else _) = _) ▸ ⟨x.cps.size - (i + 1), by omega, rfl, hlt, ?_, rfl⟩
      rw [e, List.filter_append, List.map_append, List.filter_cons, if_neg (by rw [hp]; exact Bool.false_ne_true)]
      simp
  · have e : i = x.cps.size := by omega
    refine .inl ⟨e, hl, fun l hl2 => ?_⟩
    rw [List.take_of_length_le (by rw [Array.length_toList]; omega)]
    exact hd l hl2
open Builtin Builtin.Str
theorem sub_part (x : Str) (a c : Nat) : (∀ d ∈ (strSub x a c).cps.toList, d ∈ x.cps.toList) ∧ (strSub x a c).length ≤ x.length := by
  have e : (strSub x a c).cps.toList = (x.cps.toList.drop a).take (c - a) := by
    show (x.cps.extract a c).toList = _
    rw [Array.toList_extract]
  constructor
  · intro d hd
    rw [e] at hd
    exact List.mem_of_mem_drop (List.mem_of_mem_take hd)
  · show (x.cps.extract a c).size ≤ x.cps.size
    rw [Array.size_extract]
    omega
theorem parts_sub (x : Str) (w : Nat) : ∀ (cuts : List Nat) (a : Nat), ∀ p ∈ StrLaws.partsFrom x w a cuts, (∀ d ∈ p.cps.toList, d ∈ x.cps.toList) ∧ p.length ≤ x.length
  | [], a, p, hp => by
    cases List.mem_singleton.mp hp
    exact sub_part x a _
  | c :: r, a, p, hp => by
    rcases List.mem_cons.mp hp with rfl | hp
    · exact sub_part x a c
    · exact parts_sub x w r (c + w) p hp
theorem parts_len (x : Str) (w : Nat) : ∀ (cuts : List Nat) (a : Nat), (StrLaws.partsFrom x w a cuts).length = cuts.length + 1
  | [], _ => rfl
  | c :: r, a => by
    show (StrLaws.partsFrom x w (c + w) r).length + 1 = _
    rw [parts_len x w r]
    rfl
theorem split_sub (x y : Str) : ∀ p ∈ Txt.split x y, (∀ d ∈ p.cps.toList, d ∈ x.cps.toList) ∧ p.length ≤ x.length := by
  intro p hp
  unfold Txt.split at hp
  split at hp
  · cases List.mem_singleton.mp hp
    exact ⟨fun _ h => h, Nat.le_refl _⟩
  · split at hp
    · cases List.mem_singleton.mp hp
      exact ⟨fun _ h => h, Nat.le_refl _⟩
    · rw [StrLaws.partsBetween_eq] at hp
      exact parts_sub x _ _ _ p hp
theorem app_cps (a b : Str) : (a ++ b).cps.toList = a.cps.toList ++ b.cps.toList := by
  show (a.cps ++ b.cps).toList = _
  rw [Array.toList_append]
theorem join_mem (sep : Str) : ∀ (ps : List Str) (d : Nat), d ∈ (Str.join sep ps).cps.toList → d ∈ sep.cps.toList ∨ ∃ p ∈ ps, d ∈ p.cps.toList
  | [], d, h => by
    have h' : d ∈ ([] : List Nat) := h
    cases h'
  | [x], d, h => .inr ⟨x, List.mem_singleton.mpr rfl, h⟩
  | x :: y :: r, d, h => by
    have h' : d ∈ (x ++ sep ++ Str.join sep (y :: r)).cps.toList := h
    rw [app_cps, app_cps] at h'
    rcases List.mem_append.mp h' with h1 | h1
    · rcases List.mem_append.mp h1 with h2 | h2
      · exact .inr ⟨x, List.mem_cons_self, h2⟩
      · exact .inl h2
    · rcases join_mem sep (y :: r) d h1 with h2 | ⟨p, hp, h2⟩
      · exact .inl h2
      · exact .inr ⟨p, List.mem_cons_of_mem _ hp, h2⟩
theorem join_len (sep : Str) (n : Nat) : ∀ (ps : List Str), (∀ p ∈ ps, p.length ≤ n) → (Str.join sep ps).length ≤ (n + sep.length) * ps.length
  | [], _ => Nat.zero_le _
  | [x], h => by
    show x.length ≤ _
    have := h x (List.mem_singleton.mpr rfl)
    rw [List.length_singleton]
    omega
  | x :: y :: r, h => by
    have h1 := join_len sep n (y :: r) fun p hp => h p (List.mem_cons_of_mem _ hp)
    have h2 := h x List.mem_cons_self
    show (x ++ sep ++ Str.join sep (y :: r)).length ≤ _
    rw [len_cat, len_cat, List.length_cons, Nat.mul_succ]
    omega
theorem repl_mem {x y z : Str} {d : Nat} (h : d ∈ (repl1 x y z).cps.toList) : d ∈ x.cps.toList ∨ d ∈ z.cps.toList := by
  unfold repl1 at h
  split at h
  · exact .inl h
  · rw [StrLaws.glued_eq_join, StrLaws.partsBetween_eq] at h
    rcases join_mem z _ d h with h1 | ⟨p, hp, h1⟩
    · exact .inr h1
    · exact .inl ((parts_sub x _ _ _ p hp).1 d h1)
theorem repl_len (x y z : Str) : (repl1 x y z).length ≤ x.length + z.length := by
  unfold repl1
  split
  · omega
  · rename_i hc
    have h1 := StrLaws.occ_length_le x y 0 x.length 1
    rw [StrLaws.glued_eq_join, StrLaws.partsBetween_eq]
    generalize occurrences x y 0 x.length 1 = cuts at *
    match cuts, h1, hc with
    | [], _, hc => exact absurd rfl hc
    | [c], _, _ =>
      show (strSub x 0 c ++ z ++ strSub x (c + y.length) x.length).length ≤ _
      rw [len_cat, len_cat]
      have e1 : (strSub x 0 c).length ≤ c ∧ (strSub x 0 c).length ≤ x.length := by
        show (x.cps.extract 0 c).size ≤ c ∧ (x.cps.extract 0 c).size ≤ x.cps.size
        rw [Array.size_extract]
        omega
      have e2 : (strSub x (c + y.length) x.length).length ≤ x.length - c := by
        show (x.cps.extract (c + y.length) x.cps.size).size ≤ x.cps.size - c
        rw [Array.size_extract]
        omega
      omega
    | _ :: _ :: _, h1, _ => exact absurd h1 (by simp)
theorem split_few (x y : Str) : (Txt.split x y).length ≤ x.length + 2 := by
  unfold Txt.split
  split
  · show 1 ≤ _
    omega
  · split
    · show 1 ≤ _
      omega
    · rw [StrLaws.partsBetween_eq, parts_len]
      have := StrLaws.occ_length_le x y 0 x.length (x.length + 1)
      omega
end L2

set_option Elab.async false
set_option linter.all false
set_option maxRecDepth 100000
set_option maxHeartbeats 1000000
namespace L2
open PySem PySem.Spec PyProof.Rows PySem.Calls
theorem call_lenTx {X : Cx} : CallR X (.builtin "len") (fun xs H Q => ∃ (a : Addr) (S : List Str), xs = [.ref a] ∧ H a = some (TxO X.prog X.w a S) ∧ S.length < 4000 ∧ Q (.int S.length) H) := by
  intro pins s σ H xs us Q I r h
  obtain ⟨a, S, rfl, ha, hl, q⟩ := h
  obtain ⟨u, rfl, rx⟩ := vals1 r
  cases rx
  obtain ⟨o, es, ep, t, ho, hex, hd, hE, hperm, hfit, hled, _⟩ := (I.hok _ _ ha).1
  have hlen : es.size = S.length := by
    have := hperm.length_eq
    rw [List.length_map, Array.length_toList] at this
    exact this
  refine call_len_set ho hex hd hfit (by rw [hlen]; omega) ?_
  rw [hlen]
  exact ⟨.int S.length, H, I.tok _, ⟨_, rfl⟩, q⟩
end L2

set_option Elab.async false
set_option linter.all false
set_option maxRecDepth 100000
set_option maxHeartbeats 1000000
namespace L2
open PySem PySem.Spec PyProof.Rows PySem.Calls
noncomputable def Stb (φ : Obj → Prop) : Prop := ∀ o v, φ o → φ (Obj.mapFields (·.setIfInBounds 1 v) o)
noncomputable def TrX (h B : Heap) (e : Addr) (φ : Obj → Prop) (fl : Value) : Prop :=
  ∃ oe vs T oT ts, h.get? e = some oe ∧ φ oe ∧ oe.data = .fields vs ∧ vs[1]? = some (.ref T) ∧ B.get? T = none ∧ T ≠ e ∧ h.get? T = some oT ∧ oT.data = .fields ts ∧ ts[3]? = some fl
noncomputable def FlyX (B : Heap) (l : List Env) (e : Addr) (φ : Obj → Prop) (h : Heap) : Prop := B.StaysIn h ∧ B.get? e = none ∧ h.FunFrames B l ∧ TrX h B e φ .none
noncomputable def HeldX (B : Heap) (l : List Env) (e : Addr) (φ : Obj → Prop) (L : Addr) (h : Heap) : Prop := B.StaysIn h ∧ B.get? e = none ∧ h.FunFrames B l ∧ TrX h B e φ (rawInt L)
theorem FlyX.there {B h : Heap} {l : List Env} {e : Addr} {φ : Obj → Prop} (x : FlyX B l e φ h) : ∃ o, h.get? e = some o ∧ φ o := by
  obtain ⟨_, _, _, o, _, _, _, _, h1, h2, _⟩ := x
  exact ⟨o, h1, h2⟩
theorem FlyX.old {B h : Heap} {l : List Env} {e : Addr} {φ : Obj → Prop} {cls a0 : Value} (hφ : ∀ o, φ o → o.cls = cls ∧ ∀ vs, o.data = .fields vs → vs[0]? = some a0) (x : FlyX B l e φ h) : Heap.FlyingW B l e cls a0 h := by
  obtain ⟨x1, x2, x3, o, vs, T, oT, ts, h1, h2, h3, h4⟩ := x
  exact ⟨x1, x2, x3, o, vs, T, oT, ts, h1, ⟨(hφ o h2).1, (hφ o h2).2 vs h3⟩, h3, h4⟩
section
variable {M : Model} {A : Around} {E : Value → Shared → Prop} {s : Shared} {B : Heap} {env : Env} {outer : List Env} {L e : Addr} {φ : Obj → Prop} {Q : Unit → Shared → Prop}
theorem entryX {oe : Obj} {vs : Array Value} {head : Value} {hadNext : Bool} (st : Stb φ) (hfr : A.frames = some (env :: outer)) (hl : s.heap.FunFrames B (env :: outer)) (hf : env.frame = some L) (he : s.heap.get? e = some oe) (hφ : φ oe) (hkb : B.StaysIn s.heap) (hen : B.get? e = none) (hd : oe.data = .fields vs) (hsz : 1 < vs.size)
    (h : ∀ h', B.StaysIn h' → h'.FunFrames B (env :: outer) → TrX h' B e φ (rawInt L) → s.heap.UpToSlots h' → Q () { s with heap := h' }) :
    wpAny M A (do let a ← frameOf env; let pl ← entryPlaceOf L hadNext; let b ← EntryCells.newEntry head a .none (rawInt L) .none pl; setField (.ref e) 1 b) Q E s := by
  have out : e ∉ (env :: outer).filterMap (·.frame) := fun z => by
    obtain ⟨_, o, ho, nf⟩ := hl.mem z
    cases ho.symm.trans he
    exact nf vs hd
  refine wpAny_bind (wpAny_frameOf_fun hfr hl hf fun g1 sg => wpAny_bind (wpAny_entryPlaceOf fun pl hpl => ?_))
  unfold EntryCells.newEntry newFields
  refine wpAny_bind (wpAny_newObj_type ?_ (hpl.sizeOk5 _ _ _ _ _))
  have e1 : g1.get? e = some oe := (sg.2.1 e out).trans he
  have k1 : B.StaysIn g1 := fun b o z => (sg.2.1 b fun y => by rw [(hl.mem y).1] at z; cases z).trans (hkb b o z)
  generalize hT : ({ cls := .type "traceback", dict := none, data := .fields ([head, .ref L, .none, rawInt L, .none] ++ (if pl.isEmpty then List.replicate 6 Value.none else pl)).toArray } : Obj) = oT
  have e2 := Heap.get?_push_of_some (h := g1) oT e1
  have ne : g1.objs.size ≠ e := Nat.ne_of_gt (Heap.lt_size e1)
  have d3 := Obj.data_mapFields hd (·.setIfInBounds 1 (Value.ref g1.objs.size))
  have e3 := Heap.get?_update_self (Obj.mapFields (·.setIfInBounds 1 (Value.ref g1.objs.size))) e2 (Obj.isFreed_of_fields d3)
  have t3 : ((g1.push oT).update e (Obj.mapFields (·.setIfInBounds 1 (Value.ref g1.objs.size)))).get? g1.objs.size = some oT := (Heap.get?_update_other _ _ (Ne.symm ne)).trans (Heap.get?_push_size g1 (by rw [← hT]; rfl))
  have kk : ∀ b o, b ≠ e → g1.get? b = some o → ((g1.push oT).update e (Obj.mapFields (·.setIfInBounds 1 (Value.ref g1.objs.size)))).get? b = some o := fun b o n z => by
    rw [Heap.get?_update_other _ _ (Ne.symm n)]
    exact Heap.get?_push_of_some _ z
  have nr : ∀ b o, s.heap.get? b = some o → (∀ ws, o.data ≠ .fields ws) → b ≠ e := fun b o z nf y => by
    rw [y] at z
    cases z.symm.trans he
    exact nf vs hd
  refine wpAny_setField e2 hd hsz (h _ (fun b o z => kk b o (fun y => by rw [y, hen] at z; cases z) (k1 b o z)) (hl.of_keeps fun b o z nf => ?_) ?_ fun b o z nf => ?_)
  · obtain ⟨sl, q⟩ := sg.2.2 b o z
    exact ⟨_, kk b _ (nr b o z nf) q, rfl⟩
  · refine ⟨_, _, g1.objs.size, oT, _, e3, st _ _ hφ, d3, by simp [hsz], k1.fresh, ne, t3, by rw [← hT], ?_⟩
    first | (simp; done) | (rcases hpl with rfl | ⟨_, _, _, _, _, _, _, rfl⟩ <;> simp)
  · obtain ⟨sl, q⟩ := sg.2.2 b o z
    exact ⟨sl, kk b _ (nr b o z nf) q⟩
theorem setOffX {l : List Env} {fl : Value} (hkb : B.StaysIn s.heap) (hl : s.heap.FunFrames B l) (ht : TrX s.heap B e φ fl)
    (h : ∀ h', B.StaysIn h' → h'.FunFrames B l → TrX h' B e φ .none → s.heap.UpToSlots h' → Q () { s with heap := h' }) : wpAny M A (setFlight (.ref e) none) Q E s := by
  obtain ⟨oe, vs, T, oT, ts, he, hφ, hd, h1, hnT, hTe, hT, hdT, h3⟩ := ht
  have z3 : 3 < ts.size := (Array.getElem?_eq_some_iff.mp h3).1
  have ot : ∀ b, b ≠ T → (s.heap.update T (Obj.mapFields (·.setIfInBounds 3 ((none : Option Addr).elim Value.none fun f => rawInt f)))).get? b = s.heap.get? b := fun b n => Heap.get?_update_other _ _ (Ne.symm n)
  have nr : ∀ b o, s.heap.get? b = some o → (∀ ws, o.data ≠ .fields ws) → b ≠ T := fun b o z nf y => by
    rw [y] at z
    cases z.symm.trans hT
    exact nf ts hdT
  unfold setFlight
  refine wpAny_bind (wpAny_field he hd h1 ?_)
  rw [if_pos (by simp)]
  refine wpAny_setField hT hdT z3 (h _ (fun b o z => (ot b fun y => by rw [y, hnT] at z; cases z).trans (hkb b o z)) (hl.of_keeps fun b o z nf => ⟨o, (ot b (nr b o z nf)).trans z, rfl⟩) ?_ fun b o z nf => ⟨o.slots, (ot b (nr b o z nf)).trans z⟩)
  exact ⟨oe, vs, T, _, _, (ot e (Ne.symm hTe)).trans he, hφ, hd, h1, hnT, hTe, Heap.get?_update_self _ hT (Obj.isFreed_of_fields (Obj.data_mapFields hdT _)), Obj.data_mapFields hdT _, by simp [z3]⟩
theorem leaveX {oe : Obj} {vs : Array Value} (st : Stb φ) (hfr : A.frames = some (env :: outer)) (hl : s.heap.FunFrames B (env :: outer)) (hf : env.frame = some L) (he : s.heap.get? e = some oe) (hφ : φ oe) (hkb : B.StaysIn s.heap) (hen : B.get? e = none) (hd : oe.data = .fields vs) (h1 : vs[1]? = some .none)
    (h : ∀ h', FlyX B outer e φ h' → s.heap.UpToSlots h' → Q () { s with heap := h' }) : wpAny M A (leaving env (.ref e)) Q E s := by
  unfold leaving noteFrame
  simp only [hf]
  refine wpAny_bind (wpAny_bind (wpAny_field he hd h1 ?_))
  rw [if_neg (by decide)]
  refine entryX st hfr hl hf he hφ hkb hen hd (Array.getElem?_eq_some_iff.mp h1).1 fun h1 a1 a2 a3 a4 => ?_
  refine setOffX (s := { s with heap := h1 }) a1 a2 a3 fun h2 b1 b2 b3 b4 => h h2 ⟨b1, hen, ?_, b3⟩ (a4.trans b4)
  obtain ⟨_, _, k⟩ := b2
  exact k
theorem noteX (st : Stb φ) (hfr : A.frames = some (env :: outer)) (hf : env.frame = some L) (hfl : FlyX B (env :: outer) e φ s.heap)
    (h : ∀ h', HeldX B (env :: outer) e φ L h' → s.heap.UpToSlots h' → Q () { s with heap := h' }) : wpAny M A (noteFrame (.ref e) env) Q E s := by
  obtain ⟨hkb, hen, hl, oe, vs, T, oT, ts, he, hφ, hd, h1, hnT, hTe, hT, hdT, h3⟩ := hfl
  unfold noteFrame
  simp only [hf]
  refine wpAny_bind (wpAny_field he hd h1 ?_)
  rw [if_pos (by simp)]
  refine wpAny_bind (wpAny_field hT hdT h3 ?_)
  rw [if_neg (by simp [rawInt])]
  refine wpAny_bind (wpAny_setField hT hdT (Array.getElem?_eq_some_iff.mp h3).1 ?_)
  have ot : ∀ b, b ≠ T → (s.heap.update T (Obj.mapFields (·.setIfInBounds 3 Value.none))).get? b = s.heap.get? b := fun b n => Heap.get?_update_other _ _ (Ne.symm n)
  have nr : ∀ b o, s.heap.get? b = some o → (∀ ws, o.data ≠ .fields ws) → b ≠ T := fun b o z nf y => by
    rw [y] at z
    cases z.symm.trans hT
    exact nf ts hdT
  refine entryX (s := { s with heap := s.heap.update T (Obj.mapFields (·.setIfInBounds 3 Value.none)) }) st hfr (hl.of_keeps fun b o z nf => ⟨o, (ot b (nr b o z nf)).trans z, rfl⟩) hf ((ot e (Ne.symm hTe)).trans he) hφ (fun b o z => (ot b fun y => by rw [y, hnT] at z; cases z).trans (hkb b o z)) hen hd (Array.getElem?_eq_some_iff.mp h1).1
    fun h' a1 a2 a3 a4 => h h' ⟨a1, hen, a2, a3⟩ fun b o z nf => a4 b o ((ot b (nr b o z nf)).trans z) nf
theorem landX {l : List Env} (hh : HeldX B l e φ L s.heap) (h : ∀ h', FlyX B l e φ h' → s.heap.UpToSlots h' → Q () { s with heap := h' }) : wpAny M A (setFlight (.ref e) none) Q E s :=
  setOffX hh.1 hh.2.2.1 hh.2.2.2 fun h' k1 k2 k3 k4 => h h' ⟨k1, hh.2.1, k2, k3⟩ k4
theorem againX {l : List Env} (hh : FlyX B l e φ s.heap) (h : ∀ h', FlyX B l e φ h' → s.heap.UpToSlots h' → Q () { s with heap := h' }) : wpAny M A (setFlight (.ref e) none) Q E s :=
  setOffX hh.1 hh.2.2.1 hh.2.2.2 fun h' k1 k2 k3 k4 => h h' ⟨k1, hh.2.1, k2, k3⟩ k4
end
end L2

set_option Elab.async false
set_option linter.all false
set_option maxRecDepth 100000
set_option maxHeartbeats 1000000
namespace L2
open PySem PySem.Spec PyProof.Rows PySem.Calls
noncomputable def CtxO (e : Addr) : Heap → Prop := fun h => ∃ o vs, h.get? e = some o ∧ o.data = .fields vs ∧ vs[2]? = some .none
theorem ctxO_ok {P : Program} {w : World} {H : Hp} {h : Heap} {e : Addr} (x : CtxO e h) : ObjOk P w H h e (.ext (CtxO e)) := by
  obtain ⟨o, vs, h1, h2, h3⟩ := x
  exact ⟨⟨o, vs, h1, h2, h3⟩, ⟨o, h1⟩, fun ha hb ⟨o1, v1, q1, q2, q3⟩ k => ⟨o1, v1, k o1 q1, q2, q3⟩⟩
section
variable {prog : Program} {w : World} {A : Around} {E : Value → Shared → Prop} {s : Shared} {env : Env} {x : Sem Value} {Q : Flow → Shared → Prop} {C e1 : Addr} {j : Nat} {p pos : Pos}
theorem unchain_ok {e2 : Addr} {R : Result → Shared → Prop} (hc : CtxO e1 s.heap) (h : R (.ok (.ret .none)) s) : codeAny (model prog w) A (.builtin "proto.unchain" ⟨[.ref e2, .ref e1, .ref e1, .bool false], []⟩) R s := by
  obtain ⟨o, vs, h1, h2, h3⟩ := hc
  have en : entryFor table "proto.unchain" = some Builtin.«proto.unchain» := entryFor_of_tree (by kernel_rfl)
  refine codeAny_builtin en ?_
  unfold Builtin.«proto.unchain»
  refine wpAny_bind (wpAny_field h1 h2 h3 ?_)
  rw [if_pos (by decide)]
  exact wpAny_pure h
theorem raise_from {nm q : Str} {N : Addr} {bs tl : List Value} {hdct : Bool} {sn : List Str} {sub : List Value} {ab : Bool} {col : Option Bool} {dd : Option Addr} {k0 k1 k2 k3 k5 : Option Value} {newId : String} (hbase : tl.contains (.type "BaseException") = true) (hh : A.handled = some (.ref e1))
    (h : wpAny (model prog w) A x (fun v s₁ => ∃ e2 t, v = .ref e2 ∧ s₁.heap.get? C = some (excClassObj nm q C N bs tl hdct sn sub ab col dd k0 k1 k2 k3 k5 newId) ∧ s₁.heap.get? e2 = some { cls := .ref C, data := .fields #[.ref t, .none, .none, .none, .bool false, .none] } ∧ e1 ≠ e2 ∧ CtxO e1 s₁.heap ∧
      ∀ h', (∀ b o, b ≠ e2 → s₁.heap.get? b = some o → h'.get? b = some o) → h'.get? e2 = some { cls := .ref C, data := .fields #[.ref t, .none, .ref e1, .none, .bool true, .none] } → E (.ref e2) { s₁ with heap := h' }) E s) :
    wpAny (model prog w) A (raiseStmt env (some x) (some (do let v ← eval (.Constant .none j p) env; standAt pos; pure v))) Q E s := by
  have hcB : (Value.ref C :: tl).contains (.type "BaseException") = true := by rw [List.contains_cons, hbase, Bool.or_true]
  unfold raiseStmt
  refine wpAny_bind (wpAny_mono h (fun v s₁ h₁ => ?_) fun _ _ z => z)
  obtain ⟨e2, t, rfl, hC, he, ne, hc, hE⟩ := h₁
  obtain ⟨hp, g, d, tk, os⟩ := s₁
  refine wpAny_bind (wpAny_holding (wpAny_bind (Constant_none (wpAny_bind (wpAny_standAt (wpAny_pure (wpAny_bind (wpAny_pure ?_))))))))
  refine wpAny_bind (m := holding _ (excFromValue (Value.ref e2) "exceptions must derive from BaseException")) (wpAny_holding ?_)
  unfold excFromValue
  repeat (first | with_reducible refine wpAny_loadPart_at he ?_ | with_reducible refine wpAny_loadPart_at hC ?_ | (with_reducible refine wpAny_isSubtype_exc hC ?_; rw [hcB]) | wp_step)
  have hne : e2 ≠ C := fun z => by
    rw [z, hC] at he
    cases he
  have hC2 := (Heap.get?_update_other (hp.update e2 (Obj.mapFields fun x => x.setIfInBounds 3 Value.none)) (Obj.mapFields fun x => x.setIfInBounds 4 (Value.bool true)) hne).trans ((Heap.get?_update_other hp (Obj.mapFields fun x => x.setIfInBounds 3 Value.none) hne).trans hC)
  have he3 := Heap.get?_update_self (Obj.mapFields fun x => x.setIfInBounds 3 Value.none) he rfl
  have he4 := Heap.get?_update_self (Obj.mapFields fun x => x.setIfInBounds 4 (Value.bool true)) he3 rfl
  have ot : ∀ b o, b ≠ e2 → hp.get? b = some o → ((hp.update e2 (Obj.mapFields fun x => x.setIfInBounds 3 Value.none)).update e2 (Obj.mapFields fun x => x.setIfInBounds 4 (Value.bool true))).get? b = some o := fun b o n z => by
    rw [Heap.get?_update_other _ _ (Ne.symm n), Heap.get?_update_other _ _ (Ne.symm n)]
    exact z
  generalize (hp.update e2 (Obj.mapFields fun x => x.setIfInBounds 3 Value.none)).update e2 (Obj.mapFields fun x => x.setIfInBounds 4 (Value.bool true)) = h4 at *
  refine wpAny_loadPart_at hC2 (wpAny_pure ?_)
  rw [if_pos (show ((excClassObj nm q C N bs tl hdct sn sub ab col dd k0 k1 k2 k3 k5 newId).cls == Value.type "type") = true from rfl)]
  refine wpAny_pure ?_
  show wpAny _ _ (do setFlight (.ref e2) none; raiseNew (.ref e2)) _ _ _
  unfold setFlight
  refine wpAny_bind (wpAny_bind (wpAny_field he4 rfl (x := .none) rfl ?_))
  rw [if_neg (by decide)]
  refine wpAny_pure ?_
  unfold raiseNew
  refine wpAny_bind (wpAny_handled ?_)
  rw [hh]
  obtain ⟨o1, v1, q1, q2, q3⟩ := hc
  have hc4 : CtxO e1 h4 := ⟨o1, v1, ot e1 o1 ne q1, q2, q3⟩
  show wpAny _ _ (do
    if (Value.ref e1 != Value.ref e2) = true then
      let _ ← holding [Value.ref e2] (runValue (.builtin "proto.unchain" ⟨[.ref e2, .ref e1, .ref e1, .bool false], []⟩))
      updateField e2 2 (.ref e1)
    throw (.ref e2)) _ _ _
  rw [if_pos (by simp [ne])]
  refine wpAny_bind (wpAny_holding (wpAny_runValue (unchain_ok (s := ⟨h4, g, d, tk, os⟩) hc4 ?_)))
  show wpAny _ _ (setField (.ref e2) 2 (.ref e1) >>= fun _ => throw (.ref e2)) _ _ _
  refine wpAny_bind (wpAny_setField he4 rfl (by simp) (wpAny_throw (hE _ (fun b o n z => ?_) ?_)))
  · rw [Heap.get?_update_other _ _ (Ne.symm n)]
    exact ot b o n z
  · exact Heap.get?_update_self (Obj.mapFields fun x => x.setIfInBounds 2 (Value.ref e1)) he4 rfl
end
end L2

set_option Elab.async false
set_option linter.all false
set_option maxRecDepth 100000
set_option maxHeartbeats 1000000
namespace L2
open PySem PySem.Spec PyProof.Rows PySem.Calls
open PySem.W (hideAll of_hideAll hideAll_get hideAll_none funFrames_hide)
noncomputable def CXN (P : Program) (w : World) : CXT := fun outer H s E v s' => CXO P w outer H s E v s' ∧ ∃ e, v = .ref e ∧ CtxO e s'.heap
noncomputable def ExP (C t : Addr) (o : Obj) : Prop := o.cls = .ref C ∧ ∃ vs, o.data = .fields vs ∧ vs[0]? = some (.ref t) ∧ vs[2]? = some .none
theorem ExP.stb {C t : Addr} : Stb (ExP C t) := fun o v ⟨h1, vs, h2, h3, h4⟩ => ⟨(Obj.cls_mapFields _ _).trans h1, _, Obj.data_mapFields h2 _, by rw [Array.getElem?_setIfInBounds_ne (by decide)]; exact h3, by rw [Array.getElem?_setIfInBounds_ne (by decide)]; exact h4⟩
theorem ExP.old {C t : Addr} : ∀ o, ExP C t o → o.cls = .ref C ∧ ∀ vs, o.data = .fields vs → vs[0]? = some (.ref t) := fun o ⟨h1, vs, h2, h3, _⟩ => ⟨h1, fun ws z => by
  cases h2.symm.trans z
  exact h3⟩
theorem ExP.ctx {C t e : Addr} {h : Heap} (x : ∃ o, h.get? e = some o ∧ ExP C t o) : CtxO e h := by
  obtain ⟨o, h1, _, vs, h2, _, h4⟩ := x
  exact ⟨o, vs, h1, h2, h4⟩
noncomputable def ExA (C t : Addr) (o : Obj) : Prop := o.cls = .ref C ∧ ∃ vs, o.data = .fields vs ∧ vs[0]? = some (.ref t)
theorem ExA.stb {C t : Addr} : Stb (ExA C t) := fun o v ⟨h1, vs, h2, h3⟩ => ⟨(Obj.cls_mapFields _ _).trans h1, _, Obj.data_mapFields h2 _, by rw [Array.getElem?_setIfInBounds_ne (by decide)]; exact h3⟩
theorem ExA.old {C t : Addr} : ∀ o, ExA C t o → o.cls = .ref C ∧ ∀ vs, o.data = .fields vs → vs[0]? = some (.ref t) := fun o ⟨h1, vs, h2, h3⟩ => ⟨h1, fun ws z => by
  cases h2.symm.trans z
  exact h3⟩
section
variable {X : Cx} {E : XK}
theorem out_made {φ : Obj → Prop} {C t : Addr} (st : Stb φ) (old : ∀ o, φ o → o.cls = .ref C ∧ ∀ vs, o.data = .fields vs → vs[0]? = some (.ref t)) (hex : X.ex = []) (hstk : X.stack = X.env :: X.outer) (hfr : X.env.frame = some X.env.locals)
    {pins : List (Addr × Obj)} {σ : St} {H : Hp} {s : Shared} {h' : Heap} {e : Addr} {o : Obj} {vs : Array Value} {args : List Value} (I : Inv X pins σ H s) (kp : ∀ b u, s.heap.get? b = some u → h'.get? b = some u) (new : s.heap.get? e = none) (he : h'.get? e = some o) (hφ : φ o) (hd : o.data = .fields vs) (h1 : vs[1]? = some .none) (ht : h'.TupAt t args) (hE : E (.ref C) (some e) H) :
    wpAny (model X.prog X.w) X.A (leaving X.env (.ref e)) (fun _ s'' => CXO X.prog X.w X.outer X.H₀ X.s₀ E (.ref e) s'' ∧ ∃ o', s''.heap.get? e = some o' ∧ φ o') (fun _ _ => False) { s with heap := h' } := by
  have hf : X.A.frames = some (X.env :: X.outer) := by rw [I.ok.frames, hstk]
  have hst := I.stack
  rw [hstk] at hst
  have hk : (hideAll s.heap (frs X.stack)).StaysIn s.heap := fun b o q => of_hideAll _ q
  have fr : s.heap.FunFrames (hideAll s.heap (frs X.stack)) (X.env :: X.outer) := funFrames_hide hst (by rw [hstk]; exact stk_frs)
  have fresh : (hideAll s.heap (frs X.stack)).get? e = none := by
    cases z : (hideAll s.heap (frs X.stack)).get? e with
    | none => rfl
    | some o' =>
      have := hk e o' z
      rw [new] at this
      cases this
  refine leaveX (s := { s with heap := h' }) st hf (fr.of_keeps fun b o hb _ => ⟨o, kp b o hb, rfl⟩) hfr he hφ (fun b o hb => kp b o (hk b o hb)) fresh hd h1 fun h'' fly up => ⟨?_, fly.there⟩
  exact exc_out (s := s) (g' := s.gens) (d' := s.drawn) (t' := s.toks) I hex hstk hfr I.bare (fun b o hb _ hn => hideAll_get _ hb hn) ((Heap.UpToSlots.of_keeps kp).trans up) (fly.old old) (ht.of_slots up) (by
      cases q : H e with
      | none => rfl
      | some u =>
        obtain ⟨o, ho⟩ := (I.hok e u q).there
        rw [new] at ho
        cases ho) (by
      cases q : X.s₀.heap.get? e with
      | none => rfl
      | some o =>
        obtain ⟨o', ho'⟩ := I.base.there e o q (by rw [hex]; exact fun z => nomatch z)
        rw [new] at ho'
        cases ho') hE
end
theorem madeN {P : Program} {w : World} {K : PySem.W.Frag} {mg : Str → Option Value} {base : Heap} {N : List Str} {qual : Str} {scope : Scope} {f : Addr} {cd : Value} {A : Around} {outer : List Env} {s0 : Shared} {H0 : Hp} {E : XK} : MadeX (cxOf (CXN P w) P w K mg base N qual scope f cd A outer s0 H0 E) E := by
  intro pins σ H s h' e C args I hm hE
  obtain ⟨t, he, _, ht⟩ := hm.there
  refine wpAny_mono (out_made (t := t) (φ := ExP C t) ExP.stb ExP.old rfl rfl rfl I hm.keeps hm.new he ⟨rfl, _, rfl, rfl, rfl⟩ rfl rfl ⟨_, _, ht, rfl, rfl⟩ hE) (fun _ s'' z => ⟨z.1, e, rfl, ExP.ctx z.2⟩) fun _ _ z => z.elim
theorem Fun.okN {P : Program} {w : World} {K : PySem.W.Frag} {mg : Str → Option Value} {base : Heap} {x qual : Str} {st : Stmt} {f : Addr} {fd : FuncData} {N ps : List Str} {k : Nat} {sp : Sp} (F : Fun K x qual st f fd) (S : FnScope N ps (defScope st)) (len : ∀ vs H Q E, sp vs H Q E → vs.length = ps.length)
    (hbody : ∀ (cdv : Value) (A : Around) (outer : List Env) (s : Shared) (H : Hp) (vs : List V) (Q : VK) (E : XK), Room k (A.deeper (envOfC qual (defScope st) s.heap.objs.size f cdv)) → sp vs H Q E →
      ∃ t, PSs (cxOf (CXN P w) P w K mg base N qual (defScope st) f cdv A outer s H E) (defBody st) t ∧ t { nx := fun _ H' => Q .non H', rt := Q } (start N vs) H) : FnOk P w K mg base (CXN P w) (k + 1) f fd ps sp := by
  obtain ⟨oc, od, kV, doc, pm, an, cdv, ct, osl, rfl, lk, hcd⟩ := F.ex
  exact fn_of lk hcd S len fun A outer s H vs Q E hr hsp => hbody cdv A outer s H vs Q E hr hsp
end L2

set_option Elab.async false
set_option linter.all false
set_option maxRecDepth 100000
set_option maxHeartbeats 1000000
namespace L2
open PySem PySem.Spec PyProof.Rows PySem.Calls
section
variable {prog : Program} {w : World} {A : Around} {E : Value → Shared → Prop} {s : Shared} {env : Env}
theorem handleBy_own1 {e C D : Addr} {x : Str} {bmB : List Value} {newId : String} {mg : Str → Option Value} {t : Expr} {b₀ : Stmt} {suite : List Stmt} {pos : Pos} {rest : List ExceptHandler} {Q : Flow → Shared → Prop} {F0 : Value → Shared → Prop}
    (hbase : bmB.contains (.type "BaseException") = true) (hF0 : F0 = notedBy (model prog w) (A.mark (some (.ref e))) env (cameBackBy (model prog w) A env E))
    (h : wpAny (model prog w) (A.mark (some (.ref e))) (eval t env) (fun c s₁ => c = .ref D ∧ OwnCls x D bmB newId mg s₁.heap ∧ Below2 s₁.heap C D ∧ (∃ oe, s₁.heap.get? e = some oe ∧ oe.cls = .ref C) ∧
      wpAny (model prog w) (A.mark (some (.ref e))) (setFlight (.ref e) none) (fun _ s₂ => wpAny (model prog w) (A.mark (some (.ref e))) (execs (b₀ :: suite) env) (fun f s₃ => Q f s₃) F0 s₂) F0 s₁) F0 s) :
    wpAny (model prog w) A (handleBy (.ref e) env (.ExceptHandler (some t) none (b₀ :: suite) pos :: rest)) Q E s := by
  subst hF0
  refine wpAny_handleBy_cons (codeAny_handlers_test (wpAny_mono h (fun c s₁ h₁ => ?_) fun _ _ y => y)) (by intro q; cases q)
  obtain ⟨rfl, O, ⟨nm', q', N', bs', bm', hdct', sn', sub', ab', col', dd', k0', k1', k2', k3', k5', newId', hC', hin⟩, ⟨oe, he, hcls⟩, hk⟩ := h₁
  obtain ⟨bm, N, nm, q, bs, hdct, sn, sub, ab, col, dd, k0, k1, k2, k3, k5, mN, hC, hN, hni, T⟩ := O.obj
  obtain ⟨hh, g, d, tk, os⟩ := s₁
  exact excMatches_own hC' hC he hcls (T.hasType hbase) hin (codeAny_handlers_suite hk)
end
section
variable {X : Cx} {E : XK}
theorem raise_none {x : Str} {C e : Addr} {np cpos p9 rpos : Pos} {j : Nat} {a₀ : Expr} {as : List Expr} {t : TA} {f : Value → Shared → Prop} {pins : List (Addr × Obj)} {σ : St} {H : Hp} {s : Shared} {Q : Flow → Shared → Prop} (FX : FnX X E) (ok : X.Ok)
    (hf : ∀ v s', X.xe v s' → f v s') (hg : Gl X x) (O : OwnV x C X.mg X.base) (kp : PySem.W.keepIn X.K (.ref C) = true) (ha : QA (X.under e f) (a₀ :: as) t) (I : Inv (X.under e f) pins σ H s)
    (h : t σ H fun vs H1 => H1 e = some (.ext (CtxO e)) ∧ vs.length ≤ sizeLine ∧ ∀ e2, H1 e2 = none → E (.ref C) (some e2) H1)
    (hdb : (x == ("__debug__" : Str)) = false := by decide) (he : starEach (a₀ :: as) X.env = (false, eval a₀ X.env) :: starEach as X.env := by rfl) (hpl : (backTo cpos (starEach as X.env)).any (·.1) = false := by rfl) :
    wpAny (model X.prog X.w) (X.A.mark (some (.ref e))) (exec (.Raise (some (.Call (.Name x np) (a₀ :: as) [] cpos)) (some (.Constant .none j p9)) rpos) X.env) Q f s := by
  obtain ⟨tl, N, nm, q, bs, hdct, sn, sub, ab, col, dd, k0, k1, k2, k3, k5, mN, hC, hN, hni, T⟩ := O.obj
  rw [arm_exec_Raise]
  refine wpAny_bind (wpAny_standAt ?_)
  show wpAny _ _ (raiseStmt X.env (some (do let v ← eval (.Call (.Name x np) (a₀ :: as) [] cpos) X.env; standAt rpos; pure v)) (some (do let v ← eval (.Constant .none j p9) X.env; standAt rpos; pure v))) _ _ _
  refine raise_from (C := C) (e1 := e) (nm := nm) (q := q) (N := N) (bs := bs) (tl := tl) (hdct := hdct) (sn := sn) (sub := sub) (ab := ab) (col := col) (dd := dd) (k0 := k0) (k1 := k1) (k2 := k2) (k3 := k3) (k5 := k5) (newId := "ValueError.__new__") (T.hasType PySem.F.excBase_ValueError.hasBase) rfl ?_
  refine wpAny_bind (thn (Q := fun v s₃ => ∃ e2 t, v = .ref e2 ∧ s₃.heap.get? C = some (excClassObj nm q C N bs tl hdct sn sub ab col dd k0 k1 k2 k3 k5 "ValueError.__new__") ∧ s₃.heap.get? e2 = some { cls := .ref C, data := .fields #[.ref t, .none, .none, .none, .bool false, .none] } ∧ e ≠ e2 ∧ CtxO e s₃.heap ∧
      ∀ h', (∀ b o, b ≠ e2 → s₃.heap.get? b = some o → h'.get? b = some o) → h'.get? e2 = some { cls := .ref C, data := .fields #[.ref t, .none, .ref e, .none, .bool true, .none] } → f (.ref e2) { s₃ with heap := h' }) ?_ fun v s₃ z => wpAny_bind (wpAny_standAt (wpAny_pure z)))
  refine wpAny_Call_Name_kw (ld_glob (X := X.under e f) I hg O.bound ?_ hdb)
  refine PySem.W.callWith_K (h₀ := X.base) I.ok.mod.kin kp (thn (ha.out cpos pins s σ H _ I h) fun us s1 ⟨vs, H1, I1, r, hee, hl, q1⟩ => ⟨I1.kIn, ?_⟩) he hpl
  refine wpAny_call_exc_subU PySem.F.excBase_ValueError rfl PySem.F.excBase_ValueError (T.keeps I1.bk) (I1.bk _ _ hC) (hN.keeps I1.bk) hni (fun h' e2 hm => ?_) (by show us.length ≤ sizeLine; rw [← r.length]; exact hl)
  have J : Inv X pins σ H1 s1 := I1.outof ok
  obtain ⟨tt, ht, htn, htt⟩ := hm.there
  have cx : CtxO e s1.heap := (I1.hok e _ hee).1
  obtain ⟨o1, v1, c1, c2, c3⟩ := id cx
  have ne : e ≠ e2 := fun z => by rw [z, hm.new] at c1; cases c1
  refine ⟨e2, tt, rfl, hm.keeps _ _ (I1.bk _ _ hC), ht, ne, ⟨o1, v1, hm.keeps _ _ c1, c2, c3⟩, fun h2 k2 he2 => hf _ _ (FX.xe _ _ ?_)⟩
  have kk : ∀ b u, s1.heap.get? b = some u → h2.get? b = some u := fun b u z => k2 b u (fun y => by rw [y, hm.new] at z; cases z) (hm.keeps b u z)
  have nt : tt ≠ e2 := fun z => by
    rw [z, ht] at htt
    cases htt
  refine wpAny_mono (out_made (s := s1) (t := tt) (φ := ExA C tt) ExA.stb ExA.old FX.ex FX.stk FX.fr J kk hm.new he2 ⟨rfl, _, rfl, rfl⟩ rfl rfl ⟨_, _, k2 tt _ nt htt, rfl, rfl⟩ (q1 e2 ?_)) (fun _ s'' z => z.1) fun _ _ z => z.elim
  cases z : H1 e2 with
  | none => rfl
  | some u =>
    obtain ⟨o, ho⟩ := (I1.hok e2 u z).there
    rw [hm.new] at ho
    cases ho
end
end L2

set_option Elab.async false
set_option linter.all false
set_option maxRecDepth 100000
set_option maxHeartbeats 1000000
namespace L2
open PySem PySem.Spec PyProof.Rows PySem.Calls
noncomputable def sTryF (base : Heap) (Dc C2 : Addr) (E : XK) (sp : Sp) (t t2 : TA) : TS := fun D σ H => t σ H fun vs H1 => sp vs H1 (fun v H2 => D.rt v H2) fun cls eo H2 => ∃ C e, cls = .ref C ∧ eo = some e ∧ Below2 base C Dc ∧
  t2 σ (upd H2 e (.ext (CtxO e))) fun vs2 H3 => H3 e = some (.ext (CtxO e)) ∧ vs2.length ≤ sizeLine ∧ ∀ e2, H3 e2 = none → E (.ref C2) (some e2) H3
section
variable {X : Cx} {E : XK} {k : Nat} {f : Addr} {fd : FuncData} {ps : List Str} {sp : Sp} {g y x2 : Str} {p np np2 cpos cpos2 spos hpos pos p9 rpos : Pos} {j : Nat} {e₀ a₀ : Expr} {es as : List Expr} {t t2 : TA} {Dc C2 : Addr}
theorem qs_tryF (FX : FnX X E) (hpa : ∀ e, PassesOwnAt (model X.prog X.w) (X.A.mark (some (.ref e))) X.A X.env X.xe) (F : FnOk X.prog X.w X.K X.mg X.base (CXN X.prog X.w) k f fd ps sp) (hr : Room k X.A) (hg : Gl X g) (hm : X.mg g = some (.ref f)) (hk : PySem.W.keepIn X.K (.ref f) = true) (hb : Binds X.K fd ps [])
    (ha : ∀ f', QA (X.wish f') (e₀ :: es) t) (hgd : Gl X y) (O : OwnV y Dc X.mg X.base) (hg2 : Gl X x2) (O2 : OwnV x2 C2 X.mg X.base) (kp2 : PySem.W.keepIn X.K (.ref C2) = true) (ha2 : ∀ e f', QA (X.under e f') (a₀ :: as) t2)
    (hdb : (g == ("__debug__" : Str)) = false := by decide) (he : starEach (e₀ :: es) X.env = (false, eval e₀ X.env) :: starEach es X.env := by rfl) (hpl : (backTo cpos (starEach es X.env)).any (·.1) = false := by rfl) (hdd : (y == ("__debug__" : Str)) = false := by decide)
    (hdb2 : (x2 == ("__debug__" : Str)) = false := by decide) (he2 : starEach (a₀ :: as) X.env = (false, eval a₀ X.env) :: starEach as X.env := by rfl) (hpl2 : (backTo cpos2 (starEach as X.env)).any (·.1) = false := by rfl) :
    QS X (.Try [.Return (some (.Call (.Name g p) (e₀ :: es) [] cpos)) spos] [.ExceptHandler (some (.Name y np)) none [.Raise (some (.Call (.Name x2 np2) (a₀ :: as) [] cpos2)) (some (.Constant .none j p9)) rpos] hpos] [] [] pos) (sTryF X.base Dc C2 E sp t t2) := by
  refine ⟨fun pins s σ H D I h => wpAny_Try_except (wpAny_execs_cons (wpAny_Return_some ?_))⟩
  generalize hf' : (fun (e : Value) (s₁ : Shared) => wpAny (model X.prog X.w) X.A (noteFrame e X.env) (fun _ s₂ => wpAny (model X.prog X.w) X.A (setFlight e none) (fun _ s₃ => wpAny (model X.prog X.w) X.A (handleBy e X.env [.ExceptHandler (some (.Name y np)) none [.Raise (some (.Call (.Name x2 np2) (a₀ :: as) [] cpos2)) (some (.Constant .none j p9)) rpos] hpos]) (SP X pins D) X.xe s₃) X.xe s₂) X.xe s₁) = f'
  refine thn (Q := EP X pins σ fun v H2 => D.rt v H2) ?_ fun v s1 ⟨z, H1, I1, r1, q1⟩ => ⟨z, σ, H1, I1, r1, q1⟩
  refine wpAny_Call_Name_kw (ld_glob I hg hm ?_ hdb)
  refine PySem.W.callWith_K (h₀ := X.base) I.ok.mod.kin hk (thn ((ha f').out cpos pins s σ H _ (I.wish f') h) fun us s1 ⟨vs, H1, J1, r, q⟩ => ⟨J1.ofWish.kIn, ?_⟩) he hpl
  have I1 : Inv X pins σ H1 s1 := J1.ofWish
  have hl : us.length = ps.length := by rw [← r.length]; exact F.len _ _ _ _ q
  have hb' := hb s1 us I1.kIn (by rw [List.append_nil]; exact hl)
  rw [List.append_nil] at hb'
  refine wpAny_call (codeAny_mono (F.run X.A X.stack s1 H1 ⟨us, []⟩ us vs _ _ hr I1.env0 hb' r q) fun r s' hq => ?_)
  cases r with
  | ok fl =>
    cases fl with
    | ret u => exact I1.after hq
    | next => exact False.elim hq
    | brk => exact False.elim hq
    | cont => exact False.elim hq
  | error v =>
    subst hf'
    obtain ⟨⟨e, t0, C, args, H', B, rfl, os, bare, un, hok, fly, tup, cov, hHe, hse, C', e', ec, ee, below, hts⟩, e9, ev, cx⟩ := hq
    cases ec
    cases ee
    cases ev
    have hfm : X.A.frames = some (X.env :: X.outer) := by rw [I.ok.frames, FX.stk]
    have fly0 : FlyX B (X.env :: X.outer) e (ExP C t0) s'.heap := by
      have fl := fly
      rw [FX.stk] at fl
      obtain ⟨y1, y2, y3, oe, ws, T, oT, ts, z1, ⟨z2, z3⟩, z4, z5⟩ := fl
      obtain ⟨o1, v1, c1, c2, c3⟩ := cx
      have eo : oe = o1 := Option.some.inj (z1.symm.trans c1)
      subst eo
      have ew : Data.fields ws = Data.fields v1 := z4.symm.trans c2
      injection ew with ew
      subst ew
      exact ⟨y1, y2, y3, oe, ws, T, oT, ts, z1, ⟨z2, ws, z4, z3, c3⟩, z4, z5⟩
    refine noteX ExP.stb hfm FX.fr fly0 fun h4 held4 up4 => ?_
    refine landX (s := { s' with heap := h4 }) held4 fun h5 fly5 up5 => ?_
    have I5 := inv_land I1 os bare un hok cov fly5.1 (up4.trans up5)
    have th5 : ∃ oe, h5.get? e = some oe ∧ oe.cls = .ref C := let ⟨o, a1, a2⟩ := fly5.there; ⟨o, a1, a2.1⟩
    generalize hF0 : notedBy (model X.prog X.w) (X.A.mark (some (.ref e))) X.env (cameBackBy (model X.prog X.w) X.A X.env X.xe) = F0
    refine handleBy_own1 (C := C) (D := Dc) (x := y) (bmB := bmVE) (newId := "ValueError.__new__") (mg := X.mg) rfl hF0.symm (ld_glob (X := X.under e F0) (I5.under e F0) hgd O.bound ⟨rfl, O.keeps I5.bk, below.keeps I5.bk, th5, ?_⟩ hdd)
    refine againX (s := { s' with heap := h5 }) fly5 fun h6 fly6 up6 => ?_
    have I6 := inv_land I1 os bare un hok cov fly6.1 ((up4.trans up5).trans up6)
    have h0 : X.s₀.heap.get? e = none := by
      cases q : X.s₀.heap.get? e with
      | none => rfl
      | some o =>
        obtain ⟨o', ho'⟩ := I1.base.there e o q (by rw [FX.ex]; exact fun z => nomatch z)
        rw [hse] at ho'
        cases ho'
    have I7 := I6.known (o := .ext (CtxO e)) hHe h0 (fun z => by
        obtain ⟨m, ⟨oL, _, _, hoL, _⟩, _⟩ := I1.loc
        rw [← z, hse] at hoL
        cases hoL) (fun x c hc z => by
        obtain ⟨w', oc, hoc, _⟩ := I1.cell x c hc
        rw [z, hse] at hoc
        cases hoc) (fun p hp z => by
        have := (I1.pin p hp).1
        rw [z, hse] at this
        cases this) (ctxO_ok (ExP.ctx fly6.there))
    refine wpAny_execs_cons (raise_none (j := j) (p9 := p9) (rpos := rpos) (np := np2) (cpos := cpos2) FX I.ok (fun v s' z => ?_) hg2 O2 kp2 (ha2 e F0) (I7.under e F0) hts hdb2 he2 hpl2)
    rw [← hF0]
    exact hpa e v s' z
end
end L2

set_option Elab.async false
set_option linter.all false
set_option maxRecDepth 100000
set_option maxHeartbeats 1000000
namespace L2
open PySem PySem.Spec PyProof.Rows PySem.Calls
theorem list_head {M : Model} {A : Around} {E : Value → Shared → Prop} {s : Shared} {Q : Fin → Shared → Prop} {a : Addr} {o : Obj} {x : Value} {l : List Value} {n : Nat} {b : Nat} (hget : s.heap.get? a = some o) (hd : o.data = .seq (x :: l).toArray n)
    (h1 : wpAny M A (do again (.builtin "list.__repr__.loop" ⟨[.ref a, rawInt 0, ← newList [], rawInt b], []⟩)) Q E s) (h2 : wpAny M A (do rule "list.__repr__.in-itself"; retStr "[...]") Q E s) :
    wpAny M A (Builtin.listReprAt b ⟨[.ref a], []⟩) Q E s := by
  intro Γ p hΓ
  have z1 := h1 Γ p hΓ
  have z2 := h2 Γ p hΓ
  unfold Builtin.listReprAt
  simp [slotArgs, Builtin.List.listItems, seqItems?, Sem.wp_load_of (h := hget), hd, stack]
  show Sem.wp M Γ (if (Γ.below.any _) = true then _ else _) _ _ p s
  split
  · exact z2
  · exact z1
section
variable {prog : Program} {w : World} {A : Around} {E : Value → Shared → Prop} {s : Shared} {a : Addr} {oa : Obj} {x : Value} {l : List Value} {na : Nat} {ts : List Str}
theorem list_fin {R : Result → Shared → Prop} (ha : s.heap.get? a = some oa) (hda : oa.data = .seq (x :: l).toArray na) (hlen : ts.length = (x :: l).toArray.size) (hT : ∀ (i : Nat) (y : Value), (x :: l).toArray[i]? = some y → ∃ t, ts[i]? = some t ∧ ReprIs prog w y t)
    (hR : ∀ z h' u tk, z.length ≤ (listText ts).length + 5 → (∀ b o, s.heap.get? b = some o → h'.get? b = some o) → R (.ok (.ret (.str z u))) { s with heap := h', toks := tk }) (hsz : (listText ts).length ≤ sizeLine) :
    wpAny (model prog w) A.in1 (Builtin.listReprAt 0 ⟨[.ref a], []⟩)
      (fun fin s' => match fin with | .done f => R (.ok f) s' | .again c' => c'.quiet = true ∧ codeAny (model prog w) A c' R s') (fun e s' => R (.error e) s') s := by
  refine list_head (A := A.in1) ha hda ?_ ?_
  · refine wpAny_bind (m := newList []) (wpAny_newObj_type (wpAny_pure ⟨F.quiet_list_repr_loop _, ?_⟩))
    refine codeAny_list_repr_start (P := s.heap.objs.size) (Nat.ne_of_lt (Heap.lt_size ha)) hlen hT (Heap.get?_push_of_some _ ha) hda (Heap.get?_push_size _ rfl) (fun h' u tk hk => ?_) (by omega)
    exact hR _ h' u tk (by omega) fun b o e => hk b o (Nat.ne_of_lt (Heap.lt_size e)) (Heap.get?_push_of_some _ e)
  · refine wpAny_bind (wpAny_rule ?_)
    have e5 : ("[...]" : Str).length = 5 := by decide +kernel
    exact wpAny_bind (wpAny_mkStr (wpAny_pure (hR _ s.heap _ _ (by rw [e5]; omega) fun b o e => e)) (by rw [e5]; decide))
theorem call_listR {Q : Value → Shared → Prop} (hTy : s.TypeIs (.ref a) "list") (ha : s.heap.get? a = some oa) (hda : oa.data = .seq (x :: l).toArray na) (hlen : ts.length = (x :: l).toArray.size) (hT : ∀ (i : Nat) (y : Value), (x :: l).toArray[i]? = some y → ∃ t, ts[i]? = some t ∧ ReprIs prog w y t)
    (hQ : ∀ z h' u tk, z.length ≤ (listText ts).length + 5 → (∀ b o, s.heap.get? b = some o → h'.get? b = some o) → Q (.str z u) { s with heap := h', toks := tk }) (hsz : (listText ts).length ≤ sizeLine) :
    wpAny (model prog w) A (call (.builtin "list.__repr__") [.ref a]) Q E s :=
  wpAny_call (codeAny_call_builtin F.slot_list_repr.plain F.entry_list_repr (F.slot_list_repr.check _ _ _ _ _ _ _ _ hTy (F.args_list_repr_1 _) (list_fin (R := fun r s' => match r with | .ok (.ret v) => Q v s' | .ok _ => False | .error e => E e s') ha hda hlen hT hQ hsz)))
theorem repr_list {Q : Value → Shared → Prop} (hTy : s.TypeIs (.ref a) "list") (hu : A.units < cLine) (ha : s.heap.get? a = some oa) (hda : oa.data = .seq (x :: l).toArray na) (hlen : ts.length = (x :: l).toArray.size) (hT : ∀ (i : Nat) (y : Value), (x :: l).toArray[i]? = some y → ∃ t, ts[i]? = some t ∧ ReprIs prog w y t)
    (hQ : ∀ z h' u tk, z.length ≤ (listText ts).length + 5 → (∀ b o, s.heap.get? b = some o → h'.get? b = some o) → Q (.str z u) { s with heap := h', toks := tk }) (hsz : (listText ts).length ≤ sizeLine) :
    wpAny (model prog w) A (pyReprObj (.ref a)) Q E s := by
  unfold pyReprObj
  refine wpAny_bind (wpAny_cRoomFor hu (wpAny_bind (wpAny_specialOf (name := Str.ofString "__repr__") hTy F.slot_list_repr.lookup ?_)))
  refine wpAny_bind (m := callSpecialIfBound? (.ref a) (Str.ofString "__repr__")) (wpAny_callSpecialIfBound?_slot (name := Str.ofString "__repr__") hTy F.slot_list_repr (call_listR hTy ha hda hlen hT (fun z h' u tk hz hk => ?_) hsz))
  exact wpAny_bind (wpAny_isInstance (T := "str") (b := true) rfl isSubtype_str_str (wpAny_pure (hQ z h' u tk hz hk)))
end
noncomputable def tFsL (c : Str) (ta : TE) : TE := fun σ H Q => ta σ H fun v H1 => ∃ p ys, v = .ref p ∧ H1 p = some (.lst (ys.map V.str)) ∧ ys ≠ [] ∧ ys.length ≤ 10000 ∧ (∀ y ∈ ys, (reprText y).length ≤ 100) ∧ ∀ z, Q (.str z) H1
section
variable {X : Cx} {e : Expr} {ta : TE} {c : Str} {j : Nat} {p1 p2 pos : Pos}
theorem qe_fsL (hu : X.A.units < cLine) (ha : QE X e ta) (hc : c.length ≤ 1000 := by decide) : QE X (.JoinedStr [.Constant (.str c) j p1, .FormattedValue e 114 none p2] pos) (tFsL c ta) := by
  refine ⟨fun pins s σ H Q I h => wpAny_JoinedStr (Calls.Constant_str (k := j) (pos := p1) ⟨c, _, rfl, ?_, ?_⟩)⟩
  · rw [len_cat, sizeLine_eq]
    show 0 + c.length ≤ _
    omega
  · refine wpAny_FormattedValue_repr (thn (ha.out pins _ σ H _ (I.tok _) h) fun v s1 ⟨x, H1, I1, r1, p, ys, ey, hp, hne, hl, hs, q1⟩ => ?_)
    subst ey
    cases r1
    obtain ⟨z, its, n, r, hll, he⟩ := I1.lstM hp
    have sa := strsAre_of r
    have bound : (listText (ys.map reprText)).length ≤ 1020003 := by
      have h1 := listText_len_le (ys.map reprText)
      have h2 : ∀ l : List Str, (∀ y ∈ l, (reprText y).length ≤ 100) → ((l.map reprText).map (·.length)).sum ≤ 100 * l.length := by
        intro l
        induction l with
        | nil => intro _; exact Nat.le_refl _
        | cons y r ih =>
          intro hy
          have a1 := hy y List.mem_cons_self
          have a2 := ih fun z hz => hy z (List.mem_cons_of_mem _ hz)
          rw [List.map_cons, List.map_cons, List.sum_cons, List.length_cons]
          omega
      have h3 := h2 ys hs
      rw [List.length_map] at h1
      omega
    obtain ⟨y0, yr, rfl⟩ : ∃ y0 yr, ys = y0 :: yr := by
      cases ys with
      | nil => exact absurd rfl hne
      | cons y0 yr => exact ⟨y0, yr, rfl⟩
    obtain ⟨i0, ir, rfl⟩ : ∃ i0 ir, its = i0 :: ir := by
      cases its with
      | nil => cases r
      | cons i0 ir => exact ⟨i0, ir, rfl⟩
    refine repr_list (ts := (y0 :: yr).map reprText) ⟨_, he, rfl⟩ hu he rfl ?_ (fun i v hv => ?_) (fun z h' u tk hz hk => ?_) (by rw [sizeLine_eq]; omega)
    · rw [List.length_map, List.size_toArray, ← hll, List.length_map]
    · rw [List.getElem?_toArray] at hv
      have hi : i < (i0 :: ir).length := (List.getElem?_eq_some_iff.mp hv).1
      have hi2 : i < (y0 :: yr).length := by rw [← hll, List.length_map] at hi; exact hi
      obtain ⟨u', hu', ru'⟩ := r.get (i := i) (x := .str (y0 :: yr)[i]) (by rw [List.getElem?_map, List.getElem?_eq_getElem hi2]; rfl)
      rw [hv] at hu'
      cases hu'
      obtain ⟨tk, rfl⟩ := ru'
      refine ⟨reprText (y0 :: yr)[i], by rw [List.getElem?_map, List.getElem?_eq_getElem hi2]; rfl, ReprIs.str _ _ ?_⟩
      have := hs _ (List.getElem_mem hi2)
      rw [sizeLine_eq]
      omega
    · have J : Inv X pins σ H1 { s1 with heap := h', toks := tk } := I1.kept hk
      have l1 : z.length ≤ sizeLine := by rw [sizeLine_eq]; omega
      have l2 : (Str.empty ++ c ++ z).length ≤ sizeLine := by
        rw [len_cat, len_cat, sizeLine_eq]
        show 0 + c.length + _ ≤ _
        omega
      refine wpAny_formatField_str ?_ ?_ l1
      · exact ⟨_, _, rfl, l2, l2, V.str _, H1, J.tok _, ⟨_, rfl⟩, q1 _⟩
      · exact ⟨_, _, rfl, l2, l2, V.str _, H1, J.tok _, ⟨_, rfl⟩, q1 _⟩
end
end L2

set_option Elab.async false
set_option linter.all false
set_option maxRecDepth 100000
set_option maxHeartbeats 4000000
namespace L2
open PySem
theorem hideG {G0 : Prop} (h : ∀ G : Prop, (G0 → G) → G) : G0 := h G0 fun z => z
theorem seq_joinA {t u : TS} {D : Ends} {σ : St} {H : Hp} (J : St → Hp → Prop) (h1 : ∀ (N : St → Hp → Prop) (r : VK) (b c : St → Hp → Prop), (∀ σ H, J σ H → N σ H) → t { nx := N, rt := r, bk := b, ct := c } σ H) (h2 : ∀ σ H, J σ H → u D σ H) : tSeq t u D σ H := h1 _ _ _ _ h2
theorem asg_cutN {te : TE} {i : Nat} {u : TS} {D : Ends} {σ : St} {H : Hp} (h : ∀ N : V → Hp → Prop, (∀ v H, u D (σ.set i (some v)) H → N v H) → te σ H N) : tSeq (tAsg te (gName i)) u D σ H := h _ fun _ _ z => z
theorem asg_cutL {te : TE} {i : Nat} {D : Ends} {σ : St} {H : Hp} (h : ∀ N : V → Hp → Prop, (∀ v H, D.nx (σ.set i (some v)) H → N v H) → te σ H N) : tAsg te (gName i) D σ H := h _ fun _ _ z => z
theorem len1 {α : Type} {P : List α → Prop} (h : ∀ a, P [a]) : ∀ us : List α, us.length = 1 → P us
  | [a], _ => h a
theorem len2 {α : Type} {P : List α → Prop} (h : ∀ a b, P [a, b]) : ∀ us : List α, us.length = 2 → P us
  | [a, b], _ => h a b
theorem len3 {α : Type} {P : List α → Prop} (h : ∀ a b c, P [a, b, c]) : ∀ us : List α, us.length = 3 → P us
  | [a, b, c], _ => h a b c
theorem len4 {α : Type} {P : List α → Prop} (h : ∀ a b c d, P [a, b, c, d]) : ∀ us : List α, us.length = 4 → P us
  | [a, b, c, d], _ => h a b c d
theorem for_rangeA {lo : Int} {n : Nat} {g : TG} {tb : TS} {D : Ends} {σ : St} {H : Hp} (Pv : Nat → St → Hp → Prop) (h0 : Pv 0 σ H)
    (hs : ∀ i σ H, i < n → Pv i σ H → ∀ (N b : St → Hp → Prop) (r : VK), (∀ σ H, Pv (i + 1) σ H → N σ H) → g (.int (lo + i)) σ H fun σ2 H2 => tb { nx := N, rt := r, bk := b, ct := N } σ2 H2) (hd : ∀ σ H, Pv n σ H → D.nx σ H) :
    ∃ W : Nat → Nat → St → Hp → Prop, (∃ m, W 0 m σ H) ∧ ∀ i m σ H, W i m σ H →
      ((Itr lo n).stop i H ∧ D.nx σ H) ∨ ((Itr lo n).go i H ∧ ∃ N : St → Hp → Prop, (∀ σ' H', N σ' H' → ∃ m', m' < m ∧ W (i + 1) m' σ' H') ∧ ∀ x H', (Itr lo n).yld i H x H' → g x σ H' fun σ2 H2 => tb { D with nx := N, ct := N, bk := D.nx } σ2 H2) :=
  for_range Pv h0 (fun i σ H hi p => hs i σ H hi p _ _ _ fun _ _ z => z) hd
theorem for_listR {K : PySem.W.Frag} {a : Addr} {xs : List V} {g : TG} {tb : TS} {D : Ends} {σ : St} {H : Hp} (Pv : Nat → St → Hp → Prop) (h0 : Pv 0 σ H) (hl : ∀ i σ H, i ≤ xs.length → Pv i σ H → SqL K H a xs)
    (hs : ∀ i x σ H, xs[i]? = some x → Pv i σ H → ∀ (N b : St → Hp → Prop) (r : VK), (∀ σ H, Pv (i + 1) σ H → N σ H) → (∀ v H, D.rt v H → r v H) → g x σ H fun σ2 H2 => tb { nx := N, rt := r, bk := b, ct := N } σ2 H2) (hd : ∀ σ H, Pv xs.length σ H → D.nx σ H) :
    ∃ W : Nat → Nat → St → Hp → Prop, (∃ m, W 0 m σ H) ∧ ∀ i m σ H, W i m σ H →
      ((Itl K a).stop i H ∧ D.nx σ H) ∨ ((Itl K a).go i H ∧ ∃ N : St → Hp → Prop, (∀ σ' H', N σ' H' → ∃ m', m' < m ∧ W (i + 1) m' σ' H') ∧ ∀ x H', (Itl K a).yld i H x H' → g x σ H' fun σ2 H2 => tb { D with nx := N, ct := N, bk := D.nx } σ2 H2) :=
  for_list Pv h0 hl (fun i x σ H hi p => hs i x σ H hi p _ _ _ (fun _ _ z => z) fun _ _ z => z) hd
theorem ex_cut {A B : (St → Hp → Prop) → Prop} (J : St → Hp → Prop) (h1 : A J) (h2 : ∀ N, (∀ σ H, J σ H → N σ H) → B N) : ∃ N, A N ∧ B N := ⟨J, h1, h2 J fun _ _ z => z⟩
theorem walk_X {q : Program} {loose : List Str} {XP : (Str → Option Value) → Heap → Prop} {K : Params → PySem.W.Frag} {as : List Addr} {n t : Nat} {r : PySem.W.RowW} {d : DefRec} {kwd : List (Str × Expr)} {run : Value → List Value → Sem Value}
    (e : ∀ P, as = (K P).map (·.1)) (W : PySem.W.WalkO q loose XP (PySem.W.InK K) r d kwd run) : PySem.W.WalkX q loose XP (PySem.W.X.obsZ as) (PySem.W.X.valZ K n t) r d kwd run :=
  fun w s₀ s₁ mg mb G y a o pm cd doc dV kV e1 e2 e3 e4 e5 e6 args vals as L p l R W' nn =>
    W w s₀ s₁ mg mb G (PySem.W.InK.keeps w _ _ (PySem.W.X.z_facts e y).2.1 L.keeps) a o pm cd doc dV kV e1 e2 e3 e4 e5 e6 args vals as p l R W' nn
end L2
namespace Lw
open PySem L2
noncomputable def top (i : Nat) : Stmt := PySem.Challenge.pw_everywidth_k10_no_claim.main.body.getD i (.Pass ⟨0, 0, 0, 0⟩)
noncomputable abbrev s_is_sum_word : Stmt := top 16
noncomputable abbrev s_is_claim_word : Stmt := top 17
noncomputable abbrev s_sums_behind : Stmt := top 18
noncomputable abbrev s_claims_behind : Stmt := top 19
noncomputable abbrev s_is_made_of : Stmt := top 20
noncomputable abbrev s_law_deck : Stmt := top 30
noncomputable abbrev s_law_take : Stmt := top 31
noncomputable abbrev s_law_kept : Stmt := top 32
noncomputable abbrev s_law_behind : Stmt := top 40
noncomputable abbrev s_NoName_init : Stmt := clsDef (top 8) 0
noncomputable abbrev s_is_name : Stmt := top 21
noncomputable abbrev s_is_figures : Stmt := top 22
noncomputable abbrev s_law_names : Stmt := top 33
noncomputable abbrev s_law_leaf : Stmt := top 34
noncomputable abbrev s_law_join : Stmt := top 37
noncomputable abbrev s_law_sort : Stmt := top 39
noncomputable abbrev s_law_spoilt : Stmt := top 42
noncomputable abbrev s_law_many_names : Stmt := top 43
noncomputable abbrev s_sum_word_read : Stmt := top 24
noncomputable abbrev s_law_sum : Stmt := top 35
noncomputable abbrev s_law_reading : Stmt := top 41
noncomputable abbrev s_sum_part_read : Stmt := top 28
noncomputable abbrev s_law_atom : Stmt := top 36
noncomputable abbrev s_word_read : Stmt := top 27
noncomputable abbrev s_law_claim : Stmt := top 38
noncomputable abbrev s_read_claim : Stmt := top 26
noncomputable abbrev s_law_right : Stmt := top 44
noncomputable abbrev s_law : Stmt := top 45
theorem same_upd {H : Hp} {p : Addr} {o : HO} (h : H p = none) : Same H (upd H p o) := fun b u e => by rw [upd_ne (ne_of_none e h)]; exact e
noncomputable def Off (d c : Addr) (H H' : Hp) : Prop := ∀ b o, H b = some o → b ≠ d → b ≠ c → H' b = some o
theorem Off.refl (d c : Addr) (H : Hp) : Off d c H H := fun _ _ h _ _ => h
theorem Off.trans {d c : Addr} {H H1 H2 : Hp} (x : Off d c H H1) (y : Off d c H1 H2) : Off d c H H2 := fun b o h h1 h2 => y b o (x b o h h1 h2) h1 h2
theorem same_off {H H' : Hp} (d c : Addr) (x : Same H H') : Off d c H H' := fun b o h _ _ => x b o h
theorem off_upd1 {d c : Addr} {H : Hp} {o : HO} : Off d c H (upd H d o) := fun b u e h1 _ => by rw [upd_ne h1]; exact e
theorem off_upd2 {d c : Addr} {H : Hp} {o : HO} : Off d c H (upd H c o) := fun b u e _ h2 => by rw [upd_ne h2]; exact e
structure DeckAt (H : Hp) (d c : Addr) : Prop where
  ex : ∃ (n : Int) (cs : List Int), H d = some (.lst [.ref c, .int n]) ∧ H c = some (.lst (cs.map V.int)) ∧ 1 ≤ cs.length ∧ cs.length ≤ 64
theorem DeckAt.ne {H : Hp} {d c : Addr} (D : DeckAt H d c) : d ≠ c := by
  obtain ⟨n, cs, hd, hc, _, _⟩ := D.ex
  refine ne_of hd hc ?_
  intro z
  injection z with z
  cases cs with
  | nil => cases z
  | cons x r =>
    rw [List.map_cons] at z
    injection z with z1 _
    cases z1
theorem DeckAt.same {H H' : Hp} {d c : Addr} (D : DeckAt H d c) (s : Same H H') : DeckAt H' d c := by
  obtain ⟨n, cs, hd, hc, h1, h2⟩ := D.ex
  exact ⟨n, cs, s _ _ hd, s _ _ hc, h1, h2⟩
theorem nx_join {t u : TS} {D : Ends} {r : VK} {b c : St → Hp → Prop} {σ : St} {H : Hp} (J : St → Hp → Prop) (h1 : ∀ N : St → Hp → Prop, (∀ σ H, J σ H → N σ H) → t { D with nx := N } σ H) (h2 : ∀ σ H, J σ H → u D σ H) : ({ nx := tSeq t u D, rt := r, bk := b, ct := c } : Ends).nx σ H := h1 _ h2
theorem gName_go {i : Nat} {v : V} {σ : St} {H : Hp} {Q : St → Hp → Prop} (h : Q (σ.set i (some v)) H) : gName i v σ H Q := h
theorem snoc_all {α : Type} {P : α → Prop} {l : List α} {y : α} (h : ∀ x ∈ l, P x) (hy : P y) : ∀ x ∈ l ++ [y], P x := by
  intro x hx
  rcases List.mem_append.mp hx with z | z
  · exact h x z
  · rw [List.mem_singleton.mp z]
    exact hy
theorem same_put {H H2 : Hp} {p : Addr} {o : HO} (s : Same H H2) (hp : H p = none) : Same H (upd H2 p o) := fun b u e => by
  rw [upd_ne (ne_of_none e hp)]
  exact s b u e
theorem atI_ints {ns : List Int} {z : Int} (j : Nat) (hz : z = (j : Int)) (hj : j < ns.length) : atI (ns.map V.int) z = some (.int (ns.getD j 0)) := by
  subst hz
  refine atI_nat ?_
  rw [List.getElem?_map, List.getElem?_eq_getElem hj, List.getD_eq_getElem?_getD, List.getElem?_eq_getElem hj]
  rfl
theorem atI_str {z : Str} {i : Int} (n : Nat) (hn : z.cps.toList.length = n) (h0 : 0 ≤ i) (h1 : i < (n : Int)) : ∃ c, c ∈ z.cps.toList ∧ atI z.cps.toList i = some c := by
  obtain ⟨j, rfl⟩ : ∃ j : Nat, i = (j : Int) := ⟨i.toNat, by omega⟩
  have hj : j < z.cps.toList.length := by omega
  exact ⟨z.cps.toList[j], List.getElem_mem hj, atI_nat (List.getElem?_eq_getElem hj)⟩
theorem atI_strs {ys : List Str} {i : Int} (h0 : 0 ≤ i) (h1 : i < (ys.length : Int)) : ∃ y, y ∈ ys ∧ atI (ys.map V.str) i = some (.str y) := by
  obtain ⟨j, rfl⟩ : ∃ j : Nat, i = (j : Int) := ⟨i.toNat, by omega⟩
  have hj : j < ys.length := by omega
  refine ⟨ys[j], List.getElem_mem hj, atI_nat ?_⟩
  rw [List.getElem?_map, List.getElem?_eq_getElem hj]
  rfl
noncomputable def fI (g : Int → V) : V → V
  | .int x => g x
  | v => v
theorem app_signs (a b : Str) : (a ++ b).cps.toList = a.cps.toList ++ b.cps.toList := by
  rw [PySem.Str.cps_append, Array.toList_append]
theorem len_signs (a : Str) : a.length = a.cps.toList.length := by
  unfold Str.length
  rw [Array.length_toList]
theorem slice_to {x : Str} {j : Nat} (h : j ≤ x.length) : (Txt.slice x none (some (j : Int))).cps.toList = x.cps.toList.take j := by
  have e := beq_iff_eq.mp (PyProof.Rows.slice_closes_to (x := x) (j := (j : Int)) ⟨by omega, by rw [← len_signs]; omega⟩)
  rw [e]
  simp
theorem slice_from {x : Str} {i : Nat} (h : i ≤ x.length) : (Txt.slice x (some (i : Int)) none).cps.toList = x.cps.toList.drop i := by
  rw [PyProof.Rows.slice_from_eq (b := (x.length : Int)) (by omega) (by omega) rfl]
  simp only [Int.toNat_natCast]
  rw [List.take_of_length_le (by rw [List.length_drop, ← len_signs]; omega)]
theorem join_signs (sep : Str) (hs : sep.cps = #[]) : ∀ ys : List Str, (Txt.join sep ys).cps.toList = (ys.map (·.cps.toList)).flatten := by
  intro ys
  show (Builtin.Str.glued sep ys).cps.toList = _
  rw [StrLaws.glued_eq_join]
  induction ys with
  | nil => rfl
  | cons x r ih =>
    cases r with
    | nil =>
      show x.cps.toList = _
      simp
    | cons y r =>
      show (x ++ sep ++ Str.join sep (y :: r)).cps.toList = _
      rw [app_signs, app_signs, ih, hs]
      simp
theorem ones_flat {ys : List Str} {P : Nat → Prop} (h : ∀ y ∈ ys, ∃ c, y = ⟨#[c]⟩ ∧ P c) : (ys.map (·.cps.toList)).flatten.length = ys.length ∧ (∀ c ∈ (ys.map (·.cps.toList)).flatten, P c) ∧ (ys.map (·.length)).sum = ys.length := by
  induction ys with
  | nil => exact ⟨rfl, fun c h => absurd h (List.not_mem_nil), rfl⟩
  | cons y r ih =>
    obtain ⟨c, rfl, hc⟩ := h _ List.mem_cons_self
    obtain ⟨h1, h2, h3⟩ := ih fun z hz => h z (List.mem_cons_of_mem _ hz)
    refine ⟨?_, ?_, ?_⟩
    · rw [List.map_cons, List.flatten_cons, List.length_append, h1]
      show 1 + r.length = r.length + 1
      omega
    · intro d hd
      rw [List.map_cons, List.flatten_cons] at hd
      rcases List.mem_append.mp hd with z | z
      · have : d = c := by simpa using z
        rw [this]
        exact hc
      · exact h2 d z
    · rw [List.map_cons, List.sum_cons, h3]
      show 1 + r.length = r.length + 1
      omega

noncomputable def lowS : Str := "abcdefghijklmnopqrstuvwxyz"
noncomputable def Low (c : Nat) : Prop := c ∈ lowS.cps.toList
noncomputable instance (c : Nat) : Decidable (Low c) := inferInstanceAs (Decidable (c ∈ _))
noncomputable def keptS : List Str := ["not", "neg", "twice", "low", "and", "or", "odd", "add", "sub", "pick", "same", "under", "beneath", "sign", "nought", "both", "either", "so", "never", "yes"]
noncomputable def NmL (y : Str) : Prop := (1 ≤ y.length ∧ y.length ≤ 8) ∧ ∀ c ∈ y.cps.toList, Low c
noncomputable instance (y : Str) : Decidable (NmL y) := inferInstanceAs (Decidable (_ ∧ _))
structure NmS (y : Str) : Prop where
  l : NmL y
  k : y ∉ keptS
theorem low_len : lowS.cps.toList.length = 26 := by decide +kernel
theorem low_size : lowS.length ≤ sizeLine := by decide +kernel
theorem kept_low : ∀ y ∈ keptS, (1 ≤ y.length ∧ y.length ≤ 7) ∧ ∀ c ∈ y.cps.toList, Low c := by decide +kernel
theorem low_at {i : Int} (h0 : 0 ≤ i) (h1 : i < 26) : ∃ c, Low c ∧ atI lowS.cps.toList i = some c := by
  obtain ⟨c, hc, e⟩ := atI_str (z := lowS) (i := i) 26 low_len h0 h1
  exact ⟨c, hc, e⟩
theorem low_index : ∀ c ∈ lowS.cps.toList, ∃ i rest, Builtin.Str.occurrences lowS ⟨#[c]⟩ 0 lowS.length 1 = i :: rest := by
  have h : ∀ c ∈ lowS.cps.toList, (Builtin.Str.occurrences lowS ⟨#[c]⟩ 0 lowS.length 1).isEmpty = false := by decide +kernel
  intro c hc
  have := h c hc
  cases e : Builtin.Str.occurrences lowS ⟨#[c]⟩ 0 lowS.length 1 with
  | nil => rw [e] at this; cases this
  | cons i r => exact ⟨i, r, rfl⟩
theorem one_len (c : Nat) : (⟨#[c]⟩ : Str).length = 1 := rfl
theorem slice_neg1 {x : Str} (h : 1 ≤ x.length) : Txt.slice x none (some (-1)) = Txt.slice x none (some ((x.length - 1 : Nat) : Int)) := by
  unfold Txt.slice
  have e : Builtin.Str.strSliceIndices none (some (-1)) 1 x.length = Builtin.Str.strSliceIndices none (some ((x.length - 1 : Nat) : Int)) 1 x.length := by
    unfold Builtin.Str.strSliceIndices
    have h1 : ((-1 : Int) < 0) := by decide
    have h2 : ¬ (((x.length - 1 : Nat) : Int) < 0) := by omega
    have h3 : (-1 : Int) + (x.length : Int) = ((x.length - 1 : Nat) : Int) := by omega
    simp only [h1, h2, if_true, if_false, h3]
  rw [e]
theorem mem_slice1 {B : Str} {j : Nat} {d : Nat} (hj : j < B.length) {c : Nat} (hc : c ∈ (Txt.slice B none (some (j : Int)) ++ ⟨#[d]⟩ ++ Txt.slice B (some ((j : Int) + 1)) none).cps.toList) : c ∈ B.cps.toList ∨ c = d := by
  rw [app_signs, app_signs, slice_to (by omega), show ((j : Int) + 1) = ((j + 1 : Nat) : Int) by omega, slice_from (by omega)] at hc
  rcases List.mem_append.mp hc with z | z
  · rcases List.mem_append.mp z with z | z
    · exact .inl (List.mem_of_mem_take z)
    · exact .inr (by simpa using z)
  · exact .inl (List.mem_of_mem_drop z)
theorem len_slice1 {B : Str} {j : Nat} {d : Nat} (hj : j < B.length) : (Txt.slice B none (some (j : Int)) ++ ⟨#[d]⟩ ++ Txt.slice B (some ((j : Int) + 1)) none).length = B.length := by
  rw [len_signs, app_signs, app_signs, slice_to (by omega), show ((j : Int) + 1) = ((j + 1 : Nat) : Int) by omega, slice_from (by omega)]
  simp only [List.length_append, List.length_take, List.length_drop, ← len_signs]
  show min j B.length + 1 + (B.length - (j + 1)) = B.length
  omega
theorem NmL.cut {y : Str} (h : NmL y) (h8 : y.length = 8) : NmL (Txt.slice y none (some (-1))) := by
  rw [slice_neg1 (by omega)]
  have e := slice_to (x := y) (j := y.length - 1) (by omega)
  refine ⟨?_, fun c hc => h.2 c (by rw [e] at hc; exact List.mem_of_mem_take hc)⟩
  rw [len_signs, e, List.length_take, ← len_signs]
  omega
theorem NmL.more {y : Str} (h : NmL y) (h7 : y.length ≤ 7) {c : Nat} (hc : Low c) : NmL (y ++ ⟨#[c]⟩) := by
  have h1 := h.1
  refine ⟨by rw [Str.length_append, one_len]; omega, fun d hd => ?_⟩
  rw [app_signs] at hd
  rcases List.mem_append.mp hd with z | z
  · exact h.2 d z
  · have : d = c := by simpa using z
    rw [this]
    exact hc
theorem inV_strs (y : Str) : ∀ ys : List Str, inV (.str y) (ys.map V.str) = decide (y ∈ ys)
  | [] => rfl
  | z :: r => by
    have e : inV (.str y) ((z :: r).map V.str) = ((z == y) || inV (.str y) (r.map V.str)) := rfl
    rw [e, inV_strs y r]
    by_cases h : z = y
    · rw [h, beq_self_eq_true, Bool.true_or]
      exact (decide_eq_true List.mem_cons_self).symm
    · rw [beq_eq_false_iff_ne.mpr h, Bool.false_or]
      by_cases m : y ∈ r
      · rw [decide_eq_true m, decide_eq_true (List.mem_cons_of_mem _ m)]
      · rw [decide_eq_false m, decide_eq_false (fun z => (List.mem_cons.mp z).elim (fun q => h q.symm) m)]
theorem all_flatS (ys : List Str) : (ys.map V.str).all flatV = true := by
  rw [List.all_map]
  exact List.all_eq_true.mpr fun _ _ => rfl
noncomputable def spareS : List Str := ["qa", "rb", "sc", "td"]
theorem spare_ok : ∀ y ∈ spareS, NmL y ∧ y ∉ keptS := by decide +kernel
theorem spare_left {ys : List Str} (h : ys.length ≤ 2) : ∃ y r, spareS.filter (fun y => !decide (y ∈ ys)) = y :: r ∧ y ∈ spareS ∧ y ∉ ys := by
  cases e : spareS.filter (fun y => !decide (y ∈ ys)) with
  | cons y r =>
    have hm : y ∈ spareS.filter (fun y => !decide (y ∈ ys)) := by rw [e]; exact List.mem_cons_self
    rw [List.mem_filter] at hm
    exact ⟨y, r, rfl, hm.1, by simpa using hm.2⟩
  | nil =>
    exfalso
    have all : ∀ y ∈ spareS, y ∈ ys := fun y hy => by
      have := List.filter_eq_nil_iff.mp e y hy
      simpa using this
    have h1 := all "qa" (by decide +kernel)
    have h2 := all "rb" (by decide +kernel)
    have h3 := all "sc" (by decide +kernel)
    have n1 : ("qa" : Str) ≠ "rb" := by decide +kernel
    have n2 : ("qa" : Str) ≠ "sc" := by decide +kernel
    have n3 : ("rb" : Str) ≠ "sc" := by decide +kernel
    match ys, h with
    | [], _ => cases h1
    | [a], _ =>
      simp only [List.mem_cons, List.not_mem_nil, or_false] at h1 h2
      exact n1 (h1.trans h2.symm)
    | [a, b], _ =>
      simp only [List.mem_cons, List.not_mem_nil, or_false] at h1 h2 h3
      rcases h1 with h1 | h1 <;> rcases h2 with h2 | h2 <;> rcases h3 with h3 | h3 <;> first
        | exact n1 (h1.trans h2.symm)
        | exact n2 (h1.trans h3.symm)
        | exact n3 (h2.trans h3.symm)
structure Nms (ys : List Str) : Prop where
  l1 : 1 ≤ ys.length
  l3 : ys.length ≤ 3
  nd : ys.Nodup
  ok : ∀ y ∈ ys, NmS y
theorem deck_ne {H : Hp} {d c p : Addr} (D : DeckAt H d c) (hp : H p = none) : p ≠ d ∧ p ≠ c := by
  obtain ⟨n, cs, hd, hc, _⟩ := D.ex
  exact ⟨(fun e => by rw [← e, hp] at hd; cases hd), (fun e => by rw [← e, hp] at hc; cases hc)⟩
theorem off_put {d c p : Addr} {H H2 : Hp} {o : HO} (h : Off d c H H2) (hp : H p = none) : Off d c H (upd H2 p o) := fun b u e h1 h2 => by
  rw [upd_ne (ne_of_none e hp)]
  exact h b u e h1 h2
theorem deck_put {d c p : Addr} {H : Hp} {o : HO} (D : DeckAt H d c) (h : p ≠ d ∧ p ≠ c) : DeckAt (upd H p o) d c := by
  obtain ⟨n, cs, hd, hc, h1, h2⟩ := D.ex
  exact ⟨n, cs, by rw [upd_ne h.1.symm]; exact hd, by rw [upd_ne h.2.symm]; exact hc, h1, h2⟩
theorem while_w {c : TT} {tb : TS} {D : Ends} {σ : St} {H : Hp} (Pv : St → Hp → Prop) (μ : St → Hp → Nat) (h0 : Pv σ H)
    (hs : ∀ σ H, Pv σ H → c σ H fun b H1 => if b = true then ∃ N : St → Hp → Prop, (∀ σ' H', N σ' H' → ∃ m', m' < μ σ H ∧ m' = μ σ' H' ∧ Pv σ' H') ∧ tb { D with nx := N, ct := N, bk := D.nx } σ H1 else D.nx σ H1) : tWhile c tb D σ H := by
  refine ⟨fun m σ H => m = μ σ H ∧ Pv σ H, ⟨_, rfl, h0⟩, ?_⟩
  rintro m σ H ⟨rfl, p⟩
  exact hs σ H p
noncomputable def Off3 (d c hv : Addr) (H H' : Hp) : Prop := ∀ b o, H b = some o → b ≠ d → b ≠ c → b ≠ hv → H' b = some o
theorem off3_trans {d c hv : Addr} {H H1 H2 : Hp} (x : Off3 d c hv H H1) (y : Off d c H1 H2) : Off3 d c hv H H2 := fun b o h h1 h2 h3 => y b o (x b o h h1 h2 h3) h1 h2
theorem off3_put {d c hv p : Addr} {H H2 : Hp} {o : HO} (h : Off3 d c hv H H2) (hp : H p = none) : Off3 d c hv H (upd H2 p o) := fun b u e h1 h2 h3 => by
  rw [upd_ne (ne_of_none e hp)]
  exact h b u e h1 h2 h3
theorem off3_hv {d c hv : Addr} {H H2 : Hp} {o : HO} (h : Off3 d c hv H H2) : Off3 d c hv H (upd H2 hv o) := fun b u e h1 h2 h3 => by
  rw [upd_ne h3]
  exact h b u e h1 h2 h3
theorem deck_strs {H : Hp} {d c p : Addr} {ys : List Str} (D : DeckAt H d c) (hp : H p = some (.lst (ys.map V.str))) (h1 : 1 ≤ ys.length) : p ≠ d ∧ p ≠ c := by
  obtain ⟨n, cs, hd, hc, c1, _⟩ := D.ex
  match ys, h1 with
  | y :: r, _ =>
    constructor
    · refine ne_of hp hd ?_
      intro z
      injection z with z
      rw [List.map_cons] at z
      injection z with z _
      cases z
    · refine ne_of hp hc ?_
      intro z
      injection z with z
      match cs, c1 with
      | q :: cs, _ =>
        rw [List.map_cons, List.map_cons] at z
        injection z with z _
        cases z
theorem deck_one {H : Hp} {d c p : Addr} {n : Int} (D : DeckAt H d c) (hp : H p = some (.lst [.int n])) (hne : p ≠ c) : p ≠ d ∧ p ≠ c := by
  obtain ⟨m, cs, hd, hc, c1, _⟩ := D.ex
  exact ⟨ne_of hp hd (by intro z; injection z with z; injection z with z _; cases z), hne⟩
noncomputable def LeafOk (ys : List Str) (v : V) : Prop := (∃ y ∈ ys, v = .str y) ∨ ∃ z : Int, v = .int z ∧ 0 ≤ z ∧ z < 1000
noncomputable def sumT : List (Str × Nat) := [("not", 1), ("neg", 1), ("twice", 1), ("low", 1), ("and", 2), ("or", 2), ("odd", 2), ("add", 2), ("sub", 2), ("pick", 3)]
noncomputable def sumW : List Str := sumT.map (·.1)
noncomputable def partsS (y : Str) : Nat := ((sumT.find? fun p => decide (p.1 = y)).map (·.2)).getD 0
noncomputable def partsV : V → Nat
  | .str y => partsS y
  | _ => 0
noncomputable def WordOk (ys : List Str) (v : V) : Prop := (∃ y, v = .str y ∧ y ∈ sumW) ∨ LeafOk ys v
theorem LeafOk.word {ys : List Str} {v : V} (h : LeafOk ys v) : WordOk ys v := .inr h
theorem sum_kept : ∀ y ∈ sumW, y ∈ keptS := by decide +kernel
theorem parts_name {y : Str} (h : y ∉ keptS) : partsS y = 0 := by
  unfold partsS
  have e : sumT.find? (fun p => decide (p.1 = y)) = none := by
    rw [List.find?_eq_none]
    intro p hp hq
    exact h (sum_kept y (by rw [← of_decide_eq_true hq]; exact List.mem_map_of_mem hp))
  rw [e]
  rfl
theorem LeafOk.parts {ys : List Str} {v : V} (h : LeafOk ys v) (N : Nms ys) : partsV v = 0 := by
  rcases h with ⟨y, hy, rfl⟩ | ⟨z, rfl, _⟩
  · exact parts_name (N.ok y hy).k
  · rfl
inductive Pre : Nat → List V → Nat → Prop
  | nil {d : Nat} : Pre d [] d
  | cons {d e : Nat} {w : V} {r : List V} : 0 < d → Pre (d - 1 + partsV w) r e → Pre d (w :: r) e
theorem Pre.snoc {d e : Nat} {ws : List V} {w : V} (h : Pre d ws e) (he : 0 < e) : Pre d (ws ++ [w]) (e - 1 + partsV w) := by
  induction h with
  | nil => exact .cons he .nil
  | cons hd _ ih => exact .cons hd (ih he)
structure SumW (ys : List Str) (ws : List V) : Prop where
  pre : Pre 1 ws 0
  ok : ∀ w ∈ ws, WordOk ys w
noncomputable def drawW : List Str := ["pick", "and", "or", "odd", "add", "sub", "not", "neg", "twice", "low", ""]
noncomputable def drawM : List Int := [3, 2, 2, 2, 2, 2, 1, 1, 1, 1, 99]
noncomputable def heavyW : List Str := ["add", "sub", "neg", "twice", "low"]
theorem atI_drawW {j : Nat} (hj : j < 11) : atI (drawW.map V.str) (j : Int) = some (.str (drawW.getD j "")) := by
  refine atI_nat ?_
  rw [List.getElem?_map, List.getElem?_eq_getElem (show j < drawW.length from hj), List.getD_eq_getElem?_getD, List.getElem?_eq_getElem (show j < drawW.length from hj)]
  rfl
theorem atI_drawM {j : Nat} (hj : j < 11) : atI (drawM.map V.int) (j : Int) = some (.int (drawM.getD j 0)) := atI_ints j rfl hj
theorem draw_fact : ∀ j, j < 11 → (drawW.getD j "" = "" ∧ drawM.getD j 0 = 99) ∨ ∃ m3 : Nat, drawM.getD j 0 = (m3 : Int) ∧ partsV (.str (drawW.getD j "")) = m3 ∧ drawW.getD j "" ∈ sumW ∧ m3 ≤ 3 := by
  have h : ∀ j, j < 11 → (drawW.getD j "" = "" ∧ drawM.getD j 0 = 99) ∨ (drawM.getD j 0 = ((partsS (drawW.getD j "") : Nat) : Int) ∧ drawW.getD j "" ∈ sumW ∧ partsS (drawW.getD j "") ≤ 3) := by decide +kernel
  intro j hj
  rcases h j hj with z | ⟨h1, h2, h3⟩
  · exact .inl z
  · exact .inr ⟨_, h1, rfl, h2, h3⟩

noncomputable def T1 : List (Str × Int) := [("not", 1), ("neg", 1), ("twice", 1), ("low", 1), ("and", 2), ("or", 2), ("odd", 2), ("add", 2), ("sub", 2), ("pick", 3)]
noncomputable def T2 : List (Str × Int) := [("same", 2), ("under", 2), ("beneath", 2), ("sign", 1), ("nought", 1)]
noncomputable def T3 : List (Str × Int) := [("both", 2), ("either", 2), ("so", 2), ("never", 1), ("yes", 0)]
noncomputable def claimW : List Str := ["same", "under", "beneath", "sign", "nought", "both", "either", "so", "never", "yes"]
theorem kv_has (l : List (Str × Int)) (y : Str) : (valV (kvsOf l) (.inr y)).isSome = decide (y ∈ l.map (·.1)) := by
  induction l with
  | nil => rfl
  | cons p r ih =>
    by_cases h : p.1 = y
    · have e : valV (kvsOf (p :: r)) (.inr y) = some (.int p.2) := valV_pos (p := ((Sum.inr p.1 : Key), V.int p.2)) (by rw [h])
      rw [e, List.map_cons, decide_eq_true (by rw [h]; exact List.mem_cons_self)]
      rfl
    · have e : valV (kvsOf (p :: r)) (.inr y) = valV (kvsOf r) (.inr y) := valV_neg (p := ((Sum.inr p.1 : Key), V.int p.2)) (fun z => h (Sum.inr.inj z))
      rw [e, ih, List.map_cons]
      by_cases m : y ∈ r.map (·.1)
      · rw [decide_eq_true m, decide_eq_true (List.mem_cons_of_mem _ m)]
      · rw [decide_eq_false m, decide_eq_false (fun z => (List.mem_cons.mp z).elim (fun q => h q.symm) m)]
noncomputable def getN : List (Str × Int) → Key → Int
  | [], _ => 0
  | p :: r, k => if (Sum.inr p.1 : Key) = k then p.2 else getN r k
theorem kget (l : List (Str × Int)) (k : Key) : (valV (kvsOf l) k).getD (.int 0) = .int (getN l k) := by
  induction l with
  | nil => rfl
  | cons p r ih =>
    unfold getN
    by_cases h : (Sum.inr p.1 : Key) = k
    · have e : valV (kvsOf (p :: r)) k = some (.int p.2) := valV_pos (p := ((Sum.inr p.1 : Key), V.int p.2)) h
      rw [e, if_pos h]
      rfl
    · have e : valV (kvsOf (p :: r)) k = valV (kvsOf r) k := valV_neg (p := ((Sum.inr p.1 : Key), V.int p.2)) h
      rw [e, ih, if_neg h]
theorem getN_int (l : List (Str × Int)) (i : Int) : getN l (.inl i) = 0 := by
  induction l with
  | nil => rfl
  | cons p r ih =>
    unfold getN
    rw [if_neg (fun z => nomatch z), ih]
theorem getN_none {l : List (Str × Int)} {y : Str} (h : y ∉ l.map (·.1)) : getN l (.inr y) = 0 := by
  induction l with
  | nil => rfl
  | cons p r ih =>
    unfold getN
    rw [List.map_cons] at h
    rw [if_neg (fun z => h (by rw [← Sum.inr.inj z]; exact List.mem_cons_self)), ih (fun z => h (List.mem_cons_of_mem _ z))]
theorem tw1 : T1.map (·.1) = sumW := by decide +kernel
theorem kept_of : ∀ y, y ∈ keptS ↔ y ∈ sumW ∨ y ∈ claimW := by
  intro y
  have e : keptS = sumW ++ claimW := by decide +kernel
  rw [e, List.mem_append]
theorem tab_kept : (∀ y ∈ T1.map (·.1), y ∈ keptS) ∧ (∀ y ∈ T2.map (·.1), y ∈ keptS) ∧ ∀ y ∈ T3.map (·.1), y ∈ keptS := by decide +kernel
noncomputable def keyOf : V → Key
  | .int i => .inl i
  | .str y => .inr y
  | _ => .inl 0
theorem occ_mem (x : Str) (c : Nat) : (!(Builtin.Str.occurrences x ⟨#[c]⟩ 0 x.length 1).isEmpty) = decide (c ∈ x.cps.toList) := by
  have h := PyProof.Rows.in_closes (x := x) (c := c) rfl rfl
  rw [beq_iff_eq] at h
  rw [h]
  by_cases m : c ∈ x.cps.toList
  · rw [decide_eq_true m, decide_eq_true ((PyProof.Rows.countIn_signs c _).mpr m)]
  · rw [decide_eq_false m, decide_eq_false (fun z => m ((PyProof.Rows.countIn_signs c _).mp z))]
noncomputable def figS : Str := "0123456789"
noncomputable def MadeOf (y sg : Str) : Prop := y.cps.toList ≠ [] ∧ ∀ c ∈ y.cps.toList, c ∈ sg.cps.toList
noncomputable instance (y sg : Str) : Decidable (MadeOf y sg) := inferInstanceAs (Decidable (_ ∧ _))
theorem all_bs (l : List Nat) (p : Nat → Bool) : (l.map p).all id = decide (∀ c ∈ l, p c = true) := by
  rw [Bool.eq_iff_iff, List.all_eq_true, decide_eq_true_iff]
  constructor
  · intro h c hc
    exact h _ (List.mem_map_of_mem hc)
  · intro h b hb
    obtain ⟨c, hc, rfl⟩ := List.mem_map.mp hb
    exact h c hc
theorem nil_signs {y : Str} : y.cps.toList = [] ↔ y = ("" : Str) := by
  constructor
  · intro h
    obtain ⟨a⟩ := y
    have : a = #[] := by
      apply Array.toList_inj.mp
      simpa using h
    subst this
    decide +kernel
  · rintro rfl
    decide +kernel
noncomputable def figB (y : Str) : Bool := decide (MadeOf y figS) && (decide (V.str y = V.str "0") || !(decide (0 + ("0" : Str).length ≤ y.length) && Builtin.Str.subAt y "0" 0))

noncomputable def shw : V → Str
  | .str y => y
  | .int z => Str.ofString (toString z)
  | _ => ""
theorem low_fig : ∀ c ∈ lowS.cps.toList, c ∉ figS.cps.toList := by decide +kernel
theorem num_short : ∀ n, n < 1000 → (Str.ofString (toString ((n : Nat) : Int))).length ≤ 3 := by decide +kernel
theorem num_free : ∀ n, n < 1000 → 32 ∉ (Str.ofString (toString ((n : Nat) : Int))).cps.toList := by decide +kernel
theorem sum_free : ∀ y ∈ sumW, 32 ∉ y.cps.toList ∧ y.length ≤ 5 := by decide +kernel
theorem low_32 : ¬ Low 32 := by decide +kernel
theorem shw_ok {ys : List Str} (N : Nms ys) {w : V} (h : WordOk ys w) : 32 ∉ (shw w).cps.toList ∧ (shw w).length ≤ 8 := by
  rcases h with ⟨y, rfl, hy⟩ | ⟨y, hy, rfl⟩ | ⟨z, rfl, h0, h1⟩
  · have := sum_free y hy
    exact ⟨this.1, by show y.length ≤ 8; omega⟩
  · have := (N.ok y hy).l
    exact ⟨fun z => low_32 (this.2 _ z), this.1.2⟩
  · obtain ⟨n, rfl⟩ : ∃ n : Nat, z = (n : Int) := ⟨z.toNat, by omega⟩
    have := num_short n (by omega)
    exact ⟨num_free n (by omega), by show (Str.ofString (toString ((n : Nat) : Int))).length ≤ 8; omega⟩
noncomputable def blank : Str := " "
theorem blank_is : blank = ⟨#[32]⟩ := by decide +kernel
theorem parts_short {x y : Str} (h : x.length ≤ 1000) : (Builtin.Str.partsBetween x (Builtin.Str.occurrences x y 0 x.length (x.length + 1)) y.length).length ≤ sizeLine := by
  rw [PyProof.Rows.len_partsBetween]
  have := PySem.StrLaws.occ_length_le x y 0 x.length (x.length + 1)
  exact Nat.le_trans (show _ ≤ 2000 by omega) (by decide)

theorem num_log {z : Int} (h0 : 0 ≤ z) (h1 : z < 1000) : z.natAbs.log2 < 1920 := by
  by_cases h : z.natAbs = 0
  · rw [h]; decide
  · rw [Nat.log2_lt h]
    have : z.natAbs < 2 ^ 10 := by omega
    exact Nat.lt_of_lt_of_le this (Nat.pow_le_pow_right (by decide) (by decide))
theorem shw_read {ys : List Str} {w : V} (h : WordOk ys w) {H : Hp} {R : VK} (hR : R (.str (shw w)) H) : (∃ z, [w] = [V.str z] ∧ R (.str z) H) ∨ ∃ i, [w] = [V.int i] ∧ i.natAbs.log2 < 1920 ∧ R (.str (Str.ofString (toString i))) H := by
  rcases h with ⟨y, rfl, hy⟩ | ⟨y, hy, rfl⟩ | ⟨z, rfl, h0, h1⟩
  · exact .inl ⟨y, rfl, hR⟩
  · exact .inl ⟨y, rfl, hR⟩
  · exact .inr ⟨z, rfl, num_log h0 h1, hR⟩
noncomputable def CWord (ys : List Str) (w : V) : Prop := WordOk ys w ∨ ∃ y, w = .str y ∧ y ∈ claimW
theorem cshw_read {ys : List Str} {w : V} (h : CWord ys w) {H : Hp} {R : VK} (hR : R (.str (shw w)) H) : (∃ z, [w] = [V.str z] ∧ R (.str z) H) ∨ ∃ i, [w] = [V.int i] ∧ i.natAbs.log2 < 1920 ∧ R (.str (Str.ofString (toString i))) H := by
  rcases h with h | ⟨y, rfl, hy⟩
  · exact shw_read h hR
  · exact .inl ⟨y, rfl, hR⟩
theorem claim_kept : ∀ y ∈ claimW, y ∈ keptS := by decide +kernel
noncomputable def kdS : Bool → Str
  | true => "claim"
  | false => "sum"
noncomputable def WB (ys : List Str) : Bool → V → Prop
  | true, w => ∃ y, w = .str y ∧ y ∈ claimW
  | false, w => WordOk ys w
theorem WB.cw {ys : List Str} {b : Bool} {w : V} (h : WB ys b w) : CWord ys w := by
  cases b with
  | true => exact .inr h
  | false => exact .inl h
noncomputable def nSum (w : V) : Nat := (getN T1 (keyOf w) + getN T2 (keyOf w)).toNat
noncomputable def nClm (w : V) : Nat := (getN T3 (keyOf w)).toNat
noncomputable def nextK (w : V) : List Bool := List.replicate (nSum w) false ++ List.replicate (nClm w) true
inductive PreK (ys : List Str) : List Bool → List V → List Bool → Prop
  | nil {ls : List Bool} : PreK ys ls [] ls
  | cons {ls e : List Bool} {b : Bool} {w : V} {r : List V} : WB ys b w → PreK ys (ls ++ nextK w) r e → PreK ys (ls ++ [b]) (w :: r) e
theorem PreK.app {ys : List Str} {a b c : List Bool} {u v : List V} (h : PreK ys a u b) (g : PreK ys b v c) : PreK ys a (u ++ v) c := by
  induction h with
  | nil => exact g
  | cons hw _ ih => exact .cons hw (ih g)
theorem PreK.under {ys : List Str} {a b : List Bool} {u : List V} (p : List Bool) (h : PreK ys a u b) : PreK ys (p ++ a) u (p ++ b) := by
  induction h with
  | nil => exact .nil
  | cons hw _ ih =>
    rw [← List.append_assoc] at ih ⊢
    exact .cons hw ih
theorem PreK.words {ys : List Str} {a b : List Bool} {u : List V} (h : PreK ys a u b) : ∀ w ∈ u, CWord ys w := by
  induction h with
  | nil => exact fun _ h => nomatch h
  | cons hw _ ih =>
    intro x hx
    rcases List.mem_cons.mp hx with rfl | hx
    · exact hw.cw
    · exact ih x hx
theorem getN_bd {l : List (Str × Int)} (h : ∀ p ∈ l, 0 ≤ p.2 ∧ p.2 ≤ 3) (k : Key) : 0 ≤ getN l k ∧ getN l k ≤ 3 := by
  induction l with
  | nil => exact ⟨Int.le_refl _, (by decide : (0 : Int) ≤ 3)⟩
  | cons p r ih =>
    unfold getN
    split
    · exact h p List.mem_cons_self
    · exact ih fun q hq => h q (List.mem_cons_of_mem _ hq)
theorem T1_bd (k : Key) : 0 ≤ getN T1 k ∧ getN T1 k ≤ 3 := getN_bd (by decide +kernel) k
theorem T2_bd (k : Key) : 0 ≤ getN T2 k ∧ getN T2 k ≤ 3 := getN_bd (by decide +kernel) k
theorem T3_bd (k : Key) : 0 ≤ getN T3 k ∧ getN T3 k ≤ 3 := getN_bd (by decide +kernel) k
theorem sum_next : ∀ y ∈ sumW, nSum (.str y) = partsS y ∧ nClm (.str y) = 0 := by decide +kernel
theorem word_next {ys : List Str} (N : Nms ys) {w : V} (h : WordOk ys w) : nextK w = List.replicate (partsV w) false := by
  have hh : nSum w = partsV w ∧ nClm w = 0 := by
    rcases h with ⟨y, rfl, hy⟩ | ⟨y, hy, rfl⟩ | ⟨z, rfl, _⟩
    · exact sum_next y hy
    · have hk := (N.ok y hy).k
      have e1 := getN_none fun z => hk (tab_kept.1 y z)
      have e2 := getN_none fun z => hk (tab_kept.2.1 y z)
      have e3 := getN_none fun z => hk (tab_kept.2.2 y z)
      constructor
      · show (getN T1 (.inr y) + getN T2 (.inr y)).toNat = partsS y
        rw [parts_name hk, e1, e2]
        rfl
      · show (getN T3 (.inr y)).toNat = 0
        rw [e3]
        rfl
    · constructor
      · show (getN T1 (.inl z) + getN T2 (.inl z)).toNat = 0
        rw [getN_int, getN_int]
        rfl
      · show (getN T3 (.inl z)).toNat = 0
        rw [getN_int]
        rfl
  unfold nextK
  rw [hh.1, hh.2, List.replicate_zero, List.append_nil]
theorem pre_preK {ys : List Str} (N : Nms ys) {d e : Nat} {ws : List V} (h : Pre d ws e) (ok : ∀ w ∈ ws, WordOk ys w) : PreK ys (List.replicate d false) ws (List.replicate e false) := by
  induction h with
  | nil => exact .nil
  | @cons d e w r hd _ ih =>
    have hw := ok w List.mem_cons_self
    have e1 : List.replicate d false = List.replicate (d - 1) false ++ [false] := by
      rw [← List.replicate_succ', Nat.sub_add_cancel hd]
    rw [e1]
    refine .cons (b := false) hw ?_
    rw [word_next N hw, List.replicate_append_replicate]
    exact ih fun x hx => ok x (List.mem_cons_of_mem _ hx)
theorem SumW.preK {ys : List Str} {ws : List V} (W : SumW ys ws) (N : Nms ys) : PreK ys [false] ws [] := pre_preK N W.pre W.ok
noncomputable def ClaimW (ys : List Str) (ws : List V) : Prop := PreK ys [true] ws []
theorem PreK.ne {ys : List Str} {a : List Bool} {ws : List V} (h : PreK ys a ws []) (ha : a ≠ []) : ws ≠ [] := by
  intro e
  subst e
  cases h
  exact ha rfl
theorem ClaimW.ne {ys : List Str} {ws : List V} (h : ClaimW ys ws) : ws ≠ [] := PreK.ne h (by simp)
theorem cw_one {ys : List Str} {y : Str} (hy : y ∈ claimW) : PreK ys [true] [.str y] (nextK (.str y)) := PreK.cons (ls := []) (b := true) ⟨y, rfl, hy⟩ .nil
noncomputable def atomW : List Str := ["same", "under", "beneath", "sign", "nought", "yes"]
noncomputable def atomN : List Int := [2, 2, 2, 1, 1, 0]
theorem atom_fact : ∀ j, j < 6 → atomW.getD j "" ∈ claimW ∧ (0 ≤ atomN.getD j 0 ∧ atomN.getD j 0 ≤ 2) ∧ nextK (.str (atomW.getD j "")) = List.replicate (atomN.getD j 0).toNat false := by decide +kernel
noncomputable def joinW : List Str := ["both", "either", "so"]
theorem join_fact : ∀ y ∈ joinW, y ∈ claimW ∧ nextK (.str y) = [true, true] := by decide +kernel
theorem never_fact : ("never" : Str) ∈ claimW ∧ nextK (.str "never") = [true] := by decide +kernel
theorem yes_fact : ("yes" : Str) ∈ claimW ∧ nextK (.str "yes") = [] := by decide +kernel
theorem ClaimW.never {ys : List Str} {ws : List V} (h : ClaimW ys ws) : ClaimW ys (.str "never" :: ws) := by
  refine PreK.cons (ls := []) (b := true) ⟨_, rfl, never_fact.1⟩ ?_
  rw [never_fact.2]
  exact h
theorem ClaimW.yes {ys : List Str} : ClaimW ys [.str "yes"] := by
  have := cw_one (ys := ys) yes_fact.1
  rw [yes_fact.2] at this
  exact this
theorem ClaimW.join {ys : List Str} {y : Str} (hy : y ∈ joinW) {us vs : List V} (h : ClaimW ys us) (g : ClaimW ys vs) : ClaimW ys (.str y :: (us ++ vs)) := by
  refine PreK.cons (ls := []) (b := true) ⟨_, rfl, (join_fact y hy).1⟩ ?_
  rw [(join_fact y hy).2]
  exact (PreK.under [true] h).app g
theorem rep_flat {α : Type} (x : α) (n : Nat) : (List.replicate n [x]).flatten = List.replicate n x := by
  induction n with
  | zero => rfl
  | succ n ih => rw [List.replicate_succ, List.flatten_cons, ih]; rfl
theorem nextK_map (l0 : List Bool) (v : V) : (l0 ++ nextK v).map (fun b => V.str (kdS b)) = l0.map (fun b => V.str (kdS b)) ++ ((List.replicate (getN T1 (keyOf v) + getN T2 (keyOf v)).toNat [V.str "sum"]).flatten ++ (List.replicate (getN T3 (keyOf v)).toNat [V.str "claim"]).flatten) := by
  rw [List.map_append, rep_flat, rep_flat]
  unfold nextK nSum nClm
  rw [List.map_append, List.map_replicate, List.map_replicate]
  rfl
theorem tup_ne {H : Hp} {d c t : Addr} {ws : List V} (D : DeckAt H d c) (h : H t = some (.tup ws)) : t ≠ d ∧ t ≠ c := by
  obtain ⟨n, cs, hd, hc, _⟩ := D.ex
  exact ⟨ne_of h hd (fun z => nomatch z), ne_of h hc (fun z => nomatch z)⟩
theorem tup_off {H H' : Hp} {d c t : Addr} {ws : List V} (D : DeckAt H d c) (h : H t = some (.tup ws)) (o : Off d c H H') : H' t = some (.tup ws) := o _ _ h (tup_ne D h).1 (tup_ne D h).2
structure Dr (d c p hv : Addr) (ys : List Str) (H0 H : Hp) : Prop where
  D : DeckAt H d c
  p : H p = some (.lst (ys.map V.str))
  h : ∃ n : Int, H hv = some (.lst [.int n])
  o : Off3 d c hv H0 H
theorem Dr.tup {d c p hv : Addr} {ys : List Str} {H0 H H' : Hp} (R : Dr d c p hv ys H0 H) {t : Addr} {ws : List V} (h : H t = some (.tup ws)) (R' : Off3 d c hv H H') : H' t = some (.tup ws) := by
  obtain ⟨n, hn⟩ := R.h
  exact R' _ _ h (tup_ne R.D h).1 (tup_ne R.D h).2 (ne_of h hn (fun z => nomatch z))
theorem strs_ne_one {H : Hp} {p hv : Addr} {ys : List Str} {n : Int} (h1 : 1 ≤ ys.length) (hp : H p = some (.lst (ys.map V.str))) (hh : H hv = some (.lst [.int n])) : p ≠ hv := ne_of hp hh (by
  intro z
  injection z with z
  match ys, h1 with
  | y :: r, _ =>
    rw [List.map_cons] at z
    injection z with z _
    cases z)
theorem Dr.same {d c p hv : Addr} {ys : List Str} {H0 H H' : Hp} (R : Dr d c p hv ys H0 H) (s : Same H H') : Dr d c p hv ys H0 H' := by
  obtain ⟨n, hn⟩ := R.h
  exact ⟨R.D.same s, s _ _ R.p, ⟨n, s _ _ hn⟩, off3_trans R.o (same_off d c s)⟩
theorem Dr.off {d c p hv : Addr} {ys : List Str} {H0 H H' : Hp} (N : Nms ys) (hvc : hv ≠ c) (R : Dr d c p hv ys H0 H) (D' : DeckAt H' d c) (s : Off d c H H') : Dr d c p hv ys H0 H' := by
  obtain ⟨n, hn⟩ := R.h
  have pn := deck_strs R.D R.p N.l1
  have hvn := deck_one R.D hn hvc
  exact ⟨D', s _ _ R.p pn.1 pn.2, ⟨n, s _ _ hn hvn.1 hvn.2⟩, off3_trans R.o s⟩
theorem off3_two {d c hv : Addr} {H H1 H2 : Hp} (x : Off3 d c hv H H1) (y : Off3 d c hv H1 H2) : Off3 d c hv H H2 := fun b o h h1 h2 h3 => y b o (x b o h h1 h2 h3) h1 h2 h3
theorem Dr.off3 {d c p hv : Addr} {ys : List Str} {H0 H H' : Hp} (N : Nms ys) (R : Dr d c p hv ys H0 H) (D' : DeckAt H' d c) (h' : ∃ n : Int, H' hv = some (.lst [.int n])) (s : Off3 d c hv H H') : Dr d c p hv ys H0 H' := by
  obtain ⟨n, hn⟩ := R.h
  have pn := deck_strs R.D R.p N.l1
  exact ⟨D', s _ _ R.p pn.1 pn.2 (strs_ne_one N.l1 R.p hn), h', off3_two R.o s⟩
theorem cat_read {K : PySem.W.Frag} {H : Hp} {a b : Addr} {xs ys : List V} {Q : VK} (ha : H a = some (.tup xs)) (hb : H b = some (.tup ys)) (hx : xs ≠ []) (hy : ys ≠ []) (hl : xs.length + ys.length ≤ 1000)
    (k : ∀ t H', H' t = some (.tup (xs ++ ys)) → Same H H' → Q (.ref t) H') : rCatT K (.ref a) (.ref b) H Q :=
  ⟨a, b, xs, ys, rfl, rfl, SqT.of ha, SqT.of hb, hx, Nat.le_of_lt (small1000 hl), (fun z => absurd z hy), fun _ p hp => k p _ upd_same (same_upd hp)⟩
theorem SumW.ne' {ys : List Str} {ws : List V} (h : SumW ys ws) : ws ≠ [] := by
  intro e
  have := h.pre
  rw [e] at this
  cases this
theorem Dr.self {d c p hv : Addr} {ys : List Str} {H0 H : Hp} (R : Dr d c p hv ys H0 H) : Dr d c p hv ys H H := ⟨R.D, R.p, R.h, fun _ _ e _ _ _ => e⟩

noncomputable def Asc (x : Str) : Prop := ∀ c ∈ x.cps.toList, c < 128
theorem asc_cat {a b : Str} (ha : Asc a) (hb : Asc b) : Asc (a ++ b) := fun c hc => by
  rw [app_signs] at hc
  rcases List.mem_append.mp hc with h | h
  · exact ha c h
  · exact hb c h
theorem asc_repr {x : Str} (h : Asc x) : (PySem.reprText x).length ≤ 10 * x.length + 2 := PySem.StrLaws.reprText_len x fun c hc => Nat.lt_trans (h c hc) (by decide)
noncomputable def numD (y : Str) : Int := (PySem.intText? y).getD 0
theorem fig_made {y : Str} (h : figB y = true) : MadeOf y figS := by
  unfold figB at h
  rw [Bool.and_eq_true] at h
  exact of_decide_eq_true h.1
theorem fig_range : ∀ c ∈ figS.cps.toList, 48 ≤ c ∧ c ≤ 57 := by decide +kernel
theorem fig_reads {y : Str} (h : figB y = true) (hl : y.length ≤ 600) : PySem.intText? y = some (numD y) := by
  have m := fig_made h
  have e := PySem.intText_digits (fun c hc => fig_range c (m.2 c hc)) m.1 (Nat.le_trans hl (by decide))
  unfold numD
  rw [e]
  rfl
noncomputable def rdW (y : Str) : Option V := if figB y = true then some (.int (numD y)) else if y ∈ sumW ∨ (y ∉ keptS ∧ NmL y) then some (.str y) else none
theorem rdW_fig {y : Str} (h : figB y = true) : rdW y = some (.int (numD y)) := if_pos h
theorem rdW_sum {y : Str} (h : ¬ figB y = true) (h2 : y ∈ sumW) : rdW y = some (.str y) := (if_neg h).trans (if_pos (.inl h2))
theorem rdW_nam {y : Str} (h : ¬ figB y = true) (h2 : y ∉ keptS ∧ NmL y) : rdW y = some (.str y) := (if_neg h).trans (if_pos (.inr h2))
theorem rdW_no {y : Str} (h : ¬ figB y = true) (h2 : y ∉ sumW) (h3 : ¬ (y ∉ keptS ∧ NmL y)) : rdW y = none := (if_neg h).trans (if_neg fun z => z.elim h2 h3)
theorem rdW_kind {y : Str} {w : V} (h : rdW y = some w) : w = .str y ∨ w = .int (numD y) := by
  unfold rdW at h
  split at h
  · cases h; exact .inr rfl
  · split at h
    · cases h; exact .inl rfl
    · cases h
theorem eqvs_nil (xs : List V) : eqvs xs [] = xs.isEmpty := by cases xs <;> rfl
theorem flat_ones (l : List Nat) : (l.map fun c => V.str ⟨#[c]⟩).all flatV = true := by
  rw [List.all_eq_true]
  intro v hv
  obtain ⟨c, _, rfl⟩ := List.mem_map.mp hv
  rfl
theorem none_left (y sg : Str) (hy : y.cps.toList ≠ []) : ((y.cps.toList.filter fun c => !decide (c ∈ sg.cps.toList)).map fun c => V.str ⟨#[c]⟩).isEmpty = decide (MadeOf y sg) := by
  rw [Bool.eq_iff_iff, decide_eq_true_iff, List.isEmpty_iff, List.map_eq_nil_iff, List.filter_eq_nil_iff]
  constructor
  · intro h
    refine ⟨hy, fun c hc => ?_⟩
    have := h c hc
    simpa using this
  · intro h c hc
    have := h.2 c hc
    simpa using this
theorem head0 {y : Str} {c : Nat} {r : List Nat} (h : y.cps.toList = c :: r) : (decide (0 + ("0" : Str).length ≤ y.length) && Builtin.Str.subAt y "0" 0) = decide (V.str ⟨#[c]⟩ = V.str ("0" : Str)) := by
  obtain ⟨a⟩ := y
  have e : a = (c :: r).toArray := by
    apply Array.toList_inj.mp
    exact h
  subst e
  have e1 : ("0" : Str) = ⟨#[48]⟩ := by decide +kernel
  rw [e1]
  have e2 : decide (0 + (⟨#[48]⟩ : Str).length ≤ (⟨(c :: r).toArray⟩ : Str).length) = true := decide_eq_true (by show 0 + 1 ≤ (c :: r).toArray.size; rw [List.size_toArray, List.length_cons]; omega)
  have e3 : Builtin.Str.subAt ⟨(c :: r).toArray⟩ ⟨#[48]⟩ 0 = decide (c = 48) := by
    unfold Builtin.Str.subAt
    show ((c :: r).toArray.extract 0 1 == #[48]) = _
    rw [List.extract_toArray]
    by_cases hc : c = 48 <;> simp [hc]
  rw [e2, e3, Bool.true_and, Bool.eq_iff_iff, decide_eq_true_iff, decide_eq_true_iff]
  constructor
  · intro z; rw [z]
  · intro z
    injection z with z
    injection z with z
    injection z with z
    injection z with z
theorem fig_eq {y : Str} {c : Nat} {r : List Nat} (h : y.cps.toList = c :: r) : figB y = (decide (MadeOf y figS) && (decide (V.str y = V.str ("0" : Str)) || !decide (V.str ⟨#[c]⟩ = V.str ("0" : Str)))) := by
  unfold figB
  rw [head0 h]
theorem fig_nil : figB ("" : Str) = false := by decide +kernel
noncomputable def nkB : V → Bool
  | .str y => !decide (y ∈ keptS)
  | _ => false
noncomputable def txV : V → Str
  | .str y => y
  | _ => ""
theorem nk_strs : ∀ ws : List V, ((ws.filter nkB).map txV).map V.str = ws.filter nkB
  | [] => rfl
  | w :: r => by
    rw [List.filter_cons]
    split
    · rename_i h
      rw [List.map_cons, List.map_cons, nk_strs r]
      cases w <;> first | rfl | cases h
    · exact nk_strs r
theorem onces_few (ys : List Str) : (onces ys).length ≤ ys.length := by
  have := onces_take_len ys ys.length
  rw [List.take_length] at this
  exact this
theorem flat_kinds {ws : List V} (h : ∀ w ∈ ws, (∃ y, w = .str y) ∨ ∃ z, w = .int z) : ws.all flatV = true := by
  rw [List.all_eq_true]
  intro w hw
  rcases h w hw with ⟨y, rfl⟩ | ⟨z, rfl⟩ <;> rfl
theorem kit_self {K : PySem.W.Frag} {C : Addr} : PySem.W.kitOne K (.ref C) (.ref C) = some true := by
  unfold PySem.W.kitOne
  rw [if_pos (beq_self_eq_true _)]
noncomputable def WsOk (ys : List Str) : Prop := ∀ y ∈ ys, y.length ≤ 9 ∧ Asc y
theorem ixN_at {n j : Nat} (h : j < n) : ixN n (j : Int) = some j := by
  unfold ixN
  rw [if_pos (by omega), if_pos (by omega)]
  rfl
theorem at_strs {ys : List Str} {j : Nat} (h : j < ys.length) : ∃ y ∈ ys, (ys.map V.str)[j]? = some (.str y) := ⟨ys[j], List.getElem_mem h, by rw [List.getElem?_map, List.getElem?_eq_getElem h]; rfl⟩
theorem ws_put {ys : List Str} (ok : WsOk ys) {y : Str} (hy : y.length ≤ 9 ∧ Asc y) (n : Nat) : WsOk (ys.take n ++ y :: ys.drop n) ∧ 1 ≤ (ys.take n ++ y :: ys.drop n).length ∧ (ys.take n ++ y :: ys.drop n).length ≤ ys.length + 1 := by
  refine ⟨fun z hz => ?_, ?_, ?_⟩
  · rcases List.mem_append.mp hz with h | h
    · exact ok z (List.mem_of_mem_take h)
    · rcases List.mem_cons.mp h with rfl | h
      · exact hy
      · exact ok z (List.mem_of_mem_drop h)
  · rw [List.length_append, List.length_cons]
    omega
  · rw [List.length_append, List.length_cons, List.length_take, List.length_drop]
    omega
theorem put_strs (ys : List Str) (y : Str) (n : Nat) : (ys.map V.str).take n ++ V.str y :: (ys.map V.str).drop n = (ys.take n ++ y :: ys.drop n).map V.str := by
  rw [List.map_append, List.map_cons, List.map_take, List.map_drop]
theorem ws_set {ys : List Str} (ok : WsOk ys) {y : Str} (hy : y.length ≤ 9 ∧ Asc y) (n : Nat) : WsOk (ys.set n y) := fun z hz => by
  rcases List.mem_or_eq_of_mem_set hz with h | h
  · exact ok z h
  · rw [h]; exact hy
theorem ws_cut {ys : List Str} (ok : WsOk ys) (n : Nat) : WsOk (ys.eraseIdx n) := fun z hz => ok z (List.mem_of_mem_eraseIdx hz)
theorem cut_strs (ys : List Str) (n : Nat) : (ys.map V.str).eraseIdx n = (ys.eraseIdx n).map V.str := by
  rw [List.eraseIdx_eq_take_drop_succ, List.eraseIdx_eq_take_drop_succ, List.map_append, List.map_take, List.map_drop]
theorem front_strs (ys : List Str) {j : Nat} (h : j ≤ ys.length) : cutV (ys.map V.str) none (some (j : Int)) = (ys.take j).map V.str := by
  unfold cutV
  have e : HT.sIx (ys.map V.str).length 0 none = 0 := rfl
  have e2 : HT.sIx (ys.map V.str).length (ys.map V.str).length (some (j : Int)) = j := by
    rw [List.length_map]
    simp only [HT.sIx, show ¬ ((j : Int) < 0) by omega, if_false]
    omega
  rw [e, e2, List.drop_zero, Nat.sub_zero, List.map_take]
theorem off_free {H H' : Hp} {d c q : Addr} (o : Off d c H H') (D : DeckAt H' d c) (h : H' q = none) : H q = none := by
  have n := deck_ne D h
  cases z : H q with
  | none => rfl
  | some u =>
    have := o q u z n.1 n.2
    rw [h] at this
    cases this
theorem blank_asc : Asc blank := by
  intro c hc
  rw [blank_is] at hc
  cases List.mem_singleton.mp hc
  decide
theorem text_ok {zs : List Str} (h : WsOk zs) (hl : zs.length ≤ 43) : (Txt.join blank zs).length ≤ 430 ∧ Asc (Txt.join blank zs) := by
  have e0 : Txt.join blank zs = Str.join blank zs := PySem.StrLaws.glued_eq_join blank zs
  rw [e0]
  constructor
  · have := join_len blank 9 zs fun p hp => (h p hp).1
    have e : blank.length = 1 := by decide +kernel
    rw [e] at this
    refine Nat.le_trans this ?_
    omega
  · intro c hc
    rcases join_mem blank zs c hc with h1 | ⟨p, hp, h1⟩
    · exact blank_asc c h1
    · exact (h p hp).2 c h1
theorem text_size {zs : List Str} (h : WsOk zs) (hl : zs.length ≤ 43) : (zs.map (·.length)).sum + zs.length * blank.length ≤ 16777216 := by
  have hs : ∀ l : List Str, WsOk l → (l.map (·.length)).sum ≤ 9 * l.length := by
    intro l
    induction l with
    | nil => intro _; exact Nat.le_refl _
    | cons y r ih =>
      intro hy
      have h1 := (hy y List.mem_cons_self).1
      have h2 := ih fun z hz => hy z (List.mem_cons_of_mem _ hz)
      rw [List.map_cons, List.sum_cons, List.length_cons]
      omega
  have h1 := hs zs h
  have e : blank.length = 1 := by decide +kernel
  rw [e]
  omega
noncomputable def os1 (x : Str) : List Str := [blank ++ x, x ++ blank, repl1 x blank "  ", "", x ++ " 1", repl1 x blank "\n"]
noncomputable def os2 (x : Str) : List Str := [x ++ "\n", "\n" ++ x, x ++ " \n", "0\n", "yes\n"]
theorem lit_ok : ∀ y ∈ (["  ", "", " 1", "\n", " \n", "0\n", "yes\n"] : List Str), y.length ≤ 4 ∧ ∀ c ∈ y.cps.toList, c < 128 := by decide +kernel
theorem cat_ok {x y : Str} (hl : x.length ≤ 440) (ha : Asc x) (h2 : y.length ≤ 100 ∧ Asc y) : (x ++ y).length ≤ 600 ∧ Asc (x ++ y) := ⟨by rw [len_cat]; omega, asc_cat ha h2.2⟩
theorem repl_ok {x z : Str} (hl : x.length ≤ 440) (ha : Asc x) (hz : z.length ≤ 4 ∧ Asc z) : (repl1 x blank z).length ≤ 600 ∧ Asc (repl1 x blank z) := by
  refine ⟨Nat.le_trans (repl_len x blank z) (by omega), fun c hc => ?_⟩
  rcases repl_mem hc with h | h
  · exact ha c h
  · exact hz.2 c h
theorem lit4 {y : Str} (h : y ∈ (["  ", "", " 1", "\n", " \n", "0\n", "yes\n"] : List Str)) : y.length ≤ 100 ∧ Asc y := ⟨Nat.le_trans (lit_ok y h).1 (by decide), (lit_ok y h).2⟩
theorem os1_ok {x : Str} (hl : x.length ≤ 440) (ha : Asc x) : ∀ y ∈ os1 x, y.length ≤ 600 ∧ Asc y := by
  intro y hy
  simp only [os1, List.mem_cons, List.not_mem_nil, or_false] at hy
  have hb : blank.length ≤ 100 ∧ Asc blank := ⟨by decide +kernel, blank_asc⟩
  rcases hy with rfl | rfl | rfl | rfl | rfl | rfl
  · exact ⟨by rw [len_cat]; omega, asc_cat blank_asc ha⟩
  · exact cat_ok hl ha hb
  · exact repl_ok hl ha (lit_ok _ (by simp))
  · exact ⟨Nat.le_trans (lit4 (y := "") (by simp)).1 (by decide), (lit4 (by simp)).2⟩
  · exact cat_ok hl ha (lit4 (by simp))
  · exact repl_ok hl ha (lit_ok _ (by simp))
theorem os2_ok {x : Str} (hl : x.length ≤ 440) (ha : Asc x) : ∀ y ∈ os2 x, y.length ≤ 600 ∧ Asc y := by
  intro y hy
  simp only [os2, List.mem_cons, List.not_mem_nil, or_false] at hy
  rcases hy with rfl | rfl | rfl | rfl | rfl
  · exact cat_ok hl ha (lit4 (by simp))
  · have := lit4 (y := "\n") (by simp)
    exact ⟨by rw [len_cat]; omega, asc_cat this.2 ha⟩
  · exact cat_ok hl ha (lit4 (by simp))
  · exact ⟨Nat.le_trans (lit4 (y := "0\n") (by simp)).1 (by decide), (lit4 (by simp)).2⟩
  · exact ⟨Nat.le_trans (lit4 (y := "yes\n") (by simp)).1 (by decide), (lit4 (by simp)).2⟩
theorem num_asc : ∀ n, n < 1000 → ∀ c ∈ (Str.ofString (toString ((n : Nat) : Int))).cps.toList, c < 128 := by decide +kernel
theorem shw_ws {ys : List Str} (N : Nms ys) {ws : List V} (h : ∀ w ∈ ws, WordOk ys w) : WsOk (ws.map shw) := by
  intro y hy
  obtain ⟨w, hw, rfl⟩ := List.mem_map.mp hy
  refine ⟨Nat.le_trans (shw_ok N (h w hw)).2 (by decide), ?_⟩
  rcases h w hw with ⟨z, rfl, hz⟩ | ⟨z, hz, rfl⟩ | ⟨z, rfl, h0, h1⟩
  · exact (by decide +kernel : ∀ y ∈ sumW, ∀ c ∈ y.cps.toList, c < 128) z hz
  · exact fun c hc => (by decide +kernel : ∀ c ∈ lowS.cps.toList, c < 128) c ((N.ok z hz).l.2 c hc)
  · obtain ⟨n, rfl⟩ : ∃ n : Nat, z = (n : Int) := ⟨z.toNat, by omega⟩
    exact num_asc n (by omega)
noncomputable def rdB : Bool → Str → Option V
  | false, y => rdW y
  | true, y => if y ∈ claimW then some (.str y) else none
theorem rdB_kind {b : Bool} {y : Str} {w : V} (h : rdB b y = some w) : w = .str y ∨ w = .int (numD y) := by
  cases b with
  | false => exact rdW_kind h
  | true =>
    have h' : (if y ∈ claimW then some (V.str y) else none) = some w := h
    split at h'
    · cases h'; exact .inl rfl
    · cases h'
theorem rdB_key {b : Bool} {y : Str} {w : V} (h : rdB b y = some w) : w = kV (keyOf w) := by
  rcases rdB_kind h with rfl | rfl <;> rfl
theorem next_len (w : V) : (nextK w).length ≤ 9 := by
  have b1 := T1_bd (keyOf w)
  have b2 := T2_bd (keyOf w)
  have b3 := T3_bd (keyOf w)
  unfold nextK nSum nClm
  rw [List.length_append, List.length_replicate, List.length_replicate]
  omega
noncomputable def stepC (st : Option (List Bool × List V)) (y : Str) : Option (List Bool × List V) := match st with
  | some (ls, ws) => (match ls.getLast? with
    | some b => (rdB b y).map fun w => (ls.dropLast ++ nextK w, ws ++ [w])
    | none => none)
  | none => none
noncomputable def runC (l : List Str) : Option (List Bool × List V) := l.foldl stepC (some ([true], []))
noncomputable def rdC (l : List Str) : Option (List V) := match runC l with
  | some ([], ws) => some ws
  | _ => none
theorem runC_snoc (l : List Str) (y : Str) : runC (l ++ [y]) = stepC (runC l) y := by unfold runC; rw [List.foldl_append]; rfl
theorem foldC_none : ∀ l : List Str, l.foldl stepC none = none
  | [] => rfl
  | _ :: r => foldC_none r
theorem rdC_fail {l : List Str} {i : Nat} (h : runC (l.take i) = none) : rdC l = none := by
  have e : runC l = none := by
    have := List.take_append_drop i l
    unfold runC at h ⊢
    rw [← this, List.foldl_append, h]
    exact foldC_none _
  unfold rdC
  rw [e]
theorem rdC_of {l : List Str} {ws : List V} (h : runC l = some ([], ws)) : rdC l = some ws := by simp only [rdC, h]
theorem rdC_no {l : List Str} {ls : List Bool} {ws : List V} (h : runC l = some (ls, ws)) (hd : ls ≠ []) : rdC l = none := by
  cases ls with
  | nil => exact absurd rfl hd
  | cons b r => simp only [rdC, h]
theorem rdC_ok {l : List Str} {ws : List V} (h : rdC l = some ws) : runC l = some ([], ws) := by
  unfold rdC at h
  split at h
  · rename_i e
    cases h
    exact e
  · cases h
theorem stepC_some {l0 : List Bool} {b : Bool} {ws : List V} {y : Str} {w : V} (h : rdB b y = some w) : stepC (some (l0 ++ [b], ws)) y = some (l0 ++ nextK w, ws ++ [w]) := by
  unfold stepC
  dsimp only
  rw [List.getLast?_concat, List.dropLast_concat]
  dsimp only
  rw [h]
  rfl
theorem stepC_none {l0 : List Bool} {b : Bool} {ws : List V} {y : Str} (h : rdB b y = none) : stepC (some (l0 ++ [b], ws)) y = none := by
  unfold stepC
  dsimp only
  rw [List.getLast?_concat]
  dsimp only
  rw [h]
  rfl
theorem snoc_of {ls : List Bool} (h : ls ≠ []) : ∃ l0 b, ls = l0 ++ [b] := ⟨ls.dropLast, ls.getLast h, (List.dropLast_concat_getLast h).symm⟩
theorem runC_ok (l : List Str) (ls : List Bool) (ws : List V) (h : runC l = some (ls, ws)) : ws.length = l.length ∧ ls.length ≤ 1 + 9 * l.length ∧ ∀ w ∈ ws, (∃ b, ∃ y ∈ l, rdB b y = some w) := by
  suffices g : ∀ (n : Nat) (q : List Str), q.length = n → ∀ d ws, runC q = some (d, ws) → ws.length = q.length ∧ d.length ≤ 1 + 9 * q.length ∧ ∀ w ∈ ws, (∃ b, ∃ y ∈ q, rdB b y = some w) from g l.length l rfl ls ws h
  clear h ls ws l
  intro n
  induction n with
  | zero =>
    intro q hq d ws e
    cases List.length_eq_zero_iff.mp hq
    cases e
    exact ⟨rfl, Nat.le_refl _, fun w hw => nomatch hw⟩
  | succ n ih =>
    intro q hq d ws e
    have hne : q ≠ [] := fun z => by rw [z] at hq; cases hq
    have eq := List.dropLast_concat_getLast hne
    rw [← eq, runC_snoc] at e
    have hl : q.dropLast.length = n := by rw [List.length_dropLast, hq]; rfl
    cases hr : runC q.dropLast with
    | none => rw [hr] at e; cases e
    | some p =>
      obtain ⟨d0, w0⟩ := p
      obtain ⟨a1, a2, a3⟩ := ih _ hl d0 w0 hr
      rw [hr] at e
      by_cases hd : d0 = []
      · subst hd
        cases e
      obtain ⟨l0, b, rfl⟩ := snoc_of hd
      cases hw : rdB b (q.getLast hne) with
      | none => rw [stepC_none hw] at e; cases e
      | some w =>
        rw [stepC_some hw] at e
        injection e with e
        injection e with e3 e4
        subst e3 e4
        have pw := next_len w
        rw [List.length_append] at a2
        refine ⟨by rw [List.length_append, a1, hl, hq]; rfl, by rw [List.length_append]; rw [hl] at a2; rw [List.length_singleton] at a2; omega, fun v hv => ?_⟩
        rcases List.mem_append.mp hv with hv | hv
        · obtain ⟨b', y, hy, z⟩ := a3 v hv
          exact ⟨b', y, List.dropLast_subset q hy, z⟩
        · cases List.mem_singleton.mp hv
          exact ⟨b, _, List.getLast_mem hne, hw⟩
noncomputable def ksS : Bool → Str
  | true => "c"
  | false => "s"
noncomputable def kV1 (b : Bool) : V := .str (kdS b)
noncomputable def kV2 (b : Bool) : V := .str (ksS b)
theorem kd_repr (b : Bool) : (PySem.reprText (kdS b)).length ≤ 100 := by cases b <;> decide +kernel
theorem below_self {x : Str} {C : Addr} {mg : Str → Option Value} {base : Heap} (O : OwnV x C mg base) : Below2 base C C := by
  obtain ⟨tl, N, nm, q, bs, hdct, sn, sub, ab, col, dd, k0, k1, k2, k3, k5, mN, hC, _⟩ := O.obj
  exact ⟨nm, q, N, bs, tl, hdct, sn, sub, ab, col, dd, k0, k1, k2, k3, k5, _, hC, by simp⟩
noncomputable def sortS (y : Str) : Str := if y ∈ claimW then "c" else if (rdW y).isSome = true then "s" else "n"
theorem kept_back : cutV (keptS.map V.str) (some 10) none = claimW.map V.str := by decide +kernel
theorem sort_claim {y : Str} (h : y ∈ claimW) : sortS y = ⟨#[99]⟩ := by
  unfold sortS
  rw [if_pos h]
  decide +kernel
theorem sort_some {y : Str} (h : y ∉ claimW) (h2 : (rdW y).isSome = true) : sortS y = ⟨#[115]⟩ := by
  unfold sortS
  rw [if_neg h, if_pos h2]
  decide +kernel
theorem sort_none {y : Str} (h : y ∉ claimW) (h2 : rdW y = none) : sortS y = ⟨#[110]⟩ := by
  unfold sortS
  rw [if_neg h, h2]
  decide +kernel
theorem fig_sum' : ∀ y ∈ sumW, ¬ figB y = true := by decide +kernel
theorem sum_claim : ∀ y ∈ sumW, y ∉ claimW := by decide +kernel
theorem at_sc (b : Bool) : atI ("sc" : Str).cps.toList (if b = true then 1 else 0) = some (if b = true then 99 else 115) := by cases b <;> decide +kernel
theorem at_ns (b : Bool) : atI ("ns" : Str).cps.toList (if b = true then 1 else 0) = some (if b = true then 115 else 110) := by cases b <;> decide +kernel
theorem dig_no {y : Str} (h : MadeOf y figS) (hf : ¬ figB y = true) (hk : y ∉ keptS) : rdW y = none := by
  refine rdW_no hf (fun z => hk (sum_kept y z)) fun z => ?_
  obtain ⟨c, r, e⟩ : ∃ c r, y.cps.toList = c :: r := by
    cases e : y.cps.toList with
    | nil => exact absurd e h.1
    | cons c r => exact ⟨c, r, rfl⟩
  have m : c ∈ y.cps.toList := by rw [e]; exact List.mem_cons_self
  exact low_fig c (z.2.2 c m) (h.2 c m)
theorem all_in (l : List Nat) (s : List Nat) : (l.filter fun c => decide (c ∈ s)).length = l.length ↔ ∀ c ∈ l, c ∈ s := by
  rw [List.length_filter_eq_length_iff]
  constructor
  · intro h c hc
    exact of_decide_eq_true (h c hc)
  · intro h c hc
    exact decide_eq_true (h c hc)
noncomputable def clm5 : List Str := ["both", "either", "so", "never", "yes"]
noncomputable def two8 : List Str := ["same", "under", "beneath", "and", "or", "odd", "add", "sub"]
noncomputable def one6 : List Str := ["sign", "nought", "not", "neg", "twice", "low"]
noncomputable def bh1 (y : Str) : Int := 2 - (if decide (V.str y = V.str ("never" : Str)) = true then 1 else 0) - 2 * (if decide (V.str y = V.str ("yes" : Str)) = true then 1 else 0)
noncomputable def bh3 (y : Str) : Int := (if decide (y ∈ one6) = true then 1 else 0) + 3 * (if decide (V.str y = V.str ("pick" : Str)) = true then 1 else 0)
theorem bh1_ok : ∀ y ∈ clm5, 0 ≤ bh1 y ∧ bh1 y ≤ 2 ∧ (List.replicate (bh1 y).toNat [V.str "c"]).flatten = (nextK (.str y)).map kV2 := by decide +kernel
theorem bh2_ok : ∀ y ∈ two8, [V.str "s", V.str "s"] = (nextK (.str y)).map kV2 := by decide +kernel
theorem bh3_kept : ∀ y ∈ keptS, y ∉ clm5 → y ∉ two8 → 0 ≤ bh3 y ∧ bh3 y ≤ 3 ∧ (List.replicate (bh3 y).toNat [V.str "s"]).flatten = (nextK (.str y)).map kV2 := by decide +kernel
theorem one6_kept : ∀ y ∈ one6, y ∈ keptS := by decide +kernel
theorem next_other {y : Str} (h : y ∉ keptS) : nextK (.str y) = [] := by
  unfold nextK nSum nClm
  show List.replicate (getN T1 (.inr y) + getN T2 (.inr y)).toNat false ++ List.replicate (getN T3 (.inr y)).toNat true = []
  rw [getN_none fun z => h (tab_kept.1 y z), getN_none fun z => h (tab_kept.2.1 y z), getN_none fun z => h (tab_kept.2.2 y z)]
  rfl
theorem bh3_ok {y : Str} (h1 : y ∉ clm5) (h2 : y ∉ two8) : 0 ≤ bh3 y ∧ bh3 y ≤ 3 ∧ (List.replicate (bh3 y).toNat [V.str "s"]).flatten = (nextK (.str y)).map kV2 := by
  by_cases hk : y ∈ keptS
  · exact bh3_kept y hk h1 h2
  · have e : bh3 y = 0 := by
      unfold bh3
      rw [decide_eq_false (fun z => hk (one6_kept y z)), decide_eq_false (fun z => hk (by injection z with z; rw [z]; decide +kernel))]
      rfl
    rw [e, next_other hk]
    exact ⟨by decide, by decide, rfl⟩
theorem next_fig (n : Int) : nextK (.int n) = [] := by
  unfold nextK nSum nClm
  show List.replicate (getN T1 (.inl n) + getN T2 (.inl n)).toNat false ++ List.replicate (getN T3 (.inl n)).toNat true = []
  rw [getN_int, getN_int, getN_int]
  rfl
theorem fig_kept : ∀ y ∈ keptS, ¬ figB y = true := by decide +kernel
theorem mul_bit (i : Int) (b : Bool) (h : i.natAbs < 1000) : CMulB i (if b = true then 1 else 0) := .inl ⟨Nat.lt_trans h (by decide), by cases b <;> decide⟩
theorem low_head {y : Str} (h1 : 1 ≤ y.length) (h2 : ∀ c ∈ y.cps.toList, Low c) : ∃ c r, y.cps.toList = c :: r ∧ c ∉ figS.cps.toList := by
  cases e : y.cps.toList with
  | nil =>
    rw [len_signs, e] at h1
    exact absurd h1 (by decide)
  | cons c r => exact ⟨c, r, rfl, low_fig c (h2 c (by rw [e]; exact List.mem_cons_self))⟩
theorem rd_head {b : Bool} {y : Str} {v : V} (h : rdB b y = some v) : ∃ c r, y.cps.toList = c :: r ∧ ((v = .int (numD y) ∧ c ∈ figS.cps.toList ∧ figB y = true) ∨ (v = .str y ∧ c ∉ figS.cps.toList)) := by
  cases b with
  | false =>
    have h' : rdW y = some v := h
    unfold rdW at h'
    split at h'
    · rename_i hf
      cases h'
      have m := fig_made hf
      cases e : y.cps.toList with
      | nil => exact absurd e m.1
      | cons c r => exact ⟨c, r, rfl, .inl ⟨rfl, m.2 c (by rw [e]; exact List.mem_cons_self), hf⟩⟩
    · split at h'
      · rename_i hc
        cases h'
        rcases hc with hs | hn
        · have kl := kept_low y (sum_kept y hs)
          obtain ⟨c, r, e1, e2⟩ := low_head kl.1.1 kl.2
          exact ⟨c, r, e1, .inr ⟨rfl, e2⟩⟩
        · obtain ⟨c, r, e1, e2⟩ := low_head hn.2.1.1 hn.2.2
          exact ⟨c, r, e1, .inr ⟨rfl, e2⟩⟩
      · cases h'
  | true =>
    have h' : (if y ∈ claimW then some (V.str y) else none) = some v := h
    split at h'
    · rename_i hc
      cases h'
      have kl := kept_low y (claim_kept y hc)
      obtain ⟨c, r, e1, e2⟩ := low_head kl.1.1 kl.2
      exact ⟨c, r, e1, .inr ⟨rfl, e2⟩⟩
    · cases h'
theorem rd_next {b : Bool} {y : Str} {v : V} (h : rdB b y = some v) : nextK v = nextK (.str y) := by
  obtain ⟨c, r, _, ⟨rfl, _, hf⟩ | ⟨rfl, _⟩⟩ := rd_head h
  · rw [next_fig, next_other fun z => fig_kept y z hf]
  · rfl
theorem sort_match (b : Bool) (y : Str) : (ksS b = sortS y) ↔ (rdB b y).isSome = true := by
  cases b with
  | true =>
    show ("c" : Str) = sortS y ↔ (if y ∈ claimW then some (V.str y) else none).isSome = true
    by_cases h : y ∈ claimW
    · rw [if_pos h, sort_claim h]
      exact ⟨fun _ => rfl, fun _ => by decide +kernel⟩
    · rw [if_neg h]
      refine ⟨fun z => ?_, fun z => nomatch z⟩
      cases hr : rdW y with
      | none => rw [sort_none h hr] at z; exact absurd z (by decide +kernel)
      | some v => rw [sort_some h (by rw [hr]; rfl)] at z; exact absurd z (by decide +kernel)
  | false =>
    show ("s" : Str) = sortS y ↔ (rdW y).isSome = true
    by_cases h : y ∈ claimW
    · rw [sort_claim h]
      have hn : rdW y = none := rdW_no (fig_kept y (claim_kept y h)) (fun z => sum_claim y z h) fun z => z.1 (claim_kept y h)
      rw [hn]
      exact ⟨fun z => absurd z (by decide +kernel), fun z => nomatch z⟩
    · cases hr : rdW y with
      | none =>
        rw [sort_none h hr]
        exact ⟨fun z => absurd z (by decide +kernel), fun z => nomatch z⟩
      | some v =>
        rw [sort_some h (by rw [hr]; rfl)]
        exact ⟨fun _ => rfl, fun _ => by decide +kernel⟩
noncomputable def oddAc : List Str := ["x", "abcdefgh", "abcdefghi", "a1", "A", "Yes", "sam", "sames", "", "0", "00", "01", "7"]
noncomputable def oddBc : List Str := ["-1", "+1", "1.0", "1_0", "-", "yes ", "\n"]
noncomputable def oddSc : List Str := (keptS ++ oddAc) ++ oddBc
theorem oddc_ok : ∀ y ∈ oddSc, y.length ≤ 9 ∧ ∀ c ∈ y.cps.toList, c < 128 := by decide +kernel
theorem oddc_map : (keptS.map V.str ++ oddAc.map V.str) ++ oddBc.map V.str = oddSc.map V.str := by unfold oddSc; rw [List.map_append, List.map_append]
theorem cshw_ws {ys : List Str} (N : Nms ys) {ws : List V} (h : ∀ w ∈ ws, CWord ys w) : WsOk (ws.map shw) := by
  intro y hy
  obtain ⟨w, hw, rfl⟩ := List.mem_map.mp hy
  rcases h w hw with hs | ⟨z, rfl, hz⟩
  · exact shw_ws N (ws := [w]) (fun x hx => by cases List.mem_singleton.mp hx; exact hs) _ (List.mem_singleton.mpr rfl)
  · exact (by decide +kernel : ∀ y ∈ claimW, y.length ≤ 9 ∧ ∀ c ∈ y.cps.toList, c < 128) z hz

set_option genInjectivity false in
set_option genSizeOfSpec false in
structure Adr where
  a_is_sum_word : Addr
  f_is_sum_word : FuncData
  a_is_claim_word : Addr
  f_is_claim_word : FuncData
  a_sums_behind : Addr
  f_sums_behind : FuncData
  a_claims_behind : Addr
  f_claims_behind : FuncData
  a_is_made_of : Addr
  f_is_made_of : FuncData
  a_law_deck : Addr
  f_law_deck : FuncData
  a_law_take : Addr
  f_law_take : FuncData
  a_law_kept : Addr
  f_law_kept : FuncData
  a_law_behind : Addr
  f_law_behind : FuncData
  a_NoName_init : Addr
  f_NoName_init : FuncData
  a_is_name : Addr
  f_is_name : FuncData
  a_is_figures : Addr
  f_is_figures : FuncData
  a_law_names : Addr
  f_law_names : FuncData
  a_law_leaf : Addr
  f_law_leaf : FuncData
  a_law_join : Addr
  f_law_join : FuncData
  a_law_sort : Addr
  f_law_sort : FuncData
  a_law_spoilt : Addr
  f_law_spoilt : FuncData
  a_law_many_names : Addr
  f_law_many_names : FuncData
  a_sum_word_read : Addr
  f_sum_word_read : FuncData
  a_law_sum : Addr
  f_law_sum : FuncData
  a_law_reading : Addr
  f_law_reading : FuncData
  a_sum_part_read : Addr
  f_sum_part_read : FuncData
  a_law_atom : Addr
  f_law_atom : FuncData
  a_word_read : Addr
  f_word_read : FuncData
  a_law_claim : Addr
  f_law_claim : FuncData
  a_read_claim : Addr
  f_read_claim : FuncData
  a_law_right : Addr
  f_law_right : FuncData
  a_law : Addr
  f_law : FuncData
  x_WidthError : Addr
  x_NoSum : Addr
  x_NoClaim : Addr
  x_NoWords : Addr
  x_NoTurning : Addr
  x_NoShorter : Addr
  x_NoAsk : Addr
  x_NoName : Addr
  g_SUM_PARTS : Addr
  g_SUMS_IN_CLAIM : Addr
  g_CLAIMS_IN_CLAIM : Addr
  k_LETTERS : Tok
  k_FIGURES : Tok
  k_LONGEST_NAME : Tok
structure Kg (K : PySem.W.Frag) (w : World) (mg : Str → Option Value) (x : Str) (a : Addr) (l : List (Str × Int)) : Prop where
  m : mg x = some (.ref a)
  d : KD K w a l
structure Df (K : PySem.W.Frag) (mg : Str → Option Value) (x : Str) (st : Stmt) (ps : List Str) (f : Addr) (fd : FuncData) : Prop where
  F : Fun K x x st f fd
  m : mg x = some (.ref f)
  b : Binds K fd ps []
structure Di (K : PySem.W.Frag) (q : Str) (st : Stmt) (ps : List Str) (f : Addr) (fd : FuncData) : Prop where
  F : Fun K "__init__" q st f fd
  b : Binds K fd ps []
set_option genInjectivity false in
set_option genSizeOfSpec false in
structure Txt (K : PySem.W.Frag) (w : World) (mg : Str → Option Value) (t : Adr) : Prop where
  g_SUM_PARTS : Kg K w mg "SUM_PARTS" t.g_SUM_PARTS [("not", 1), ("neg", 1), ("twice", 1), ("low", 1), ("and", 2), ("or", 2), ("odd", 2), ("add", 2), ("sub", 2), ("pick", 3)]
  g_SUMS_IN_CLAIM : Kg K w mg "SUMS_IN_CLAIM" t.g_SUMS_IN_CLAIM [("same", 2), ("under", 2), ("beneath", 2), ("sign", 1), ("nought", 1)]
  g_CLAIMS_IN_CLAIM : Kg K w mg "CLAIMS_IN_CLAIM" t.g_CLAIMS_IN_CLAIM [("both", 2), ("either", 2), ("so", 2), ("never", 1), ("yes", 0)]
  g_LETTERS : mg "LETTERS" = some (.str "abcdefghijklmnopqrstuvwxyz" t.k_LETTERS)
  g_FIGURES : mg "FIGURES" = some (.str "0123456789" t.k_FIGURES)
  g_LONGEST_NAME : mg "LONGEST_NAME" = some (.int 8 t.k_LONGEST_NAME)
  d_is_sum_word : Df K mg "is_sum_word" s_is_sum_word ["text"] t.a_is_sum_word t.f_is_sum_word
  d_is_claim_word : Df K mg "is_claim_word" s_is_claim_word ["text"] t.a_is_claim_word t.f_is_claim_word
  d_sums_behind : Df K mg "sums_behind" s_sums_behind ["word"] t.a_sums_behind t.f_sums_behind
  d_claims_behind : Df K mg "claims_behind" s_claims_behind ["word"] t.a_claims_behind t.f_claims_behind
  d_is_made_of : Df K mg "is_made_of" s_is_made_of ["text", "signs"] t.a_is_made_of t.f_is_made_of
  d_law_deck : Df K mg "_law_deck" s_law_deck ["script"] t.a_law_deck t.f_law_deck
  d_law_take : Df K mg "_law_take" s_law_take ["deck", "many"] t.a_law_take t.f_law_take
  d_law_kept : Df K mg "_law_kept" s_law_kept [] t.a_law_kept t.f_law_kept
  d_law_behind : Df K mg "_law_behind" s_law_behind ["word"] t.a_law_behind t.f_law_behind
  d_NoName_init : Di K "NoName.__init__" s_NoName_init ["self", "word"] t.a_NoName_init t.f_NoName_init
  d_is_name : Df K mg "is_name" s_is_name ["text"] t.a_is_name t.f_is_name
  d_is_figures : Df K mg "is_figures" s_is_figures ["text"] t.a_is_figures t.f_is_figures
  d_law_names : Df K mg "_law_names" s_law_names ["deck"] t.a_law_names t.f_law_names
  d_law_leaf : Df K mg "_law_leaf" s_law_leaf ["deck", "names"] t.a_law_leaf t.f_law_leaf
  d_law_join : Df K mg "_law_join" s_law_join ["deck"] t.a_law_join t.f_law_join
  d_law_sort : Df K mg "_law_sort" s_law_sort ["word"] t.a_law_sort t.f_law_sort
  d_law_spoilt : Df K mg "_law_spoilt" s_law_spoilt ["deck", "words"] t.a_law_spoilt t.f_law_spoilt
  d_law_many_names : Df K mg "_law_many_names" s_law_many_names ["words"] t.a_law_many_names t.f_law_many_names
  d_sum_word_read : Df K mg "sum_word_read" s_sum_word_read ["part"] t.a_sum_word_read t.f_sum_word_read
  d_law_sum : Df K mg "_law_sum" s_law_sum ["deck", "names", "most", "heavy"] t.a_law_sum t.f_law_sum
  d_law_reading : Df K mg "_law_reading" s_law_reading ["text"] t.a_law_reading t.f_law_reading
  d_sum_part_read : Df K mg "sum_part_read" s_sum_part_read ["part"] t.a_sum_part_read t.f_sum_part_read
  d_law_atom : Df K mg "_law_atom" s_law_atom ["deck", "names", "heavy", "most"] t.a_law_atom t.f_law_atom
  d_word_read : Df K mg "word_read" s_word_read ["part", "kind"] t.a_word_read t.f_word_read
  d_law_claim : Df K mg "_law_claim" s_law_claim ["deck", "names", "heavy"] t.a_law_claim t.f_law_claim
  d_read_claim : Df K mg "read_claim" s_read_claim ["text"] t.a_read_claim t.f_read_claim
  d_law_right : Df K mg "_law_right" s_law_right ["text"] t.a_law_right t.f_law_right
  d_law : Df K mg "law" s_law ["script"] t.a_law t.f_law
  z_ValueError : mg "ValueError" = none
  z_all : mg "all" = none
  z_int : mg "int" = none
  z_isinstance : mg "isinstance" = none
  z_len : mg "len" = none
  z_list : mg "list" = none
  z_range : mg "range" = none
  z_set : mg "set" = none
  z_str : mg "str" = none
  z_sum : mg "sum" = none
  z_tuple : mg "tuple" = none
set_option genInjectivity false in
set_option genSizeOfSpec false in
structure Xcl (K : PySem.W.Frag) (mg : Str → Option Value) (base : Heap) (t : Adr) : Prop where
  m_WidthError : mg "WidthError" = some (.ref t.x_WidthError)
  m_NoSum : mg "NoSum" = some (.ref t.x_NoSum)
  m_NoClaim : mg "NoClaim" = some (.ref t.x_NoClaim)
  m_NoWords : mg "NoWords" = some (.ref t.x_NoWords)
  m_NoTurning : mg "NoTurning" = some (.ref t.x_NoTurning)
  m_NoShorter : mg "NoShorter" = some (.ref t.x_NoShorter)
  m_NoAsk : mg "NoAsk" = some (.ref t.x_NoAsk)
  m_NoName : mg "NoName" = some (.ref t.x_NoName)
  o_WidthError : OwnV "WidthError" t.x_WidthError mg base
  kp_WidthError : PySem.W.keepIn K (.ref t.x_WidthError) = true
  o_NoSum : OwnV "NoSum" t.x_NoSum mg base
  kp_NoSum : PySem.W.keepIn K (.ref t.x_NoSum) = true
  o_NoClaim : OwnV "NoClaim" t.x_NoClaim mg base
  kp_NoClaim : PySem.W.keepIn K (.ref t.x_NoClaim) = true
  o_NoWords : OwnV "NoWords" t.x_NoWords mg base
  kp_NoWords : PySem.W.keepIn K (.ref t.x_NoWords) = true
  o_NoTurning : OwnV "NoTurning" t.x_NoTurning mg base
  kp_NoTurning : PySem.W.keepIn K (.ref t.x_NoTurning) = true
  o_NoShorter : OwnV "NoShorter" t.x_NoShorter mg base
  kp_NoShorter : PySem.W.keepIn K (.ref t.x_NoShorter) = true
  o_NoAsk : OwnV "NoAsk" t.x_NoAsk mg base
  kp_NoAsk : PySem.W.keepIn K (.ref t.x_NoAsk) = true
  b_NoSum : Below2 base t.x_NoSum t.x_WidthError
  b_NoClaim : Below2 base t.x_NoClaim t.x_WidthError
  b_NoWords : Below2 base t.x_NoWords t.x_WidthError
  b_NoTurning : Below2 base t.x_NoTurning t.x_WidthError
  b_NoShorter : Below2 base t.x_NoShorter t.x_WidthError
  b_NoAsk : Below2 base t.x_NoAsk t.x_WidthError
  b_NoName : Below2 base t.x_NoName t.x_WidthError
  c_WidthError : Cl3 K t.x_WidthError
  c_NoSum : Cl3 K t.x_NoSum
  c_NoClaim : Cl3 K t.x_NoClaim
  c_NoWords : Cl3 K t.x_NoWords
  c_NoTurning : Cl3 K t.x_NoTurning
  c_NoShorter : Cl3 K t.x_NoShorter
  c_NoAsk : Cl3 K t.x_NoAsk
  c_NoName : Cl3 K t.x_NoName
  mk_NoName : MkX K t.x_NoName t.a_NoName_init
  at_NoName : AtC K t.x_NoName "word"
  q_not : PySem.W.kitAny K (.ref t.x_NoClaim) [.ref t.x_NoAsk, .ref t.x_NoName, .ref t.x_NoShorter, .ref t.x_NoSum, .ref t.x_NoTurning, .ref t.x_NoWords] = some false
  q_val : PySem.W.kitOne K (.ref t.x_NoClaim) (.type "ValueError") = some true
  q_wid : PySem.W.kitOne K (.ref t.x_NoClaim) (.ref t.x_WidthError) = some true
theorem sc_is_sum_word : FnScope ["text"] ["text"] (defScope s_is_sum_word) := ⟨rfl, rfl, rfl, by decide +kernel, rfl, by decide +kernel, by decide +kernel⟩
theorem sc_is_claim_word : FnScope ["text"] ["text"] (defScope s_is_claim_word) := ⟨rfl, rfl, rfl, by decide +kernel, rfl, by decide +kernel, by decide +kernel⟩
theorem sc_sums_behind : FnScope ["word"] ["word"] (defScope s_sums_behind) := ⟨rfl, rfl, rfl, by decide +kernel, rfl, by decide +kernel, by decide +kernel⟩
theorem sc_claims_behind : FnScope ["word"] ["word"] (defScope s_claims_behind) := ⟨rfl, rfl, rfl, by decide +kernel, rfl, by decide +kernel, by decide +kernel⟩
theorem sc_is_made_of : FnScope ["text", "signs"] ["text", "signs"] (defScope s_is_made_of) := ⟨rfl, rfl, rfl, by decide +kernel, rfl, by decide +kernel, by decide +kernel⟩
theorem sc_law_deck : FnScope ["script", "cells", "k", "mixed"] ["script"] (defScope s_law_deck) := ⟨rfl, rfl, rfl, by decide +kernel, rfl, by decide +kernel, by decide +kernel⟩
theorem sc_law_take : FnScope ["deck", "many", "at", "cell"] ["deck", "many"] (defScope s_law_take) := ⟨rfl, rfl, rfl, by decide +kernel, rfl, by decide +kernel, by decide +kernel⟩
theorem sc_law_kept : FnScope ["some"] [] (defScope s_law_kept) := ⟨rfl, rfl, rfl, by decide +kernel, rfl, by decide +kernel, by decide +kernel⟩
theorem sc_law_behind : FnScope ["word"] ["word"] (defScope s_law_behind) := ⟨rfl, rfl, rfl, by decide +kernel, rfl, by decide +kernel, by decide +kernel⟩
theorem sc_NoName_init : FnScope ["self", "word"] ["self", "word"] (defScope s_NoName_init) := ⟨rfl, rfl, rfl, by decide +kernel, rfl, by decide +kernel, by decide +kernel⟩
theorem sc_is_name : FnScope ["text"] ["text"] (defScope s_is_name) := ⟨rfl, rfl, rfl, by decide +kernel, rfl, by decide +kernel, by decide +kernel⟩
theorem sc_is_figures : FnScope ["text"] ["text"] (defScope s_is_figures) := ⟨rfl, rfl, rfl, by decide +kernel, rfl, by decide +kernel, by decide +kernel⟩
theorem sc_law_names : FnScope ["deck", "letters", "base", "at", "names", "k", "place", "name"] ["deck"] (defScope s_law_names) := ⟨rfl, rfl, rfl, by decide +kernel, rfl, by decide +kernel, by decide +kernel⟩
theorem sc_law_leaf : FnScope ["deck", "names", "kind"] ["deck", "names"] (defScope s_law_leaf) := ⟨rfl, rfl, rfl, by decide +kernel, rfl, by decide +kernel, by decide +kernel⟩
theorem sc_law_join : FnScope ["deck"] ["deck"] (defScope s_law_join) := ⟨rfl, rfl, rfl, by decide +kernel, rfl, by decide +kernel, by decide +kernel⟩
theorem sc_law_sort : FnScope ["word", "letters"] ["word"] (defScope s_law_sort) := ⟨rfl, rfl, rfl, by decide +kernel, rfl, by decide +kernel, by decide +kernel⟩
theorem sc_law_spoilt : FnScope ["deck", "words", "at", "way", "some", "thing", "there"] ["deck", "words"] (defScope s_law_spoilt) := ⟨rfl, rfl, rfl, by decide +kernel, rfl, by decide +kernel, by decide +kernel⟩
theorem sc_law_many_names : FnScope ["words", "some"] ["words"] (defScope s_law_many_names) := ⟨rfl, rfl, rfl, by decide +kernel, rfl, by decide +kernel, by decide +kernel⟩
theorem sc_sum_word_read : FnScope ["part"] ["part"] (defScope s_sum_word_read) := ⟨rfl, rfl, rfl, by decide +kernel, rfl, by decide +kernel, by decide +kernel⟩
theorem sc_law_sum : FnScope ["deck", "names", "most", "heavy", "words", "due", "room", "kind", "word", "many"] ["deck", "names", "most", "heavy"] (defScope s_law_sum) := ⟨rfl, rfl, rfl, by decide +kernel, rfl, by decide +kernel, by decide +kernel⟩
theorem sc_law_reading : FnScope ["text", "due", "found", "word"] ["text"] (defScope s_law_reading) := ⟨rfl, rfl, rfl, by decide +kernel, rfl, by decide +kernel, by decide +kernel⟩
theorem sc_sum_part_read : FnScope ["part"] ["part"] (defScope s_sum_part_read) := ⟨rfl, rfl, rfl, by decide +kernel, rfl, by decide +kernel, by decide +kernel⟩
theorem sc_law_atom : FnScope ["deck", "names", "heavy", "most", "kind", "found", "k"] ["deck", "names", "heavy", "most"] (defScope s_law_atom) := ⟨rfl, rfl, rfl, by decide +kernel, rfl, by decide +kernel, by decide +kernel⟩
theorem sc_word_read : FnScope ["part", "kind"] ["part", "kind"] (defScope s_word_read) := ⟨rfl, rfl, rfl, by decide +kernel, rfl, by decide +kernel, by decide +kernel⟩
theorem sc_law_claim : FnScope ["deck", "names", "heavy", "joins", "most", "claim", "k", "other", "way", "word"] ["deck", "names", "heavy"] (defScope s_law_claim) := ⟨rfl, rfl, rfl, by decide +kernel, rfl, by decide +kernel, by decide +kernel⟩
theorem sc_read_claim : FnScope ["text", "words", "lacking", "part", "word"] ["text"] (defScope s_read_claim) := ⟨rfl, rfl, rfl, by decide +kernel, rfl, by decide +kernel, by decide +kernel⟩
theorem sc_law_right : FnScope ["text", "due", "found", "caught", "e"] ["text"] (defScope s_law_right) := ⟨rfl, rfl, rfl, by decide +kernel, rfl, by decide +kernel, by decide +kernel⟩
theorem sc_law : FnScope ["script", "deck", "names", "k", "words", "turn", "text", "odd"] ["script"] (defScope s_law) := ⟨rfl, rfl, rfl, by decide +kernel, rfl, by decide +kernel, by decide +kernel⟩
section
variable {P : Program} {w : World} {K : PySem.W.Frag} {mg : Str → Option Value} {base : Heap} {t : Adr}
noncomputable def sp_is_sum_word (K : PySem.W.Frag) : Sp := fun vs H Q _ => ∃ (y : Str), vs = [.str y] ∧ Q (.bl (decide (y ∈ sumW))) H
theorem ok_is_sum_word (T : Txt K w mg t) (XB : Xcl K mg base t) : FnOk P w K mg base CX0 1 t.a_is_sum_word t.f_is_sum_word ["text"] (sp_is_sum_word K) := by
  refine T.d_is_sum_word.F.ok sc_is_sum_word (fun vs H Q E h => ?_) (fun cdv A outer s H vs Q E hr h => ?_)
  · obtain ⟨y, rfl, k⟩ := h
    rfl
  · obtain ⟨y, rfl, k⟩ := h
    have hu := hu_of hr
    refine ⟨_, @QSs.out _ _ _ (qss_one (qs_ret (qe_cmpR op_in_K (qv 0) (qe_glob (v := .ref t.g_SUM_PARTS) rfl T.g_SUM_PARTS.m rfl) (by with_unfolding_all rfl)))), ?_⟩
    clear hu hr
    refine ⟨_, rfl, t.g_SUM_PARTS, T1, .inr y, rfl, T.g_SUM_PARTS.d, rfl, ?_⟩
    rw [kv_has, tw1]
    exact k
noncomputable def sp_is_claim_word (K : PySem.W.Frag) : Sp := fun vs H Q _ => ∃ (y : Str), vs = [.str y] ∧ Q (.bl (decide (y ∈ claimW))) H
theorem claim_or (y : Str) : decide (y ∈ claimW) = (decide (y ∈ T2.map (·.1)) || decide (y ∈ T3.map (·.1))) := by
  have e : claimW = T2.map (·.1) ++ T3.map (·.1) := by decide +kernel
  rw [e]
  by_cases h1 : y ∈ T2.map (·.1)
  · rw [decide_eq_true h1, decide_eq_true (List.mem_append_left _ h1)]
    rfl
  · by_cases h2 : y ∈ T3.map (·.1)
    · rw [decide_eq_true h2, decide_eq_true (List.mem_append_right _ h2), Bool.or_true]
    · rw [decide_eq_false h1, decide_eq_false h2, decide_eq_false (fun z => (List.mem_append.mp z).elim h1 h2)]
      rfl
theorem ok_is_claim_word (T : Txt K w mg t) (XB : Xcl K mg base t) : FnOk P w K mg base CX0 1 t.a_is_claim_word t.f_is_claim_word ["text"] (sp_is_claim_word K) := by
  refine T.d_is_claim_word.F.ok sc_is_claim_word (fun vs H Q E h => ?_) (fun cdv A outer s H vs Q E hr h => ?_)
  · obtain ⟨y, rfl, k⟩ := h
    rfl
  · obtain ⟨y, rfl, k⟩ := h
    have hu := hu_of hr
    refine ⟨_, @QSs.out _ _ _ (qss_one (qs_ret (qe_or (qe_cmpR op_in_K (qv 0) (qe_glob (v := .ref t.g_SUMS_IN_CLAIM) rfl T.g_SUMS_IN_CLAIM.m rfl) (by with_unfolding_all rfl)) (qe_one (qe_cmpR op_in_K (qv 0) (qe_glob (v := .ref t.g_CLAIMS_IN_CLAIM) rfl T.g_CLAIMS_IN_CLAIM.m rfl) (by with_unfolding_all rfl)))))), ?_⟩
    clear hu hr
    rw [claim_or] at k
    refine ⟨_, rfl, t.g_SUMS_IN_CLAIM, T2, .inr y, rfl, T.g_SUMS_IN_CLAIM.d, rfl, _, rfl, ?_⟩
    rw [kv_has]
    cases h : decide (y ∈ T2.map (·.1)) with
    | true =>
      rw [h] at k
      exact iteT k
    | false =>
      rw [h] at k
      refine iteF ⟨_, rfl, t.g_CLAIMS_IN_CLAIM, T3, .inr y, rfl, T.g_CLAIMS_IN_CLAIM.d, rfl, ?_⟩
      rw [kv_has]
      exact k
noncomputable def sp_sums_behind (K : PySem.W.Frag) : Sp := fun vs H Q _ => ∃ (k : Key), vs = [kV k] ∧ Q (.int (getN T1 k + getN T2 k)) H
theorem ok_sums_behind (T : Txt K w mg t) (XB : Xcl K mg base t) : FnOk P w K mg base CX0 1 t.a_sums_behind t.f_sums_behind ["word"] (sp_sums_behind K) := by
  refine T.d_sums_behind.F.ok sc_sums_behind (fun vs H Q E h => ?_) (fun cdv A outer s H vs Q E hr h => ?_)
  · obtain ⟨kk, rfl, k⟩ := h
    rfl
  · obtain ⟨kk, rfl, k⟩ := h
    have hu := hu_of hr
    refine ⟨_, @QSs.out _ _ _ (qss_one (qs_ret (qe_op op_add (qe_kget (qe_glob (v := .ref t.g_SUM_PARTS) rfl T.g_SUM_PARTS.m rfl) (qv 0) qe_int) (qe_kget (qe_glob (v := .ref t.g_SUMS_IN_CLAIM) rfl T.g_SUMS_IN_CLAIM.m rfl) (qv 0) qe_int)))), ?_⟩
    clear hu hr
    refine ⟨t.g_SUM_PARTS, T1, rfl, T.g_SUM_PARTS.d, _, rfl, kk, rfl, t.g_SUMS_IN_CLAIM, T2, rfl, T.g_SUMS_IN_CLAIM.d, _, rfl, kk, rfl, ?_⟩
    rw [kget, kget]
    exact ⟨_, _, rfl, rfl, k⟩
noncomputable def sp_claims_behind (K : PySem.W.Frag) : Sp := fun vs H Q _ => ∃ (k : Key), vs = [kV k] ∧ Q (.int (getN T3 k)) H
theorem ok_claims_behind (T : Txt K w mg t) (XB : Xcl K mg base t) : FnOk P w K mg base CX0 1 t.a_claims_behind t.f_claims_behind ["word"] (sp_claims_behind K) := by
  refine T.d_claims_behind.F.ok sc_claims_behind (fun vs H Q E h => ?_) (fun cdv A outer s H vs Q E hr h => ?_)
  · obtain ⟨kk, rfl, k⟩ := h
    rfl
  · obtain ⟨kk, rfl, k⟩ := h
    have hu := hu_of hr
    refine ⟨_, @QSs.out _ _ _ (qss_one (qs_ret (qe_kget (qe_glob (v := .ref t.g_CLAIMS_IN_CLAIM) rfl T.g_CLAIMS_IN_CLAIM.m rfl) (qv 0) qe_int))), ?_⟩
    clear hu hr
    refine ⟨t.g_CLAIMS_IN_CLAIM, T3, rfl, T.g_CLAIMS_IN_CLAIM.d, _, rfl, kk, rfl, ?_⟩
    rw [kget]
    exact k
noncomputable def sp_is_made_of (K : PySem.W.Frag) : Sp := fun vs H Q _ => ∃ (y sg : Str), vs = [.str y, .str sg] ∧ y.length ≤ 100000 ∧ ∀ H', Same H H' → Q (.bl (decide (MadeOf y sg))) H'
theorem ok_is_made_of (T : Txt K w mg t) (XB : Xcl K mg base t) : FnOk P w K mg base CX0 1 t.a_is_made_of t.f_is_made_of ["text", "signs"] (sp_is_made_of K) := by
  refine T.d_is_made_of.F.ok sc_is_made_of (fun vs H Q E h => ?_) (fun cdv A outer s H vs Q E hr h => ?_)
  · obtain ⟨y, sg, rfl, hl, k⟩ := h
    rfl
  · obtain ⟨y, sg, rfl, hl, k⟩ := h
    have hu := hu_of hr
    refine ⟨_, @QSs.out _ _ _ (qss_one (qs_ret (qe_and (qe_cmpR op_ne (qv 0) qe_str (nomark _)) (qe_one (qe_callBF (call_allL rfl) (by rfl) T.z_all bt_all (qa_c (qe_comp (⟨by rfl, by decide +kernel, by decide +kernel, by rfl, by decide +kernel, by decide +kernel, by rfl, by decide +kernel⟩ : CompSc (defScope s_is_made_of) _ ["text", "signs"] "sign" ["signs"] [1]) (qi_str (qv 0)) (fun _ _ _ _ => qf_nil) (fun _ _ _ _ => (qe_cmpR op_in_str (qv 0) (qv 1) (by with_unfolding_all rfl)))) qa_nil)))))), ?_⟩
    clear hu hr
    refine ⟨_, rfl, rfl, _, rfl, ?_⟩
    by_cases hy : y.cps.toList = []
    · have e := nil_signs.mp hy
      subst e
      rw [decide_eq_true (rfl : V.str ("" : Str) = V.str ("" : Str))]
      refine iteF ?_
      have e2 : decide (MadeOf ("" : Str) sg) = false := decide_eq_false fun z => z.1 (nil_signs.mpr rfl)
      have := k H (Same.refl H)
      rw [e2] at this
      exact this
    have hne : ¬ V.str y = V.str ("" : Str) := fun z => hy (nil_signs.mpr (by injection z))
    rw [decide_eq_false hne]
    refine iteT ?_
    refine ⟨_, rfl, y, rfl, comp_str (fun c => .bl (decide (c ∈ sg.cps.toList))) (Nat.le_trans (show y.length ≤ 100000 from hl) (by decide)) (fun c _ R hR => ?_) (fun l hl2 => ?_)⟩
    · refine ⟨_, rfl, _, rfl, _, _, rfl, rfl, ?_⟩
      rw [occ_mem]
      exact hR
    have e1 : (y.cps.toList.map fun c => V.bl (decide (c ∈ sg.cps.toList))) = (y.cps.toList.map fun c => decide (c ∈ sg.cps.toList)).map V.bl := by rw [List.map_map]; rfl
    rw [e1]
    refine ⟨l, _, rfl, SqL.of upd_same, ?_⟩
    rw [all_bs]
    have e2 : decide (MadeOf y sg) = decide (∀ c ∈ y.cps.toList, decide (c ∈ sg.cps.toList) = true) := by
      rw [Bool.eq_iff_iff, decide_eq_true_iff, decide_eq_true_iff]
      constructor
      · intro z c hc
        exact decide_eq_true (z.2 c hc)
      · intro z
        exact ⟨hy, fun c hc => of_decide_eq_true (z c hc)⟩
    rw [← e2]
    exact k _ (same_upd hl2)
noncomputable def sp_law_deck (K : PySem.W.Frag) : Sp := fun vs H Q _ => ∃ (a : Addr) (ns : List Int), vs = [.ref a] ∧ SqL K H a (ns.map V.int) ∧ ns.length ≤ 63 ∧ ∀ d c H', H d = none → H c = none → DeckAt H' d c → Same H H' → Q (.ref d) H'
theorem cut63 {ns : List Int} (h : ns.length ≤ 63) : cutV (ns.map V.int) none (some 63) = ns.map V.int := by
  unfold cutV
  have e : HT.sIx (ns.map V.int).length 0 none = 0 := rfl
  rw [e, List.drop_zero]
  apply List.take_of_length_le
  rw [List.length_map]
  simp only [HT.sIx, show ¬ ((63 : Int) < 0) by decide, if_false]
  omega
theorem ok_law_deck (T : Txt K w mg t) (XB : Xcl K mg base t) : FnOk P w K mg base CX0 1 t.a_law_deck t.f_law_deck ["script"] (sp_law_deck K) := by
  refine T.d_law_deck.F.ok sc_law_deck (fun vs H Q E h => ?_) (fun cdv A outer s H vs Q E hr h => ?_)
  · obtain ⟨a, ns, rfl, hS, hl, k⟩ := h
    rfl
  · obtain ⟨a, ns, rfl, hS, hl, k⟩ := h
    have hu := hu_of hr
    refine ⟨_, @QSs.out _ _ _ (qss_cons (qs_set (i := 1) sc_law_deck.nd rfl (Or.inl rfl) (qe_op op_cat (qe_slice sl_list (qv 0) qo_none (qo_some qe_int)) (qe_lst (qa_c (qe_callBF call_len_seq (by rfl) T.z_len bt_len (qa_c (qv 0) qa_nil)) qa_nil))))
        (qss_cons (qs_if (qt_cmpR op_eq (qe_op op_mod (qe_callBF (call_sumL rfl) (by rfl) T.z_sum bt_sum (qa_c (qe_slice sl_list (qv 0) qo_none (qo_some qe_int)) qa_nil)) qe_int) qe_int (nomark _))
        (qss_one (qs_for PassesOwn.never rfl (qi_rangeF rfl T.z_range (qa_c (qe_callBF call_len_seq (by rfl) T.z_len bt_len (qa_c (qv 1) qa_nil)) qa_nil)) (qg_name (i := 2) sc_law_deck.nd rfl (Or.inl rfl))
        (qss_cons (qs_set (i := 3) sc_law_deck.nd rfl (Or.inl rfl) (qe_op op_mod (qe_op op_mulB (qe_op op_add (qe_op op_add (qe_op op_mod (qe_ix ix_list (qv 1) (qv 2) (fun _ _ => rfl)) qe_int) (qe_op op_mulB qe_int (qv 2))) qe_int) qe_int) qe_int))
        (qss_cons (qs_set (i := 3) sc_law_deck.nd rfl (Or.inl rfl) (qe_op op_mod (qe_op op_mulB (qe_op op_mod (qe_op op_add (qe_op op_mulB (qv 3) (qv 3)) (qe_op op_mulB qe_int (qv 2))) qe_int) qe_int) qe_int))
        (qss_one (qs_asg (qe_op op_add (qe_op op_mulB (qe_op op_mulB (qv 3) (qv 3)) qe_int) (qe_op op_mod (qe_op op_mulB (qv 3) qe_int) qe_int)) (qg_sub (qv 1) (qv 2) set_list))))))) qss_nil)
        (qss_one (qs_ret (qe_lst (qa_c (qv 1) (qa_c qe_int qa_nil))))))), ?_⟩
    clear hu hr
    refine ⟨_, rfl, 63, rfl, a, _, rfl, hS, fun p hp => ?_⟩
    rw [cut63 hl]
    have s1 := same_upd (o := .lst (ns.map V.int)) hp
    refine ⟨_, rfl, a, _, rfl, .inl (s1.seq hS), by show 1 ≤ sizeLine; decide, fun l hl2 => ?_⟩
    have s2 := same_upd (o := .lst [.int (ns.map V.int).length]) hl2
    refine ⟨p, l, _, _, rfl, rfl, s2 _ _ upd_same, upd_same, ?_, fun c hc => ?_⟩
    · rw [List.length_map]
      exact Nat.le_of_lt (small1000 (by show ns.length + 1 ≤ 1000; omega))
    have s3 := (s1.trans s2).trans (same_upd (o := .lst (ns.map V.int ++ [.int (ns.map V.int).length])) hc)
    have hc0 : H c = none := (s1.trans s2).free hc
    -- what is left: the cells at c, any ints, 1 to 64 of them
    have fin : ∀ (σ : St) (H2 : Hp) (cs : List Int), σ = [some (.ref a), some (.ref c), σ.getD 2 none, σ.getD 3 none] → H2 c = some (.lst (cs.map V.int)) → 1 ≤ cs.length → cs.length ≤ 64 → Same H H2 →
        (tRet (tLst (tCons (tVar 1) (tCons (tC (.int 0)) tNil)))) { nx := fun _ H' => Q .non H', rt := Q } σ H2 := by
      intro σ H2 cs hσ h2 c1 c2 sm
      rw [hσ]
      refine ⟨_, rfl, by show 2 ≤ sizeLine; decide, fun d hd => ?_⟩
      exact k d c _ (sm.free hd) hc0 ⟨_, cs, upd_same, by rw [upd_ne (ne_of_none h2 hd)]; exact h2, c1, c2⟩ (sm.trans (same_upd hd))
    have h0 : (upd (upd (upd H p (.lst (ns.map V.int))) l (.lst [.int (ns.map V.int).length])) c (.lst (ns.map V.int ++ [.int (ns.map V.int).length]))) c = some (.lst ((ns ++ [(ns.length : Int)]).map V.int)) := by
      rw [upd_same, List.map_append, List.length_map]
      rfl
    refine ⟨_, rfl, 63, rfl, a, _, rfl, s3.seq hS, fun q hq => ?_⟩
    rw [cut63 hl]
    have s4 := same_upd (o := .lst (ns.map V.int)) hq
    refine ⟨q, ns, rfl, SqL.of upd_same, _, _, rfl, rfl, (by show (0 : Int) < 2; decide), rfl, _, rfl, ?_⟩
    refine ite2 (fun _ => ?_) (fun _ => ?_)
    · refine ⟨_, rfl, c, _, rfl, .inl (SqL.of (s4 _ _ h0)), _, rfl, ?_, ?_, for_range (fun i σ H2 => ∃ (cs : List Int) (u v : Option V), σ = [some (.ref a), some (.ref c), u, v] ∧ H2 c = some (.lst (cs.map V.int)) ∧ cs.length = ns.length + 1 ∧ Same H H2) ⟨_, none, none, rfl, s4 _ _ h0, by simp, s3.trans s4⟩ ?_ ?_⟩
      · omega
      · rw [List.length_map, List.length_append]
        show ((ns.length + 1 : Nat) : Int) < 2 ^ 62
        omega
      · rintro i σ H2 hi hz_
        refine hideG fun Gz hGz => ?_
        obtain ⟨cs, u, v, rfl, h2, hcs, sm⟩ := hz_
        refine hGz ?_
        clear hGz Gz
        rw [List.length_map, List.length_append, Int.toNat_natCast] at hi
        have hi' : i < cs.length := by rw [hcs]; exact hi
        have hat : ∀ {xs : List Int} (h : i < xs.length), atI (xs.map V.int) (0 + (i : Int)) = some (V.int xs[i]) := fun {xs} h => by
          rw [Int.zero_add]
          exact atI_nat (by rw [List.getElem?_map, List.getElem?_eq_getElem h]; rfl)
        refine ⟨_, rfl, _, rfl, c, _, _, _, rfl, rfl, SqL.of h2, hat hi', _, _, rfl, rfl, (by show (0 : Int) < 2147483587; decide), _, rfl, _, _, rfl, rfl, .inr (.inl ⟨by decide, by decide⟩), _, _, rfl, rfl, _, _, rfl, rfl, _, _, rfl, rfl, .inr (.inr ⟨by decide, by decide⟩), _, _, rfl, rfl, (by show (0 : Int) < 2147483629; decide), ?_⟩
        dsimp only
        generalize hm1 : (cs[i] % 2147483587 + 853 * (0 + (i : Int)) + 11) * 69621 % 2147483629 = m1
        have m1a : 0 ≤ m1 := by omega
        have m1b : m1 < 2147483629 := by omega
        refine ⟨_, rfl, _, rfl, _, _, rfl, rfl, .inr (.inl ⟨by omega, by omega⟩), _, rfl, _, _, rfl, rfl, .inr (.inl ⟨by decide, by decide⟩), _, _, rfl, rfl, _, _, rfl, rfl, (by show (0 : Int) < 2147483563; decide), _, _, rfl, rfl, .inr (.inr ⟨by decide, by decide⟩), _, _, rfl, rfl, (by show (0 : Int) < 2147483549; decide), ?_⟩
        dsimp only
        generalize hm2 : (m1 * m1 + 31 * (0 + (i : Int))) % 2147483563 * 16807 % 2147483549 = m2
        have m2a : 0 ≤ m2 := by omega
        have m2b : m2 < 2147483549 := by omega
        refine ⟨_, rfl, _, rfl, _, _, rfl, rfl, .inr (.inl ⟨by omega, by omega⟩), _, _, rfl, rfl, .inr (.inr ⟨by decide, by decide⟩), _, rfl, _, _, rfl, rfl, .inr (.inl ⟨by omega, by omega⟩), _, _, rfl, rfl, (by show (0 : Int) < 2147483579; decide), _, _, rfl, rfl, _, rfl, _, rfl, c, _, _, i, rfl, rfl, h2, ?_, ?_⟩
        · unfold ixN
          rw [if_pos (by omega), if_pos (by rw [List.length_map]; omega)]
          congr 1
          omega
        · refine ⟨cs.set i (m2 * m2 * 2147483543 + m2 * 48271 % 2147483579), _, _, rfl, ?_, by rw [List.length_set]; exact hcs, fun b o e => ?_⟩
          · rw [upd_same, List.map_set]
          · rw [upd_ne (ne_of_none e hc0)]
            exact sm b o e
      · rintro σ H2 hz_
        refine hideG fun Gz hGz => ?_
        obtain ⟨cs, u, v, rfl, h2, hcs, sm⟩ := hz_
        refine hGz ?_
        clear hGz Gz
        exact fin _ H2 cs rfl h2 (by omega) (by omega) sm
    · exact fin _ _ (ns ++ [(ns.length : Int)]) rfl (s4 _ _ h0) (by simp) (by simp; omega) (s3.trans s4)
noncomputable def sp_law_take (K : PySem.W.Frag) : Sp := fun vs H Q _ => ∃ (d c : Addr) (m : Int), vs = [.ref d, .int m] ∧ DeckAt H d c ∧ 0 < m ∧ m ≤ 100000000000000000000 ∧ ∀ r H', 0 ≤ r → r < m → DeckAt H' d c → Off d c H H' → Q (.int r) H'
theorem ok_law_take (T : Txt K w mg t) (XB : Xcl K mg base t) : FnOk P w K mg base CX0 1 t.a_law_take t.f_law_take ["deck", "many"] (sp_law_take K) := by
  refine T.d_law_take.F.ok sc_law_take (fun vs H Q E h => ?_) (fun cdv A outer s H vs Q E hr h => ?_)
  · obtain ⟨d, c, m, rfl, D, hm, hm2, k⟩ := h
    rfl
  · obtain ⟨d, c, m, rfl, D, hm, hm2, k⟩ := h
    have hu := hu_of hr
    refine ⟨_, @QSs.out _ _ _ (qss_cons (qs_set (i := 2) sc_law_take.nd rfl (Or.inl rfl) (qe_op op_mod (qe_ix ix_list (qv 0) qe_int (fun _ _ => rfl)) (qe_callBF call_len_seq (by rfl) T.z_len bt_len (qa_c (qe_ix ix_list (qv 0) qe_int (fun _ _ => rfl)) qa_nil))))
        (qss_cons (qs_asg (qe_op op_add (qe_ix ix_list (qv 0) qe_int (fun _ _ => rfl)) qe_int) (qg_sub (qv 0) qe_int set_list))
        (qss_cons (qs_set (i := 3) sc_law_take.nd rfl (Or.inl rfl) (qe_ix ix_list (qe_ix ix_list (qv 0) qe_int (fun _ _ => rfl)) (qv 2) (fun _ _ => rfl)))
        (qss_cons (qs_asg (qe_op op_fdivB (qv 3) (qv 1)) (qg_sub (qe_ix ix_list (qv 0) qe_int (fun _ _ => rfl)) (qv 2) set_list))
        (qss_one (qs_ret (qe_op op_mod (qv 3) (qv 1)))))))), ?_⟩
    clear hu hr
    have hdc := D.ne
    refine hideG fun Gz hGz => ?_
    obtain ⟨n, cs, hd, hc, c1, c2⟩ := D.ex
    refine hGz ?_
    clear hGz Gz
    refine ⟨_, rfl, d, _, 1, _, rfl, rfl, SqL.of hd, rfl, _, rfl, d, _, 0, _, rfl, rfl, SqL.of hd, rfl, c, _, rfl, .inl (SqL.of hc), _, _, rfl, rfl, ?_, ?_⟩
    · rw [List.length_map]
      omega
    dsimp only
    rw [List.length_map]
    generalize hat : n % (cs.length : Int) = at0
    have a0 : 0 ≤ at0 := by rw [← hat]; exact Int.emod_nonneg _ (by omega)
    have a1 : at0 < cs.length := by rw [← hat]; exact Int.emod_lt_of_pos _ (by omega)
    refine ⟨_, rfl, d, _, 1, _, rfl, rfl, SqL.of hd, rfl, _, _, rfl, rfl, _, rfl, d, _, 1, 1, rfl, rfl, hd, rfl, ?_⟩
    have hc' : ∀ o, (upd H d o) c = some (.lst (cs.map V.int)) := fun o => by rw [upd_ne hdc.symm]; exact hc
    obtain ⟨j, rfl⟩ : ∃ j : Nat, at0 = (j : Int) := ⟨at0.toNat, by omega⟩
    have hg : j < cs.length := by omega
    have hix : atI (cs.map V.int) (j : Int) = some (V.int cs[j]) := by
      refine atI_nat ?_
      rw [List.getElem?_map, List.getElem?_eq_getElem hg]
      rfl
    refine ⟨_, rfl, d, _, 0, _, rfl, rfl, SqL.of upd_same, rfl, _, rfl, c, _, _, _, rfl, rfl, SqL.of (hc' _), hix, ?_⟩
    refine ⟨_, rfl, _, rfl, _, _, rfl, rfl, .of hm (by omega), _, rfl, d, _, 0, _, rfl, rfl, SqL.of upd_same, rfl, _, rfl, c, _, _, j, rfl, rfl, hc' _, ?_, ?_⟩
    · unfold ixN
      rw [if_pos a0, if_pos (by rw [List.length_map]; exact a1), Int.toNat_natCast]
    refine ⟨_, rfl, _, rfl, _, _, rfl, rfl, hm, k _ _ (Int.emod_nonneg _ (by omega)) (Int.emod_lt_of_pos _ hm) ⟨n + 1, cs.set j (cs[j] / m), ?_, ?_, ?_, ?_⟩ (off_upd1.trans off_upd2)⟩
    · rw [upd_ne hdc, upd_same]
      rfl
    · rw [upd_same, List.map_set]
    · rw [List.length_set]; exact c1
    · rw [List.length_set]; exact c2
noncomputable def sp_law_kept (K : PySem.W.Frag) : Sp := fun vs H Q _ => vs = [] ∧ ∀ p H', H p = none → H' p = some (.lst (keptS.map V.str)) → Same H H' → Q (.ref p) H'
theorem ok_law_kept (T : Txt K w mg t) (XB : Xcl K mg base t) : FnOk P w K mg base CX0 1 t.a_law_kept t.f_law_kept [] (sp_law_kept K) := by
  refine T.d_law_kept.F.ok sc_law_kept (fun vs H Q E h => ?_) (fun cdv A outer s H vs Q E hr h => ?_)
  · obtain ⟨rfl, k⟩ := h
    rfl
  · obtain ⟨rfl, k⟩ := h
    have hu := hu_of hr
    refine ⟨_, @QSs.out _ _ _ (qss_cons (qs_set (i := 0) sc_law_kept.nd rfl (Or.inl rfl) (qe_lst (qa_c qe_str (qa_c qe_str (qa_c qe_str (qa_c qe_str (qa_c qe_str (qa_c qe_str (qa_c qe_str (qa_c qe_str (qa_c qe_str (qa_c qe_str qa_nil))))))))))))
        (qss_one (qs_ret (qe_op op_cat (qv 0) (qe_lst (qa_c qe_str (qa_c qe_str (qa_c qe_str (qa_c qe_str (qa_c qe_str (qa_c qe_str (qa_c qe_str (qa_c qe_str (qa_c qe_str (qa_c qe_str qa_nil))))))))))))))), ?_⟩
    clear hu hr
    refine ⟨by show 10 ≤ sizeLine; decide, fun a ha => ?_⟩
    refine ⟨_, rfl, by show 10 ≤ sizeLine; decide, fun b hb => ⟨a, b, _, _, rfl, rfl, same_upd hb _ _ upd_same, upd_same, by show 20 ≤ sizeLine; decide, fun p hp => ?_⟩⟩
    exact k p _ (Same.free (Same.trans (same_upd ha) (same_upd hb)) hp) upd_same (Same.trans (Same.trans (same_upd ha) (same_upd hb)) (same_upd hp))
noncomputable def sp_law_behind (K : PySem.W.Frag) : Sp := fun vs H Q _ => ∃ (y : Str), vs = [.str y] ∧ ∀ p H', H p = none → H' p = some (.lst ((nextK (.str y)).map kV2)) → Same H H' → Q (.ref p) H'
theorem ok_law_behind (T : Txt K w mg t) (XB : Xcl K mg base t) : FnOk P w K mg base CX0 1 t.a_law_behind t.f_law_behind ["word"] (sp_law_behind K) := by
  refine T.d_law_behind.F.ok sc_law_behind (fun vs H Q E h => ?_) (fun cdv A outer s H vs Q E hr h => ?_)
  · obtain ⟨y, rfl, k⟩ := h
    rfl
  · obtain ⟨y, rfl, k⟩ := h
    have hu := hu_of hr
    refine ⟨_, @QSs.out _ _ _ (qss_cons (qs_if (qt_cmpR op_in_seq (qv 0) (qe_lst (qa_c qe_str (qa_c qe_str (qa_c qe_str (qa_c qe_str (qa_c qe_str qa_nil)))))) (by with_unfolding_all rfl))
        (qss_one (qs_ret (qe_op op_rep (qe_lst (qa_c qe_str qa_nil)) (qe_op op_sub (qe_op op_sub qe_int (qe_callTF call_int1 (by rfl) T.z_int bt_int (qa_c (qe_cmpR op_eq (qv 0) qe_str (nomark _)) qa_nil))) (qe_op op_mulB qe_int (qe_callTF call_int1 (by rfl) T.z_int bt_int (qa_c (qe_cmpR op_eq (qv 0) qe_str (nomark _)) qa_nil))))))) qss_nil)
        (qss_cons (qs_if (qt_cmpR op_in_seq (qv 0) (qe_lst (qa_c qe_str (qa_c qe_str (qa_c qe_str (qa_c qe_str (qa_c qe_str (qa_c qe_str (qa_c qe_str (qa_c qe_str qa_nil))))))))) (by with_unfolding_all rfl))
        (qss_one (qs_ret (qe_lst (qa_c qe_str (qa_c qe_str qa_nil))))) qss_nil)
        (qss_one (qs_ret (qe_op op_rep (qe_lst (qa_c qe_str qa_nil)) (qe_op op_add (qe_callTF call_int1 (by rfl) T.z_int bt_int (qa_c (qe_cmpR op_in_seq (qv 0) (qe_lst (qa_c qe_str (qa_c qe_str (qa_c qe_str (qa_c qe_str (qa_c qe_str (qa_c qe_str qa_nil))))))) (by with_unfolding_all rfl)) qa_nil)) (qe_op op_mulB qe_int (qe_callTF call_int1 (by rfl) T.z_int bt_int (qa_c (qe_cmpR op_eq (qv 0) qe_str (nomark _)) qa_nil))))))))), ?_⟩
    clear hu
    refine ⟨_, rfl, by show 5 ≤ sizeLine; decide, fun q hq => ⟨q, clm5.map V.str, rfl, .inl (SqL.of upd_same), rfl, all_flatS _, _, rfl, ?_⟩⟩
    show if (inV (.str y) (clm5.map V.str)) = true then _ else _
    rw [inV_strs]
    have s1 := same_upd (o := .lst (clm5.map V.str)) hq
    by_cases h1 : y ∈ clm5
    · rw [decide_eq_true h1]
      obtain ⟨n0, n1, ne⟩ := bh1_ok y h1
      refine iteT ⟨by show 1 ≤ sizeLine; decide, fun g hg => ?_⟩
      have s2 := same_upd (o := .lst [.str "c"]) hg
      refine ⟨_, rfl, rfl, .inr ⟨_, rfl, _, _, rfl, rfl, _, rfl, rfl, .inr ⟨_, rfl, _, _, rfl, rfl, mul_bit 2 _ (by decide), _, _, rfl, rfl, g, bh1 y, [.str "c"], rfl, rfl, upd_same, by omega, by omega, ?_, fun r hr => ?_⟩⟩⟩
      · rw [List.length_singleton]
        exact Nat.le_of_lt (small1000 (by omega))
      rw [ne]
      exact k r _ ((s1.trans s2).free hr) upd_same (s1.trans (s2.trans (same_upd hr)))
    rw [decide_eq_false h1]
    refine iteF ⟨_, rfl, by show 8 ≤ sizeLine; decide, fun q2 hq2 => ⟨q2, two8.map V.str, rfl, .inl (SqL.of upd_same), rfl, all_flatS _, _, rfl, ?_⟩⟩
    show if (inV (.str y) (two8.map V.str)) = true then _ else _
    rw [inV_strs]
    have s2 := s1.trans (same_upd (o := .lst (two8.map V.str)) hq2)
    by_cases h2 : y ∈ two8
    · rw [decide_eq_true h2]
      refine iteT ⟨by show 2 ≤ sizeLine; decide, fun r hr => ?_⟩
      exact k r _ (s2.free hr) (by rw [upd_same, bh2_ok y h2]) (s2.trans (same_upd hr))
    rw [decide_eq_false h2]
    obtain ⟨n0, n1, ne⟩ := bh3_ok h1 h2
    refine iteF ⟨by show 1 ≤ sizeLine; decide, fun g hg => ?_⟩
    have s3 := s2.trans (same_upd (o := .lst [.str "s"]) hg)
    refine ⟨_, rfl, by show 6 ≤ sizeLine; decide, fun q3 hq3 => ⟨q3, one6.map V.str, rfl, .inl (SqL.of upd_same), rfl, all_flatS _, .inr ⟨_, rfl, _, rfl, rfl, .inr ⟨_, rfl, _, _, rfl, rfl, mul_bit 3 _ (by decide), _, _, rfl, rfl, ?_⟩⟩⟩⟩
    have s4 := s3.trans (same_upd (o := .lst (one6.map V.str)) hq3)
    have eb : ((if (inV (.str y) (one6.map V.str)) = true then (1 : Int) else 0) + 3 * (if decide (V.str y = V.str ("pick" : Str)) = true then 1 else 0)) = bh3 y := by
      unfold bh3
      rw [inV_strs]
    refine ⟨g, bh3 y, [.str "s"], rfl, congrArg V.int eb, same_upd hq3 _ _ upd_same, by omega, by omega, ?_, fun r hr => ?_⟩
    · rw [List.length_singleton]
      exact Nat.le_of_lt (small1000 (by omega))
    rw [ne]
    exact k r _ (s4.free hr) upd_same (s4.trans (same_upd hr))
noncomputable def sp_NoName_init (K : PySem.W.Frag) (C : Addr) : Sp := fun vs H Q _ => ∃ (e : Addr) (y : Str), vs = [.ref e, .str y] ∧ H e = some (.ext (ExcF C e)) ∧ ∀ d, H d = none → d ≠ e → Q .non (upd (upd H d (.xd [("word", .str y)])) e (.ext (ExcD C e d)))
theorem ok_NoName_init (T : Txt K w mg t) (XB : Xcl K mg base t) : FnOk P w K mg base CX0 1 t.a_NoName_init t.f_NoName_init ["self", "word"] (sp_NoName_init K t.x_NoName) := by
  refine T.d_NoName_init.F.ok sc_NoName_init (fun vs H Q E h => ?_) (fun cdv A outer s H vs Q E hr h => ?_)
  · obtain ⟨e, y, rfl, he, k⟩ := h
    rfl
  · obtain ⟨e, y, rfl, he, k⟩ := h
    have hu := hu_of hr
    refine ⟨_, @QSs.out _ _ _ (qss_one (qs_xset (qv 0) (qv 1) rfl)), ?_⟩
    clear hu hr
    exact ⟨_, rfl, _, rfl, e, _, rfl, he, XB.at_NoName, k⟩
noncomputable def sp_is_name (K : PySem.W.Frag) : Sp := fun vs H Q _ => ∃ (y : Str), vs = [.str y] ∧ y.length ≤ 100000 ∧ ∀ H', Same H H' → Q (.bl (decide (y ∉ keptS ∧ NmL y))) H'
theorem nml_made {y : Str} : NmL y ↔ y.length ≤ 8 ∧ MadeOf y lowS := by
  constructor
  · intro h
    refine ⟨h.1.2, fun z => ?_, h.2⟩
    have h1 := h.1.1
    rw [len_signs, z] at h1
    exact absurd h1 (by decide)
  · intro h
    refine ⟨⟨?_, h.1⟩, h.2.2⟩
    rw [len_signs]
    cases e : y.cps.toList with
    | nil => exact absurd e h.2.1
    | cons a r => exact Nat.succ_le_succ (Nat.zero_le _)
theorem ok_is_name (T : Txt K w mg t) (XB : Xcl K mg base t) : FnOk P w K mg base CX0 2 t.a_is_name t.f_is_name ["text"] (sp_is_name K) := by
  have G_is_made_of : FnOk P w K mg base CX0 1 t.a_is_made_of t.f_is_made_of ["text", "signs"] (sp_is_made_of K) := ok_is_made_of T XB
  have G_is_claim_word : FnOk P w K mg base CX0 1 t.a_is_claim_word t.f_is_claim_word ["text"] (sp_is_claim_word K) := ok_is_claim_word T XB
  have G_is_sum_word : FnOk P w K mg base CX0 1 t.a_is_sum_word t.f_is_sum_word ["text"] (sp_is_sum_word K) := ok_is_sum_word T XB
  refine T.d_is_name.F.ok sc_is_name (fun vs H Q E h => ?_) (fun cdv A outer s H vs Q E hr h => ?_)
  · obtain ⟨y, rfl, hl, k⟩ := h
    rfl
  · obtain ⟨y, rfl, hl, k⟩ := h
    have hu := hu_of hr
    refine ⟨_, @QSs.out _ _ _ (qss_cons (qs_if (qw_pt (qw_or (qt_val (qe_callF G_is_sum_word (hr.mono (by decide)) rfl T.d_is_sum_word.m T.d_is_sum_word.F.kp T.d_is_sum_word.b .nil pass0 (qa_c (qv 0) qa_nil))) (qw_or1 (qt_val (qe_callF G_is_claim_word (hr.mono (by decide)) rfl T.d_is_claim_word.m T.d_is_claim_word.F.kp T.d_is_claim_word.b .nil pass0 (qa_c (qv 0) qa_nil))))))
        (qss_one (qs_ret qe_bl)) qss_nil)
        (qss_one (qs_ret (qe_and (qe_cmpR op_le (qe_callBF call_len_str (by rfl) T.z_len bt_len (qa_c (qv 0) qa_nil)) (qe_glob (v := .int 8) rfl T.g_LONGEST_NAME ⟨_, rfl⟩) (nomark _)) (qe_one (qe_callF G_is_made_of (hr.mono (by decide)) rfl T.d_is_made_of.m T.d_is_made_of.F.kp T.d_is_made_of.b .nil pass0 (qa_c (qv 0) (qa_c (qe_glob (v := .str "abcdefghijklmnopqrstuvwxyz") rfl T.g_LETTERS ⟨_, rfl⟩) qa_nil)))))))), ?_⟩
    clear hu hr
    by_cases h1 : y ∈ keptS
    · have e : decide (y ∉ keptS ∧ NmL y) = false := decide_eq_false fun z => z.1 h1
      rw [e] at k
      refine ⟨_, rfl, y, rfl, _, rfl, ?_⟩
      by_cases h2 : y ∈ sumW
      · rw [decide_eq_true h2]
        exact iteT (iteT (k H (Same.refl H)))
      · rw [decide_eq_false h2]
        have h3 : y ∈ claimW := ((kept_of y).mp h1).resolve_left h2
        refine iteF ⟨_, rfl, y, rfl, _, rfl, ?_⟩
        rw [decide_eq_true h3]
        exact iteT (k H (Same.refl H))
    · have h2 : y ∉ sumW := fun z => h1 ((kept_of y).mpr (.inl z))
      have h3 : y ∉ claimW := fun z => h1 ((kept_of y).mpr (.inr z))
      refine ⟨_, rfl, y, rfl, _, rfl, ?_⟩
      rw [decide_eq_false h2]
      refine iteF ⟨_, rfl, y, rfl, _, rfl, ?_⟩
      rw [decide_eq_false h3]
      refine iteF ?_
      refine ⟨_, rfl, y, rfl, Nat.le_trans hl (by decide), _, _, rfl, rfl, _, rfl, ?_⟩
      by_cases h8 : y.length ≤ 8
      · rw [decide_eq_true (show (y.length : Int) ≤ 8 by omega)]
        refine iteT ⟨_, rfl, y, lowS, rfl, hl, fun H' s' => ?_⟩
        have e : decide (MadeOf y lowS) = decide (y ∉ keptS ∧ NmL y) := by
          rw [Bool.eq_iff_iff, decide_eq_true_iff, decide_eq_true_iff, nml_made]
          exact ⟨fun z => ⟨h1, h8, z⟩, fun z => z.2.2⟩
        rw [e]
        exact k H' s'
      · rw [decide_eq_false (show ¬ (y.length : Int) ≤ 8 by omega)]
        have e : decide (y ∉ keptS ∧ NmL y) = false := decide_eq_false fun z => h8 z.2.1.2
        rw [e] at k
        exact iteF (k H (Same.refl H))
noncomputable def sp_is_figures (K : PySem.W.Frag) : Sp := fun vs H Q _ => ∃ (y : Str), vs = [.str y] ∧ y.length ≤ 100000 ∧ ∀ H', Same H H' → Q (.bl (figB y)) H'
theorem ok_is_figures (T : Txt K w mg t) (XB : Xcl K mg base t) : FnOk P w K mg base CX0 2 t.a_is_figures t.f_is_figures ["text"] (sp_is_figures K) := by
  have G_is_made_of : FnOk P w K mg base CX0 1 t.a_is_made_of t.f_is_made_of ["text", "signs"] (sp_is_made_of K) := ok_is_made_of T XB
  refine T.d_is_figures.F.ok sc_is_figures (fun vs H Q E h => ?_) (fun cdv A outer s H vs Q E hr h => ?_)
  · obtain ⟨y, rfl, hl, k⟩ := h
    rfl
  · obtain ⟨y, rfl, hl, k⟩ := h
    have hu := hu_of hr
    refine ⟨_, @QSs.out _ _ _ (qss_one (qs_ret (qe_and (qe_callF G_is_made_of (hr.mono (by decide)) rfl T.d_is_made_of.m T.d_is_made_of.F.kp T.d_is_made_of.b .nil pass0 (qa_c (qv 0) (qa_c (qe_glob (v := .str "0123456789") rfl T.g_FIGURES ⟨_, rfl⟩) qa_nil))) (qe_one (qe_or (qe_cmpR op_eq (qv 0) qe_str (nomark _)) (qe_one (qe_not (qe_bmF PySem.F.plainAttrs_str PySem.F.slot_str_startswith PySem.F.type_str_startswith mt_startswith (qv 0) (qa_c qe_str qa_nil))))))))), ?_⟩
    clear hu hr
    unfold figB at k
    refine ⟨_, rfl, y, figS, rfl, hl, fun H' s' => ⟨_, rfl, ?_⟩⟩
    cases h1 : decide (MadeOf y figS) with
    | false =>
      rw [h1] at k
      exact iteF (k H' s')
    | true =>
      rw [h1] at k
      refine iteT ⟨_, rfl, rfl, _, rfl, ?_⟩
      cases h2 : decide (V.str y = V.str ("0" : Str)) with
      | true =>
        rw [h2] at k
        exact iteT (k H' s')
      | false =>
        rw [h2] at k
        exact iteF ⟨_, rfl, rfl, y, _, rfl, rfl, _, rfl, k H' s'⟩
noncomputable def sp_law_names (K : PySem.W.Frag) : Sp := fun vs H Q _ => ∃ (d c : Addr), vs = [.ref d] ∧ DeckAt H d c ∧ ∀ p (ys : List Str) H', H p = none → H' p = some (.lst (ys.map V.str)) → Nms ys → DeckAt H' d c → Off d c H H' → Q (.ref p) H'
theorem ok_law_names (T : Txt K w mg t) (XB : Xcl K mg base t) : FnOk P w K mg base CX0 2 t.a_law_names t.f_law_names ["deck"] (sp_law_names K) := by
  have G_law_take : FnOk P w K mg base CX0 1 t.a_law_take t.f_law_take ["deck", "many"] (sp_law_take K) := ok_law_take T XB
  have G_law_kept : FnOk P w K mg base CX0 1 t.a_law_kept t.f_law_kept [] (sp_law_kept K) := ok_law_kept T XB
  refine T.d_law_names.F.ok sc_law_names (fun vs H Q E h => ?_) (fun cdv A outer s H vs Q E hr h => ?_)
  · obtain ⟨d, c, rfl, D, k⟩ := h
    rfl
  · obtain ⟨d, c, rfl, D, k⟩ := h
    have hu := hu_of hr
    refine ⟨_, @QSs.out _ _ _ (qss_cons (qs_set (i := 1) sc_law_names.nd rfl (Or.inr rfl) qe_str)
        (qss_cons (qs_set (i := 2) sc_law_names.nd rfl (Or.inl rfl) (qe_bmF PySem.F.plainAttrs_str PySem.F.slot_str_join PySem.F.type_str_join mt_join qe_str (qa_c (qe_comp (⟨by rfl, by decide +kernel, by decide +kernel, by rfl, by decide +kernel, by decide +kernel, by rfl, by decide +kernel⟩ : CompSc (defScope s_law_names) _ ["deck", "letters", "base", "at", "names", "k", "place", "name"] "k" ["letters", "deck"] [1, 0]) (qi_rangeF rfl T.z_range (qa_c (qe_op op_add qe_int (qe_callF G_law_take (hr.mono (by decide)) rfl T.d_law_take.m T.d_law_take.F.kp T.d_law_take.b .nil pass0 (qa_c (qv 0) (qa_c qe_int qa_nil)))) qa_nil)) (fun _ _ _ _ => qf_nil) (fun _ _ _ _ => (qe_ix ix_str (qv 1) (qe_callF G_law_take (hr.mono (by decide)) rfl T.d_law_take.m T.d_law_take.F.kp T.d_law_take.b .nil pass0 (qa_c (qv 2) (qa_c qe_int qa_nil))) (fun _ _ => rfl)))) qa_nil)))
        (qss_cons (qs_set (i := 3) sc_law_names.nd rfl (Or.inl rfl) (qe_callF G_law_take (hr.mono (by decide)) rfl T.d_law_take.m T.d_law_take.F.kp T.d_law_take.b .nil pass0 (qa_c (qv 0) (qa_c (qe_callBF call_len_str (by rfl) T.z_len bt_len (qa_c (qv 2) qa_nil)) qa_nil))))
        (qss_cons (qs_set (i := 4) sc_law_names.nd rfl (Or.inr rfl) (qe_lst qa_nil))
        (qss_cons (qs_for PassesOwn.never rfl (qi_rangeF rfl T.z_range (qa_c (qe_op op_add qe_int (qe_callF G_law_take (hr.mono (by decide)) rfl T.d_law_take.m T.d_law_take.F.kp T.d_law_take.b .nil pass0 (qa_c (qv 0) (qa_c qe_int qa_nil)))) qa_nil)) (qg_name (i := 5) sc_law_names.nd rfl (Or.inl rfl))
        (qss_cons (qs_set (i := 6) sc_law_names.nd rfl (Or.inl rfl) (qe_op op_add (qe_bmF PySem.F.plainAttrs_str PySem.F.slot_str_index PySem.F.type_str_index mt_index (qv 1) (qa_c (qe_ix ix_str (qv 2) (qv 3) (fun _ _ => rfl)) qa_nil)) (qe_op op_mulB qe_int (qv 5))))
        (qss_cons (qs_set (i := 7) sc_law_names.nd rfl (Or.inl rfl) (qe_op op_add_str (qe_op op_add_str (qe_slice sl_str (qv 2) qo_none (qo_some (qv 3))) (qe_ix ix_str (qv 1) (qe_op op_mod (qv 6) qe_int) (fun _ _ => rfl))) (qe_slice sl_str (qv 2) (qo_some (qe_op op_add (qv 3) qe_int)) qo_none)))
        (qss_cons (qs_if (qt_cmpR op_eq (qe_op op_mod (qv 5) qe_int) qe_int (nomark _))
        (qss_one (qs_set (i := 7) sc_law_names.nd rfl (Or.inl rfl) (qe_ix ix_list (qe_lst (qa_c (qe_op op_add_str (qv 7) (qe_ix ix_str (qv 1) (qe_callF G_law_take (hr.mono (by decide)) rfl T.d_law_take.m T.d_law_take.F.kp T.d_law_take.b .nil pass0 (qa_c (qv 0) (qa_c qe_int qa_nil))) (fun _ _ => rfl))) (qa_c (qe_slice sl_str (qv 7) qo_none (qo_some (qe_un un_neg qe_int))) qa_nil))) (qe_callTF call_int1 (by rfl) T.z_int bt_int (qa_c (qe_cmpR op_eq (qe_callBF call_len_str (by rfl) T.z_len bt_len (qa_c (qv 7) qa_nil)) qe_int (nomark _)) qa_nil)) (fun _ _ => rfl)))) qss_nil)
        (qss_cons (qs_if (qt_cmpR op_eq (qe_callF G_law_take (hr.mono (by decide)) rfl T.d_law_take.m T.d_law_take.F.kp T.d_law_take.b .nil pass0 (qa_c (qv 0) (qa_c qe_int qa_nil))) qe_int (nomark _))
        (qss_one (qs_set (i := 7) sc_law_names.nd rfl (Or.inl rfl) (qe_op op_add_str (qe_ix ix_list (qe_call0 G_law_kept (hr.mono (by decide)) rfl T.d_law_kept.m T.d_law_kept.F.kp T.d_law_kept.b .nil pass0) (qe_callF G_law_take (hr.mono (by decide)) rfl T.d_law_take.m T.d_law_take.F.kp T.d_law_take.b .nil pass0 (qa_c (qv 0) (qa_c qe_int qa_nil))) (fun _ _ => rfl)) (qe_ix ix_str (qv 1) (qe_callF G_law_take (hr.mono (by decide)) rfl T.d_law_take.m T.d_law_take.F.kp T.d_law_take.b .nil pass0 (qa_c (qv 0) (qa_c qe_int qa_nil))) (fun _ _ => rfl))))) qss_nil)
        (qss_cons (qs_if (qt_cmpR op_in_seq (qv 7) (qe_op op_cat (qv 4) (qe_call0 G_law_kept (hr.mono (by decide)) rfl T.d_law_kept.m T.d_law_kept.F.kp T.d_law_kept.b .nil pass0)) (by with_unfolding_all rfl))
        (qss_one (qs_set (i := 7) sc_law_names.nd rfl (Or.inl rfl) (qe_ix ix_list (qe_comp (⟨by rfl, by decide +kernel, by decide +kernel, by rfl, by decide +kernel, by decide +kernel, by rfl, by decide +kernel⟩ : CompSc (defScope s_law_names) _ ["deck", "letters", "base", "at", "names", "k", "place", "name"] "one" ["names"] [4]) (qi_list (qe_lst (qa_c qe_str (qa_c qe_str (qa_c qe_str (qa_c qe_str qa_nil)))))) (fun _ _ _ _ => (qf_one (qt_cmpR (show OpR _ (compareOp .NotIn) (rIn K true) from op_notIn_seq) (qv 0) (qv 1) (by with_unfolding_all rfl)))) (fun _ _ _ _ => (qv 0))) qe_int (fun _ _ => rfl)))) qss_nil)
        (qss_one (qs_expr (qe_bmF PySem.F.plainAttrs_list PySem.F.slot_list_append PySem.F.type_list_append mt_append (qv 4) (qa_c (qv 7) qa_nil))))))))))
        (qss_one (qs_ret (qv 4)))))))), ?_⟩
    clear hu hr
    refine ⟨rfl, _, rfl, d, c, 8, rfl, D, by decide, by decide, fun r H1 r0 r1 D1 o1 => ?_⟩
    refine ⟨_, _, rfl, rfl, _, rfl, ?_, ?_, comp_range (n := (1 + r).toNat) (fun i zs H2 => ∃ ys : List Str, zs = ys.map V.str ∧ ys.length = i ∧ (∀ y ∈ ys, ∃ c, y = ⟨#[c]⟩ ∧ Low c) ∧ DeckAt H2 d c ∧ Off d c H1 H2 ∧ i ≤ 8) ⟨[], rfl, rfl, (fun _ h => nomatch h), D1, Off.refl _ _ _, Nat.zero_le _⟩ ?_ ?_ ?_⟩
    · omega
    · omega
    · rintro i zs H2 hz_
      refine hideG fun Gz hGz => ?_
      obtain ⟨ys, rfl, hl, _, _, _, hi⟩ := hz_
      refine hGz ?_
      clear hGz Gz
      rw [List.length_map, hl]
      exact Nat.le_of_lt (small1000 (by omega))
    · rintro i zs H2 R hR hi hz_
      refine hideG fun Gz hGz => ?_
      obtain ⟨ys, rfl, hl, hy, D2, o2, _⟩ := hz_
      refine hGz ?_
      clear hGz Gz
      unfold tYes
      dsimp only
      rw [if_pos rfl]
      refine ⟨_, rfl, _, rfl, d, c, 26, rfl, D2, by decide, by decide, fun q H3 q0 q1 D3 o3 => ?_⟩
      obtain ⟨e, he, ee⟩ := low_at q0 q1
      refine ⟨lowS, _, e, rfl, rfl, low_size, ee, hR _ _ ⟨ys ++ [⟨#[e]⟩], by rw [List.map_append]; rfl, by rw [List.length_append, hl]; rfl, snoc_all hy ⟨e, rfl, he⟩, D3, o2.trans o3, by omega⟩⟩
    rintro zs H2 hz_ l hl2
    refine hideG fun Gz hGz => ?_
    obtain ⟨ys, rfl, hl, hy, D2, o2, _⟩ := hz_
    refine hGz ?_
    clear hGz Gz
    obtain ⟨f1, f2, f3⟩ := ones_flat hy
    refine ⟨_, l, ys, rfl, rfl, SqL.of upd_same, ?_, ?_⟩
    · rw [f3]
      show ys.length + ys.length * 0 ≤ _
      omega
    have js := join_signs ("" : Str) (by decide +kernel) ys
    rw [← js] at f1 f2
    generalize Txt.join ("" : Str) ys = B at *
    have hB : B.length = ys.length := by rw [len_signs]; exact f1
    have s3 := same_upd (o := .lst (ys.map V.str)) hl2
    refine ⟨_, rfl, _, rfl, B, rfl, Nat.le_of_lt (small1000 (by omega)), d, c, _, rfl, D2.same s3, by omega, by omega, fun a H4 a0 a1 D4 o4 => ?_⟩
    obtain ⟨j, rfl⟩ : ∃ j : Nat, a = (j : Int) := ⟨a.toNat, by omega⟩
    have hj : j < B.length := by omega
    have o14 : Off d c H H4 := ((o1.trans o2).trans (same_off d c s3)).trans o4
    refine ⟨by show 0 ≤ sizeLine; decide, fun p hp => ?_⟩
    have pn := deck_ne D4 hp
    have hp0 : H p = none := by
      cases e : H p with
      | none => rfl
      | some o => rw [o14 p o e pn.1 pn.2] at hp; cases hp
    refine ⟨_, rfl, d, c, 3, rfl, deck_put D4 pn, by decide, by decide, fun m H5 m0 m1 D5 o5 => ?_⟩
    have h5 := o5 p _ upd_same pn.1 pn.2
    have o15 : Off d c H H5 := (off_put o14 hp0).trans o5
    obtain ⟨e0, he0, ee0⟩ : ∃ e, e ∈ B.cps.toList ∧ atI B.cps.toList (j : Int) = some e := atI_str (z := B) (i := (j : Int)) B.length (len_signs B).symm (by omega) (by omega)
    obtain ⟨ix, rest, hix⟩ := low_index e0 (f2 e0 he0)
    refine ⟨_, _, rfl, rfl, _, rfl, ?_, ?_, for_rangeA (n := (1 + m).toNat) (fun i σ H6 => ∃ (ys : List Str) (u5 u6 u7 : Option V), σ = [some (.ref d), some (.str lowS), some (.str B), some (.int j), some (.ref p), u5, u6, u7] ∧ H6 p = some (.lst (ys.map V.str)) ∧ ys.length = i ∧ ys.Nodup ∧ (∀ y ∈ ys, NmS y) ∧ DeckAt H6 d c ∧ Off d c H H6 ∧ i ≤ 3) ⟨[], none, none, none, rfl, h5, rfl, List.nodup_nil, (fun _ h => nomatch h), D5, o15, Nat.zero_le _⟩ ?_ ?_⟩
    · omega
    · omega
    · rintro i σ H6 hi hz_ Nx bx rx hNx
      refine hideG fun Gz hGz => ?_
      obtain ⟨zs, u5, u6, u7, rfl, h6, hzl, hnd, hzs, D6, o6, _⟩ := hz_
      refine hGz ?_
      clear hGz Gz
      have BS : B.length ≤ sizeLine := Nat.le_of_lt (small1000 (by omega))
      refine ⟨_, rfl, rfl, _, rfl, _, rfl, B, _, e0, rfl, rfl, BS, ee0, lowS, _, ix, rest, rfl, rfl, hix, _, rfl, _, _, rfl, rfl, .inr (.inl ⟨by decide, by decide⟩), _, _, rfl, rfl, ?_⟩
      dsimp only
      obtain ⟨e1, he1, ee1⟩ := low_at (i := ((ix : Int) + 5 * (0 + (i : Int))) % 26) (Int.emod_nonneg _ (by decide)) (Int.emod_lt_of_pos _ (by decide))
      have l1 := Txt.slice_le B none (some (j : Int))
      have l2 := Txt.slice_le B (some ((j : Int) + 1)) none
      refine ⟨_, rfl, _, rfl, _, rfl, _, rfl, BS, _, rfl, _, rfl, _, _, rfl, rfl, (by show (0 : Int) < 26; decide), lowS, _, e1, rfl, rfl, low_size, ee1, _, _, rfl, rfl, ?_, ?_⟩
      · rw [one_len]
        exact Nat.le_of_lt (small1000 (by omega))
      refine ⟨_, rfl, _, rfl, _, _, rfl, rfl, _, rfl, _, rfl, BS, _, _, rfl, rfl, ?_, ?_⟩
      · rw [Str.length_append, one_len]
        exact Nat.le_of_lt (small1000 (by omega))
      have nl := len_slice1 (d := e1) hj
      have nL : NmL (Txt.slice B none (some (j : Int)) ++ ⟨#[e1]⟩ ++ Txt.slice B (some ((j : Int) + 1)) none) := by
        refine ⟨by omega, fun c hc => ?_⟩
        rcases mem_slice1 hj hc with z | z
        · exact f2 c z
        · rw [z]
          exact he1
      generalize Txt.slice B none (some (j : Int)) ++ ⟨#[e1]⟩ ++ Txt.slice B (some ((j : Int) + 1)) none = nm at *
      -- the three tests, each leaves a name
      refine gName_go ?_
      refine nx_join (fun σ H' => ∃ (nm : Str) (u6 : Option V), σ = [some (.ref d), some (.str lowS), some (.str B), some (.int j), some (.ref p), some (.int (0 + (i : Int))), u6, some (.str nm)] ∧ NmL nm ∧ DeckAt H' d c ∧ Off d c H6 H') (fun N hN => ?_) ?_
      · refine ⟨_, rfl, _, _, rfl, rfl, (by show (0 : Int) < 2; decide), rfl, _, rfl, ite2 (fun _ => ?_) (fun _ => ?_)⟩
        · refine ⟨_, rfl, _, rfl, _, rfl, d, c, 26, rfl, D6, by decide, by decide, fun q H7 q0 q1 D7 o7 => ?_⟩
          obtain ⟨e2, he2, ee2⟩ := low_at q0 q1
          have ns : nm.length ≤ sizeLine := Nat.le_of_lt (small1000 (by omega))
          have l3 := Txt.slice_le nm none (some (-1))
          refine ⟨lowS, _, e2, rfl, rfl, low_size, ee2, _, _, rfl, rfl, ?_, ?_⟩
          · rw [one_len]
            exact Nat.le_of_lt (small1000 (by omega))
          refine ⟨_, rfl, _, rfl, _, rfl, _, rfl, ns, by show 2 ≤ sizeLine; decide, fun l hl => ?_⟩
          refine ⟨_, rfl, nm, rfl, ns, rfl, .inr ⟨_, rfl, l, [.str (nm ++ ⟨#[e2]⟩), .str (Txt.slice nm none (some (-1)))], _, (if nm.length = 8 then V.str (Txt.slice nm none (some (-1))) else V.str (nm ++ ⟨#[e2]⟩)), rfl, rfl, SqL.of upd_same, ?_, ?_⟩⟩
          · by_cases h8 : nm.length = 8
            · rw [if_pos h8, h8]
              rfl
            · have e : decide (V.int (nm.length : Int) = V.int 8) = false := decide_eq_false fun z => h8 (by injection z with z; omega)
              rw [if_neg h8, e]
              rfl
          · have D8 := D7.same (same_upd (o := .lst [.str (nm ++ ⟨#[e2]⟩), .str (Txt.slice nm none (some (-1)))]) hl)
            have o8 := o7.trans (same_off d c (same_upd (o := .lst [.str (nm ++ ⟨#[e2]⟩), .str (Txt.slice nm none (some (-1)))]) hl))
            by_cases h8 : nm.length = 8
            · rw [if_pos h8]
              exact hN _ _ ⟨_, _, rfl, nL.cut h8, D8, o8⟩
            · rw [if_neg h8]
              exact hN _ _ ⟨_, _, rfl, nL.more (by have := nL.1; omega) he2, D8, o8⟩
        · exact hN _ _ ⟨nm, _, rfl, nL, D6, Off.refl _ _ _⟩
      clear nL nl
      rintro σ H7 hz_
      refine hideG fun Gz hGz => ?_
      obtain ⟨nm, v6, rfl, nL, D7, o7⟩ := hz_
      refine hGz ?_
      clear hGz Gz
      show tSeq (tIfS _ _ _) _ _ _ _
      refine seq_join (fun σ H' => ∃ (nm : Str) (u6 : Option V), σ = [some (.ref d), some (.str lowS), some (.str B), some (.int j), some (.ref p), some (.int (0 + (i : Int))), u6, some (.str nm)] ∧ NmL nm ∧ DeckAt H' d c ∧ Off d c H6 H') (fun N hN => ?_) ?_
      · refine ⟨_, rfl, d, c, 6, rfl, D7, by decide, by decide, fun q H8 q0 q1 D8 o8 => ⟨rfl, _, rfl, ite2 (fun _ => ?_) (fun _ => ?_)⟩⟩
        · refine ⟨rfl, fun kp H9 hkp h9 s9 => ?_⟩
          have kn := deck_ne D8 hkp
          refine ⟨_, rfl, d, c, 20, rfl, D8.same s9, by decide, by decide, fun q2 H10 q20 q21 D10 o10 => ?_⟩
          obtain ⟨ky, hky, eky⟩ := atI_strs (ys := keptS) (i := q2) q20 q21
          have hk10 := o10 _ _ h9 kn.1 kn.2
          obtain ⟨kl, kc⟩ := kept_low ky hky
          refine ⟨kp, _, _, _, rfl, rfl, SqL.of hk10, eky, _, rfl, _, rfl, d, c, 26, rfl, D10, by decide, by decide, fun q3 H11 q30 q31 D11 o11 => ?_⟩
          obtain ⟨e3, he3, ee3⟩ := low_at q30 q31
          refine ⟨lowS, _, e3, rfl, rfl, low_size, ee3, _, _, rfl, rfl, ?_, ?_⟩
          · rw [one_len]
            exact Nat.le_of_lt (small1000 (by omega))
          · exact hN _ _ ⟨_, _, rfl, NmL.more ⟨⟨kl.1, by omega⟩, kc⟩ kl.2 he3, D11, (((o7.trans o8).trans (same_off d c s9)).trans o10).trans o11⟩
        · exact hN _ _ ⟨nm, _, rfl, nL, D8, o7.trans o8⟩
      clear nL
      rintro σ H8 hz_
      refine hideG fun Gz hGz => ?_
      obtain ⟨nm, v6', rfl, nL, D8, o8⟩ := hz_
      refine hGz ?_
      clear hGz Gz
      have h8 := o8 _ _ h6 pn.1 pn.2
      show tSeq (tIfS _ _ _) _ _ _ _
      refine seq_join (fun σ H' => ∃ (nm : Str) (u6 : Option V), σ = [some (.ref d), some (.str lowS), some (.str B), some (.int j), some (.ref p), some (.int (0 + (i : Int))), u6, some (.str nm)] ∧ NmS nm ∧ nm ∉ zs ∧ DeckAt H' d c ∧ Off d c H6 H') (fun N hN => ?_) ?_
      · refine ⟨_, rfl, _, rfl, rfl, fun kp H9 hkp h9 s9 => ?_⟩
        refine ⟨p, kp, _, _, rfl, rfl, s9 _ _ h8, h9, ?_, fun l hl => ?_⟩
        · rw [List.length_map, List.length_map]
          exact Nat.le_of_lt (small1000 (show zs.length + 20 ≤ 1000 by omega))
        rw [← List.map_append]
        have s10 := s9.trans (same_upd (o := .lst ((zs ++ keptS).map V.str)) hl)
        refine ⟨l, _, rfl, .inl (SqL.of upd_same), rfl, all_flatS _, ?_⟩
        rw [inV_strs]
        refine ⟨_, rfl, ite2 (fun hin => ?_) (fun hin => ?_)⟩
        · refine ⟨by show 4 ≤ sizeLine; decide, fun g hg => ?_⟩
          have s11 := s10.trans (same_upd (o := .lst (spareS.map V.str)) hg)
          have h11 := s11 _ _ h8
          refine hideG fun Gz hGz => ?_
          obtain ⟨y, rr, ey, hy1, hy2⟩ := spare_left (ys := zs) (by omega)
          refine hGz ?_
          clear hGz Gz
          refine ⟨g, rfl, ⟨_, SqL.of upd_same⟩, comp_filter (xs := spareS.map V.str) (fun v => !inV v (zs.map V.str)) (fun v => v) (SqL.of upd_same) (by decide) (fun v hv R hR => ?_) (fun v hv _ R hR => ⟨_, rfl, hR⟩) (fun l2 hl2 => ?_)⟩
          · obtain ⟨z, _, rfl⟩ := List.mem_map.mp hv
            exact ⟨_, rfl, _, rfl, p, _, rfl, .inl (SqL.of h11), rfl, all_flatS _, _, rfl, hR⟩
          have ef : ((spareS.map V.str).filter (fun v => !inV v (zs.map V.str))).map (fun v => v) = (y :: rr).map V.str := by
            rw [← ey, List.map_id', List.filter_map]
            congr 1
            apply List.filter_congr
            intro z _
            show (!inV (.str z) (zs.map V.str)) = _
            rw [inV_strs]
          rw [ef]
          have s12 := s11.trans (same_upd (o := .lst ((y :: rr).map V.str)) hl2)
          exact ⟨l2, _, _, _, rfl, rfl, SqL.of upd_same, (atI_nat (j := 0) rfl : atI ((y :: rr).map V.str) ((0 : Nat) : Int) = some (V.str y)), hN _ _ ⟨y, _, rfl, ⟨(spare_ok y hy1).1, (spare_ok y hy1).2⟩, hy2, D8.same s12, o8.trans (same_off d c s12)⟩⟩
        · have hin' : nm ∉ zs ++ keptS := of_decide_eq_false (by simpa using hin)
          exact hN _ _ ⟨nm, _, rfl, ⟨nL, fun z => hin' (List.mem_append_right _ z)⟩, fun z => hin' (List.mem_append_left _ z), D8.same s10, o8.trans (same_off d c s10)⟩
      clear nL
      rintro σ H9 hz_
      refine hideG fun Gz hGz => ?_
      obtain ⟨nm, v6'', rfl, nS, nz, D9, o9⟩ := hz_
      refine hGz ?_
      clear hGz Gz
      have h9 := o9 _ _ h6 pn.1 pn.2
      refine ⟨_, rfl, .inl ⟨rfl, _, SqL.of h9⟩, _, rfl, p, _, _, rfl, rfl, h9, ?_, hNx _ _ ⟨zs ++ [nm], _, _, _, rfl, ?_, ?_, ?_, ?_, deck_put D9 pn, off_put (o6.trans o9) hp0, by omega⟩⟩
      · rw [List.length_map]
        exact small1000 (by omega)
      · rw [upd_same, List.map_append]
        rfl
      · rw [List.length_append, hzl]
        rfl
      · rw [List.nodup_append]
        exact ⟨hnd, List.nodup_cons.mpr ⟨List.not_mem_nil, List.nodup_nil⟩, fun a ha b hb => by
          rw [List.mem_singleton.mp hb]
          exact fun e => nz (by rw [← e]; exact ha)⟩
      · exact snoc_all hzs nS
    · rintro σ H6 hz_
      refine hideG fun Gz hGz => ?_
      obtain ⟨zs, u5, u6, u7, rfl, h6, hzl, hnd, hzs, D6, o6, hi3⟩ := hz_
      refine hGz ?_
      clear hGz Gz
      exact ⟨_, rfl, k p zs H6 hp0 h6 ⟨by omega, by omega, hnd, hzs⟩ D6 o6⟩
noncomputable def sp_law_leaf (K : PySem.W.Frag) : Sp := fun vs H Q _ => ∃ (d c p : Addr) (ys : List Str), vs = [.ref d, .ref p] ∧ DeckAt H d c ∧ H p = some (.lst (ys.map V.str)) ∧ Nms ys ∧ ∀ v H', LeafOk ys v → DeckAt H' d c → Off d c H H' → Q v H'
theorem ok_law_leaf (T : Txt K w mg t) (XB : Xcl K mg base t) : FnOk P w K mg base CX0 2 t.a_law_leaf t.f_law_leaf ["deck", "names"] (sp_law_leaf K) := by
  have G_law_take : FnOk P w K mg base CX0 1 t.a_law_take t.f_law_take ["deck", "many"] (sp_law_take K) := ok_law_take T XB
  refine T.d_law_leaf.F.ok sc_law_leaf (fun vs H Q E h => ?_) (fun cdv A outer s H vs Q E hr h => ?_)
  · obtain ⟨d, c, p, ys, rfl, D, hp, N, k⟩ := h
    rfl
  · obtain ⟨d, c, p, ys, rfl, D, hp, N, k⟩ := h
    have hu := hu_of hr
    refine ⟨_, @QSs.out _ _ _ (qss_cons (qs_set (i := 2) sc_law_leaf.nd rfl (Or.inl rfl) (qe_callF G_law_take (hr.mono (by decide)) rfl T.d_law_take.m T.d_law_take.F.kp T.d_law_take.b .nil pass0 (qa_c (qv 0) (qa_c qe_int qa_nil))))
        (qss_cons (qs_if (qt_cmpR op_lt (qv 2) qe_int (nomark _))
        (qss_one (qs_ret (qe_ix ix_list (qv 1) (qe_callF G_law_take (hr.mono (by decide)) rfl T.d_law_take.m T.d_law_take.F.kp T.d_law_take.b .nil pass0 (qa_c (qv 0) (qa_c (qe_callBF call_len_seq (by rfl) T.z_len bt_len (qa_c (qv 1) qa_nil)) qa_nil))) (fun _ _ => rfl)))) qss_nil)
        (qss_one (qs_ret (qe_ix ix_list (qe_lst (qa_c (qe_callF G_law_take (hr.mono (by decide)) rfl T.d_law_take.m T.d_law_take.F.kp T.d_law_take.b .nil pass0 (qa_c (qv 0) (qa_c qe_int qa_nil))) (qa_c (qe_ix ix_list (qe_lst (qa_c (qe_callF G_law_take (hr.mono (by decide)) rfl T.d_law_take.m T.d_law_take.F.kp T.d_law_take.b .nil pass0 (qa_c (qv 0) (qa_c qe_int qa_nil))) (qa_c qe_int (qa_c qe_int (qa_c qe_int (qa_c qe_int qa_nil)))))) (qe_callF G_law_take (hr.mono (by decide)) rfl T.d_law_take.m T.d_law_take.F.kp T.d_law_take.b .nil pass0 (qa_c (qv 0) (qa_c qe_int qa_nil))) (fun _ _ => rfl)) qa_nil))) (qe_op op_sub (qv 2) qe_int) (fun _ _ => rfl)))))), ?_⟩
    clear hu
    have pn := deck_strs D hp N.l1
    have n3 := N.l3
    have n1 := N.l1
    refine ⟨_, rfl, d, c, 5, rfl, D, by decide, by decide, fun r H1 r0 r1 D1 o1 => ?_⟩
    have hp1 := o1 _ _ hp pn.1 pn.2
    refine ⟨_, rfl, _, _, rfl, rfl, _, rfl, ite2 (fun h3 => ?_) (fun h3 => ?_)⟩
    · refine ⟨_, rfl, _, rfl, _, rfl, p, _, rfl, .inl (SqL.of hp1), d, c, _, rfl, D1, ?_, ?_, fun q H2 q0 q1 D2 o2 => ?_⟩
      · rw [List.length_map]
        omega
      · rw [List.length_map]
        omega
      rw [List.length_map] at q1
      obtain ⟨y, hy, ey⟩ := atI_strs (ys := ys) q0 q1
      exact ⟨p, _, _, _, rfl, rfl, SqL.of (o2 _ _ hp1 pn.1 pn.2), ey, k _ _ (.inl ⟨y, hy, rfl⟩) D2 (o1.trans o2)⟩
    have r3 : ¬ r < 3 := fun z => h3 (decide_eq_true z)
    refine ⟨_, rfl, d, c, 4, rfl, D1, by decide, by decide, fun a H2 a0 a1 D2 o2 => ⟨_, rfl, d, c, 1000, rfl, D2, by decide, by decide, fun b H3 b0 b1 D3 o3 => ⟨by show 5 ≤ sizeLine; decide, fun l hl => ?_⟩⟩⟩
    have ln := deck_ne D3 hl
    have s4 := same_upd (o := .lst [.int b, .int 999, .int 255, .int 256, .int 512]) hl
    refine ⟨_, rfl, d, c, 5, rfl, D3.same s4, by decide, by decide, fun q H4 q0 q1 D4 o4 => ?_⟩
    have h4 := o4 _ _ upd_same ln.1 ln.2
    have oo : Off d c H H4 := (((o1.trans o2).trans o3).trans (same_off d c s4)).trans o4
    obtain ⟨z, hz, ez⟩ : ∃ z : Int, (0 ≤ z ∧ z < 1000) ∧ atI [V.int b, .int 999, .int 255, .int 256, .int 512] q = some (.int z) := by
      have hq : q = 0 ∨ q = 1 ∨ q = 2 ∨ q = 3 ∨ q = 4 := by omega
      rcases hq with rfl | rfl | rfl | rfl | rfl
      · exact ⟨b, ⟨b0, b1⟩, rfl⟩
      · exact ⟨999, by omega, rfl⟩
      · exact ⟨255, by omega, rfl⟩
      · exact ⟨256, by omega, rfl⟩
      · exact ⟨512, by omega, rfl⟩
    refine ⟨l, _, q, _, rfl, rfl, SqL.of h4, ez, by show 2 ≤ sizeLine; decide, fun l2 hl2 => ?_⟩
    have s5 := same_upd (o := .lst [.int a, .int z]) hl2
    have hr : r = 3 ∨ r = 4 := by omega
    rcases hr with rfl | rfl
    · exact ⟨_, rfl, _, _, rfl, rfl, l2, _, _, _, rfl, rfl, SqL.of upd_same, rfl, k _ _ (.inr ⟨a, rfl, a0, by omega⟩) (D4.same s5) (oo.trans (same_off d c s5))⟩
    · exact ⟨_, rfl, _, _, rfl, rfl, l2, _, _, _, rfl, rfl, SqL.of upd_same, rfl, k _ _ (.inr ⟨z, rfl, hz.1, hz.2⟩) (D4.same s5) (oo.trans (same_off d c s5))⟩
noncomputable def sp_law_join (K : PySem.W.Frag) : Sp := fun vs H Q _ => ∃ (d c : Addr), vs = [.ref d] ∧ DeckAt H d c ∧ ∀ t y H', H' t = some (.tup [.str y]) → y ∈ joinW → DeckAt H' d c → Off d c H H' → Q (.ref t) H'
theorem ok_law_join (T : Txt K w mg t) (XB : Xcl K mg base t) : FnOk P w K mg base CX0 2 t.a_law_join t.f_law_join ["deck"] (sp_law_join K) := by
  have G_law_take : FnOk P w K mg base CX0 1 t.a_law_take t.f_law_take ["deck", "many"] (sp_law_take K) := ok_law_take T XB
  refine T.d_law_join.F.ok sc_law_join (fun vs H Q E h => ?_) (fun cdv A outer s H vs Q E hr h => ?_)
  · obtain ⟨d, c, rfl, D, k⟩ := h
    rfl
  · obtain ⟨d, c, rfl, D, k⟩ := h
    have hu := hu_of hr
    refine ⟨_, @QSs.out _ _ _ (qss_one (qs_ret (qe_tup (qa_c (qe_ix ix_list (qe_lst (qa_c qe_str (qa_c qe_str (qa_c qe_str qa_nil)))) (qe_callF G_law_take (hr.mono (by decide)) rfl T.d_law_take.m T.d_law_take.F.kp T.d_law_take.b .nil pass0 (qa_c (qv 0) (qa_c qe_int qa_nil))) (fun _ _ => rfl)) qa_nil)))), ?_⟩
    clear hu hr
    refine ⟨by show 3 ≤ sizeLine; decide, fun l hl => ⟨_, rfl, d, c, 3, rfl, D.same (same_upd hl), by decide, by decide, fun r H1 r0 r1 D1 o1 => ?_⟩⟩
    obtain ⟨y, hy, ey⟩ := atI_strs (ys := joinW) r0 r1
    have ln := deck_ne D hl
    refine ⟨l, joinW.map V.str, r, .str y, rfl, rfl, SqL.of (o1 _ _ upd_same ln.1 ln.2), ey, by show 1 ≤ sizeLine; decide, fun tp htp => ?_⟩
    exact k tp y _ upd_same hy (D1.same (same_upd htp)) (((same_off d c (same_upd hl)).trans o1).trans (same_off d c (same_upd htp)))
noncomputable def sp_law_sort (K : PySem.W.Frag) : Sp := fun vs H Q _ => ∃ (y : Str), vs = [.str y] ∧ y.length ≤ 600 ∧ ∀ H', Same H H' → Q (.str (sortS y)) H'
theorem ok_law_sort (T : Txt K w mg t) (XB : Xcl K mg base t) : FnOk P w K mg base CX0 2 t.a_law_sort t.f_law_sort ["word"] (sp_law_sort K) := by
  have G_law_kept : FnOk P w K mg base CX0 1 t.a_law_kept t.f_law_kept [] (sp_law_kept K) := ok_law_kept T XB
  refine T.d_law_sort.F.ok sc_law_sort (fun vs H Q E h => ?_) (fun cdv A outer s H vs Q E hr h => ?_)
  · obtain ⟨y, rfl, hl, k⟩ := h
    rfl
  · obtain ⟨y, rfl, hl, k⟩ := h
    have hu := hu_of hr
    refine ⟨_, @QSs.out _ _ _ (qss_cons (qs_if (qt_cmpR op_in_seq (qv 0) (qe_call0 G_law_kept (hr.mono (by decide)) rfl T.d_law_kept.m T.d_law_kept.F.kp T.d_law_kept.b .nil pass0) (by with_unfolding_all rfl))
        (qss_one (qs_ret (qe_ix ix_str qe_str (qe_callTF call_int1 (by rfl) T.z_int bt_int (qa_c (qe_cmpR op_in_seq (qv 0) (qe_slice sl_list (qe_call0 G_law_kept (hr.mono (by decide)) rfl T.d_law_kept.m T.d_law_kept.F.kp T.d_law_kept.b .nil pass0) (qo_some qe_int) qo_none) (by with_unfolding_all rfl)) qa_nil)) (fun _ _ => rfl)))) qss_nil)
        (qss_cons (qs_if (qw_pt (qw_and (qt_cmpR op_ne (qv 0) qe_str (nomark _)) (qw_and1 (qt_cmpR (op_eqLL (units_of hr)) (qe_comp (⟨by rfl, by decide +kernel, by decide +kernel, by rfl, by decide +kernel, by decide +kernel, by rfl, by decide +kernel⟩ : CompSc (defScope s_law_sort) _ ["word", "letters"] "sign" [] []) (qi_str (qv 0)) (fun _ _ _ _ => (qf_one (qt_cmpR op_notIn_str (qv 0) qe_str (by with_unfolding_all rfl)))) (fun _ _ _ _ => (qv 0))) (qe_lst qa_nil) (nomark _)))))
        (qss_one (qs_ret (qe_ix ix_str qe_str (qe_callTF call_int1 (by rfl) T.z_int bt_int (qa_c (qe_or (qe_cmpR op_eq (qv 0) qe_str (nomark _)) (qe_one (qe_cmpR op_ne (qe_ix ix_str (qv 0) qe_int (fun _ _ => rfl)) qe_str (nomark _)))) qa_nil)) (fun _ _ => rfl)))) qss_nil)
        (qss_cons (qs_setC (i := 1) sc_law_sort.nd rfl rfl (⟨by rfl, by decide +kernel, by decide +kernel, by rfl, by decide +kernel, by decide +kernel, by rfl, by decide +kernel⟩ : CompSc (defScope s_law_sort) _ ["word", "letters"] "sign" [] []) (qi_str (qv 0)) (fun _ _ _ _ => (qf_one (qt_cmpR op_in_str (qv 0) qe_str (by with_unfolding_all rfl)))) (fun _ _ _ _ => (qv 0)))
        (qss_one (qs_ret (qe_ix ix_str qe_str (qe_callTF call_int1 (by rfl) T.z_int bt_int (qa_c (qe_and (qe_chain op_lt op_lt qe_int (qe_callBF call_len_str (by rfl) T.z_len bt_len (qa_c (qv 0) qa_nil)) qe_int) (qe_one (qe_cmpR op_eq (qe_callBF call_len_seq (by rfl) T.z_len bt_len (qa_c (qv 1) qa_nil)) (qe_callBF call_len_str (by rfl) T.z_len bt_len (qa_c (qv 0) qa_nil)) (nomark _)))) qa_nil)) (fun _ _ => rfl))))))), ?_⟩
    clear hu hr
    have big2 : ("sc" : Str).length ≤ sizeLine := by decide +kernel
    have big3 : ("ns" : Str).length ≤ sizeLine := by decide +kernel
    refine ⟨_, rfl, rfl, fun p H1 hp0 hp s1 => ⟨p, _, rfl, .inl (SqL.of hp), rfl, all_flatS _, _, rfl, ?_⟩⟩
    show if (inV (.str y) (keptS.map V.str)) = true then _ else _
    rw [inV_strs]
    by_cases h1 : y ∈ keptS
    · rw [decide_eq_true h1]
      refine iteT ⟨_, rfl, rfl, fun q H2 hq0 hq s2 => ⟨10, rfl, q, _, rfl, SqL.of hq, fun q2 hq2 => ?_⟩⟩
      rw [kept_back]
      refine ⟨q2, _, rfl, .inl (SqL.of upd_same), rfl, all_flatS _, .inr ⟨_, rfl, _, _, _, rfl, rfl, big2, at_sc _, ?_⟩⟩
      show Q (.str ⟨#[if (inV (.str y) (claimW.map V.str)) = true then 99 else 115]⟩) _
      rw [inV_strs]
      have s3 := s1.trans (s2.trans (same_upd (o := .lst (claimW.map V.str)) hq2))
      by_cases hc : y ∈ claimW
      · rw [decide_eq_true hc]
        have := k _ s3
        rw [sort_claim hc] at this
        exact this
      · rw [decide_eq_false hc]
        have hs : y ∈ sumW := ((kept_of y).mp h1).resolve_right hc
        have := k _ s3
        rw [sort_some hc (by rw [rdW_sum (fig_sum' y hs) hs]; rfl)] at this
        exact this
    rw [decide_eq_false h1]
    have hc : y ∉ claimW := fun z => h1 ((kept_of y).mpr (.inr z))
    have hs : y ∉ sumW := fun z => h1 ((kept_of y).mpr (.inl z))
    refine iteF ⟨_, rfl, rfl, _, rfl, ?_⟩
    by_cases hn : y.cps.toList = []
    · have e := nil_signs.mp hn
      subst e
      rw [decide_eq_true (rfl : V.str ("" : Str) = V.str ("" : Str))]
      refine iteF (iteF ⟨_, rfl, _, rfl, comp_strF (fun c => decide (c ∈ lowS.cps.toList)) (by decide) (fun c _ R hR => ?_) (fun c _ R hR => ⟨_, rfl, hR⟩) (fun l1 hl1 => ?_)⟩)
      · refine ⟨_, rfl, _, _, rfl, rfl, _, rfl, ?_⟩
        rw [occ_mem]
        exact hR
      refine ⟨_, rfl, _, rfl, by decide, _, _, rfl, rfl, _, rfl, ?_⟩
      rw [decide_eq_false (by decide +kernel : ¬ (0 : Int) < ((("" : Str).length : Nat) : Int))]
      refine iteF ⟨_, rfl, iteF (.inr ⟨_, rfl, _, _, _, rfl, rfl, big3, at_ns false, ?_⟩)⟩
      rw [sort_none hc (rdW_no (by rw [fig_nil]; decide) hs fun z => (nml_made.mp z.2).2.1 (nil_signs.mpr rfl))] at k
      exact k _ (s1.trans (same_upd hl1))
    have hne : ¬ V.str y = V.str ("" : Str) := fun z => hn (nil_signs.mpr (by injection z))
    have lpos : 0 < y.length := by
      rw [len_signs]
      cases e : y.cps.toList with
      | nil => exact absurd e hn
      | cons c r => exact Nat.succ_pos _
    rw [decide_eq_false hne]
    refine iteT ⟨_, rfl, y, rfl, comp_strF (fun c => !decide (c ∈ figS.cps.toList)) (Nat.le_trans (show y.length ≤ 600 from hl) (by decide)) (fun c _ R hR => ?_) (fun c _ R hR => ⟨_, rfl, hR⟩) (fun l1 hl1 => ?_)⟩
    · refine ⟨_, rfl, _, _, rfl, rfl, _, rfl, ?_⟩
      rw [occ_mem]
      exact hR
    refine ⟨by show 0 ≤ sizeLine; decide, fun b hb => ⟨l1, b, _, [], rfl, rfl, SqL.of (same_upd hb _ _ upd_same), SqL.of upd_same, flat_ones _, rfl, _, rfl, ?_⟩⟩
    show if (eqvs _ []) = true then _ else _
    rw [eqvs_nil, none_left y figS hn]
    have s5 : Same H _ := s1.trans ((same_upd hl1).trans (same_upd (o := .lst []) hb))
    generalize upd (upd H1 l1 _) b (.lst []) = H5 at *
    obtain ⟨c, r, ec⟩ : ∃ c r, y.cps.toList = c :: r := by
      cases e : y.cps.toList with
      | nil => exact absurd e hn
      | cons c r => exact ⟨c, r, rfl⟩
    have fe := fig_eq ec
    cases hm : decide (MadeOf y figS) with
    | true =>
      rw [hm, Bool.true_and] at fe
      have hmade := of_decide_eq_true hm
      refine iteT ⟨_, rfl, rfl, _, rfl, ?_⟩
      cases h0 : decide (V.str y = V.str ("0" : Str)) with
      | true =>
        rw [h0, Bool.true_or] at fe
        refine iteT (.inr ⟨_, rfl, _, _, _, rfl, rfl, big3, at_ns true, ?_⟩)
        have := k _ s5
        rw [sort_some hc (by rw [rdW_fig fe]; rfl)] at this
        exact this
      | false =>
        rw [h0, Bool.false_or] at fe
        refine iteF ⟨_, rfl, y, 0, c, rfl, rfl, Nat.le_trans hl (by decide), by rw [ec]; exact atI_nat (j := 0) rfl, rfl, .inr ⟨_, rfl, _, _, _, rfl, rfl, big3, at_ns _, ?_⟩⟩
        rw [← fe]
        have := k _ s5
        by_cases hf : figB y = true
        · rw [sort_some hc (by rw [rdW_fig hf]; rfl)] at this
          rw [hf]
          exact this
        · rw [sort_none hc (dig_no hmade hf h1)] at this
          rw [Bool.eq_false_iff.mpr hf]
          exact this
    | false =>
      have hmade := of_decide_eq_false hm
      rw [hm, Bool.false_and] at fe
      have hf : ¬ figB y = true := by rw [fe]; decide
      refine iteF ⟨_, rfl, _, rfl, comp_strF (fun c => decide (c ∈ lowS.cps.toList)) (Nat.le_trans (show y.length ≤ 600 from hl) (by decide)) (fun c _ R hR => ?_) (fun c _ R hR => ⟨_, rfl, hR⟩) (fun l2 hl2 => ?_)⟩
      · refine ⟨_, rfl, _, _, rfl, rfl, _, rfl, ?_⟩
        rw [occ_mem]
        exact hR
      have s6 := s5.trans (same_upd (o := .lst ((y.cps.toList.filter fun c => decide (c ∈ lowS.cps.toList)).map fun c => V.str ⟨#[c]⟩)) hl2)
      refine ⟨_, rfl, y, rfl, Nat.le_trans hl (by decide), _, _, rfl, rfl, _, rfl, ?_⟩
      rw [decide_eq_true (show (0 : Int) < ((y.length : Nat) : Int) by omega)]
      refine iteT ⟨_, _, rfl, rfl, _, rfl, ?_⟩
      by_cases h8 : y.length ≤ 8
      · rw [decide_eq_true (show ((y.length : Nat) : Int) < 9 by omega)]
        refine iteT ⟨_, rfl, l2, _, rfl, .inl (SqL.of upd_same), _, rfl, y, rfl, Nat.le_trans hl (by decide), rfl, .inr ⟨_, rfl, _, _, _, rfl, rfl, big3, at_ns _, ?_⟩⟩
        have := k _ s6
        rw [List.length_map]
        by_cases hlow : ∀ c ∈ y.cps.toList, c ∈ lowS.cps.toList
        · have nm : NmL y := ⟨⟨lpos, h8⟩, hlow⟩
          rw [sort_some hc (by rw [rdW_nam hf ⟨h1, nm⟩]; rfl)] at this
          rw [decide_eq_true (by rw [(all_in _ _).mpr hlow, ← len_signs])]
          exact this
        · rw [sort_none hc (rdW_no hf hs fun z => hlow z.2.2)] at this
          rw [decide_eq_false (fun z => hlow ((all_in _ _).mp (by injection z with z; have := Int.ofNat.inj z; rw [this, len_signs])))]
          exact this
      · rw [decide_eq_false (show ¬ ((y.length : Nat) : Int) < 9 by omega)]
        refine iteF (.inr ⟨_, rfl, _, _, _, rfl, rfl, big3, at_ns false, ?_⟩)
        have := k _ s6
        rw [sort_none hc (rdW_no hf hs fun z => h8 z.2.1.2)] at this
        exact this
noncomputable def sp_law_spoilt (K : PySem.W.Frag) : Sp := fun vs H Q _ => ∃ (d c p : Addr) (ys : List Str), vs = [.ref d, .ref p] ∧ DeckAt H d c ∧ H p = some (.lst (ys.map V.str)) ∧ WsOk ys ∧ 1 ≤ ys.length ∧ ys.length ≤ 100 ∧ ∀ q (zs : List Str) H', H q = none → H' q = some (.lst (zs.map V.str)) → WsOk zs → 1 ≤ zs.length → zs.length ≤ ys.length + 1 → DeckAt H' d c → Off d c H H' → Q (.ref q) H'
theorem ok_law_spoilt (T : Txt K w mg t) (XB : Xcl K mg base t) : FnOk P w K mg base CX0 2 t.a_law_spoilt t.f_law_spoilt ["deck", "words"] (sp_law_spoilt K) := by
  have G_law_take : FnOk P w K mg base CX0 1 t.a_law_take t.f_law_take ["deck", "many"] (sp_law_take K) := ok_law_take T XB
  have G_law_kept : FnOk P w K mg base CX0 1 t.a_law_kept t.f_law_kept [] (sp_law_kept K) := ok_law_kept T XB
  refine T.d_law_spoilt.F.ok sc_law_spoilt (fun vs H Q E h => ?_) (fun cdv A outer s H vs Q E hr h => ?_)
  · obtain ⟨d, c, p, ys, rfl, D, hp, ok, l1, l2, k⟩ := h
    rfl
  · obtain ⟨d, c, p, ys, rfl, D, hp, ok, l1, l2, k⟩ := h
    have hu := hu_of hr
    refine ⟨_, @QSs.out _ _ _ (qss_cons (qs_set (i := 1) sc_law_spoilt.nd rfl (Or.inl rfl) (qe_callTF call_list_of (by rfl) T.z_list bt_list (qa_c (qv 1) qa_nil)))
        (qss_cons (qs_set (i := 2) sc_law_spoilt.nd rfl (Or.inl rfl) (qe_callF G_law_take (hr.mono (by decide)) rfl T.d_law_take.m T.d_law_take.F.kp T.d_law_take.b .nil pass0 (qa_c (qv 0) (qa_c (qe_callBF call_len_seq (by rfl) T.z_len bt_len (qa_c (qv 1) qa_nil)) qa_nil))))
        (qss_cons (qs_set (i := 3) sc_law_spoilt.nd rfl (Or.inl rfl) (qe_callF G_law_take (hr.mono (by decide)) rfl T.d_law_take.m T.d_law_take.F.kp T.d_law_take.b .nil pass0 (qa_c (qv 0) (qa_c qe_int qa_nil))))
        (qss_cons (qs_set (i := 4) sc_law_spoilt.nd rfl (Or.inl rfl) (qe_op op_cat (qe_call0 G_law_kept (hr.mono (by decide)) rfl T.d_law_kept.m T.d_law_kept.F.kp T.d_law_kept.b .nil pass0) (qe_lst (qa_c qe_str (qa_c qe_str (qa_c qe_str (qa_c qe_str (qa_c qe_str (qa_c qe_str (qa_c qe_str (qa_c qe_str (qa_c qe_str (qa_c qe_str (qa_c qe_str (qa_c qe_str (qa_c qe_str qa_nil))))))))))))))))
        (qss_cons (qs_set (i := 4) sc_law_spoilt.nd rfl (Or.inl rfl) (qe_op op_cat (qv 4) (qe_lst (qa_c qe_str (qa_c qe_str (qa_c qe_str (qa_c qe_str (qa_c qe_str (qa_c qe_str (qa_c qe_str qa_nil))))))))))
        (qss_cons (qs_set (i := 5) sc_law_spoilt.nd rfl (Or.inl rfl) (qe_ix ix_list (qv 4) (qe_callF G_law_take (hr.mono (by decide)) rfl T.d_law_take.m T.d_law_take.F.kp T.d_law_take.b .nil pass0 (qa_c (qv 0) (qa_c (qe_callBF call_len_seq (by rfl) T.z_len bt_len (qa_c (qv 4) qa_nil)) qa_nil))) (fun _ _ => rfl)))
        (qss_cons (qs_if (qw_pt (qw_and (qt_cmpR op_eq (qv 3) qe_int (nomark _)) (qw_and1 (qt_cmpR op_gt (qe_callBF call_len_seq (by rfl) T.z_len bt_len (qa_c (qv 1) qa_nil)) qe_int (nomark _)))))
        (qss_one (qs_expr (qe_bmF PySem.F.plainAttrs_list PySem.F.slot_list_pop PySem.F.type_list_pop mt_popAt (qv 1) (qa_c (qv 2) qa_nil)))) (qss_one (qs_if (qt_cmpR op_eq (qv 3) qe_int (nomark _))
        (qss_one (qs_expr (qe_bmF PySem.F.plainAttrs_list PySem.F.slot_list_insert PySem.F.type_list_insert mt_insert (qv 1) (qa_c (qv 2) (qa_c (qe_ix ix_list (qv 1) (qv 2) (fun _ _ => rfl)) qa_nil))))) (qss_one (qs_if (qt_cmpR op_eq (qv 3) qe_int (nomark _))
        (qss_cons (qs_set (i := 6) sc_law_spoilt.nd rfl (Or.inl rfl) (qe_callF G_law_take (hr.mono (by decide)) rfl T.d_law_take.m T.d_law_take.F.kp T.d_law_take.b .nil pass0 (qa_c (qv 0) (qa_c (qe_callBF call_len_seq (by rfl) T.z_len bt_len (qa_c (qv 1) qa_nil)) qa_nil))))
        (qss_one (qs_asg (qe_tup (qa_c (qe_ix ix_list (qv 1) (qv 6) (fun _ _ => rfl)) (qa_c (qe_ix ix_list (qv 1) (qv 2) (fun _ _ => rfl)) qa_nil))) (qg_pairS rfl (qg_sub (qv 1) (qv 2) set_list) (qg_sub (qv 1) (qv 6) set_list))))) (qss_one (qs_if (qw_pt (qw_and (qt_cmpR op_eq (qv 3) qe_int (nomark _)) (qw_and1 (qt_cmpR op_gt (qv 2) qe_int (nomark _)))))
        (qss_one (qs_set (i := 1) sc_law_spoilt.nd rfl (Or.inl rfl) (qe_slice sl_list (qv 1) qo_none (qo_some (qv 2))))) (qss_one (qs_asg (qv 5) (qg_sub (qv 1) (qv 2) set_list))))))))))
        (qss_one (qs_ret (qv 1)))))))))), ?_⟩
    clear hu hr
    refine ⟨_, rfl, p, _, rfl, .inl (SqL.of hp), fun q hq => ?_⟩
    have qn := deck_ne D hq
    have D1 := D.same (same_upd (o := .lst (ys.map V.str)) hq)
    refine ⟨_, rfl, _, rfl, q, _, rfl, .inl (SqL.of upd_same), d, c, _, rfl, D1, by rw [List.length_map]; omega, by rw [List.length_map]; omega, fun at_ H2 a0 a1 D2 o2 => ?_⟩
    rw [List.length_map] at a1
    obtain ⟨j, rfl⟩ : ∃ j : Nat, at_ = (j : Int) := ⟨at_.toNat, by omega⟩
    have hj : j < ys.length := by omega
    have hq2 := o2 _ _ upd_same qn.1 qn.2
    refine ⟨_, rfl, d, c, 6, rfl, D2, by decide, by decide, fun way H3 w0 w1 D3 o3 => ?_⟩
    have hq3 := o3 _ _ hq2 qn.1 qn.2
    refine ⟨rfl, fun k1 H4 hk0 hk s4 => ⟨by show 13 ≤ sizeLine; decide, fun m1 hm1 => ?_⟩⟩
    have s5 := same_upd (o := .lst (oddAc.map V.str)) hm1
    refine ⟨k1, m1, keptS.map V.str, oddAc.map V.str, rfl, rfl, s5 _ _ hk, upd_same, by show 33 ≤ sizeLine; decide, fun r1 hr1 => ?_⟩
    have s6 := same_upd (o := .lst (keptS.map V.str ++ oddAc.map V.str)) hr1
    refine ⟨_, rfl, by show 7 ≤ sizeLine; decide, fun m2 hm2 => ?_⟩
    have s7 := same_upd (o := .lst (oddBc.map V.str)) hm2
    refine ⟨r1, m2, keptS.map V.str ++ oddAc.map V.str, oddBc.map V.str, rfl, rfl, s7 _ _ upd_same, upd_same, by show 40 ≤ sizeLine; decide, fun r2 hr2 => ?_⟩
    rw [oddc_map]
    have s8 := same_upd (o := .lst (oddSc.map V.str)) hr2
    have s38 := s4.trans (s5.trans (s6.trans (s7.trans s8)))
    have D8 := D3.same s38
    have hq8 := s38 _ _ hq3
    have rn := deck_ne (D3.same (s4.trans (s5.trans (s6.trans s7)))) hr2
    have el : (oddSc.map V.str).length = 40 := by decide +kernel
    refine ⟨_, rfl, _, rfl, _, rfl, r2, _, rfl, .inl (SqL.of upd_same), d, c, _, rfl, D8, by rw [el]; decide, by rw [el]; decide, fun i H9 i0 i1 D9 o9 => ?_⟩
    rw [el] at i1
    obtain ⟨i', rfl⟩ : ∃ i' : Nat, i = (i' : Int) := ⟨i.toNat, by omega⟩
    obtain ⟨th, hth, eth⟩ := at_strs (ys := oddSc) (j := i') (by rw [List.length_map] at el; omega)
    have tok : th.length ≤ 9 ∧ Asc th := oddc_ok th hth
    have hq9 := o9 _ _ hq8 qn.1 qn.2
    refine ⟨r2, _, _, _, rfl, rfl, SqL.of (o9 _ _ upd_same rn.1 rn.2), atI_nat eth, ?_⟩
    have o19 : Off d c H H9 := (same_off d c (same_upd hq)).trans (o2.trans (o3.trans ((same_off d c s38).trans o9)))
    refine ⟨_, rfl, rfl, _, rfl, ?_⟩
    by_cases w_0 : way = 0
    · rw [decide_eq_true (show V.int way = V.int 0 by rw [w_0])]
      refine iteT ⟨_, rfl, q, _, rfl, .inl (SqL.of hq9), _, _, rfl, rfl, _, rfl, ?_⟩
      rw [List.length_map]
      by_cases h1 : 1 < ys.length
      · rw [decide_eq_true (show (1 : Int) < (ys.length : Int) by omega)]
        obtain ⟨y, hy, ey⟩ := at_strs hj
        refine iteT ⟨_, rfl, .inl ⟨rfl, _, SqL.of hq9⟩, _, rfl, q, _, _, j, _, rfl, rfl, hq9, by omega, by omega, (ixN_seq (ixN_at (by rw [List.length_map]; exact hj))).1, ey, _, rfl, ?_⟩
        have hle := List.length_eraseIdx_of_lt hj
        exact k q (ys.eraseIdx j) _ hq (by rw [upd_same, cut_strs]) (ws_cut ok j) (by omega) (by omega) (deck_put D9 qn) (off_put o19 hq)
      · rw [decide_eq_false (show ¬ (1 : Int) < (ys.length : Int) by omega)]
        have wne : ∀ n : Int, n ≠ 0 → ¬ V.int way = V.int n := fun n hn z => hn (by injection z with z; omega)
        refine iteF ⟨_, rfl, rfl, _, rfl, ?_⟩
        rw [decide_eq_false (wne 1 (by decide))]
        refine iteF ⟨_, rfl, rfl, _, rfl, ?_⟩
        rw [decide_eq_false (wne 2 (by decide))]
        refine iteF ⟨_, rfl, rfl, _, rfl, ?_⟩
        rw [decide_eq_false (wne 3 (by decide))]
        refine iteF (iteF ?_)
        refine ⟨_, rfl, _, rfl, _, rfl, q, _, _, j, rfl, rfl, hq9, ixN_at (by rw [List.length_map]; exact hj), _, rfl, ?_⟩
        exact k q (ys.set j th) _ hq (by rw [upd_same, List.map_set]) (ws_set ok tok j) (by rw [List.length_set]; exact l1) (by rw [List.length_set]; omega) (deck_put D9 qn) (off_put o19 hq)
    rw [decide_eq_false (show ¬ V.int way = V.int 0 from fun z => w_0 (by injection z))]
    refine iteF (iteF ?_)
    refine ⟨_, rfl, rfl, _, rfl, ?_⟩
    by_cases w_1 : way = 1
    · rw [decide_eq_true (show V.int way = V.int 1 by rw [w_1])]
      obtain ⟨y, hy, ey⟩ := at_strs hj
      have pu := ws_put ok (ok y hy) j
      refine iteT ⟨_, rfl, .inl ⟨rfl, _, SqL.of hq9⟩, _, rfl, _, rfl, _, rfl, q, _, _, _, rfl, rfl, SqL.of hq9, atI_nat ey, q, _, _, _, rfl, rfl, hq9, by omega, by omega, by rw [List.length_map]; omega, _, rfl, ?_⟩
      exact k q _ _ hq (by rw [upd_same]; exact congrArg (fun z => some (HO.lst z)) (put_strs ys y j)) pu.1 pu.2.1 pu.2.2 (deck_put D9 qn) (off_put o19 hq)
    rw [decide_eq_false (show ¬ V.int way = V.int 1 from fun z => w_1 (by injection z))]
    refine iteF ⟨_, rfl, rfl, _, rfl, ?_⟩
    by_cases w_2 : way = 2
    · rw [decide_eq_true (show V.int way = V.int 2 by rw [w_2])]
      refine iteT ⟨_, rfl, _, rfl, q, _, rfl, .inl (SqL.of hq9), d, c, _, rfl, D9, by rw [List.length_map]; omega, by rw [List.length_map]; omega, fun u H10 u0 u1 D10 o10 => ?_⟩
      rw [List.length_map] at u1
      obtain ⟨m, rfl⟩ : ∃ m : Nat, u = (m : Int) := ⟨u.toNat, by omega⟩
      have hm : m < ys.length := by omega
      have hq10 := o10 _ _ hq9 qn.1 qn.2
      obtain ⟨y1, hy1, ey1⟩ := at_strs hm
      obtain ⟨y2, hy2, ey2⟩ := at_strs hj
      refine ⟨_, rfl, _, rfl, q, _, _, _, rfl, rfl, SqL.of hq10, atI_nat ey1, _, rfl, _, rfl, q, _, _, _, rfl, rfl, SqL.of hq10, atI_nat ey2, by show 2 ≤ sizeLine; decide, fun tt htt => ?_⟩
      have st := same_upd (o := .tup [.str y1, .str y2]) htt
      refine ⟨tt, _, rfl, SqT.of upd_same, rfl, _, _, rfl, _, rfl, _, rfl, q, _, _, j, rfl, rfl, st _ _ hq10, ixN_at (by rw [List.length_map]; exact hj), _, _, rfl, _, rfl, _, rfl, q, _, _, m, rfl, rfl, upd_same, ixN_at (by rw [List.length_set, List.length_map]; exact hm), rfl, _, rfl, ?_⟩
      have D11 := D10.same st
      exact k q ((ys.set j y1).set m y2) _ hq (by rw [upd_same, List.map_set, List.map_set]) (ws_set (ws_set ok (ok y1 hy1) j) (ok y2 hy2) m) (by rw [List.length_set, List.length_set]; exact l1) (by rw [List.length_set, List.length_set]; omega) (deck_put (deck_put D11 qn) qn) (off_put (off_put ((o19.trans o10).trans (same_off d c st)) hq) hq)
    rw [decide_eq_false (show ¬ V.int way = V.int 2 from fun z => w_2 (by injection z))]
    refine iteF ⟨_, rfl, rfl, _, rfl, ?_⟩
    by_cases w_3 : way = 3
    · rw [decide_eq_true (show V.int way = V.int 3 by rw [w_3])]
      refine iteT ⟨_, rfl, _, _, rfl, rfl, _, rfl, ?_⟩
      by_cases j0 : j = 0
      · rw [decide_eq_false (show ¬ (0 : Int) < (j : Int) by omega)]
        refine iteF ?_
        refine ⟨_, rfl, _, rfl, _, rfl, q, _, _, j, rfl, rfl, hq9, ixN_at (by rw [List.length_map]; exact hj), _, rfl, ?_⟩
        exact k q (ys.set j th) _ hq (by rw [upd_same, List.map_set]) (ws_set ok tok j) (by rw [List.length_set]; exact l1) (by rw [List.length_set]; omega) (deck_put D9 qn) (off_put o19 hq)
      · rw [decide_eq_true (show (0 : Int) < (j : Int) by omega)]
        refine iteT ⟨_, rfl, _, rfl, _, rfl, q, _, rfl, SqL.of hq9, fun q' hq' => ?_⟩
        rw [front_strs ys (by omega)]
        have sq := same_upd (o := .lst ((ys.take j).map V.str)) hq'
        exact ⟨_, rfl, k q' (ys.take j) _ (off_free o19 D9 hq') upd_same (fun z hz => ok z (List.mem_of_mem_take hz)) (by rw [List.length_take]; omega) (by rw [List.length_take]; omega) (D9.same sq) (o19.trans (same_off d c sq))⟩
    rw [decide_eq_false (show ¬ V.int way = V.int 3 from fun z => w_3 (by injection z))]
    refine iteF (iteF ?_)
    refine ⟨_, rfl, _, rfl, _, rfl, q, _, _, j, rfl, rfl, hq9, ixN_at (by rw [List.length_map]; exact hj), _, rfl, ?_⟩
    exact k q (ys.set j th) _ hq (by rw [upd_same, List.map_set]) (ws_set ok tok j) (by rw [List.length_set]; exact l1) (by rw [List.length_set]; omega) (deck_put D9 qn) (off_put o19 hq)
noncomputable def sp_law_many_names (K : PySem.W.Frag) : Sp := fun vs H Q _ => ∃ (p : Addr) (ws : List V), vs = [.ref p] ∧ H p = some (.tup ws) ∧ (∀ w ∈ ws, (∃ y, w = .str y) ∨ ∃ z, w = .int z) ∧ ws.length ≤ 700 ∧ ∀ b H', Same H H' → Q (.bl b) H'
theorem ok_law_many_names (T : Txt K w mg t) (XB : Xcl K mg base t) : FnOk P w K mg base CX0 2 t.a_law_many_names t.f_law_many_names ["words"] (sp_law_many_names K) := by
  have G_law_kept : FnOk P w K mg base CX0 1 t.a_law_kept t.f_law_kept [] (sp_law_kept K) := ok_law_kept T XB
  refine T.d_law_many_names.F.ok sc_law_many_names (fun vs H Q E h => ?_) (fun cdv A outer s H vs Q E hr h => ?_)
  · obtain ⟨p, ws, rfl, hp, hw, hl, k⟩ := h
    rfl
  · obtain ⟨p, ws, rfl, hp, hw, hl, k⟩ := h
    have hu := hu_of hr
    refine ⟨_, @QSs.out _ _ _ (qss_cons (qs_setC (i := 1) sc_law_many_names.nd rfl rfl (⟨by rfl, by decide +kernel, by decide +kernel, by rfl, by decide +kernel, by decide +kernel, by rfl, by decide +kernel⟩ : CompSc (defScope s_law_many_names) _ ["words", "some"] "word" [] []) (qi_tup (qv 0)) (fun _ _ _ _ => (qf_one (qw_pt (qw_and (qt_val (qe_callBF (show CallR _ (.builtin "isinstance") (rIsi K) from call_isi) (by rfl) T.z_isinstance bt_isinstance (qa_c (qv 0) (qa_c (qe_bltn (v := .ty "str") (by rfl) T.z_str bt_str rfl) qa_nil)))) (qw_and1 (qt_cmpR (show OpR _ (compareOp .NotIn) (rIn K true) from op_notIn_seq) (qv 0) (qe_call0 G_law_kept (hr.mono (by decide)) rfl T.d_law_kept.m T.d_law_kept.F.kp T.d_law_kept.b .nil pass0) (by with_unfolding_all rfl))))))) (fun _ _ _ _ => (qv 0)))
        (qss_one (qs_ret (qe_cmpR op_gt (qe_callBF call_lenTx (by rfl) T.z_len bt_len (qa_c (qe_callTF (call_setS rfl) (by rfl) T.z_set bt_set (qa_c (qv 1) qa_nil)) qa_nil)) qe_int (nomark _))))), ?_⟩
    clear hu hr
    refine ⟨_, rfl, p, rfl, ⟨_, SqT.of hp⟩, comp_tfil (xs := ws) nkB Same Same.refl (fun _ _ _ a b => a.trans b) (fun H1 s1 => SqT.of (s1 _ _ hp)) (Nat.le_of_lt (small1000 (by omega))) (fun x hx H1 s1 R hR => ?_) (fun x hx H1 R hR => ⟨_, rfl, hR⟩) (fun H1 l s1 hl1 => ?_)⟩
    · rcases hw x hx with ⟨y, rfl⟩ | ⟨z, rfl⟩
      · refine ⟨_, rfl, _, _, _, _, rfl, .str y, kit_str_str, _, rfl, iteT ⟨_, rfl, rfl, fun q H2 hq0 hq s2 => ⟨q, _, rfl, .inl (SqL.of hq), rfl, all_flatS _, _, rfl, ?_⟩⟩⟩
        show R (!inV (.str y) (keptS.map V.str)) _
        rw [inV_strs]
        exact hR H2 s2
      · exact ⟨_, rfl, _, _, _, _, rfl, .int z, kit_int_str, _, rfl, iteF (hR H1 (Same.refl H1))⟩
    have fl : (ws.filter nkB).length ≤ 700 := Nat.le_trans (List.length_filter_le _ _) hl
    have ol := onces_few ((ws.filter nkB).map txV)
    rw [List.length_map] at ol
    have s2 := s1.trans (same_upd (o := .lst (ws.filter nkB)) hl1)
    exact ⟨_, rfl, l, (ws.filter nkB).map txV, rfl, SqL.of (by rw [nk_strs]; exact upd_same), by rw [List.length_map]; omega, fun a ha => ⟨a, _, rfl, upd_same, by omega, _, _, rfl, rfl, k _ _ (s2.trans (same_upd ha))⟩⟩
noncomputable def sp_sum_word_read (K : PySem.W.Frag) (C : Addr) : Sp := fun vs H Q E => ∃ (y : Str), vs = [.str y] ∧ y.length ≤ 600 ∧ Asc y ∧ (∀ w H', rdW y = some w → Same H H' → Q w H') ∧ ∀ e H', rdW y = none → Same H H' → H' e = none → E (.ref C) (some e) H'
theorem ok_sum_word_read (T : Txt K w mg t) (XB : Xcl K mg base t) : FnOk P w K mg base (CXN P w) 3 t.a_sum_word_read t.f_sum_word_read ["part"] (sp_sum_word_read K t.x_NoSum) := by
  have G_is_name : FnOk P w K mg base CX0 2 t.a_is_name t.f_is_name ["text"] (sp_is_name K) := ok_is_name T XB
  have G_is_sum_word : FnOk P w K mg base CX0 1 t.a_is_sum_word t.f_is_sum_word ["text"] (sp_is_sum_word K) := ok_is_sum_word T XB
  have G_is_figures : FnOk P w K mg base CX0 2 t.a_is_figures t.f_is_figures ["text"] (sp_is_figures K) := ok_is_figures T XB
  refine T.d_sum_word_read.F.okN sc_sum_word_read (fun vs H Q E h => ?_) (fun cdv A outer s H vs Q E hr h => ?_)
  · obtain ⟨y, rfl, hl, ha, k, ke⟩ := h
    rfl
  · obtain ⟨y, rfl, hl, ha, k, ke⟩ := h
    have hu := hu_of hr
    refine ⟨_, @QSs.out _ _ _ (qss_cons (qs_if (qt_val (qe_callF G_is_figures (hr.mono (by decide)) rfl T.d_is_figures.m T.d_is_figures.F.kp T.d_is_figures.b .nil pass0 (qa_c (qv 0) qa_nil)))
        (qss_one (qs_ret (qe_callTF call_int_str (by rfl) T.z_int bt_int (qa_c (qv 0) qa_nil)))) qss_nil)
        (qss_cons (qs_if (qw_pt (qw_or (qt_val (qe_callF G_is_sum_word (hr.mono (by decide)) rfl T.d_is_sum_word.m T.d_is_sum_word.F.kp T.d_is_sum_word.b .nil pass0 (qa_c (qv 0) qa_nil))) (qw_or1 (qt_val (qe_callF G_is_name (hr.mono (by decide)) rfl T.d_is_name.m T.d_is_name.F.kp T.d_is_name.b .nil pass0 (qa_c (qv 0) qa_nil))))))
        (qss_one (qs_ret (qv 0))) qss_nil)
        (qss_one (qs_raise madeN rfl XB.o_NoSum rfl (qa_c (qe_fsR (qv 0)) qa_nil))))), ?_⟩
    clear hu
    refine ⟨_, rfl, _, rfl, Nat.le_trans hl (by decide), fun H1 s1 => ⟨_, rfl, ?_⟩⟩
    show if figB y = true then _ else _
    by_cases hf : figB y = true
    · rw [if_pos hf]
      exact ⟨_, rfl, y, numD y, rfl, fig_reads hf hl, Nat.le_trans hl (by decide), k _ H1 (rdW_fig hf) s1⟩
    rw [if_neg hf]
    refine ⟨_, rfl, y, rfl, _, rfl, ?_⟩
    by_cases hs : y ∈ sumW
    · rw [decide_eq_true hs]
      exact iteT (iteT ⟨_, rfl, k _ H1 (rdW_sum hf hs) s1⟩)
    rw [decide_eq_false hs]
    refine iteF ⟨_, rfl, y, rfl, Nat.le_trans hl (by decide), fun H2 s2 => ⟨_, rfl, ?_⟩⟩
    by_cases hn : y ∉ keptS ∧ NmL y
    · rw [decide_eq_true hn]
      exact iteT ⟨_, rfl, k _ H2 (rdW_nam hf hn) (s1.trans s2)⟩
    rw [decide_eq_false hn]
    refine iteF ?_
    have hr := asc_repr ha
    refine ⟨_, rfl, y, rfl, ?_, by show 1 ≤ sizeLine; decide, fun e he => ke e H2 (rdW_no hf hs hn) (s1.trans s2) he⟩
    have e1 : ("no word of a sum: " : Str).length = 18 := by decide +kernel
    rw [e1]
    omega
noncomputable def sp_law_sum (K : PySem.W.Frag) : Sp := fun vs H Q _ => ∃ (d c p hv : Addr) (ys : List Str) (most : Nat) (n : Int), vs = [.ref d, .ref p, .int (most : Int), .ref hv] ∧ DeckAt H d c ∧ H p = some (.lst (ys.map V.str)) ∧ Nms ys ∧ H hv = some (.lst [.int n]) ∧ hv ≠ c ∧ 1 ≤ most ∧ most ≤ 60 ∧
  ∀ t ws H', H t = none → H' t = some (.tup ws) → SumW ys ws → ws.length ≤ most → DeckAt H' d c → Off3 d c hv H H' → (∃ n' : Int, H' hv = some (.lst [.int n'])) → Q (.ref t) H'
theorem ok_law_sum (T : Txt K w mg t) (XB : Xcl K mg base t) : FnOk P w K mg base CX0 3 t.a_law_sum t.f_law_sum ["deck", "names", "most", "heavy"] (sp_law_sum K) := by
  have G_law_leaf : FnOk P w K mg base CX0 2 t.a_law_leaf t.f_law_leaf ["deck", "names"] (sp_law_leaf K) := ok_law_leaf T XB
  have G_law_take : FnOk P w K mg base CX0 1 t.a_law_take t.f_law_take ["deck", "many"] (sp_law_take K) := ok_law_take T XB
  refine T.d_law_sum.F.ok sc_law_sum (fun vs H Q E h => ?_) (fun cdv A outer s H vs Q E hr h => ?_)
  · obtain ⟨d, c, p, hv, ys, most, n, rfl, D, hp, N, hh, hvc, m1, m2, k⟩ := h
    rfl
  · obtain ⟨d, c, p, hv, ys, most, n, rfl, D, hp, N, hh, hvc, m1, m2, k⟩ := h
    have hu := hu_of hr
    refine ⟨_, @QSs.out _ _ _ (qss_cons (qs_set (i := 4) sc_law_sum.nd rfl (Or.inl rfl) (qe_lst qa_nil))
        (qss_cons (qs_set (i := 5) sc_law_sum.nd rfl (Or.inl rfl) qe_int)
        (qss_cons (qs_while PassesOwn.never (qt_cmpR op_gt (qv 5) qe_int (nomark _))
        (qss_cons (qs_set (i := 6) sc_law_sum.nd rfl (Or.inl rfl) (qe_op op_sub (qe_op op_sub (qv 2) (qe_callBF call_len_seq (by rfl) T.z_len bt_len (qa_c (qv 4) qa_nil))) (qv 5)))
        (qss_cons (qs_set (i := 7) sc_law_sum.nd rfl (Or.inl rfl) (qe_callF G_law_take (hr.mono (by decide)) rfl T.d_law_take.m T.d_law_take.F.kp T.d_law_take.b .nil pass0 (qa_c (qv 0) (qa_c qe_int qa_nil))))
        (qss_cons (qs_set (i := 8) sc_law_sum.nd rfl (Or.inl rfl) (qe_ix ix_list (qe_lst (qa_c qe_str (qa_c qe_str (qa_c qe_str (qa_c qe_str (qa_c qe_str (qa_c qe_str (qa_c qe_str (qa_c qe_str (qa_c qe_str (qa_c qe_str (qa_c qe_str qa_nil)))))))))))) (qv 7) (fun _ _ => rfl)))
        (qss_cons (qs_set (i := 9) sc_law_sum.nd rfl (Or.inl rfl) (qe_ix ix_list (qe_lst (qa_c qe_int (qa_c qe_int (qa_c qe_int (qa_c qe_int (qa_c qe_int (qa_c qe_int (qa_c qe_int (qa_c qe_int (qa_c qe_int (qa_c qe_int (qa_c qe_int qa_nil)))))))))))) (qv 7) (fun _ _ => rfl)))
        (qss_cons (qs_if (qt_cmpR op_in_seq (qv 8) (qe_lst (qa_c qe_str (qa_c qe_str (qa_c qe_str (qa_c qe_str (qa_c qe_str qa_nil)))))) (by with_unfolding_all rfl))
        (qss_one (qs_set (i := 9) sc_law_sum.nd rfl (Or.inl rfl) (qe_op op_add (qv 9) (qe_op op_mulB qe_int (qe_callTF call_int1 (by rfl) T.z_int bt_int (qa_c (qe_cmpR op_eq (qe_ix ix_list (qv 3) qe_int (fun _ _ => rfl)) qe_int (nomark _)) qa_nil)))))) qss_nil)
        (qss_cons (qs_if (qt_cmpR op_gt (qv 9) (qv 6) (nomark _))
        (qss_cons (qs_expr (qe_bmF PySem.F.plainAttrs_list PySem.F.slot_list_append PySem.F.type_list_append mt_append (qv 4) (qa_c (qe_callF G_law_leaf (hr.mono (by decide)) rfl T.d_law_leaf.m T.d_law_leaf.F.kp T.d_law_leaf.b .nil pass0 (qa_c (qv 0) (qa_c (qv 1) qa_nil))) qa_nil)))
        (qss_one (qs_set (i := 9) sc_law_sum.nd rfl (Or.inl rfl) qe_int))) (qss_cons (qs_expr (qe_bmF PySem.F.plainAttrs_list PySem.F.slot_list_append PySem.F.type_list_append mt_append (qv 4) (qa_c (qv 8) qa_nil)))
        (qss_one (qs_asg (qe_op op_sub (qe_ix ix_list (qv 3) qe_int (fun _ _ => rfl)) (qe_callTF call_int1 (by rfl) T.z_int bt_int (qa_c (qe_cmpR op_in_seq (qv 8) (qe_lst (qa_c qe_str (qa_c qe_str (qa_c qe_str (qa_c qe_str (qa_c qe_str qa_nil)))))) (by with_unfolding_all rfl)) qa_nil))) (qg_sub (qv 3) qe_int set_list)))))
        (qss_one (qs_set (i := 5) sc_law_sum.nd rfl (Or.inl rfl) (qe_op op_add (qe_op op_sub (qv 5) qe_int) (qv 9)))))))))))
        (qss_one (qs_ret (qe_callTF call_tuple_of (by rfl) T.z_tuple bt_tuple (qa_c (qv 4) qa_nil))))))), ?_⟩
    clear hu hr
    have pn := deck_strs D hp N.l1
    have hvn := deck_one D hh hvc
    have hvp : p ≠ hv := ne_of hp hh (by
      intro z
      injection z with z
      have hl := N.l1
      match ys, hl with
      | y :: r, _ =>
        rw [List.map_cons] at z
        injection z with z _
        cases z)
    refine ⟨by show 0 ≤ sizeLine; decide, fun w hw => ?_⟩
    have wn := deck_ne D hw
    have whv : w ≠ hv := (ne_of_none hh hw).symm
    have wp : w ≠ p := (ne_of_none hp hw).symm
    have s1 := same_upd (o := .lst []) hw
    refine while_w (fun σ H2 => ∃ (ws : List V) (e : Nat) (n2 : Int) (u6 u7 u8 u9 : Option V), σ = [some (.ref d), some (.ref p), some (.int most), some (.ref hv), some (.ref w), some (.int e), u6, u7, u8, u9] ∧ H2 w = some (.lst ws) ∧ H2 hv = some (.lst [.int n2]) ∧ Pre 1 ws e ∧ (∀ x ∈ ws, WordOk ys x) ∧ ws.length + e ≤ most ∧ DeckAt H2 d c ∧ Off3 d c hv H H2) (fun _ H2 => match H2 w with | some (.lst ws) => most - ws.length | _ => 0) ⟨[], 1, n, none, none, none, none, rfl, upd_same, s1 _ _ hh, .nil, (fun _ h => nomatch h), by show 0 + 1 ≤ most; omega, D.same s1, fun b o e _ _ _ => s1 b o e⟩ ?_
    rintro σ H2 hz_
    refine hideG fun Gz hGz => ?_
    obtain ⟨ws, e, n2, u6, u7, u8, u9, rfl, h2, hh2, hpre, hok, hle, D2, o2⟩ := hz_
    refine hGz ?_
    clear hGz Gz
    refine ⟨_, rfl, _, _, rfl, rfl, _, rfl, ite2 (fun he => ?_) (fun he => ?_)⟩
    · have he' : 0 < e := by
        have := of_decide_eq_true he
        omega
      refine ex_cut (fun σ' H' => ∃ (ws' : List V) (e' : Nat) (n2 : Int) (u6 u7 u8 u9 : Option V), σ' = [some (.ref d), some (.ref p), some (.int most), some (.ref hv), some (.ref w), some (.int e'), u6, u7, u8, u9] ∧ H' w = some (.lst ws') ∧ ws'.length = ws.length + 1 ∧ H' hv = some (.lst [.int n2]) ∧ Pre 1 ws' e' ∧ (∀ x ∈ ws', WordOk ys x) ∧ ws'.length + e' ≤ most ∧ DeckAt H' d c ∧ Off3 d c hv H H') ?_ fun Nx hNx => ?_
      · rintro σ' H' hz_
        refine hideG fun Gz hGz => ?_
        obtain ⟨ws', e', n3, v6, v7, v8, v9, rfl, h', hl', hh', hpre', hok', hle', D', o'⟩ := hz_
        refine hGz ?_
        clear hGz Gz
        refine ⟨most - ws'.length, ?_, ?_, ws', e', n3, v6, v7, v8, v9, rfl, h', hh', hpre', hok', hle', D', o'⟩
        · rw [h2]
          show most - ws'.length < most - ws.length
          omega
        · rw [h']
      have hp2 := o2 _ _ hp pn.1 pn.2 hvp
      refine ⟨_, rfl, _, rfl, w, _, rfl, .inl (SqL.of h2), _, _, rfl, rfl, _, rfl, _, _, rfl, rfl, ?_⟩
      refine ⟨_, rfl, d, c, 11, rfl, D2, by decide, by decide, fun r H3 r0 r1 D3 o3 => ?_⟩
      obtain ⟨j, rfl⟩ : ∃ j : Nat, r = (j : Int) := ⟨r.toNat, by omega⟩
      have hj : j < 11 := by omega
      refine ⟨by show 11 ≤ sizeLine; decide, fun l hl => ?_⟩
      have ln := deck_ne D3 hl
      have a3 := same_upd (o := .lst [.str "pick", .str "and", .str "or", .str "odd", .str "add", .str "sub", .str "not", .str "neg", .str "twice", .str "low", .str ""]) hl
      refine ⟨_, rfl, l, drawW.map V.str, _, .str (drawW.getD j ""), rfl, rfl, SqL.of upd_same, atI_drawW hj, ?_⟩
      refine ⟨by show 11 ≤ sizeLine; decide, fun l' hl' => ?_⟩
      have a4 := same_upd (o := .lst [.int 3, .int 2, .int 2, .int 2, .int 2, .int 2, .int 1, .int 1, .int 1, .int 1, .int 99]) hl'
      refine ⟨_, rfl, l', drawM.map V.int, _, .int (drawM.getD j 0), rfl, rfl, SqL.of upd_same, atI_drawM hj, ?_⟩
      have a34 := a3.trans a4
      have fct := draw_fact j hj
      generalize drawW.getD j "" = word at *
      generalize drawM.getD j 0 = many at *
      have h34 := a34 _ _ (o3 _ _ h2 wn.1 wn.2)
      have hh34 := a34 _ _ (o3 _ _ hh2 hvn.1 hvn.2)
      have hp34 := a34 _ _ (o3 _ _ hp2 pn.1 pn.2)
      have D34 := D3.same a34
      have o34 : Off3 d c hv H _ := off3_trans o2 (o3.trans (same_off d c a34))
      clear hl' a4
      generalize upd (upd H3 l (.lst [.str "pick", .str "and", .str "or", .str "odd", .str "add", .str "sub", .str "not", .str "neg", .str "twice", .str "low", .str ""])) l' (.lst [.int 3, .int 2, .int 2, .int 2, .int 2, .int 2, .int 1, .int 1, .int 1, .int 1, .int 99]) = H4 at *
      refine gName_go ?_
      refine nx_join (fun σ H' => ∃ (mm : Int), σ = [some (.ref d), some (.ref p), some (.int most), some (.ref hv), some (.ref w), some (.int e), some (.int ((most : Int) - (ws.length : Int) - (e : Int))), some (.int j), some (.str word), some (.int mm)] ∧ (mm = many ∨ mm = many + 99) ∧ Same H4 H') (fun N hN => ?_) ?_
      · refine ⟨_, rfl, by show 5 ≤ sizeLine; decide, fun g hg => ⟨g, heavyW.map V.str, rfl, .inl (SqL.of upd_same), rfl, rfl, _, rfl, ite2 (fun _ => ?_) (fun _ => ?_)⟩⟩
        · have s5 := same_upd (o := .lst (heavyW.map V.str)) hg
          refine ⟨_, rfl, _, rfl, hv, _, 0, _, rfl, rfl, SqL.of (s5 _ _ hh34), rfl, rfl, .inr ⟨_, rfl, _, _, rfl, rfl, .inr (.inl ⟨by decide, by decide⟩), _, _, rfl, rfl, hN _ _ ⟨_, rfl, ?_, s5⟩⟩⟩
          try dsimp only
          by_cases q : decide (V.int n2 = V.int 0) = true
          · rw [q]
            exact .inr rfl
          · rw [Bool.eq_false_iff.mpr q]
            exact .inl (by show many + 99 * 0 = many; omega)
        · exact hN _ _ ⟨many, rfl, .inl rfl, same_upd hg⟩
      rintro σ H5 hz_
      refine hideG fun Gz hGz => ?_
      obtain ⟨mm, rfl, hmm, s5⟩ := hz_
      refine hGz ?_
      clear hGz Gz
      have h5 := s5 _ _ h34
      have hh5 := s5 _ _ hh34
      have hp5 := s5 _ _ hp34
      have D5 := D34.same s5
      have o5 : Off3 d c hv H H5 := off3_trans o34 (same_off d c s5)
      show tSeq (tIfS _ _ _) _ _ _ _
      refine seq_join (fun σ H' => ∃ (x : V) (n3 : Int) (m3 : Nat), σ = [some (.ref d), some (.ref p), some (.int most), some (.ref hv), some (.ref w), some (.int e), some (.int ((most : Int) - (ws.length : Int) - (e : Int))), some (.int j), some (.str word), some (.int (m3 : Int))] ∧ H' w = some (.lst (ws ++ [x])) ∧ H' hv = some (.lst [.int n3]) ∧ WordOk ys x ∧ partsV x = m3 ∧ ws.length + e + m3 ≤ most ∧ DeckAt H' d c ∧ Off3 d c hv H H') (fun N' hN' => ?_) ?_
      · have wsz : ws.length < sizeLine := small1000 (by omega)
        refine ⟨_, rfl, _, rfl, _, _, rfl, rfl, _, rfl, ite2 (fun hgt => ?_) (fun hgt => ?_)⟩
        · refine ⟨_, rfl, .inl ⟨rfl, _, SqL.of h5⟩, _, rfl, _, rfl, d, c, p, ys, rfl, D5, hp5, N, fun v H6 hv6 D6 o6 => ?_⟩
          have h6 := o6 _ _ h5 wn.1 wn.2
          refine ⟨w, _, _, rfl, rfl, h6, wsz, hN' _ _ ⟨v, n2, 0, rfl, upd_same, by rw [upd_ne whv.symm]; exact o6 _ _ hh5 hvn.1 hvn.2, hv6.word, hv6.parts N, by omega, deck_put D6 wn, ?_⟩⟩
          exact off3_put (off3_trans o5 o6) hw
        · have hgt' : ¬ ((most : Int) - (ws.length : Int) - (e : Int) < mm) := fun z => hgt (decide_eq_true z)
          have f2 : ∃ m3 : Nat, mm = (m3 : Int) ∧ partsV (.str word) = m3 ∧ word ∈ sumW := by
            rcases fct with ⟨rfl, rfl⟩ | ⟨m3, rfl, h1, h2, h3⟩
            · exfalso
              omega
            · rcases hmm with rfl | rfl
              · exact ⟨m3, rfl, h1, h2⟩
              · exfalso
                omega
          obtain ⟨m3, rfl, hm3, hsw⟩ := f2
          refine ⟨_, rfl, .inl ⟨rfl, _, SqL.of h5⟩, _, rfl, w, _, _, rfl, rfl, h5, wsz, ?_⟩
          have hh6 : (upd H5 w (.lst (ws ++ [.str word]))) hv = some (.lst [.int n2]) := by rw [upd_ne whv.symm]; exact hh5
          refine ⟨_, rfl, hv, _, 0, _, rfl, rfl, SqL.of hh6, rfl, _, rfl, by show 5 ≤ sizeLine; decide, fun g hg => ⟨g, heavyW.map V.str, rfl, .inl (SqL.of upd_same), rfl, rfl, .inr ⟨_, rfl, _, _, rfl, rfl, _, rfl, hv, [.int n2], _, 0, rfl, rfl, ?_, rfl, ?_⟩⟩⟩
          · exact same_upd hg _ _ hh6
          · have gn := deck_ne (deck_put D5 wn) hg
            have gw : w ≠ g := ne_of_none upd_same hg
            refine hN' _ _ ⟨.str word, _, m3, rfl, ?_, upd_same, .inl ⟨word, rfl, hsw⟩, hm3, by omega, deck_put ((deck_put D5 wn).same (same_upd hg)) hvn, ?_⟩
            · rw [upd_ne whv]
              exact same_upd hg _ _ upd_same
            · refine off3_hv (off3_trans (off3_put o5 hw) (same_off d c (same_upd hg)))
      rintro σ H6 hz_
      refine hideG fun Gz hGz => ?_
      obtain ⟨x, n3, m3, rfl, h6, hh6, hx, hpx, hm3, D6, o6⟩ := hz_
      refine hGz ?_
      clear hGz Gz
      refine ⟨_, rfl, _, _, rfl, rfl, _, rfl, _, _, rfl, rfl, hNx _ _ ⟨ws ++ [x], e - 1 + m3, n3, some (.int ((most : Int) - (ws.length : Int) - (e : Int))), some (.int j), some (.str word), some (.int (m3 : Int)), ?_, h6, by rw [List.length_append]; rfl, hh6, hpx ▸ hpre.snoc he', snoc_all hok hx, ?_, D6, o6⟩⟩
      · show _ = [_, _, _, _, _, some (V.int ((e - 1 + m3 : Nat) : Int)), _, _, _, _]
        rw [show ((e - 1 + m3 : Nat) : Int) = (e : Int) - 1 + (m3 : Int) by omega]
        rfl
      · rw [List.length_append]
        show ws.length + 1 + (e - 1 + m3) ≤ most
        omega
    · have he' : e = 0 := by
        have : ¬ (0 : Int) < e := fun z => he (decide_eq_true z)
        omega
      subst he'
      refine ⟨_, rfl, w, _, rfl, .inl ⟨SqL.of h2, fun t ht => ?_⟩⟩
      have ht0 : H t = none := by
        cases q : H t with
        | none => rfl
        | some o =>
          have tn := deck_ne D2 ht
          have thv : t ≠ hv := (ne_of_none hh2 ht).symm
          rw [o2 t o q tn.1 tn.2 thv] at ht
          cases ht
      exact k t ws _ ht0 upd_same ⟨hpre, hok⟩ (by omega) (D2.same (same_upd ht)) (off3_trans o2 (same_off d c (same_upd ht))) ⟨n2, same_upd ht _ _ hh2⟩
noncomputable def sp_law_reading (K : PySem.W.Frag) : Sp := fun vs H Q _ => ∃ (x : Str), vs = [.str x] ∧ x.length ≤ 600 ∧ (∀ ws p H', rdC (Txt.split x blank) = some ws → H p = none → H' p = some (.tup ws) → Same H H' → Q (.ref p) H') ∧ ∀ H', rdC (Txt.split x blank) = none → Same H H' → Q .non H'
theorem ok_law_reading (T : Txt K w mg t) (XB : Xcl K mg base t) : FnOk P w K mg base CX0 3 t.a_law_reading t.f_law_reading ["text"] (sp_law_reading K) := by
  have G_law_behind : FnOk P w K mg base CX0 1 t.a_law_behind t.f_law_behind ["word"] (sp_law_behind K) := ok_law_behind T XB
  have G_law_sort : FnOk P w K mg base CX0 2 t.a_law_sort t.f_law_sort ["word"] (sp_law_sort K) := ok_law_sort T XB
  refine T.d_law_reading.F.ok sc_law_reading (fun vs H Q E h => ?_) (fun cdv A outer s H vs Q E hr h => ?_)
  · obtain ⟨x, rfl, hl, k, kn⟩ := h
    rfl
  · obtain ⟨x, rfl, hl, k, kn⟩ := h
    have hu := hu_of hr
    refine ⟨_, @QSs.out _ _ _ (qss_cons (qs_set (i := 1) sc_law_reading.nd rfl (Or.inl rfl) (qe_lst (qa_c qe_str qa_nil)))
        (qss_cons (qs_set (i := 2) sc_law_reading.nd rfl (Or.inl rfl) (qe_lst qa_nil))
        (qss_cons (qs_for PassesOwn.never rfl (qi_list (qe_bmF PySem.F.plainAttrs_str PySem.F.slot_str_split PySem.F.type_str_split mt_split (qv 0) (qa_c qe_str qa_nil))) (qg_name (i := 3) sc_law_reading.nd rfl (Or.inl rfl))
        (qss_cons (qs_if (qw_pt (qw_or (qt_cmpR (op_eqLL (units_of hr)) (qv 1) (qe_lst qa_nil) (nomark _)) (qw_or1 (qt_cmpR op_ne (qe_bm0 PySem.F.plainAttrs_list PySem.F.slot_list_pop PySem.F.type_list_pop mt_pop (qv 1)) (qe_callF G_law_sort (hr.mono (by decide)) rfl T.d_law_sort.m T.d_law_sort.F.kp T.d_law_sort.b .nil pass0 (qa_c (qv 3) qa_nil)) (nomark _)))))
        (qss_one (qs_ret qe_non)) qss_nil)
        (qss_cons (qs_set (i := 1) sc_law_reading.nd rfl (Or.inl rfl) (qe_op op_cat (qv 1) (qe_callF G_law_behind (hr.mono (by decide)) rfl T.d_law_behind.m T.d_law_behind.F.kp T.d_law_behind.b .nil pass0 (qa_c (qv 3) qa_nil))))
        (qss_one (qs_if (qw_pt (qw_and (qt_cmpR op_ne (qv 3) qe_str (nomark _)) (qw_and1 (qt_cmpR op_in_str (qe_ix ix_str (qv 3) qe_int (fun _ _ => rfl)) qe_str (by with_unfolding_all rfl)))))
        (qss_one (qs_expr (qe_bmF PySem.F.plainAttrs_list PySem.F.slot_list_append PySem.F.type_list_append mt_append (qv 2) (qa_c (qe_callTF call_int_str (by rfl) T.z_int bt_int (qa_c (qv 3) qa_nil)) qa_nil)))) (qss_one (qs_expr (qe_bmF PySem.F.plainAttrs_list PySem.F.slot_list_append PySem.F.type_list_append mt_append (qv 2) (qa_c (qv 3) qa_nil)))))))))
        (qss_cons (qs_if (qt_cmpR (op_neLL (units_of hr)) (qv 1) (qe_lst qa_nil) (nomark _))
        (qss_one (qs_ret qe_non)) qss_nil)
        (qss_one (qs_ret (qe_callTF call_tuple_of (by rfl) T.z_tuple bt_tuple (qa_c (qv 2) qa_nil)))))))), ?_⟩
    clear hu
    have hpb : (Builtin.Str.partsBetween x (Builtin.Str.occurrences x blank 0 x.length (x.length + 1)) blank.length).length ≤ sizeLine := parts_short (by omega)
    have hfew := split_few x blank
    have hsub := split_sub x blank
    refine ⟨by show 1 ≤ sizeLine; decide, fun d0 hd0 => ⟨by show 0 ≤ sizeLine; decide, fun w hw => ?_⟩⟩
    refine ⟨_, rfl, rfl, x, blank, rfl, rfl, by decide +kernel, Nat.le_trans hl (by decide), hpb, Nat.le_trans hfew (Nat.le_trans (Nat.add_le_add_right hl 2) (by decide)), fun p hp => ?_⟩
    generalize Txt.split x blank = l at *
    have s1 := same_upd (o := .lst [.str "c"]) hd0
    have s2 := s1.trans (same_upd (o := .lst []) hw)
    have s3 := s2.trans (same_upd (o := .lst (l.map V.str)) hp)
    have dw0 : d0 ≠ w := ne_of_none upd_same hw
    have wp : w ≠ p := ne_of_none upd_same hp
    have dp0 : d0 ≠ p := ne_of_none (by rw [upd_ne dw0]; exact upd_same) hp
    have hw0 : H w = none := Same.free s1 hw
    have flatK : ∀ ls : List Bool, (ls.map kV2).all flatV = true := fun ls => by
      rw [List.all_map]
      exact List.all_eq_true.mpr fun _ _ => rfl
    refine ⟨p, rfl, ⟨_, SqL.of upd_same⟩, ?_⟩
    refine for_listR (K := K) (a := p) (xs := l.map V.str) (fun i σ H2 => ∃ u3 dq ls ws, runC (l.take i) = some (ls, ws) ∧ σ = [some (.str x), some (.ref dq), some (.ref w), u3] ∧ H2 dq = some (.lst (ls.map kV2)) ∧ H dq = none ∧ dq ≠ w ∧ dq ≠ p ∧ H2 w = some (.lst ws) ∧ H2 p = some (.lst (l.map V.str)) ∧ Same H H2) ⟨none, d0, [true], [], rfl, rfl, by rw [upd_ne dp0, upd_ne dw0]; exact upd_same, hd0, dw0, dp0, by rw [upd_ne wp]; exact upd_same, upd_same, s3⟩ (fun i σ H2 _ ⟨_, _, _, _, _, _, _, _, _, _, _, hp2, _⟩ => SqL.of hp2) ?_ ?_
    · rintro i v σ H2 hv hz_ Nx bx rx hNx hrx
      refine hideG fun Gz hGz => ?_
      obtain ⟨u3, dq, ls, ws, er, rfl, hdq2, hdq0, dw, dp, h2, hp2, s4⟩ := hz_
      refine hGz ?_
      clear hGz Gz
      rw [List.getElem?_map] at hv
      obtain ⟨y, hy, rfl⟩ := Option.map_eq_some_iff.mp hv
      have hym := List.mem_of_getElem? hy
      have hi : i < l.length := (List.getElem?_eq_some_iff.mp hy).1
      have ly : y.length ≤ 600 := Nat.le_trans (hsub y hym).2 hl
      have lq := runC_ok _ _ _ er
      have lw : ws.length ≤ 602 := by rw [lq.1, List.length_take]; omega
      have ll : ls.length ≤ 5419 := by have := lq.2.1; rw [List.length_take] at this; omega
      have nx : runC (l.take (i + 1)) = stepC (some (ls, ws)) y := by rw [take_snoc hy, runC_snoc, er]
      refine ⟨_, rfl, by show 0 ≤ sizeLine; decide, fun g hg => ⟨dq, g, _, [], rfl, rfl, SqL.of (same_upd hg _ _ hdq2), SqL.of upd_same, flatK ls, rfl, _, rfl, ?_⟩⟩
      show if (eqvs (ls.map kV2) []) = true then _ else _
      rw [eqvs_nil]
      have sg : Same H (upd H2 g (.lst [])) := s4.trans (same_upd hg)
      by_cases hls : ls = []
      · subst hls
        exact iteT (iteT (hrx _ _ (kn _ (rdC_fail (i := i + 1) nx) sg)))
      obtain ⟨l0, b, rfl⟩ := snoc_of hls
      rw [List.length_append, List.length_singleton] at ll
      rw [show ((l0 ++ [b]).map kV2).isEmpty = false by rw [List.map_append]; cases l0 <;> rfl]
      rw [List.map_append] at hdq2
      have hdg : (upd H2 g (.lst [])) dq = some (.lst (l0.map kV2 ++ [V.str (ksS b)])) := same_upd hg _ _ hdq2
      have hwg : (upd H2 g (.lst [])) w = some (.lst ws) := same_upd hg _ _ h2
      have hpg : (upd H2 g (.lst [])) p = some (.lst (l.map V.str)) := same_upd hg _ _ hp2
      generalize upd H2 g (.lst []) = Hg at *
      refine iteF ⟨_, rfl, .inl ⟨rfl, _, SqL.of hdg⟩, dq, _, .str (ksS b), rfl, rfl, hdg, ?_, _, rfl, y, rfl, ly, fun H3 s5 => ⟨rfl, _, rfl, ?_⟩⟩
      · rw [List.length_append, show ([V.str (ksS b)] : List V).length = 1 from rfl, Nat.add_sub_cancel, List.getElem?_append_right (Nat.le_refl _), Nat.sub_self]
        rfl
      rw [List.dropLast_concat] at s5
      have s03 : Same H H3 := (same_put sg hdq0).trans s5
      cases hrd : rdB b y with
      | none =>
        have hno : ¬ ksS b = sortS y := fun z => by have := (sort_match b y).mp z; rw [hrd] at this; cases this
        rw [decide_eq_false (fun z => hno (by injection z))]
        exact iteT (hrx _ _ (kn H3 (rdC_fail (i := i + 1) (nx.trans (stepC_none hrd))) s03))
      | some v =>
      have hyes : ksS b = sortS y := (sort_match b y).mpr (by rw [hrd]; rfl)
      rw [decide_eq_true (by rw [hyes])]
      have hdq3 := s5 _ _ upd_same
      have hw3 := s5 w (.lst ws) (by rw [upd_ne dw.symm]; exact hwg)
      have hp3 := s5 p (.lst (l.map V.str)) (by rw [upd_ne dp.symm]; exact hpg)
      refine iteF ⟨_, rfl, _, rfl, y, rfl, fun q H4 hq0 hq s6 => ⟨dq, q, l0.map kV2, _, rfl, rfl, s6 _ _ hdq3, hq, ?_, fun r hr => ?_⟩⟩
      · have := next_len (.str y)
        rw [List.length_map, List.length_map, sizeLine_eq]
        omega
      have s7 : Same H4 _ := same_upd (o := .lst (l0.map kV2 ++ (nextK (.str y)).map kV2)) hr
      have s04 : Same H H4 := s03.trans s6
      have s05 := s04.trans s7
      have hr5 : (upd H4 r (.lst (l0.map kV2 ++ (nextK (.str y)).map kV2))) r = some (.lst ((l0 ++ nextK v).map kV2)) := by rw [upd_same, List.map_append, rd_next hrd]
      have hw5 := s7 _ _ (s6 _ _ hw3)
      have hp5 := s7 _ _ (s6 _ _ hp3)
      have rw5 : r ≠ w := fun z => by rw [z, s6 _ _ hw3] at hr; cases hr
      have rp5 : r ≠ p := fun z => by rw [z, s6 _ _ hp3] at hr; cases hr
      have hr0 : H r = none := s04.free hr
      generalize upd H4 r (.lst (l0.map kV2 ++ (nextK (.str y)).map kV2)) = H5 at *
      obtain ⟨c, rr, ec, hcase⟩ := rd_head hrd
      have hne : ¬ V.str y = V.str ("" : Str) := fun z => by
        have : y.cps.toList = [] := nil_signs.mpr (by injection z)
        rw [ec] at this
        cases this
      refine ⟨_, rfl, rfl, _, rfl, ?_⟩
      rw [decide_eq_false hne]
      refine iteT ⟨_, rfl, y, 0, c, rfl, rfl, Nat.le_trans ly (by decide), by rw [ec]; exact atI_nat (j := 0) rfl, _, _, rfl, rfl, _, rfl, ?_⟩
      rw [show (!(Builtin.Str.occurrences ("0123456789" : Str) ⟨#[c]⟩ 0 ("0123456789" : Str).length 1).isEmpty) = decide (c ∈ figS.cps.toList) from occ_mem figS c]
      rcases hcase with ⟨rfl, hcf, hf⟩ | ⟨rfl, hcf⟩
      · rw [decide_eq_true hcf]
        refine iteT ⟨_, rfl, .inl ⟨rfl, _, SqL.of hw5⟩, _, rfl, y, numD y, rfl, fig_reads hf ly, Nat.le_trans ly (by decide), w, _, _, rfl, rfl, hw5, small1000 (by omega), ?_⟩
        exact hNx _ _ ⟨_, r, _, _, nx.trans (stepC_some hrd), rfl, by rw [upd_ne rw5]; exact hr5, hr0, rw5, rp5, upd_same, by rw [upd_ne wp.symm]; exact hp5, same_put s05 hw0⟩
      · rw [decide_eq_false hcf]
        refine iteF ⟨_, rfl, .inl ⟨rfl, _, SqL.of hw5⟩, _, rfl, w, _, _, rfl, rfl, hw5, small1000 (by omega), ?_⟩
        exact hNx _ _ ⟨_, r, _, _, nx.trans (stepC_some hrd), rfl, by rw [upd_ne rw5]; exact hr5, hr0, rw5, rp5, upd_same, by rw [upd_ne wp.symm]; exact hp5, same_put s05 hw0⟩
    · rintro σ H2 hz_
      refine hideG fun Gz hGz => ?_
      obtain ⟨u3, dq, ls, ws, er, rfl, hdq2, hdq0, dw, dp, h2, hp2, s4⟩ := hz_
      refine hGz ?_
      clear hGz Gz
      rw [List.length_map, List.take_length] at er
      refine ⟨_, rfl, by show 0 ≤ sizeLine; decide, fun g hg => ⟨dq, g, _, [], rfl, rfl, SqL.of (same_upd hg _ _ hdq2), SqL.of upd_same, flatK ls, rfl, _, rfl, ?_⟩⟩
      have s5 := s4.trans (same_upd (o := .lst []) hg)
      show if (!eqvs (ls.map kV2) []) = true then _ else _
      rw [eqvs_nil]
      by_cases hls : ls = []
      · subst hls
        exact iteF ⟨_, rfl, w, _, rfl, .inl ⟨SqL.of (same_upd hg _ _ h2), fun tp htp => k ws tp _ (rdC_of er) (s5.free htp) upd_same (s5.trans (same_upd htp))⟩⟩
      · rw [show ((ls.map kV2).isEmpty) = false by cases ls with | nil => exact absurd rfl hls | cons b r => rfl]
        exact iteT (kn _ (rdC_no er hls) s5)
noncomputable def sp_sum_part_read (K : PySem.W.Frag) (C : Addr) : Sp := fun vs H Q E => ∃ (y : Str), vs = [.str y] ∧ y.length ≤ 600 ∧ Asc y ∧ (∀ w H', rdW y = some w → Same H H' → Q w H') ∧ ∀ e H', rdW y = none → Same H H' → H' e = none → E (.ref C) (some e) H'
theorem ok_sum_part_read (T : Txt K w mg t) (XB : Xcl K mg base t) : FnOk P w K mg base (CXO P w) 4 t.a_sum_part_read t.f_sum_part_read ["part"] (sp_sum_part_read K t.x_NoClaim) := by
  have G_sum_word_read : FnOk P w K mg base (CXN P w) 3 t.a_sum_word_read t.f_sum_word_read ["part"] (sp_sum_word_read K t.x_NoSum) := ok_sum_word_read T XB
  refine T.d_sum_part_read.F.okX sc_sum_part_read (fun vs H Q E h => ?_) (fun cdv A outer s H vs Q E hr h => ?_)
  · obtain ⟨y, rfl, hl, ha, k, ke⟩ := h
    rfl
  · obtain ⟨y, rfl, hl, ha, k, ke⟩ := h
    have hu := hu_of hr
    refine ⟨_, @QSs.out _ _ _ (qss_one (qs_tryF FnX.of (fun _ => PassesOwnAt.leaving) G_sum_word_read (hr.mono (by decide)) rfl T.d_sum_word_read.m T.d_sum_word_read.F.kp T.d_sum_word_read.b (fun _ => (qa_c (qv 0) qa_nil)) rfl XB.o_NoSum rfl XB.o_NoClaim XB.kp_NoClaim (fun _ _ => (qa_c (qe_fsR (qv 0)) qa_nil)))), ?_⟩
    clear hu
    have hr := asc_repr ha
    refine ⟨_, rfl, y, rfl, hl, ha, k, fun e H2 en s2 he => ⟨t.x_NoSum, e, rfl, rfl, below_self XB.o_NoSum, _, rfl, y, rfl, ?_, upd_same, by show 1 ≤ sizeLine; decide, fun e2 he2 => ke e2 _ en (s2.trans (same_upd he)) he2⟩⟩
    have e1 : ("no word of a sum: " : Str).length = 18 := by decide +kernel
    rw [e1]
    omega
noncomputable def sp_law_atom (K : PySem.W.Frag) : Sp := fun vs H Q _ => ∃ (d c p hv : Addr) (ys : List Str) (most : Nat), vs = [.ref d, .ref p, .ref hv, .int (most : Int)] ∧ Dr d c p hv ys H H ∧ Nms ys ∧ hv ≠ c ∧ 1 ≤ most ∧ most ≤ 60 ∧
  ∀ t ws H', H' t = some (.tup ws) → ClaimW ys ws → ws.length ≤ 1 + 2 * most → Dr d c p hv ys H H' → Q (.ref t) H'
theorem ok_law_atom (T : Txt K w mg t) (XB : Xcl K mg base t) : FnOk P w K mg base CX0 4 t.a_law_atom t.f_law_atom ["deck", "names", "heavy", "most"] (sp_law_atom K) := by
  have G_law_sum : FnOk P w K mg base CX0 3 t.a_law_sum t.f_law_sum ["deck", "names", "most", "heavy"] (sp_law_sum K) := ok_law_sum T XB
  have G_law_take : FnOk P w K mg base CX0 1 t.a_law_take t.f_law_take ["deck", "many"] (sp_law_take K) := ok_law_take T XB
  refine T.d_law_atom.F.ok sc_law_atom (fun vs H Q E h => ?_) (fun cdv A outer s H vs Q E hr h => ?_)
  · obtain ⟨d, c, p, hv, ys, most, rfl, R, N, hvc, m1, m2, k⟩ := h
    rfl
  · obtain ⟨d, c, p, hv, ys, most, rfl, R, N, hvc, m1, m2, k⟩ := h
    have hu := hu_of hr
    refine ⟨_, @QSs.out _ _ _ (qss_cons (qs_set (i := 4) sc_law_atom.nd rfl (Or.inl rfl) (qe_callF G_law_take (hr.mono (by decide)) rfl T.d_law_take.m T.d_law_take.F.kp T.d_law_take.b .nil pass0 (qa_c (qv 0) (qa_c qe_int qa_nil))))
        (qss_cons (qs_set (i := 5) sc_law_atom.nd rfl (Or.inl rfl) (qe_tup (qa_c (qe_ix ix_list (qe_lst (qa_c qe_str (qa_c qe_str (qa_c qe_str (qa_c qe_str (qa_c qe_str (qa_c qe_str qa_nil))))))) (qv 4) (fun _ _ => rfl)) qa_nil)))
        (qss_cons (qs_for PassesOwn.never rfl (qi_rangeF rfl T.z_range (qa_c (qe_ix ix_list (qe_lst (qa_c qe_int (qa_c qe_int (qa_c qe_int (qa_c qe_int (qa_c qe_int (qa_c qe_int qa_nil))))))) (qv 4) (fun _ _ => rfl)) qa_nil)) (qg_name (i := 6) sc_law_atom.nd rfl (Or.inl rfl))
        (qss_one (qs_set (i := 5) sc_law_atom.nd rfl (Or.inl rfl) (qe_op op_catT (qv 5) (qe_callF G_law_sum (hr.mono (by decide)) rfl T.d_law_sum.m T.d_law_sum.F.kp T.d_law_sum.b .nil pass0 (qa_c (qv 0) (qa_c (qv 1) (qa_c (qv 3) (qa_c (qv 2) qa_nil)))))))))
        (qss_one (qs_ret (qv 5)))))), ?_⟩
    clear hu hr
    refine ⟨_, rfl, d, c, 6, rfl, R.D, by decide, by decide, fun r H1 r0 r1 D1 o1 => ?_⟩
    obtain ⟨j, rfl⟩ : ∃ j : Nat, r = (j : Int) := ⟨r.toNat, by omega⟩
    have hj : j < 6 := by omega
    have R1 := R.off N hvc D1 o1
    obtain ⟨hy, hb, hnx⟩ := atom_fact j hj
    obtain ⟨m, hm⟩ : ∃ m : Nat, atomN.getD j 0 = (m : Int) := ⟨(atomN.getD j 0).toNat, by omega⟩
    refine ⟨by show 6 ≤ sizeLine; decide, fun l hl => ⟨_, rfl, l, atomW.map V.str, _, .str (atomW.getD j ""), rfl, rfl, SqL.of upd_same, ?_, by show 1 ≤ sizeLine; decide, fun f0 hf0 => ?_⟩⟩
    · refine atI_nat ?_
      rw [List.getElem?_map, List.getElem?_eq_getElem (show j < atomW.length from hj), List.getD_eq_getElem?_getD, List.getElem?_eq_getElem (show j < atomW.length from hj)]
      rfl
    have s1 := (same_upd (o := .lst (atomW.map V.str)) hl).trans (same_upd (o := .tup [.str (atomW.getD j "")]) hf0)
    refine ⟨by show 6 ≤ sizeLine; decide, fun l2 hl2 => ⟨_, rfl, l2, atomN.map V.int, _, .int (atomN.getD j 0), rfl, rfl, SqL.of upd_same, atI_ints j rfl hj, ?_⟩⟩
    have s2 := s1.trans (same_upd (o := .lst (atomN.map V.int)) hl2)
    have R2 := R1.same s2
    have hf2 := same_upd (o := .lst (atomN.map V.int)) hl2 f0 (.tup [.str (atomW.getD j "")]) upd_same
    rw [hm] at hnx hb ⊢
    rw [Int.toNat_natCast] at hnx
    have pre0 := cw_one (ys := ys) hy
    rw [hnx] at pre0
    refine ⟨(m : Int), rfl, by omega, by omega, for_range (n := (m : Int).toNat) (fun i σ H' => ∃ tf ws u6, σ = [some (.ref d), some (.ref p), some (.ref hv), some (.int most), some (.int j), some (.ref tf), u6] ∧ H' tf = some (.tup ws) ∧ PreK ys [true] ws (List.replicate (m - i) false) ∧ ws ≠ [] ∧ ws.length ≤ 1 + i * most ∧ i ≤ m ∧ Dr d c p hv ys H H') ⟨f0, _, none, rfl, hf2, pre0, (fun z => nomatch z), by show 1 ≤ _; omega, Nat.zero_le _, R2⟩ ?_ ?_⟩
    · rintro i σ H' hi hz_
      refine hideG fun Gz hGz => ?_
      obtain ⟨tf, ws, u6, rfl, htf, hpre, hne, hwl, _, R3⟩ := hz_
      refine hGz ?_
      clear hGz Gz
      rw [Int.toNat_natCast] at hi
      obtain ⟨n3, hn3⟩ := R3.h
      have i1 : i ≤ 1 := by omega
      have im : i * most ≤ 1 * most := Nat.mul_le_mul_right _ i1
      refine ⟨_, rfl, _, rfl, _, rfl, _, rfl, _, rfl, d, c, p, hv, ys, most, n3, rfl, R3.D, R3.p, N, hn3, hvc, m1, m2, fun tw ws2 H4 htw ht4 W wl D4 o4 hh4 => ?_⟩
      refine cat_read (R3.tup htf o4) ht4 hne W.ne' (by omega) fun tc H5 h5 s5 => ?_
      refine ⟨tc, _, some (.int (0 + (i : Int))), rfl, h5, ?_, (by simp [hne]), ?_, hi, (R3.off3 N D4 hh4 o4).same s5⟩
      · have e1 : List.replicate (m - i) false = List.replicate (m - (i + 1)) false ++ [false] := by
          rw [← List.replicate_succ']
          congr 1
          omega
        rw [e1] at hpre
        have g := (W.preK N).under (List.replicate (m - (i + 1)) false)
        rw [List.append_nil] at g
        exact hpre.app g
      · rw [List.length_append, Nat.succ_mul]
        omega
    · rintro σ H' hz_
      refine hideG fun Gz hGz => ?_
      obtain ⟨tf, ws, u6, rfl, htf, hpre, hne, hwl, _, R3⟩ := hz_
      refine hGz ?_
      clear hGz Gz
      rw [Int.toNat_natCast] at hpre hwl
      rw [Nat.sub_self] at hpre
      have mm : m * most ≤ 2 * most := Nat.mul_le_mul_right _ (by omega)
      exact ⟨_, rfl, k tf ws H' htf hpre (by omega) R3⟩
noncomputable def sp_word_read (K : PySem.W.Frag) (C : Addr) : Sp := fun vs H Q E => ∃ (y : Str) (b : Bool), vs = [.str y, .str (kdS b)] ∧ y.length ≤ 600 ∧ Asc y ∧ (∀ w H', rdB b y = some w → Same H H' → Q w H') ∧ ∀ e H', rdB b y = none → Same H H' → H' e = none → E (.ref C) (some e) H'
theorem ok_word_read (T : Txt K w mg t) (XB : Xcl K mg base t) : FnOk P w K mg base (CXO P w) 5 t.a_word_read t.f_word_read ["part", "kind"] (sp_word_read K t.x_NoClaim) := by
  have G_is_claim_word : FnOk P w K mg base CX0 1 t.a_is_claim_word t.f_is_claim_word ["text"] (sp_is_claim_word K) := ok_is_claim_word T XB
  have G_sum_part_read : FnOk P w K mg base (CXO P w) 4 t.a_sum_part_read t.f_sum_part_read ["part"] (sp_sum_part_read K t.x_NoClaim) := ok_sum_part_read T XB
  refine T.d_word_read.F.okX sc_word_read (fun vs H Q E h => ?_) (fun cdv A outer s H vs Q E hr h => ?_)
  · obtain ⟨y, b, rfl, hl, ha, k, ke⟩ := h
    rfl
  · obtain ⟨y, b, rfl, hl, ha, k, ke⟩ := h
    have hu := hu_of hr
    refine ⟨_, @QSs.out _ _ _ (qss_cons (qs_if (qt_cmpR op_eq (qv 1) qe_str (nomark _))
        (qss_one (qs_ret (qe_callF G_sum_part_read (hr.mono (by decide)) rfl T.d_sum_part_read.m T.d_sum_part_read.F.kp T.d_sum_part_read.b .nil FnX.of.passes (qa_c (qv 0) qa_nil)))) qss_nil)
        (qss_cons (qs_if (qt_val (qe_callF G_is_claim_word (hr.mono (by decide)) rfl T.d_is_claim_word.m T.d_is_claim_word.F.kp T.d_is_claim_word.b .nil pass0 (qa_c (qv 0) qa_nil)))
        (qss_one (qs_ret (qv 0))) qss_nil)
        (qss_one (qs_raise FnX.of.made rfl XB.o_NoClaim rfl (qa_c (qe_fsR (qv 0)) qa_nil))))), ?_⟩
    clear hu
    have hr := asc_repr ha
    cases b with
    | false =>
      refine ⟨_, rfl, rfl, _, rfl, ?_⟩
      rw [decide_eq_true (show V.str (kdS false) = V.str ("sum" : Str) from rfl)]
      exact iteT ⟨_, rfl, y, rfl, hl, ha, k, ke⟩
    | true =>
      refine ⟨_, rfl, rfl, _, rfl, ?_⟩
      rw [decide_eq_false (show ¬ V.str (kdS true) = V.str ("sum" : Str) from fun z => by injection z with z; exact absurd z (by decide +kernel))]
      refine iteF ⟨_, rfl, y, rfl, _, rfl, ?_⟩
      by_cases hy : y ∈ claimW
      · rw [decide_eq_true hy]
        exact iteT ⟨_, rfl, k _ H (if_pos hy) (Same.refl H)⟩
      · rw [decide_eq_false hy]
        refine iteF ⟨_, rfl, y, rfl, ?_, by show 1 ≤ sizeLine; decide, fun e he => ke e H (if_neg hy) (Same.refl H) he⟩
        have e1 : ("no word of a claim: " : Str).length = 20 := by decide +kernel
        rw [e1]
        omega
noncomputable def sp_law_claim (K : PySem.W.Frag) : Sp := fun vs H Q _ => ∃ (d c p hv : Addr) (ys : List Str), vs = [.ref d, .ref p, .ref hv] ∧ Dr d c p hv ys H H ∧ Nms ys ∧ hv ≠ c ∧
  ∀ t ws H', H' t = some (.tup ws) → ClaimW ys ws → ws.length ≤ 40 → Dr d c p hv ys H H' → Q (.ref t) H'
theorem ok_law_claim (T : Txt K w mg t) (XB : Xcl K mg base t) : FnOk P w K mg base CX0 5 t.a_law_claim t.f_law_claim ["deck", "names", "heavy"] (sp_law_claim K) := by
  have G_law_take : FnOk P w K mg base CX0 1 t.a_law_take t.f_law_take ["deck", "many"] (sp_law_take K) := ok_law_take T XB
  have G_law_join : FnOk P w K mg base CX0 2 t.a_law_join t.f_law_join ["deck"] (sp_law_join K) := ok_law_join T XB
  have G_law_atom : FnOk P w K mg base CX0 4 t.a_law_atom t.f_law_atom ["deck", "names", "heavy", "most"] (sp_law_atom K) := ok_law_atom T XB
  refine T.d_law_claim.F.ok sc_law_claim (fun vs H Q E h => ?_) (fun cdv A outer s H vs Q E hr h => ?_)
  · obtain ⟨d, c, p, hv, ys, rfl, R, N, hvc, k⟩ := h
    rfl
  · obtain ⟨d, c, p, hv, ys, rfl, R, N, hvc, k⟩ := h
    have hu := hu_of hr
    refine ⟨_, @QSs.out _ _ _ (qss_cons (qs_set (i := 3) sc_law_claim.nd rfl (Or.inl rfl) (qe_callF G_law_take (hr.mono (by decide)) rfl T.d_law_take.m T.d_law_take.F.kp T.d_law_take.b .nil pass0 (qa_c (qv 0) (qa_c qe_int qa_nil))))
        (qss_cons (qs_set (i := 4) sc_law_claim.nd rfl (Or.inl rfl) (qe_ix ix_list (qe_lst (qa_c qe_int (qa_c qe_int (qa_c qe_int qa_nil)))) (qv 3) (fun _ _ => rfl)))
        (qss_cons (qs_set (i := 5) sc_law_claim.nd rfl (Or.inl rfl) (qe_callF G_law_atom (hr.mono (by decide)) rfl T.d_law_atom.m T.d_law_atom.F.kp T.d_law_atom.b .nil pass0 (qa_c (qv 0) (qa_c (qv 1) (qa_c (qv 2) (qa_c (qv 4) qa_nil))))))
        (qss_cons (qs_for PassesOwn.never rfl (qi_rangeF rfl T.z_range (qa_c (qv 3) qa_nil)) (qg_name (i := 6) sc_law_claim.nd rfl (Or.inl rfl))
        (qss_cons (qs_if (qt_cmpR op_eq (qe_callF G_law_take (hr.mono (by decide)) rfl T.d_law_take.m T.d_law_take.F.kp T.d_law_take.b .nil pass0 (qa_c (qv 0) (qa_c qe_int qa_nil))) qe_int (nomark _))
        (qss_one (qs_set (i := 5) sc_law_claim.nd rfl (Or.inl rfl) (qe_op op_catT (qe_tup (qa_c qe_str qa_nil)) (qv 5)))) qss_nil)
        (qss_cons (qs_set (i := 7) sc_law_claim.nd rfl (Or.inl rfl) (qe_callF G_law_atom (hr.mono (by decide)) rfl T.d_law_atom.m T.d_law_atom.F.kp T.d_law_atom.b .nil pass0 (qa_c (qv 0) (qa_c (qv 1) (qa_c (qv 2) (qa_c (qv 4) qa_nil))))))
        (qss_cons (qs_set (i := 8) sc_law_claim.nd rfl (Or.inl rfl) (qe_callF G_law_take (hr.mono (by decide)) rfl T.d_law_take.m T.d_law_take.F.kp T.d_law_take.b .nil pass0 (qa_c (qv 0) (qa_c qe_int qa_nil))))
        (qss_cons (qs_if (qt_cmpR op_eq (qv 8) qe_int (nomark _))
        (qss_one (qs_set (i := 7) sc_law_claim.nd rfl (Or.inl rfl) (qe_op op_catT (qe_tup (qa_c qe_str qa_nil)) (qv 7)))) qss_nil)
        (qss_cons (qs_if (qt_cmpR op_eq (qv 8) qe_int (nomark _))
        (qss_one (qs_set (i := 7) sc_law_claim.nd rfl (Or.inl rfl) (qe_op op_catT (qe_op op_catT (qe_callF G_law_join (hr.mono (by decide)) rfl T.d_law_join.m T.d_law_join.F.kp T.d_law_join.b .nil pass0 (qa_c (qv 0) qa_nil)) (qv 7)) (qe_tup (qa_c qe_str qa_nil))))) qss_nil)
        (qss_cons (qs_if (qt_cmpR op_eq (qv 8) qe_int (nomark _))
        (qss_one (qs_set (i := 7) sc_law_claim.nd rfl (Or.inl rfl) (qe_op op_catT (qe_op op_catT (qe_op op_catT (qe_tup (qa_c qe_str qa_nil)) (qe_callF G_law_join (hr.mono (by decide)) rfl T.d_law_join.m T.d_law_join.F.kp T.d_law_join.b .nil pass0 (qa_c (qv 0) qa_nil))) (qe_tup (qa_c qe_str qa_nil))) (qv 7)))) qss_nil)
        (qss_cons (qs_set (i := 9) sc_law_claim.nd rfl (Or.inl rfl) (qe_callF G_law_join (hr.mono (by decide)) rfl T.d_law_join.m T.d_law_join.F.kp T.d_law_join.b .nil pass0 (qa_c (qv 0) qa_nil)))
        (qss_one (qs_set (i := 5) sc_law_claim.nd rfl (Or.inl rfl) (qe_ix ix_list (qe_lst (qa_c (qe_op op_catT (qe_op op_catT (qv 9) (qv 5)) (qv 7)) (qa_c (qe_op op_catT (qe_op op_catT (qv 9) (qv 7)) (qv 5)) qa_nil))) (qe_callF G_law_take (hr.mono (by decide)) rfl T.d_law_take.m T.d_law_take.F.kp T.d_law_take.b .nil pass0 (qa_c (qv 0) (qa_c qe_int qa_nil))) (fun _ _ => rfl))))))))))))
        (qss_one (qs_ret (qe_ix ix_list (qe_lst (qa_c (qv 5) (qa_c (qe_op op_catT (qe_tup (qa_c qe_str qa_nil)) (qv 5)) qa_nil))) (qe_callF G_law_take (hr.mono (by decide)) rfl T.d_law_take.m T.d_law_take.F.kp T.d_law_take.b .nil pass0 (qa_c (qv 0) (qa_c qe_int qa_nil))) (fun _ _ => rfl)))))))), ?_⟩
    clear hu hr
    refine asg_cutN fun M0 hM0 => ?_
    refine ⟨_, rfl, d, c, 3, rfl, R.D, by decide, by decide, fun r H1 r0 r1 D1 o1 => hM0 _ _ ?_⟩
    clear hM0 M0
    obtain ⟨j, rfl⟩ : ∃ j : Nat, r = (j : Int) := ⟨r.toNat, by omega⟩
    have hj : j < 3 := by omega
    have R1 := R.off N hvc D1 o1
    refine hideG fun Gz hGz => ?_
    obtain ⟨m, hm, m1, m9, hmj⟩ : ∃ m : Nat, ([9, 5, 4] : List Int).getD j 0 = (m : Int) ∧ 1 ≤ m ∧ m ≤ 9 ∧ (1 + 2 * m) + j * (2 * m + 6) ≤ 37 := by
      have : j = 0 ∨ j = 1 ∨ j = 2 := by omega
      rcases this with rfl | rfl | rfl
      · exact ⟨9, rfl, by decide, by decide, by decide⟩
      · exact ⟨5, rfl, by decide, by decide, by decide⟩
      · exact ⟨4, rfl, by decide, by decide, by decide⟩
    refine hGz ?_
    clear hGz Gz
    refine asg_cutN fun M0 hM0 => ?_
    refine ⟨by show 3 ≤ sizeLine; decide, fun l hl => ⟨_, rfl, l, ([9, 5, 4] : List Int).map V.int, _, .int (([9, 5, 4] : List Int).getD j 0), rfl, rfl, SqL.of upd_same, atI_ints j rfl hj, ?_⟩⟩
    rw [hm]
    refine hM0 _ _ ?_
    clear hM0 M0
    have R2 := R1.same (same_upd (o := .lst (([9, 5, 4] : List Int).map V.int)) hl)
    refine asg_cutN fun M0 hM0 => ?_
    refine ⟨_, rfl, _, rfl, _, rfl, _, rfl, d, c, p, hv, ys, m, rfl, ⟨R2.D, R2.p, R2.h, fun _ _ e _ _ _ => e⟩, N, hvc, m1, by omega, fun t0 ws0 H3 ht0 W0 wl0 R3' => hM0 _ _ ?_⟩
    clear hM0 M0
    have R3 := R2.off3 N R3'.D R3'.h R3'.o
    refine ⟨_, rfl, (j : Int), rfl, by omega, by omega, for_rangeA (n := (j : Int).toNat) (fun i σ H' => ∃ tf ws u6 u7 u8 u9, σ = [some (.ref d), some (.ref p), some (.ref hv), some (.int j), some (.int m), some (.ref tf), u6, u7, u8, u9] ∧ H' tf = some (.tup ws) ∧ ClaimW ys ws ∧ ws.length ≤ (1 + 2 * m) + i * (2 * m + 6) ∧ i ≤ j ∧ Dr d c p hv ys H H') ⟨t0, ws0, none, none, none, none, rfl, ht0, W0, by omega, Nat.zero_le _, R3⟩ ?_ ?_⟩
    · rintro i σ H4 hi hz_ Nx bx rx hNx
      refine hideG fun Gz hGz => ?_
      obtain ⟨tf, ws, u6, u7, u8, u9, rfl, htf, W, wl, _, R4⟩ := hz_
      refine hGz ?_
      clear hGz Gz
      rw [Int.toNat_natCast] at hi
      obtain ⟨B, hBd⟩ : ∃ B, B = i * (2 * m + 6) := ⟨_, rfl⟩
      have hS : (i + 1) * (2 * m + 6) = B + (2 * m + 6) := by rw [hBd, Nat.add_mul, Nat.one_mul]
      have hB : (1 + 2 * m) + (B + (2 * m + 6)) ≤ 37 := by rw [← hS]; exact Nat.le_trans (Nat.add_le_add_left (Nat.mul_le_mul_right _ hi) _) hmj
      rw [← hBd] at wl
      refine gName_go ?_
      refine seq_joinA (fun σ H' => ∃ tf ws, σ = [some (.ref d), some (.ref p), some (.ref hv), some (.int j), some (.int m), some (.ref tf), some (.int (0 + (i : Int))), u7, u8, u9] ∧ H' tf = some (.tup ws) ∧ ClaimW ys ws ∧ ws.length ≤ 2 + 2 * m + B ∧ Dr d c p hv ys H H') (fun M _ _ _ hM => ?_) ?_
      · refine ⟨_, rfl, d, c, 3, rfl, R4.D, by decide, by decide, fun q H5 q0 q1 D5 o5 => ⟨rfl, _, rfl, ite2 (fun _ => ?_) (fun _ => ?_)⟩⟩
        · have R5 := R4.off N hvc D5 o5
          have htf5 := tup_off R4.D htf o5
          refine ⟨by show 1 ≤ sizeLine; decide, fun g hg => ⟨_, rfl, ?_⟩⟩
          refine cat_read upd_same (same_upd hg _ _ htf5) (fun z => nomatch z) W.ne (by rw [List.length_singleton]; omega) fun tc H6 h6 s6 => hM _ _ ⟨tc, _, rfl, h6, W.never, ?_, (R5.same (same_upd hg)).same s6⟩
          rw [List.length_append, List.length_singleton]
          omega
        · exact hM _ _ ⟨tf, ws, rfl, tup_off R4.D htf o5, W, by omega, R4.off N hvc D5 o5⟩
      clear htf W wl R4
      rintro σ H5 hz_
      refine hideG fun Gz hGz => ?_
      obtain ⟨tf, ws, rfl, htf, W, wl, R5⟩ := hz_
      refine hGz ?_
      clear hGz Gz
      refine asg_cutN fun M0 hM0 => ?_
      refine ⟨_, rfl, _, rfl, _, rfl, _, rfl, d, c, p, hv, ys, m, rfl, R5.self, N, hvc, m1, by omega, fun to wo H6 hto Wo wlo R6' => hM0 _ _ ?_⟩
      clear hM0 M0
      have R6 := R5.off3 N R6'.D R6'.h R6'.o
      have htf6 := R5.tup htf R6'.o
      refine asg_cutN fun M0 hM0 => ?_
      refine ⟨_, rfl, d, c, 4, rfl, R6.D, by decide, by decide, fun q H7 q0 q1 D7 o7 => hM0 _ _ ?_⟩
      clear hM0 M0
      have R7 := R6.off N hvc D7 o7
      have htf7 := tup_off R6.D htf6 o7
      have hto7 := tup_off R6.D hto o7
      refine seq_joinA (fun σ H' => ∃ to wo, σ = [some (.ref d), some (.ref p), some (.ref hv), some (.int j), some (.int m), some (.ref tf), some (.int (0 + (i : Int))), some (.ref to), some (.int q), u9] ∧ H' to = some (.tup wo) ∧ ClaimW ys wo ∧ wo.length ≤ 2 + 2 * m ∧ (q ≠ 1 → wo.length ≤ 1 + 2 * m) ∧ H' tf = some (.tup ws) ∧ Dr d c p hv ys H H') (fun M _ _ _ hM => ?_) ?_
      · refine ⟨_, rfl, rfl, _, rfl, ite2 (fun hq => ?_) (fun hq => ?_)⟩
        · have hq1 : q = 1 := by
            have := of_decide_eq_true hq
            injection this
          refine ⟨by show 1 ≤ sizeLine; decide, fun g hg => ⟨_, rfl, ?_⟩⟩
          refine cat_read upd_same (same_upd hg _ _ hto7) (fun z => nomatch z) Wo.ne (by rw [List.length_singleton]; omega) fun tc H8 h8 s8 => hM _ _ ⟨tc, _, rfl, h8, Wo.never, ?_, (fun z => absurd hq1 z), s8 _ _ (same_upd hg _ _ htf7), (R7.same (same_upd hg)).same s8⟩
          rw [List.length_append, List.length_singleton]
          omega
        · exact hM _ _ ⟨to, wo, rfl, hto7, Wo, by omega, (fun _ => wlo), htf7, R7⟩
      clear hto Wo wlo hto7 htf7 R7
      rintro σ H8 hz_
      refine hideG fun Gz hGz => ?_
      obtain ⟨to, wo, rfl, hto8, Wo, wlo, wlo1, htf8, R8⟩ := hz_
      refine hGz ?_
      clear hGz Gz
      show tSeq (tIfS _ _ _) _ _ _ _
      refine seq_joinA (fun σ H' => ∃ to wo, σ = [some (.ref d), some (.ref p), some (.ref hv), some (.int j), some (.int m), some (.ref tf), some (.int (0 + (i : Int))), some (.ref to), some (.int q), u9] ∧ H' to = some (.tup wo) ∧ ClaimW ys wo ∧ wo.length ≤ 3 + 2 * m ∧ (q = 3 → wo.length ≤ 1 + 2 * m) ∧ H' tf = some (.tup ws) ∧ Dr d c p hv ys H H') (fun M _ _ _ hM => ?_) ?_
      · refine ⟨_, rfl, rfl, _, rfl, ite2 (fun hq => ?_) (fun hq => ?_)⟩
        · have hq2 : q = 2 := by
            have := of_decide_eq_true hq
            injection this
          have wl2 := wlo1 (by omega)
          refine ⟨_, rfl, d, c, rfl, R8.D, fun tj y H9 htj hy D9 o9 => ⟨_, rfl, ?_⟩⟩
          have R9 := R8.off N hvc D9 o9
          refine cat_read htj (tup_off R8.D hto8 o9) (fun z => nomatch z) Wo.ne (by rw [List.length_singleton]; omega) fun ta HA hA sA => ⟨by show 1 ≤ sizeLine; decide, fun g hg => ?_⟩
          refine cat_read (same_upd hg _ _ hA) upd_same (fun z => nomatch z) (fun z => nomatch z) (by rw [List.length_append, List.length_singleton, List.length_singleton]; omega) fun tb HB hB sB => hM _ _ ⟨tb, _, rfl, hB, Wo.join hy ClaimW.yes, ?_, (fun z => by omega), sB _ _ (same_upd hg _ _ (sA _ _ (tup_off R8.D htf8 o9))), ((R9.same sA).same (same_upd hg)).same sB⟩
          rw [List.length_append, List.length_append, List.length_singleton, List.length_singleton]
          omega
        · exact hM _ _ ⟨to, wo, rfl, hto8, Wo, by omega, (fun z => wlo1 (by omega)), htf8, R8⟩
      clear hto8 Wo wlo wlo1 htf8 R8
      rintro σ H8 hz_
      refine hideG fun Gz hGz => ?_
      obtain ⟨to, wo, rfl, hto8, Wo, wlo, wlo1, htf8, R8⟩ := hz_
      refine hGz ?_
      clear hGz Gz
      show tSeq (tIfS _ _ _) _ _ _ _
      refine seq_joinA (fun σ H' => ∃ to wo, σ = [some (.ref d), some (.ref p), some (.ref hv), some (.int j), some (.int m), some (.ref tf), some (.int (0 + (i : Int))), some (.ref to), some (.int q), u9] ∧ H' to = some (.tup wo) ∧ ClaimW ys wo ∧ wo.length ≤ 4 + 2 * m ∧ H' tf = some (.tup ws) ∧ Dr d c p hv ys H H') (fun M _ _ _ hM => ?_) ?_
      · refine ⟨_, rfl, rfl, _, rfl, ite2 (fun hq => ?_) (fun hq => ?_)⟩
        · have hq2 : q = 3 := by
            have := of_decide_eq_true hq
            injection this
          have wl2 := wlo1 hq2
          refine ⟨by show 1 ≤ sizeLine; decide, fun g hg => ⟨_, rfl, d, c, rfl, R8.D.same (same_upd hg), fun tj y H9 htj hy D9 o9 => ?_⟩⟩
          have R8g := R8.same (same_upd (o := .tup [.str "never"]) hg)
          have R9 := R8g.off N hvc D9 o9
          have hto9 := tup_off R8g.D (same_upd hg _ _ hto8) o9
          have htf9 := tup_off R8g.D (same_upd hg _ _ htf8) o9
          refine cat_read (tup_off R8g.D upd_same o9) htj (fun z => nomatch z) (fun z => nomatch z) (by show 2 ≤ 1000; decide) fun ta HA hA sA => ⟨by show 1 ≤ sizeLine; decide, fun g2 hg2 => ?_⟩
          refine cat_read (same_upd hg2 _ _ hA) upd_same (fun z => nomatch z) (fun z => nomatch z) (by show 3 ≤ 1000; decide) fun tb HB hB sB => ⟨_, rfl, ?_⟩
          have sAB := sA.trans ((same_upd hg2).trans sB)
          refine cat_read hB (sAB _ _ hto9) (fun z => nomatch z) Wo.ne (by show 3 + wo.length ≤ 1000; omega) fun te HE hE sE => hM _ _ ⟨te, _, rfl, hE, (ClaimW.join hy ClaimW.yes Wo).never, ?_, sE _ _ (sAB _ _ htf9), (R9.same sAB).same sE⟩
          rw [List.length_append]
          show 3 + wo.length ≤ _
          omega
        · exact hM _ _ ⟨to, wo, rfl, hto8, Wo, by omega, htf8, R8⟩
      clear hto8 Wo wlo wlo1 htf8 R8
      rintro σ H8 hz_
      refine hideG fun Gz hGz => ?_
      obtain ⟨to, wo, rfl, hto8, Wo, wlo, htf8, R8⟩ := hz_
      refine hGz ?_
      clear hGz Gz
      refine asg_cutN fun M0 hM0 => ?_
      refine ⟨_, rfl, d, c, rfl, R8.D, fun tj y H9 htj hy D9 o9 => hM0 _ _ ?_⟩
      clear hM0 M0
      have R9 := R8.off N hvc D9 o9
      have hto9 := tup_off R8.D hto8 o9
      have htf9 := tup_off R8.D htf8 o9
      refine asg_cutL fun M0 hM0 => ?_
      refine ⟨_, rfl, _, rfl, cat_read htj htf9 (fun z => nomatch z) W.ne (by rw [List.length_singleton]; omega) fun a1 HA hA sA => ⟨_, rfl, ?_⟩⟩
      refine cat_read hA (sA _ _ hto9) (fun z => nomatch z) Wo.ne (by rw [List.length_append, List.length_singleton]; omega) fun a2 HB hB sB => ?_
      have s2 := sA.trans sB
      refine ⟨_, rfl, _, rfl, cat_read (s2 _ _ htj) (s2 _ _ hto9) (fun z => nomatch z) Wo.ne (by rw [List.length_singleton]; omega) fun b1 HC hC sC => ⟨_, rfl, ?_⟩⟩
      refine cat_read hC (sC _ _ (s2 _ _ htf9)) (fun z => nomatch z) W.ne (by rw [List.length_append, List.length_singleton]; omega) fun b2 HE hE sE => ⟨by show 2 ≤ sizeLine; decide, fun l hl => ?_⟩
      have s4 := s2.trans (sC.trans sE)
      have R10 := (R9.same s4).same (same_upd (o := .lst [.ref a2, .ref b2]) hl)
      have ln := deck_ne (R9.same s4).D hl
      have ha2 := same_upd (o := .lst [.ref a2, .ref b2]) hl _ _ (sE _ _ (sC _ _ hB))
      have hb2 := same_upd (o := .lst [.ref a2, .ref b2]) hl _ _ hE
      refine ⟨_, rfl, d, c, 2, rfl, R10.D, by decide, by decide, fun q2 H11 q20 q21 D11 o11 => ?_⟩
      have R11 := R10.off N hvc D11 o11
      have hl11 := o11 _ _ upd_same ln.1 ln.2
      have hq2 : q2 = 0 ∨ q2 = 1 := by omega
      rcases hq2 with rfl | rfl
      · refine ⟨l, _, 0, .ref a2, rfl, rfl, SqL.of hl11, rfl, hM0 _ _ (hNx _ _ ⟨a2, _, some (.int (0 + (i : Int))), some (.ref to), some (.int q), some (.ref tj), rfl, tup_off R10.D ha2 o11, W.join hy Wo, ?_, hi, R11⟩)⟩
        rw [List.length_append, List.length_append, List.length_singleton, hS]
        omega
      · refine ⟨l, _, 1, .ref b2, rfl, rfl, SqL.of hl11, rfl, hM0 _ _ (hNx _ _ ⟨b2, _, some (.int (0 + (i : Int))), some (.ref to), some (.int q), some (.ref tj), rfl, tup_off R10.D hb2 o11, Wo.join hy W, ?_, hi, R11⟩)⟩
        rw [List.length_append, List.length_append, List.length_singleton, hS]
        omega
    · rintro σ H4 hz_
      refine hideG fun Gz hGz => ?_
      obtain ⟨tf, ws, u6, u7, u8, u9, rfl, htf, W, wl, _, R4⟩ := hz_
      refine hGz ?_
      clear hGz Gz
      rw [Int.toNat_natCast] at wl
      refine ⟨_, rfl, by show 1 ≤ sizeLine; decide, fun g hg => ⟨_, rfl, ?_⟩⟩
      refine cat_read upd_same (same_upd hg _ _ htf) (fun z => nomatch z) W.ne (by rw [List.length_singleton]; omega) fun tn H5 h5 s5 => ⟨by show 2 ≤ sizeLine; decide, fun l hl => ?_⟩
      have R5 := (R4.same (same_upd hg)).same s5
      have R6 := R5.same (same_upd (o := .lst [.ref tf, .ref tn]) hl)
      have ln := deck_ne R5.D hl
      have hn6 := same_upd (o := .lst [.ref tf, .ref tn]) hl _ _ h5
      have ht6 := same_upd (o := .lst [.ref tf, .ref tn]) hl _ _ (s5 _ _ (same_upd hg _ _ htf))
      refine ⟨_, rfl, d, c, 2, rfl, R6.D, by decide, by decide, fun q2 H7 q20 q21 D7 o7 => ?_⟩
      have R7 := R6.off N hvc D7 o7
      have hl7 := o7 _ _ upd_same ln.1 ln.2
      have hq2 : q2 = 0 ∨ q2 = 1 := by omega
      rcases hq2 with rfl | rfl
      · exact ⟨l, _, 0, .ref tf, rfl, rfl, SqL.of hl7, rfl, k tf ws H7 (tup_off R6.D ht6 o7) W (by omega) R7⟩
      · refine ⟨l, _, 1, .ref tn, rfl, rfl, SqL.of hl7, rfl, k tn _ H7 (tup_off R6.D hn6 o7) W.never ?_ R7⟩
        rw [List.length_append, List.length_singleton]
        omega
noncomputable def sp_read_claim (K : PySem.W.Frag) (C : Addr) : Sp := fun vs H Q E => ∃ (x : Str), vs = [.str x] ∧ x.length ≤ 600 ∧ Asc x ∧ (∀ ws p H', rdC (Txt.split x blank) = some ws → H p = none → H' p = some (.tup ws) → Same H H' → Q (.ref p) H') ∧ ∀ e H', rdC (Txt.split x blank) = none → Same H H' → H' e = none → E (.ref C) (some e) H'
theorem ok_read_claim (T : Txt K w mg t) (XB : Xcl K mg base t) : FnOk P w K mg base (CXO P w) 6 t.a_read_claim t.f_read_claim ["text"] (sp_read_claim K t.x_NoClaim) := by
  have G_sums_behind : FnOk P w K mg base CX0 1 t.a_sums_behind t.f_sums_behind ["word"] (sp_sums_behind K) := ok_sums_behind T XB
  have G_claims_behind : FnOk P w K mg base CX0 1 t.a_claims_behind t.f_claims_behind ["word"] (sp_claims_behind K) := ok_claims_behind T XB
  have G_word_read : FnOk P w K mg base (CXO P w) 5 t.a_word_read t.f_word_read ["part", "kind"] (sp_word_read K t.x_NoClaim) := ok_word_read T XB
  refine T.d_read_claim.F.okX sc_read_claim (fun vs H Q E h => ?_) (fun cdv A outer s H vs Q E hr h => ?_)
  · obtain ⟨x, rfl, hl, ha, k, ke⟩ := h
    rfl
  · obtain ⟨x, rfl, hl, ha, k, ke⟩ := h
    have hu := hu_of hr
    refine ⟨_, @QSs.out _ _ _ (qss_cons (qs_set (i := 1) sc_read_claim.nd rfl (Or.inl rfl) (qe_lst qa_nil))
        (qss_cons (qs_set (i := 2) sc_read_claim.nd rfl (Or.inl rfl) (qe_lst (qa_c qe_str qa_nil)))
        (qss_cons (qs_for PassesOwn.leaving rfl (qi_list (qe_bmF PySem.F.plainAttrs_str PySem.F.slot_str_split PySem.F.type_str_split mt_split (qv 0) (qa_c qe_str qa_nil))) (qg_name (i := 3) sc_read_claim.nd rfl (Or.inl rfl))
        (qss_cons (qs_if (qt_cmpR (op_eqLL (units_of hr)) (qv 2) (qe_lst qa_nil) (nomark _))
        (qss_one (qs_raise FnX.of.made rfl XB.o_NoClaim rfl (qa_c (qe_fsR (qv 3)) qa_nil))) qss_nil)
        (qss_cons (qs_set (i := 4) sc_read_claim.nd rfl (Or.inl rfl) (qe_callF G_word_read (hr.mono (by decide)) rfl T.d_word_read.m T.d_word_read.F.kp T.d_word_read.b .nil FnX.of.passes (qa_c (qv 3) (qa_c (qe_bm0 PySem.F.plainAttrs_list PySem.F.slot_list_pop PySem.F.type_list_pop mt_pop (qv 2)) qa_nil))))
        (qss_cons (qs_expr (qe_bmF PySem.F.plainAttrs_list PySem.F.slot_list_append PySem.F.type_list_append mt_append (qv 1) (qa_c (qv 4) qa_nil)))
        (qss_one (qs_expr (qe_bmF PySem.F.plainAttrs_list PySem.F.slot_list_extend PySem.F.type_list_extend mt_extend (qv 2) (qa_c (qe_op op_cat (qe_op op_rep (qe_lst (qa_c qe_str qa_nil)) (qe_callF G_sums_behind (hr.mono (by decide)) rfl T.d_sums_behind.m T.d_sums_behind.F.kp T.d_sums_behind.b .nil pass0 (qa_c (qv 4) qa_nil))) (qe_op op_rep (qe_lst (qa_c qe_str qa_nil)) (qe_callF G_claims_behind (hr.mono (by decide)) rfl T.d_claims_behind.m T.d_claims_behind.F.kp T.d_claims_behind.b .nil pass0 (qa_c (qv 4) qa_nil)))) qa_nil))))))))
        (qss_cons (qs_if (qt_cmpR (op_neLL (units_of hr)) (qv 2) (qe_lst qa_nil) (nomark _))
        (qss_one (qs_raise FnX.of.made rfl XB.o_NoClaim rfl (qa_c (qe_fsL (units_of hr) (qv 2)) qa_nil))) qss_nil)
        (qss_one (qs_ret (qe_callTF call_tuple_of (by rfl) T.z_tuple bt_tuple (qa_c (qv 1) qa_nil)))))))), ?_⟩
    clear hu
    have hpb : (Builtin.Str.partsBetween x (Builtin.Str.occurrences x blank 0 x.length (x.length + 1)) blank.length).length ≤ sizeLine := parts_short (by omega)
    have hfew := split_few x blank
    have hsub := split_sub x blank
    refine ⟨by show 0 ≤ sizeLine; decide, fun w hw => ⟨by show 1 ≤ sizeLine; decide, fun lk hlk => ?_⟩⟩
    refine ⟨_, rfl, rfl, x, blank, rfl, rfl, by decide +kernel, Nat.le_trans hl (by decide), hpb, Nat.le_trans hfew (Nat.le_trans (Nat.add_le_add_right hl 2) (by decide)), fun p hp => ?_⟩
    generalize Txt.split x blank = l at *
    have s1 := same_upd (o := .lst []) hw
    have s2 := s1.trans (same_upd (o := .lst [.str (kdS true)]) hlk)
    have s3 := s2.trans (same_upd (o := .lst (l.map V.str)) hp)
    have wlk : w ≠ lk := ne_of_none upd_same hlk
    have lkp : lk ≠ p := ne_of_none upd_same hp
    have wp : w ≠ p := ne_of_none (by rw [upd_ne wlk]; exact upd_same) hp
    have hlk0 : H lk = none := Same.free s1 hlk
    have flatK : ∀ ls : List Bool, (ls.map fun b => V.str (kdS b)).all flatV = true := fun ls => by
      rw [List.all_map]
      exact List.all_eq_true.mpr fun _ _ => rfl
    refine ⟨p, rfl, ⟨_, SqL.of upd_same⟩, ?_⟩
    refine for_listR (K := K) (a := p) (xs := l.map V.str) (fun i σ H2 => ∃ u3 u4 ls ws, runC (l.take i) = some (ls, ws) ∧ σ = [some (.str x), some (.ref w), some (.ref lk), u3, u4] ∧ H2 lk = some (.lst (ls.map fun b => V.str (kdS b))) ∧ H2 w = some (.lst ws) ∧ H2 p = some (.lst (l.map V.str)) ∧ Same H H2) ⟨none, none, [true], [], rfl, rfl, by rw [upd_ne lkp]; exact upd_same, by rw [upd_ne wp, upd_ne wlk]; exact upd_same, upd_same, s3⟩ (fun i σ H2 _ ⟨_, _, _, _, _, _, _, _, hp2, _⟩ => SqL.of hp2) ?_ ?_
    · rintro i v σ H2 hv hz_ Nx bx rx hNx _
      refine hideG fun Gz hGz => ?_
      obtain ⟨u3, u4, ls, ws, er, rfl, hlk2, h2, hp2, s4⟩ := hz_
      refine hGz ?_
      clear hGz Gz
      rw [List.getElem?_map] at hv
      obtain ⟨y, hy, rfl⟩ := Option.map_eq_some_iff.mp hv
      have hym := List.mem_of_getElem? hy
      have hi : i < l.length := (List.getElem?_eq_some_iff.mp hy).1
      obtain ⟨sb, sl⟩ := hsub y hym
      have ay : Asc y := fun c hc => ha c (sb c hc)
      have ly : y.length ≤ 600 := Nat.le_trans sl hl
      have hr := asc_repr ay
      have lq := runC_ok _ _ _ er
      have lw : ws.length ≤ 602 := by rw [lq.1, List.length_take]; omega
      have ll : ls.length ≤ 5419 := by have := lq.2.1; rw [List.length_take] at this; omega
      have nx : runC (l.take (i + 1)) = stepC (some (ls, ws)) y := by rw [take_snoc hy, runC_snoc, er]
      refine ⟨_, rfl, by show 0 ≤ sizeLine; decide, fun g hg => ⟨lk, g, _, [], rfl, rfl, SqL.of (same_upd hg _ _ hlk2), SqL.of upd_same, flatK ls, rfl, _, rfl, ?_⟩⟩
      show if (eqvs (ls.map fun b => V.str (kdS b)) []) = true then _ else _
      rw [eqvs_nil]
      have sg : Same H (upd H2 g (.lst [])) := s4.trans (same_upd hg)
      by_cases hls : ls = []
      · subst hls
        refine iteT ⟨_, rfl, y, rfl, ?_, by show 1 ≤ sizeLine; decide, fun e he => ke e _ (rdC_fail (i := i + 1) nx) sg he⟩
        have e1 : ("more words than the claim has: " : Str).length = 31 := by decide +kernel
        rw [e1]
        omega
      obtain ⟨l0, b, rfl⟩ := snoc_of hls
      rw [List.length_append, List.length_singleton] at ll
      rw [show ((l0 ++ [b]).map fun b => V.str (kdS b)).isEmpty = false by rw [List.map_append]; cases l0 <;> rfl]
      refine iteF ?_
      rw [List.map_append] at hlk2
      have hlkg : (upd H2 g (.lst [])) lk = some (.lst (l0.map (fun b => V.str (kdS b)) ++ [V.str (kdS b)])) := same_upd hg _ _ hlk2
      have hwg : (upd H2 g (.lst [])) w = some (.lst ws) := same_upd hg _ _ h2
      have hpg : (upd H2 g (.lst [])) p = some (.lst (l.map V.str)) := same_upd hg _ _ hp2
      generalize upd H2 g (.lst []) = Hg at *
      refine ⟨_, rfl, _, rfl, .inl ⟨rfl, _, SqL.of hlkg⟩, lk, _, .str (kdS b), rfl, rfl, hlkg, ?_, y, b, rfl, ly, ay, fun v H3 ev s5 => ?_, fun e H3 en s5 he => ke e H3 (rdC_fail (i := i + 1) (nx.trans (stepC_none en))) ((same_put sg hlk0).trans s5) he⟩
      · rw [List.length_append, show ([V.str (kdS b)] : List V).length = 1 from rfl, Nat.add_sub_cancel, List.getElem?_append_right (Nat.le_refl _), Nat.sub_self]
        rfl
      rw [List.dropLast_concat] at s5
      have kv := rdB_key ev
      have b1 := T1_bd (keyOf v)
      have b2 := T2_bd (keyOf v)
      have b3 := T3_bd (keyOf v)
      have hlk3 := s5 _ _ upd_same
      have hw3 := s5 w (.lst ws) (by rw [upd_ne wlk]; exact hwg)
      have hp3 := s5 p (.lst (l.map V.str)) (by rw [upd_ne lkp.symm]; exact hpg)
      have s03 : Same H H3 := (same_put sg hlk0).trans s5
      refine ⟨_, rfl, .inl ⟨rfl, _, SqL.of hw3⟩, _, rfl, w, _, _, rfl, rfl, hw3, small1000 (by omega), ?_⟩
      have hlk4 : (upd H3 w (.lst (ws ++ [v]))) lk = some (.lst (l0.map (fun b => V.str (kdS b)))) := by rw [upd_ne wlk.symm]; exact hlk3
      have hw4 : (upd H3 w (.lst (ws ++ [v]))) w = some (.lst (ws ++ [v])) := upd_same
      have hp4 : (upd H3 w (.lst (ws ++ [v]))) p = some (.lst (l.map V.str)) := by rw [upd_ne wp.symm]; exact hp3
      have s04 : Same H (upd H3 w (.lst (ws ++ [v]))) := same_put s03 hw
      generalize upd H3 w (.lst (ws ++ [v])) = H4 at *
      refine ⟨_, rfl, .inl ⟨rfl, _, SqL.of hlk4⟩, by show 1 ≤ sizeLine; decide, fun g1 hg1 => ⟨_, rfl, keyOf v, congrArg (fun x => [x]) kv, g1, _, [.str "sum"], rfl, rfl, upd_same, by omega, by omega, Nat.le_of_lt (small1000 (by rw [List.length_singleton]; omega)), fun r1 hr1 => ⟨by show 1 ≤ sizeLine; decide, fun g2 hg2 => ⟨_, rfl, keyOf v, congrArg (fun x => [x]) kv, g2, _, [.str "claim"], rfl, rfl, upd_same, by omega, by omega, Nat.le_of_lt (small1000 (by rw [List.length_singleton]; omega)), fun r2 hr2 => ⟨r1, r2, _, _, rfl, rfl, same_upd hr2 _ _ (same_upd hg2 _ _ upd_same), upd_same, ?_, fun r3 hr3 => ⟨lk, r3, l0.map (fun b => V.str (kdS b)), _, rfl, rfl, ?_, upd_same, ?_, ?_⟩⟩⟩⟩⟩⟩
      · rw [len_rep, len_rep, List.length_singleton, List.length_singleton]
        exact Nat.le_of_lt (small1000 (by omega))
      · exact same_upd hr3 _ _ (same_upd hr2 _ _ (same_upd hg2 _ _ (same_upd hr1 _ _ (same_upd hg1 _ _ hlk4))))
      · rw [List.length_append, len_rep, len_rep, List.length_singleton, List.length_singleton, List.length_map, sizeLine_eq]
        omega
      have s45 : Same H4 (upd (upd (upd (upd (upd H4 g1 (.lst [.str "sum"])) r1 (.lst (List.replicate (getN T1 (keyOf v) + getN T2 (keyOf v)).toNat [V.str "sum"]).flatten)) g2 (.lst [.str "claim"])) r2 (.lst (List.replicate (getN T3 (keyOf v)).toNat [V.str "claim"]).flatten)) r3 (.lst ((List.replicate (getN T1 (keyOf v) + getN T2 (keyOf v)).toNat [V.str "sum"]).flatten ++ (List.replicate (getN T3 (keyOf v)).toNat [V.str "claim"]).flatten))) :=
        ((((same_upd hg1).trans (same_upd hr1)).trans (same_upd hg2)).trans (same_upd hr2)).trans (same_upd hr3)
      refine hNx _ _ ⟨some (.str y), some v, l0 ++ nextK v, ws ++ [v], nx.trans (stepC_some ev), rfl, ?_, ?_, ?_, same_put (s04.trans s45) hlk0⟩
      · rw [upd_same, nextK_map]
      · rw [upd_ne wlk]
        exact s45 _ _ hw4
      · rw [upd_ne lkp.symm]
        exact s45 _ _ hp4
    · rintro σ H2 hz_
      refine hideG fun Gz hGz => ?_
      obtain ⟨u3, u4, ls, ws, er, rfl, hlk2, h2, hp2, s4⟩ := hz_
      refine hGz ?_
      clear hGz Gz
      rw [List.length_map, List.take_length] at er
      have lq := runC_ok _ _ _ er
      refine ⟨_, rfl, by show 0 ≤ sizeLine; decide, fun g hg => ⟨lk, g, _, [], rfl, rfl, SqL.of (same_upd hg _ _ hlk2), SqL.of upd_same, flatK ls, rfl, _, rfl, ?_⟩⟩
      have s5 := s4.trans (same_upd (o := .lst []) hg)
      show if (!eqvs (ls.map fun b => V.str (kdS b)) []) = true then _ else _
      rw [eqvs_nil]
      by_cases hls : ls = []
      · subst hls
        exact iteF ⟨_, rfl, w, _, rfl, .inl ⟨SqL.of (same_upd hg _ _ h2), fun tp htp => k ws tp _ (rdC_of er) (s5.free htp) upd_same (s5.trans (same_upd htp))⟩⟩
      · rw [show ((ls.map fun b => V.str (kdS b)).isEmpty) = false by cases ls with | nil => exact absurd rfl hls | cons b r => rfl]
        refine iteT ⟨_, rfl, lk, ls.map kdS, rfl, ?_, fun z => hls (List.map_eq_nil_iff.mp z), ?_, fun z hz => ?_, fun z => ⟨by show 1 ≤ sizeLine; decide, fun e he => ke e _ (rdC_no er hls) s5 he⟩⟩
        · rw [List.map_map]
          exact same_upd hg _ _ hlk2
        · rw [List.length_map]
          omega
        · obtain ⟨b, _, rfl⟩ := List.mem_map.mp hz
          exact kd_repr b
noncomputable def sp_law_right (K : PySem.W.Frag) : Sp := fun vs H Q _ => ∃ (x : Str), vs = [.str x] ∧ x.length ≤ 600 ∧ Asc x ∧ ∀ H', Same H H' → Q (.bl true) H'
theorem ok_law_right (T : Txt K w mg t) (XB : Xcl K mg base t) : FnOk P w K mg base CX0 7 t.a_law_right t.f_law_right ["text"] (sp_law_right K) := by
  have G_read_claim : FnOk P w K mg base (CXO P w) 6 t.a_read_claim t.f_read_claim ["text"] (sp_read_claim K t.x_NoClaim) := ok_read_claim T XB
  have G_law_many_names : FnOk P w K mg base CX0 2 t.a_law_many_names t.f_law_many_names ["words"] (sp_law_many_names K) := ok_law_many_names T XB
  have G_law_reading : FnOk P w K mg base CX0 3 t.a_law_reading t.f_law_reading ["text"] (sp_law_reading K) := ok_law_reading T XB
  refine T.d_law_right.F.ok sc_law_right (fun vs H Q E h => ?_) (fun cdv A outer s H vs Q E hr h => ?_)
  · obtain ⟨x, rfl, hl, ha, k⟩ := h
    rfl
  · obtain ⟨x, rfl, hl, ha, k⟩ := h
    have hu := hu_of hr
    refine ⟨_, @QSs.out _ _ _ (qss_cons (qs_set (i := 1) sc_law_right.nd rfl (Or.inl rfl) (qe_callF G_law_reading (hr.mono (by decide)) rfl T.d_law_reading.m T.d_law_reading.F.kp T.d_law_reading.b .nil pass0 (qa_c (qv 0) qa_nil)))
        (qss_cons (qs_if (qw_pt (qw_and (qt_cmpR op_notN (qv 1) qe_non (by with_unfolding_all rfl)) (qw_and1 (qt_val (qe_callF G_law_many_names (hr.mono (by decide)) rfl T.d_law_many_names.m T.d_law_many_names.F.kp T.d_law_many_names.b .nil pass0 (qa_c (qv 1) qa_nil))))))
        (qss_one (qs_ret qe_bl)) qss_nil)
        (qss_cons (qs_set (i := 2) sc_law_right.nd rfl (Or.inl rfl) qe_non)
        (qss_cons (qs_set (i := 3) sc_law_right.nd rfl (Or.inl rfl) qe_non)
        (qss_cons (qs_tryC (i := 2) (j := 4) rfl rfl rfl G_read_claim (hr.mono (by decide)) rfl T.d_read_claim.m T.d_read_claim.F.kp T.d_read_claim.b (fun _ => (qa_c (qv 0) qa_nil)) sc_law_right.nd rfl rfl rfl rfl rfl XB.o_WidthError (fun _ _ => (qss_one (qs_set (i := 3) sc_law_right.nd rfl (Or.inl rfl) (qv 4)))))
        (qss_cons (qs_if (qt_cmpR op_notN (qv 1) qe_non (by with_unfolding_all rfl))
        (qss_one (qs_ret (qe_and (qe_cmpR op_isN (qv 3) qe_non (by with_unfolding_all rfl)) (qe_one (qe_cmpR (op_eqT (units_of hr)) (qv 2) (qv 1) (nomark _)))))) qss_nil)
        (qss_cons (qs_if (qt_val (qe_callBF call_isX (by rfl) T.z_isinstance bt_isinstance (qa_c (qv 3) (qa_c (qe_tup (qa_c (qe_glob (v := .ref t.x_NoAsk) rfl XB.m_NoAsk rfl) (qa_c (qe_glob (v := .ref t.x_NoName) rfl XB.m_NoName rfl) (qa_c (qe_glob (v := .ref t.x_NoShorter) rfl XB.m_NoShorter rfl) (qa_c (qe_glob (v := .ref t.x_NoSum) rfl XB.m_NoSum rfl) (qa_c (qe_glob (v := .ref t.x_NoTurning) rfl XB.m_NoTurning rfl) (qa_c (qe_glob (v := .ref t.x_NoWords) rfl XB.m_NoWords rfl) qa_nil))))))) qa_nil))))
        (qss_one (qs_ret qe_bl)) qss_nil)
        (qss_one (qs_ret (qe_and (qe_callBF call_isX (by rfl) T.z_isinstance bt_isinstance (qa_c (qv 3) (qa_c (qe_glob (v := .ref t.x_NoClaim) rfl XB.m_NoClaim rfl) qa_nil))) (qe_one (qe_callBF call_isX (by rfl) T.z_isinstance bt_isinstance (qa_c (qv 3) (qa_c (qe_bltn (v := .ty "ValueError") (by rfl) T.z_ValueError bt_ValueError rfl) qa_nil)))))))))))))), ?_⟩
    clear hu hr
    refine ⟨_, rfl, x, rfl, hl, fun ws p H1 ew hp0 hp s1 => ?_, fun H1 en s1 => ?_⟩
    · obtain ⟨lw, _, kw⟩ := runC_ok _ _ _ (rdC_ok ew)
      have hfew := split_few x blank
      have kinds : ∀ w ∈ ws, (∃ y, w = .str y) ∨ ∃ z, w = .int z := fun w hw => by
        obtain ⟨b, y, _, hy⟩ := kw w hw
        rcases rdB_kind hy with h | h
        · exact .inl ⟨y, h⟩
        · exact .inr ⟨_, h⟩
      refine ⟨_, rfl, rfl, _, rfl, ?_⟩
      refine iteT ⟨_, rfl, p, ws, rfl, hp, kinds, by omega, fun b H2 s2 => ⟨_, rfl, ?_⟩⟩
      cases b with
      | true => exact iteT (k H2 (s1.trans s2))
      | false =>
        refine iteF ⟨_, rfl, x, rfl, hl, ha, fun ws' p' H3 ew' hp0' hp' s3 => ?_, fun e H3 en' s3 he => ?_⟩
        · rw [ew] at ew'
          cases ew'
          have s13 := s1.trans (s2.trans s3)
          refine ⟨_, rfl, rfl, _, rfl, iteT ⟨_, rfl, rfl, _, rfl, iteT ⟨_, rfl, _, rfl, p', p, ws, rfl, rfl, SqT.of hp', SqT.of ((s2.trans s3) _ _ hp), flat_kinds kinds, k _ s13⟩⟩⟩
        · rw [ew] at en'
          cases en'
    · refine ⟨_, rfl, rfl, _, rfl, iteF (iteF ?_)⟩
      refine ⟨_, rfl, x, rfl, hl, ha, fun ws' p' H3 ew' hp0' hp' s3 => ?_, fun e H3 en' s3 he => ?_⟩
      · rw [en] at ew'
        cases ew'
      have s4 := same_upd (o := .ext (ExcOf t.x_NoClaim e)) he
      refine ⟨t.x_NoClaim, e, rfl, rfl, XB.b_NoClaim, _, rfl, ?_⟩
      refine ⟨_, rfl, rfl, _, rfl, iteF ?_⟩
      refine ⟨_, rfl, by show 6 ≤ sizeLine; decide, fun tp htp => ?_⟩
      have s5 := same_upd (o := .tup [.ref t.x_NoAsk, .ref t.x_NoName, .ref t.x_NoShorter, .ref t.x_NoSum, .ref t.x_NoTurning, .ref t.x_NoWords]) htp
      have he5 := s5 _ _ (upd_same (H := H3) (a := e) (o := .ext (ExcOf t.x_NoClaim e)))
      refine ⟨_, _, .ref t.x_NoClaim, false, rfl, .exc he5 XB.c_NoClaim, .inr (.inr ⟨tp, [t.x_NoAsk, t.x_NoName, t.x_NoShorter, t.x_NoSum, t.x_NoTurning, t.x_NoWords], rfl, upd_same, XB.q_not⟩), _, rfl, iteF ?_⟩
      refine ⟨_, rfl, _, _, .ref t.x_NoClaim, true, rfl, .exc he5 XB.c_NoClaim, .inr (.inl ⟨t.x_NoClaim, rfl, kit_self⟩), _, rfl, iteT ?_⟩
      exact ⟨_, rfl, _, _, .ref t.x_NoClaim, true, rfl, .exc he5 XB.c_NoClaim, .inl ⟨"ValueError", rfl, XB.q_val⟩, k _ ((s1.trans s3).trans (s4.trans s5))⟩
noncomputable def sp_law (K : PySem.W.Frag) : Sp := fun vs H Q _ => ∃ (a : Addr) (ns : List Int), vs = [.ref a] ∧ SqL K H a (ns.map V.int) ∧ ns.length ≤ 63 ∧ ∀ H', Q (.bl true) H'
theorem ok_law (T : Txt K w mg t) (XB : Xcl K mg base t) : FnOk P w K mg base CX0 8 t.a_law t.f_law ["script"] (sp_law K) := by
  have G_NoName_init : FnOk P w K mg base CX0 1 t.a_NoName_init t.f_NoName_init ["self", "word"] (sp_NoName_init K t.x_NoName) := ok_NoName_init T XB
  have G_law_right : FnOk P w K mg base CX0 7 t.a_law_right t.f_law_right ["text"] (sp_law_right K) := ok_law_right T XB
  have G_law_sum : FnOk P w K mg base CX0 3 t.a_law_sum t.f_law_sum ["deck", "names", "most", "heavy"] (sp_law_sum K) := ok_law_sum T XB
  have G_law_spoilt : FnOk P w K mg base CX0 2 t.a_law_spoilt t.f_law_spoilt ["deck", "words"] (sp_law_spoilt K) := ok_law_spoilt T XB
  have G_law_claim : FnOk P w K mg base CX0 5 t.a_law_claim t.f_law_claim ["deck", "names", "heavy"] (sp_law_claim K) := ok_law_claim T XB
  have G_law_names : FnOk P w K mg base CX0 2 t.a_law_names t.f_law_names ["deck"] (sp_law_names K) := ok_law_names T XB
  have G_law_deck : FnOk P w K mg base CX0 1 t.a_law_deck t.f_law_deck ["script"] (sp_law_deck K) := ok_law_deck T XB
  refine T.d_law.F.ok sc_law (fun vs H Q E h => ?_) (fun cdv A outer s H vs Q E hr h => ?_)
  · obtain ⟨a, ns, rfl, hS, hl, k⟩ := h
    rfl
  · obtain ⟨a, ns, rfl, hS, hl, k⟩ := h
    have hu := hu_of hr
    refine ⟨_, @QSs.out _ _ _ (qss_cons (qs_set (i := 1) sc_law.nd rfl (Or.inl rfl) (qe_callF G_law_deck (hr.mono (by decide)) rfl T.d_law_deck.m T.d_law_deck.F.kp T.d_law_deck.b .nil pass0 (qa_c (qv 0) qa_nil)))
        (qss_cons (qs_set (i := 2) sc_law.nd rfl (Or.inl rfl) (qe_callF G_law_names (hr.mono (by decide)) rfl T.d_law_names.m T.d_law_names.F.kp T.d_law_names.b .nil pass0 (qa_c (qv 1) qa_nil)))
        (qss_cons (qs_for PassesOwn.never rfl (qi_rangeF rfl T.z_range (qa_c qe_int qa_nil)) (qg_name (i := 3) sc_law.nd rfl (Or.inl rfl))
        (qss_cons (qs_setC (i := 4) sc_law.nd rfl rfl (⟨by rfl, by decide +kernel, by decide +kernel, by rfl, by decide +kernel, by decide +kernel, by rfl, by decide +kernel⟩ : CompSc (defScope s_law) _ ["script", "deck", "names", "k", "words", "turn", "text", "odd"] "word" [] []) (qi_tup (qe_callF G_law_claim (hr.mono (by decide)) rfl T.d_law_claim.m T.d_law_claim.F.kp T.d_law_claim.b .nil pass0 (qa_c (qv 1) (qa_c (qv 2) (qa_c (qe_lst (qa_c qe_int qa_nil)) qa_nil))))) (fun _ _ _ _ => qf_nil) (fun _ _ _ _ => (qe_callTF call_strV (by rfl) T.z_str bt_str (qa_c (qv 0) qa_nil))))
        (qss_cons (qs_for PassesOwn.never rfl (qi_rangeF rfl T.z_range (qa_c qe_int qa_nil)) (qg_name (i := 5) sc_law.nd rfl (Or.inl rfl))
        (qss_cons (qs_set (i := 6) sc_law.nd rfl (Or.inl rfl) (qe_bmF PySem.F.plainAttrs_str PySem.F.slot_str_join PySem.F.type_str_join mt_join qe_str (qa_c (qv 4) qa_nil)))
        (qss_cons (qs_if (qw_pt (qw_or (qt_not (qt_val (qe_callF G_law_right (hr.mono (by decide)) rfl T.d_law_right.m T.d_law_right.F.kp T.d_law_right.b .nil pass0 (qa_c (qv 6) qa_nil)))) (qw_or1 (qt_not (qt_val (qe_callF G_law_right (hr.mono (by decide)) rfl T.d_law_right.m T.d_law_right.F.kp T.d_law_right.b .nil pass0 (qa_c (qv 6) qa_nil)))))))
        (qss_one (qs_ret qe_bl)) qss_nil)
        (qss_one (qs_set (i := 4) sc_law.nd rfl (Or.inl rfl) (qe_callF G_law_spoilt (hr.mono (by decide)) rfl T.d_law_spoilt.m T.d_law_spoilt.F.kp T.d_law_spoilt.b .nil pass0 (qa_c (qv 1) (qa_c (qv 4) qa_nil))))))))
        (qss_cons (qs_for PassesOwn.never rfl (qi_list (qe_lst (qa_firstS op_add_str (qv 6) (qap_c (qe_op op_add_str (qv 6) qe_str) (qap_p (qep_repl1 (qv 6)) (qap_c qe_str (qap_c (qe_op op_add_str (qv 6) qe_str) (qap_p (qep_repl1 (qv 6)) (qap_of qa_nil))))))))) (qg_name (i := 7) sc_law.nd rfl (Or.inl rfl))
        (qss_one (qs_if (qt_not (qt_val (qe_callF G_law_right (hr.mono (by decide)) rfl T.d_law_right.m T.d_law_right.F.kp T.d_law_right.b .nil pass0 (qa_c (qv 7) qa_nil))))
        (qss_one (qs_ret qe_bl)) qss_nil)))
        (qss_cons (qs_for PassesOwn.never rfl (qi_list (qe_lst (qa_c (qe_op op_add_str (qv 6) qe_str) (qa_c (qe_op op_add_str qe_str (qv 6)) (qa_c (qe_op op_add_str (qv 6) qe_str) (qa_c qe_str (qa_c qe_str qa_nil))))))) (qg_name (i := 7) sc_law.nd rfl (Or.inl rfl))
        (qss_one (qs_if (qt_not (qt_val (qe_callF G_law_right (hr.mono (by decide)) rfl T.d_law_right.m T.d_law_right.F.kp T.d_law_right.b .nil pass0 (qa_c (qv 7) qa_nil))))
        (qss_one (qs_ret qe_bl)) qss_nil)))
        (qss_one (qs_if (qt_not (qt_val (qe_callF G_law_right (hr.mono (by decide)) rfl T.d_law_right.m T.d_law_right.F.kp T.d_law_right.b .nil pass0 (qa_c (qe_bmF PySem.F.plainAttrs_str PySem.F.slot_str_join PySem.F.type_str_join mt_join qe_str (qa_c (qe_comp (⟨by rfl, by decide +kernel, by decide +kernel, by rfl, by decide +kernel, by decide +kernel, by rfl, by decide +kernel⟩ : CompSc (defScope s_law) _ ["script", "deck", "names", "k", "words", "turn", "text", "odd"] "word" [] []) (qi_tup (qe_callF G_law_sum (hr.mono (by decide)) rfl T.d_law_sum.m T.d_law_sum.F.kp T.d_law_sum.b .nil pass0 (qa_c (qv 1) (qa_c (qv 2) (qa_c qe_int (qa_c (qe_lst (qa_c qe_int qa_nil)) qa_nil)))))) (fun _ _ _ _ => qf_nil) (fun _ _ _ _ => (qe_callTF call_strV (by rfl) T.z_str bt_str (qa_c (qv 0) qa_nil)))) qa_nil)) qa_nil))))
        (qss_one (qs_ret qe_bl)) qss_nil)))))))
        (qss_one (qs_ret (qe_and (qe_cmpR op_eq (qe_xget (qe_xmake rfl XB.mk_NoName G_NoName_init (hr.mono (by decide)) rfl XB.m_NoName T.d_NoName_init.b (qa_c qe_str qa_nil)) rfl) qe_str (nomark _)) (qe_one (qe_callBF call_isX (by rfl) T.z_isinstance bt_isinstance (qa_c (qe_xnew rfl rfl XB.o_NoClaim XB.kp_NoClaim (qa_c qe_str qa_nil)) (qa_c (qe_glob (v := .ref t.x_WidthError) rfl XB.m_WidthError rfl) qa_nil)))))))))), ?_⟩
    clear hu hr
    refine ⟨_, rfl, a, ns, rfl, hS, hl, fun d c H1 hd hc D1 s1 => ?_⟩
    refine ⟨_, rfl, d, c, rfl, D1, fun p ys H2 hp0 hp N D2 o2 => ?_⟩
    have pn := deck_strs D2 hp N.l1
    refine ⟨4, rfl, by decide, by decide, for_rangeA (n := 4) (fun i σ H' => ∃ u3 u4 u5 u6 u7, σ = [some (.ref a), some (.ref d), some (.ref p), u3, u4, u5, u6, u7] ∧ H' p = some (.lst (ys.map V.str)) ∧ DeckAt H' d c) ⟨none, none, none, none, none, rfl, hp, D2⟩ ?_ ?_⟩
    · rintro i σ H3 hi hz_ Nx bx rx hNx
      refine hideG fun Gz hGz => ?_
      obtain ⟨u3, u4, u5, u6, u7, rfl, hp3, D3⟩ := hz_
      refine hGz ?_
      clear hGz Gz
      refine ⟨_, rfl, _, rfl, by show 1 ≤ sizeLine; decide, fun hv hhv => ?_⟩
      have sv := same_upd (o := .lst [.int 3]) hhv
      have hvc := (deck_ne D3 hhv).2
      refine ⟨d, c, p, hv, ys, rfl, ⟨D3.same sv, sv _ _ hp3, ⟨3, upd_same⟩, fun _ _ e _ _ _ => e⟩, N, hvc, fun tw ws H4 ht4 W wl R4 => ?_⟩
      refine ⟨tw, rfl, ⟨_, SqT.of ht4⟩, comp_tmap (xs := ws) (fun w => .str (shw w)) (SqT.of ht4) (Nat.le_of_lt (small1000 (by omega))) (fun x hx R hR => ⟨_, rfl, cshw_read (W.words x hx) hR⟩) (fun l hl => ?_)⟩
      have e5 : (ws.map fun w => V.str (shw w)) = (ws.map shw).map V.str := by rw [List.map_map]; rfl
      rw [e5]
      have s5 := same_upd (o := .lst ((ws.map shw).map V.str)) hl
      have wn : 1 ≤ ws.length := by
        cases ws with
        | nil => exact absurd rfl W.ne
        | cons w r => exact Nat.succ_le_succ (Nat.zero_le _)
      refine ⟨3, rfl, by omega, by omega, for_rangeA (fun i σ H' => ∃ (q : Addr) (zs : List Str) (u3 u5 u6 u7 : Option V), σ = [some (.ref a), some (.ref d), some (.ref p), u3, some (.ref q), u5, u6, u7] ∧ H' q = some (.lst (zs.map V.str)) ∧ WsOk zs ∧ 1 ≤ zs.length ∧ zs.length ≤ 40 + i ∧ (i ≠ 0 → ∃ x : Str, u6 = some (.str x) ∧ x.length ≤ 440 ∧ Asc x) ∧ H' p = some (.lst (ys.map V.str)) ∧ DeckAt H' d c) ⟨l, ws.map shw, _, _, _, _, rfl, upd_same, cshw_ws N W.words, by rw [List.length_map]; exact wn, by rw [List.length_map]; omega, fun z => absurd rfl z, s5 _ _ R4.p, R4.D.same s5⟩ ?_ ?_⟩
      · rintro i σ H5 hi hz_ Ny by_ ry hNy
        refine hideG fun Gz hGz => ?_
        obtain ⟨q, zs, u3, u5, u6, u7, rfl, hq, ok, z1, z2, _, hp5, D5⟩ := hz_
        refine hGz ?_
        clear hGz Gz
        clear hNx Nx bx rx
        obtain ⟨tl, ta⟩ := text_ok ok (by omega)
        have qn := deck_strs D5 hq z1
        refine ⟨rfl, _, rfl, _, q, zs, rfl, rfl, SqL.of hq, text_size ok (by omega), ?_⟩
        refine ⟨_, rfl, _, rfl, Nat.le_trans tl (by decide), ta, fun H6 s6 => ⟨_, rfl, iteF ⟨_, rfl, _, rfl, Nat.le_trans tl (by decide), ta, fun H7 s7 => ⟨_, rfl, iteF ?_⟩⟩⟩⟩
        have s67 := s6.trans s7
        refine ⟨_, rfl, _, rfl, d, c, q, zs, rfl, D5.same s67, s67 _ _ hq, ok, z1, by omega, fun q2 zs2 H8 hq0 hq2 ok2 y1 y2 D8 o8 => ?_⟩
        exact hNy _ _ ⟨q2, zs2, _, _, _, _, rfl, hq2, ok2, y1, by omega, fun _ => ⟨_, rfl, Nat.le_trans tl (by decide), ta⟩, o8 _ _ (s67 _ _ hp5) pn.1 pn.2, D8⟩
      · rintro σ H5 hz_
        refine hideG fun Gz hGz => ?_
        obtain ⟨q, zs, u3, u5, u6, u7, rfl, hq, ok, z1, z2, hx, hp5, D5⟩ := hz_
        refine hGz ?_
        clear hGz Gz
        obtain ⟨x, rfl, xl, xa⟩ := hx (by decide)
        have b1 : blank.length = 1 := by decide +kernel
        have L : ∀ y : Str, y ∈ (["  ", "", " 1", "\n", " \n", "0\n", "yes\n"] : List Str) → y.length ≤ 4 := fun y hy => (lit_ok y hy).1
        have big : ∀ {u v : Nat}, u ≤ 440 → v ≤ 440 → u + v ≤ sizeLine := fun h1 h2 => Nat.le_trans (Nat.add_le_add h1 h2) (by decide)
        have R1 := repl_ok (z := "  ") xl xa (lit_ok _ (by simp))
        have R2 := repl_ok (z := "\n") xl xa (lit_ok _ (by simp))
        have L1 := L "  " (by simp)
        have L2 := L " 1" (by simp)
        have L3 := L "\n" (by simp)
        have L4 := L " \n" (by simp)
        refine ⟨_, rfl, blank, x, rfl, rfl, big (by rw [b1]; decide) xl, _, rfl, x, blank, rfl, rfl, big xl (by rw [b1]; decide), _, rfl, x, rfl, by omega, Nat.le_trans R1.1 (by decide), _, rfl, _, _, rfl, rfl, big xl (by omega), _, rfl, x, rfl, by omega, Nat.le_trans R2.1 (by decide), by show 6 ≤ sizeLine; decide, fun g2 hg2 => ?_⟩
        have s6 := same_upd (o := .lst ((os1 x).map V.str)) hg2
        refine ⟨g2, rfl, ⟨_, SqL.of upd_same⟩, for_listR (K := K) (a := g2) (xs := (os1 x).map V.str) (fun i σ H' => ∃ u7 : Option V, σ = [some (.ref a), some (.ref d), some (.ref p), u3, some (.ref q), u5, some (.str x), u7] ∧ H' p = some (.lst (ys.map V.str)) ∧ H' g2 = some (.lst ((os1 x).map V.str)) ∧ DeckAt H' d c) ⟨_, rfl, s6 _ _ hp5, upd_same, D5.same s6⟩ (fun i σ H' _ ⟨_, _, _, e, _⟩ => SqL.of e) ?_ ?_⟩
        · rintro i v σ H6 hv hz_ Ny by_ ry hNy _
          refine hideG fun Gz hGz => ?_
          obtain ⟨u7, rfl, hp6, h26, D6⟩ := hz_
          refine hGz ?_
          clear hGz Gz
          obtain ⟨y, hy, rfl⟩ := List.mem_map.mp (List.mem_of_getElem? hv)
          have oy := os1_ok xl xa y hy
          exact ⟨_, rfl, y, rfl, oy.1, oy.2, fun H7 s7 => ⟨_, rfl, iteF (hNy _ _ ⟨_, rfl, s7 _ _ hp6, s7 _ _ h26, D6.same s7⟩)⟩⟩
        · rintro σ H6 hz_
          refine hideG fun Gz hGz => ?_
          obtain ⟨u7, rfl, hp6, h26, D6⟩ := hz_
          refine hGz ?_
          clear hGz Gz
          refine ⟨_, rfl, x, _, rfl, rfl, big xl (by omega), _, rfl, _, x, rfl, rfl, big (by omega) xl, _, rfl, x, _, rfl, rfl, big xl (by omega), by show 5 ≤ sizeLine; decide, fun g3 hg3 => ?_⟩
          have s7 := same_upd (o := .lst ((os2 x).map V.str)) hg3
          refine ⟨g3, rfl, ⟨_, SqL.of upd_same⟩, for_listR (K := K) (a := g3) (xs := (os2 x).map V.str) (fun i σ H' => ∃ u7 : Option V, σ = [some (.ref a), some (.ref d), some (.ref p), u3, some (.ref q), u5, some (.str x), u7] ∧ H' p = some (.lst (ys.map V.str)) ∧ H' g3 = some (.lst ((os2 x).map V.str)) ∧ DeckAt H' d c) ⟨_, rfl, s7 _ _ hp6, upd_same, D6.same s7⟩ (fun i σ H' _ ⟨_, _, _, e, _⟩ => SqL.of e) ?_ ?_⟩
          · rintro i v σ H8 hv hz_ Ny by_ ry hNy _
            refine hideG fun Gz hGz => ?_
            obtain ⟨u7, rfl, hp8, h28, D8⟩ := hz_
            refine hGz ?_
            clear hGz Gz
            obtain ⟨y, hy, rfl⟩ := List.mem_map.mp (List.mem_of_getElem? hv)
            have oy := os2_ok xl xa y hy
            exact ⟨_, rfl, y, rfl, oy.1, oy.2, fun H9 s9 => ⟨_, rfl, iteF (hNy _ _ ⟨_, rfl, s9 _ _ hp8, s9 _ _ h28, D8.same s9⟩)⟩⟩
          · rintro σ H8 hz_
            refine hideG fun Gz hGz => ?_
            obtain ⟨u7, rfl, hp8, h28, D8⟩ := hz_
            refine hGz ?_
            clear hGz Gz
            refine ⟨rfl, _, rfl, _, rfl, by show 1 ≤ sizeLine; decide, fun hw hhw => ?_⟩
            refine ⟨d, c, p, hw, ys, 9, 5, rfl, D8.same (same_upd hhw), same_upd hhw _ _ hp8, N, upd_same, (deck_ne D8 hhw).2, by decide, by decide, fun tv wv H9 htv ht9 W9 wl9 D9 o9 _ => ?_⟩
            have hp9 := o9 _ _ (same_upd hhw _ _ hp8) pn.1 pn.2 (ne_of_none hp8 hhw)
            refine ⟨tv, rfl, ⟨_, SqT.of ht9⟩, comp_tmap (xs := wv) (fun w => .str (shw w)) (SqT.of ht9) (Nat.le_of_lt (small1000 (by omega))) (fun x hx R hR => ⟨_, rfl, shw_read (W9.ok x hx) hR⟩) (fun l2 hl2 => ?_)⟩
            have e6 : (wv.map fun w => V.str (shw w)) = (wv.map shw).map V.str := by rw [List.map_map]; rfl
            rw [e6]
            have s9 := same_upd (o := .lst ((wv.map shw).map V.str)) hl2
            have ok9 := shw_ws N W9.ok
            obtain ⟨tl, ta⟩ := text_ok ok9 (by rw [List.length_map]; omega)
            refine ⟨_, l2, wv.map shw, rfl, rfl, SqL.of upd_same, text_size ok9 (by rw [List.length_map]; omega), _, rfl, Nat.le_trans tl (by decide), ta, fun HA sA => ⟨_, rfl, iteF ?_⟩⟩
            exact hNx _ _ ⟨_, _, _, _, _, rfl, sA _ _ (s9 _ _ hp9), (D9.same s9).same sA⟩
    · rintro σ H3 hz_
      refine hideG fun Gz hGz => ?_
      obtain ⟨u3, u4, u5, u6, u7, rfl, hp3, D3⟩ := hz_
      refine hGz ?_
      clear hGz Gz
      refine ⟨by show 1 ≤ sizeLine; decide, fun e he => ⟨e, _, rfl, upd_same, fun dd hdd ne => ⟨rfl, e, _, dd, _, _, rfl, upd_same, by rw [upd_ne ne]; exact upd_same, XB.at_NoName, rfl, rfl, _, rfl, ?_⟩⟩⟩
      rw [decide_eq_true (rfl : V.str ("yesx" : Str) = V.str ("yesx" : Str))]
      refine iteT ?_
      refine ⟨by show 1 ≤ sizeLine; decide, fun e2 he2 => ⟨_, _, .ref t.x_NoClaim, true, rfl, .exc upd_same XB.c_NoClaim, .inr (.inl ⟨t.x_WidthError, rfl, XB.q_wid⟩), k _⟩⟩
end
theorem all_mk {l : PySem.W.OpenLaw} {w : World} {K : PySem.W.Frag} {h : Heap} {mg : Str → Option Value} {fa : Addr} {f0 f1 f2 f3 f4 f5 f6 f7 f8 f9 f10 f11 f12 f13 f14 f15 f16 f17 f18 f19 f20 f21 f22 f23 f24 f25 f26 f27 : Addr} (X : K.In h) (G : h.Ns mainGlobals mg) (hfa : mg "law" = some (.ref fa))
    {od0 an0 od1 an1 od2 an2 od3 an3 od4 an4 od5 an5 od6 an6 od7 an7 od8 an8 od9 an9 od10 an10 od11 an11 od12 an12 od13 an13 od14 an14 od15 an15 od16 an16 od17 an17 od18 an18 od19 an19 od20 an20 od21 an21 od22 an22 od23 an23 od24 an24 od25 an25 od26 an26 od27 an27 : Option Addr} {sl0 sl1 sl2 sl3 sl4 sl5 sl6 sl7 sl8 sl9 sl10 sl11 sl12 sl13 sl14 sl15 sl16 sl17 sl18 sl19 sl20 sl21 sl22 sl23 sl24 sl25 sl26 sl27 : Array (Option Value)} {oc0 kV0 dc0 pm0 cd0 ct0 oc1 kV1 dc1 pm1 cd1 ct1 oc2 kV2 dc2 pm2 cd2 ct2 oc3 kV3 dc3 pm3 cd3 ct3 oc4 kV4 dc4 pm4 cd4 ct4 oc5 kV5 dc5 pm5 cd5 ct5 oc6 kV6 dc6 pm6 cd6 ct6 oc7 kV7 dc7 pm7 cd7 ct7 oc8 kV8 dc8 pm8 cd8 ct8 oc9 kV9 dc9 pm9 cd9 ct9 oc10 kV10 dc10 pm10 cd10 ct10 oc11 kV11 dc11 pm11 cd11 ct11 oc12 kV12 dc12 pm12 cd12 ct12 oc13 kV13 dc13 pm13 cd13 ct13 oc14 kV14 dc14 pm14 cd14 ct14 oc15 kV15 dc15 pm15 cd15 ct15 oc16 kV16 dc16 pm16 cd16 ct16 oc17 kV17 dc17 pm17 cd17 ct17 oc18 kV18 dc18 pm18 cd18 ct18 oc19 kV19 dc19 pm19 cd19 ct19 oc20 kV20 dc20 pm20 cd20 ct20 oc21 kV21 dc21 pm21 cd21 ct21 oc22 kV22 dc22 pm22 cd22 ct22 oc23 kV23 dc23 pm23 cd23 ct23 oc24 kV24 dc24 pm24 cd24 ct24 oc25 kV25 dc25 pm25 cd25 ct25 oc26 kV26 dc26 pm26 cd26 ct26 oc27 kV27 dc27 pm27 cd27 ct27 : Value}
    {XWidthError : Addr} (xa_WidthError : PySem.W.nsIn K mainGlobals "WidthError" = some (some (.ref XWidthError)))
    {XNoSum : Addr} (xa_NoSum : PySem.W.nsIn K mainGlobals "NoSum" = some (some (.ref XNoSum)))
    {XNoClaim : Addr} (xa_NoClaim : PySem.W.nsIn K mainGlobals "NoClaim" = some (some (.ref XNoClaim)))
    {XNoWords : Addr} (xa_NoWords : PySem.W.nsIn K mainGlobals "NoWords" = some (some (.ref XNoWords)))
    {XNoTurning : Addr} (xa_NoTurning : PySem.W.nsIn K mainGlobals "NoTurning" = some (some (.ref XNoTurning)))
    {XNoShorter : Addr} (xa_NoShorter : PySem.W.nsIn K mainGlobals "NoShorter" = some (some (.ref XNoShorter)))
    {XNoAsk : Addr} (xa_NoAsk : PySem.W.nsIn K mainGlobals "NoAsk" = some (some (.ref XNoAsk)))
    {XNoName : Addr} (xa_NoName : PySem.W.nsIn K mainGlobals "NoName" = some (some (.ref XNoName)))
    (xe_WidthError : excNo K XWidthError = true) (xk_WidthError : PySem.W.keepIn K (.ref XWidthError) = true)
    (xe_NoSum : excNo K XNoSum = true) (xk_NoSum : PySem.W.keepIn K (.ref XNoSum) = true)
    (xe_NoClaim : excNo K XNoClaim = true) (xk_NoClaim : PySem.W.keepIn K (.ref XNoClaim) = true)
    (xe_NoWords : excNo K XNoWords = true) (xk_NoWords : PySem.W.keepIn K (.ref XNoWords) = true)
    (xe_NoTurning : excNo K XNoTurning = true) (xk_NoTurning : PySem.W.keepIn K (.ref XNoTurning) = true)
    (xe_NoShorter : excNo K XNoShorter = true) (xk_NoShorter : PySem.W.keepIn K (.ref XNoShorter) = true)
    (xe_NoAsk : excNo K XNoAsk = true) (xk_NoAsk : PySem.W.keepIn K (.ref XNoAsk) = true)
    (xb_NoSum : belowIn K XNoSum XWidthError = true)
    (xb_NoClaim : belowIn K XNoClaim XWidthError = true)
    (xb_NoWords : belowIn K XNoWords XWidthError = true)
    (xb_NoTurning : belowIn K XNoTurning XWidthError = true)
    (xb_NoShorter : belowIn K XNoShorter XWidthError = true)
    (xb_NoAsk : belowIn K XNoAsk XWidthError = true)
    (xb_NoName : belowIn K XNoName XWidthError = true)
    (xc_WidthError : cl3In K XWidthError = true)
    (xc_NoSum : cl3In K XNoSum = true)
    (xc_NoClaim : cl3In K XNoClaim = true)
    (xc_NoWords : cl3In K XNoWords = true)
    (xc_NoTurning : cl3In K XNoTurning = true)
    (xc_NoShorter : cl3In K XNoShorter = true)
    (xc_NoAsk : cl3In K XNoAsk = true)
    (xc_NoName : cl3In K XNoName = true)
    (a0 : PySem.W.nsIn K mainGlobals "is_sum_word" = some (some (.ref f0))) (l0 : K.lookup f0 = some ⟨oc0, od0, .func (PySem.W.fnOf "is_sum_word" "is_sum_word" (defArgs s_is_sum_word) (defBody s_is_sum_word) (defScope s_is_sum_word) .none kV0 dc0 pm0 an0 cd0 ct0), sl0⟩) (c0 : PySem.W.codeIn K cd0 "is_sum_word" = true) (k0 : PySem.W.keepIn K (.ref f0) = true)
    (a1 : PySem.W.nsIn K mainGlobals "is_claim_word" = some (some (.ref f1))) (l1 : K.lookup f1 = some ⟨oc1, od1, .func (PySem.W.fnOf "is_claim_word" "is_claim_word" (defArgs s_is_claim_word) (defBody s_is_claim_word) (defScope s_is_claim_word) .none kV1 dc1 pm1 an1 cd1 ct1), sl1⟩) (c1 : PySem.W.codeIn K cd1 "is_claim_word" = true) (k1 : PySem.W.keepIn K (.ref f1) = true)
    (a2 : PySem.W.nsIn K mainGlobals "sums_behind" = some (some (.ref f2))) (l2 : K.lookup f2 = some ⟨oc2, od2, .func (PySem.W.fnOf "sums_behind" "sums_behind" (defArgs s_sums_behind) (defBody s_sums_behind) (defScope s_sums_behind) .none kV2 dc2 pm2 an2 cd2 ct2), sl2⟩) (c2 : PySem.W.codeIn K cd2 "sums_behind" = true) (k2 : PySem.W.keepIn K (.ref f2) = true)
    (a3 : PySem.W.nsIn K mainGlobals "claims_behind" = some (some (.ref f3))) (l3 : K.lookup f3 = some ⟨oc3, od3, .func (PySem.W.fnOf "claims_behind" "claims_behind" (defArgs s_claims_behind) (defBody s_claims_behind) (defScope s_claims_behind) .none kV3 dc3 pm3 an3 cd3 ct3), sl3⟩) (c3 : PySem.W.codeIn K cd3 "claims_behind" = true) (k3 : PySem.W.keepIn K (.ref f3) = true)
    (a4 : PySem.W.nsIn K mainGlobals "is_made_of" = some (some (.ref f4))) (l4 : K.lookup f4 = some ⟨oc4, od4, .func (PySem.W.fnOf "is_made_of" "is_made_of" (defArgs s_is_made_of) (defBody s_is_made_of) (defScope s_is_made_of) .none kV4 dc4 pm4 an4 cd4 ct4), sl4⟩) (c4 : PySem.W.codeIn K cd4 "is_made_of" = true) (k4 : PySem.W.keepIn K (.ref f4) = true)
    (a5 : PySem.W.nsIn K mainGlobals "_law_deck" = some (some (.ref f5))) (l5 : K.lookup f5 = some ⟨oc5, od5, .func (PySem.W.fnOf "_law_deck" "_law_deck" (defArgs s_law_deck) (defBody s_law_deck) (defScope s_law_deck) .none kV5 dc5 pm5 an5 cd5 ct5), sl5⟩) (c5 : PySem.W.codeIn K cd5 "_law_deck" = true) (k5 : PySem.W.keepIn K (.ref f5) = true)
    (a6 : PySem.W.nsIn K mainGlobals "_law_take" = some (some (.ref f6))) (l6 : K.lookup f6 = some ⟨oc6, od6, .func (PySem.W.fnOf "_law_take" "_law_take" (defArgs s_law_take) (defBody s_law_take) (defScope s_law_take) .none kV6 dc6 pm6 an6 cd6 ct6), sl6⟩) (c6 : PySem.W.codeIn K cd6 "_law_take" = true) (k6 : PySem.W.keepIn K (.ref f6) = true)
    (a7 : PySem.W.nsIn K mainGlobals "_law_kept" = some (some (.ref f7))) (l7 : K.lookup f7 = some ⟨oc7, od7, .func (PySem.W.fnOf "_law_kept" "_law_kept" (defArgs s_law_kept) (defBody s_law_kept) (defScope s_law_kept) .none kV7 dc7 pm7 an7 cd7 ct7), sl7⟩) (c7 : PySem.W.codeIn K cd7 "_law_kept" = true) (k7 : PySem.W.keepIn K (.ref f7) = true)
    (a8 : PySem.W.nsIn K mainGlobals "_law_behind" = some (some (.ref f8))) (l8 : K.lookup f8 = some ⟨oc8, od8, .func (PySem.W.fnOf "_law_behind" "_law_behind" (defArgs s_law_behind) (defBody s_law_behind) (defScope s_law_behind) .none kV8 dc8 pm8 an8 cd8 ct8), sl8⟩) (c8 : PySem.W.codeIn K cd8 "_law_behind" = true) (k8 : PySem.W.keepIn K (.ref f8) = true)
    (a9 : PySem.W.findIn K (.ref XNoName) "__init__" = some (some (.ref f9))) (l9 : K.lookup f9 = some ⟨oc9, od9, .func (PySem.W.fnOf "__init__" "NoName.__init__" (defArgs s_NoName_init) (defBody s_NoName_init) (defScope s_NoName_init) .none kV9 dc9 pm9 an9 cd9 ct9), sl9⟩) (c9 : PySem.W.codeIn K cd9 "NoName.__init__" = true) (k9 : PySem.W.keepIn K (.ref f9) = true)
    (a10 : PySem.W.nsIn K mainGlobals "is_name" = some (some (.ref f10))) (l10 : K.lookup f10 = some ⟨oc10, od10, .func (PySem.W.fnOf "is_name" "is_name" (defArgs s_is_name) (defBody s_is_name) (defScope s_is_name) .none kV10 dc10 pm10 an10 cd10 ct10), sl10⟩) (c10 : PySem.W.codeIn K cd10 "is_name" = true) (k10 : PySem.W.keepIn K (.ref f10) = true)
    (a11 : PySem.W.nsIn K mainGlobals "is_figures" = some (some (.ref f11))) (l11 : K.lookup f11 = some ⟨oc11, od11, .func (PySem.W.fnOf "is_figures" "is_figures" (defArgs s_is_figures) (defBody s_is_figures) (defScope s_is_figures) .none kV11 dc11 pm11 an11 cd11 ct11), sl11⟩) (c11 : PySem.W.codeIn K cd11 "is_figures" = true) (k11 : PySem.W.keepIn K (.ref f11) = true)
    (a12 : PySem.W.nsIn K mainGlobals "_law_names" = some (some (.ref f12))) (l12 : K.lookup f12 = some ⟨oc12, od12, .func (PySem.W.fnOf "_law_names" "_law_names" (defArgs s_law_names) (defBody s_law_names) (defScope s_law_names) .none kV12 dc12 pm12 an12 cd12 ct12), sl12⟩) (c12 : PySem.W.codeIn K cd12 "_law_names" = true) (k12 : PySem.W.keepIn K (.ref f12) = true)
    (a13 : PySem.W.nsIn K mainGlobals "_law_leaf" = some (some (.ref f13))) (l13 : K.lookup f13 = some ⟨oc13, od13, .func (PySem.W.fnOf "_law_leaf" "_law_leaf" (defArgs s_law_leaf) (defBody s_law_leaf) (defScope s_law_leaf) .none kV13 dc13 pm13 an13 cd13 ct13), sl13⟩) (c13 : PySem.W.codeIn K cd13 "_law_leaf" = true) (k13 : PySem.W.keepIn K (.ref f13) = true)
    (a14 : PySem.W.nsIn K mainGlobals "_law_join" = some (some (.ref f14))) (l14 : K.lookup f14 = some ⟨oc14, od14, .func (PySem.W.fnOf "_law_join" "_law_join" (defArgs s_law_join) (defBody s_law_join) (defScope s_law_join) .none kV14 dc14 pm14 an14 cd14 ct14), sl14⟩) (c14 : PySem.W.codeIn K cd14 "_law_join" = true) (k14 : PySem.W.keepIn K (.ref f14) = true)
    (a15 : PySem.W.nsIn K mainGlobals "_law_sort" = some (some (.ref f15))) (l15 : K.lookup f15 = some ⟨oc15, od15, .func (PySem.W.fnOf "_law_sort" "_law_sort" (defArgs s_law_sort) (defBody s_law_sort) (defScope s_law_sort) .none kV15 dc15 pm15 an15 cd15 ct15), sl15⟩) (c15 : PySem.W.codeIn K cd15 "_law_sort" = true) (k15 : PySem.W.keepIn K (.ref f15) = true)
    (a16 : PySem.W.nsIn K mainGlobals "_law_spoilt" = some (some (.ref f16))) (l16 : K.lookup f16 = some ⟨oc16, od16, .func (PySem.W.fnOf "_law_spoilt" "_law_spoilt" (defArgs s_law_spoilt) (defBody s_law_spoilt) (defScope s_law_spoilt) .none kV16 dc16 pm16 an16 cd16 ct16), sl16⟩) (c16 : PySem.W.codeIn K cd16 "_law_spoilt" = true) (k16 : PySem.W.keepIn K (.ref f16) = true)
    (a17 : PySem.W.nsIn K mainGlobals "_law_many_names" = some (some (.ref f17))) (l17 : K.lookup f17 = some ⟨oc17, od17, .func (PySem.W.fnOf "_law_many_names" "_law_many_names" (defArgs s_law_many_names) (defBody s_law_many_names) (defScope s_law_many_names) .none kV17 dc17 pm17 an17 cd17 ct17), sl17⟩) (c17 : PySem.W.codeIn K cd17 "_law_many_names" = true) (k17 : PySem.W.keepIn K (.ref f17) = true)
    (a18 : PySem.W.nsIn K mainGlobals "sum_word_read" = some (some (.ref f18))) (l18 : K.lookup f18 = some ⟨oc18, od18, .func (PySem.W.fnOf "sum_word_read" "sum_word_read" (defArgs s_sum_word_read) (defBody s_sum_word_read) (defScope s_sum_word_read) .none kV18 dc18 pm18 an18 cd18 ct18), sl18⟩) (c18 : PySem.W.codeIn K cd18 "sum_word_read" = true) (k18 : PySem.W.keepIn K (.ref f18) = true)
    (a19 : PySem.W.nsIn K mainGlobals "_law_sum" = some (some (.ref f19))) (l19 : K.lookup f19 = some ⟨oc19, od19, .func (PySem.W.fnOf "_law_sum" "_law_sum" (defArgs s_law_sum) (defBody s_law_sum) (defScope s_law_sum) .none kV19 dc19 pm19 an19 cd19 ct19), sl19⟩) (c19 : PySem.W.codeIn K cd19 "_law_sum" = true) (k19 : PySem.W.keepIn K (.ref f19) = true)
    (a20 : PySem.W.nsIn K mainGlobals "_law_reading" = some (some (.ref f20))) (l20 : K.lookup f20 = some ⟨oc20, od20, .func (PySem.W.fnOf "_law_reading" "_law_reading" (defArgs s_law_reading) (defBody s_law_reading) (defScope s_law_reading) .none kV20 dc20 pm20 an20 cd20 ct20), sl20⟩) (c20 : PySem.W.codeIn K cd20 "_law_reading" = true) (k20 : PySem.W.keepIn K (.ref f20) = true)
    (a21 : PySem.W.nsIn K mainGlobals "sum_part_read" = some (some (.ref f21))) (l21 : K.lookup f21 = some ⟨oc21, od21, .func (PySem.W.fnOf "sum_part_read" "sum_part_read" (defArgs s_sum_part_read) (defBody s_sum_part_read) (defScope s_sum_part_read) .none kV21 dc21 pm21 an21 cd21 ct21), sl21⟩) (c21 : PySem.W.codeIn K cd21 "sum_part_read" = true) (k21 : PySem.W.keepIn K (.ref f21) = true)
    (a22 : PySem.W.nsIn K mainGlobals "_law_atom" = some (some (.ref f22))) (l22 : K.lookup f22 = some ⟨oc22, od22, .func (PySem.W.fnOf "_law_atom" "_law_atom" (defArgs s_law_atom) (defBody s_law_atom) (defScope s_law_atom) .none kV22 dc22 pm22 an22 cd22 ct22), sl22⟩) (c22 : PySem.W.codeIn K cd22 "_law_atom" = true) (k22 : PySem.W.keepIn K (.ref f22) = true)
    (a23 : PySem.W.nsIn K mainGlobals "word_read" = some (some (.ref f23))) (l23 : K.lookup f23 = some ⟨oc23, od23, .func (PySem.W.fnOf "word_read" "word_read" (defArgs s_word_read) (defBody s_word_read) (defScope s_word_read) .none kV23 dc23 pm23 an23 cd23 ct23), sl23⟩) (c23 : PySem.W.codeIn K cd23 "word_read" = true) (k23 : PySem.W.keepIn K (.ref f23) = true)
    (a24 : PySem.W.nsIn K mainGlobals "_law_claim" = some (some (.ref f24))) (l24 : K.lookup f24 = some ⟨oc24, od24, .func (PySem.W.fnOf "_law_claim" "_law_claim" (defArgs s_law_claim) (defBody s_law_claim) (defScope s_law_claim) .none kV24 dc24 pm24 an24 cd24 ct24), sl24⟩) (c24 : PySem.W.codeIn K cd24 "_law_claim" = true) (k24 : PySem.W.keepIn K (.ref f24) = true)
    (a25 : PySem.W.nsIn K mainGlobals "read_claim" = some (some (.ref f25))) (l25 : K.lookup f25 = some ⟨oc25, od25, .func (PySem.W.fnOf "read_claim" "read_claim" (defArgs s_read_claim) (defBody s_read_claim) (defScope s_read_claim) .none kV25 dc25 pm25 an25 cd25 ct25), sl25⟩) (c25 : PySem.W.codeIn K cd25 "read_claim" = true) (k25 : PySem.W.keepIn K (.ref f25) = true)
    (a26 : PySem.W.nsIn K mainGlobals "_law_right" = some (some (.ref f26))) (l26 : K.lookup f26 = some ⟨oc26, od26, .func (PySem.W.fnOf "_law_right" "_law_right" (defArgs s_law_right) (defBody s_law_right) (defScope s_law_right) .none kV26 dc26 pm26 an26 cd26 ct26), sl26⟩) (c26 : PySem.W.codeIn K cd26 "_law_right" = true) (k26 : PySem.W.keepIn K (.ref f26) = true)
    (a27 : PySem.W.nsIn K mainGlobals "law" = some (some (.ref f27))) (l27 : K.lookup f27 = some ⟨oc27, od27, .func (PySem.W.fnOf "law" "law" (defArgs s_law) (defBody s_law) (defScope s_law) .none kV27 dc27 pm27 an27 cd27 ct27), sl27⟩) (c27 : PySem.W.codeIn K cd27 "law" = true) (k27 : PySem.W.keepIn K (.ref f27) = true)
    {GSUM_PARTS : Addr} {ESUM_PARTS : Array DictEntry} {PSUM_PARTS : Nat} (ga_SUM_PARTS : PySem.W.nsIn K mainGlobals "SUM_PARTS" = some (some (.ref GSUM_PARTS))) (gl_SUM_PARTS : K.lookup GSUM_PARTS = some { cls := .type "dict", dict := none, data := .dict ESUM_PARTS PSUM_PARTS, slots := #[] }) (ge_SUM_PARTS : KTab w.params ESUM_PARTS.toList [("not", 1), ("neg", 1), ("twice", 1), ("low", 1), ("and", 2), ("or", 2), ("odd", 2), ("add", 2), ("sub", 2), ("pick", 3)]) (gn_SUM_PARTS : (GSUM_PARTS == sysModules) = false)
    {GSUMS_IN_CLAIM : Addr} {ESUMS_IN_CLAIM : Array DictEntry} {PSUMS_IN_CLAIM : Nat} (ga_SUMS_IN_CLAIM : PySem.W.nsIn K mainGlobals "SUMS_IN_CLAIM" = some (some (.ref GSUMS_IN_CLAIM))) (gl_SUMS_IN_CLAIM : K.lookup GSUMS_IN_CLAIM = some { cls := .type "dict", dict := none, data := .dict ESUMS_IN_CLAIM PSUMS_IN_CLAIM, slots := #[] }) (ge_SUMS_IN_CLAIM : KTab w.params ESUMS_IN_CLAIM.toList [("same", 2), ("under", 2), ("beneath", 2), ("sign", 1), ("nought", 1)]) (gn_SUMS_IN_CLAIM : (GSUMS_IN_CLAIM == sysModules) = false)
    {GCLAIMS_IN_CLAIM : Addr} {ECLAIMS_IN_CLAIM : Array DictEntry} {PCLAIMS_IN_CLAIM : Nat} (ga_CLAIMS_IN_CLAIM : PySem.W.nsIn K mainGlobals "CLAIMS_IN_CLAIM" = some (some (.ref GCLAIMS_IN_CLAIM))) (gl_CLAIMS_IN_CLAIM : K.lookup GCLAIMS_IN_CLAIM = some { cls := .type "dict", dict := none, data := .dict ECLAIMS_IN_CLAIM PCLAIMS_IN_CLAIM, slots := #[] }) (ge_CLAIMS_IN_CLAIM : KTab w.params ECLAIMS_IN_CLAIM.toList [("both", 2), ("either", 2), ("so", 2), ("never", 1), ("yes", 0)]) (gn_CLAIMS_IN_CLAIM : (GCLAIMS_IN_CLAIM == sysModules) = false)
    {KLETTERS : Tok} (ga_LETTERS : PySem.W.nsIn K mainGlobals "LETTERS" = some (some (.str "abcdefghijklmnopqrstuvwxyz" KLETTERS)))
    {KFIGURES : Tok} (ga_FIGURES : PySem.W.nsIn K mainGlobals "FIGURES" = some (some (.str "0123456789" KFIGURES)))
    {KLONGEST_NAME : Tok} (ga_LONGEST_NAME : PySem.W.nsIn K mainGlobals "LONGEST_NAME" = some (some (.int 8 KLONGEST_NAME)))
    (xm_NoName : mkIn K XNoName f9 = true) (xt_NoName : atIn K XNoName "word" = true)
    (q_not : PySem.W.kitAny K (.ref XNoClaim) [.ref XNoAsk, .ref XNoName, .ref XNoShorter, .ref XNoSum, .ref XNoTurning, .ref XNoWords] = some false)
    (q_val : PySem.W.kitOne K (.ref XNoClaim) (.type "ValueError") = some true)
    (q_wid : PySem.W.kitOne K (.ref XNoClaim) (.ref XWidthError) = some true)
    (z_ValueError : PySem.W.nsIn K mainGlobals "ValueError" = some none)
    (z_all : PySem.W.nsIn K mainGlobals "all" = some none)
    (z_int : PySem.W.nsIn K mainGlobals "int" = some none)
    (z_isinstance : PySem.W.nsIn K mainGlobals "isinstance" = some none)
    (z_len : PySem.W.nsIn K mainGlobals "len" = some none)
    (z_list : PySem.W.nsIn K mainGlobals "list" = some none)
    (z_range : PySem.W.nsIn K mainGlobals "range" = some none)
    (z_set : PySem.W.nsIn K mainGlobals "set" = some none)
    (z_str : PySem.W.nsIn K mainGlobals "str" = some none)
    (z_sum : PySem.W.nsIn K mainGlobals "sum" = some none)
    (z_tuple : PySem.W.nsIn K mainGlobals "tuple" = some none)
    : ∃ fd : FuncData, (∀ (s : Shared) (v : Value), BindsTo s fd ⟨[v], []⟩ [("script", v)]) ∧ ∀ base : Heap, K.In base → base.Ns mainGlobals mg → FnOk l.prog w K mg base CX0 8 fa fd ["script"] (sp_law K) := by
  have e := hfa.symm.trans (PySem.W.mg_of X G a27)
  cases e
  have F0 := fun_mk (st := s_is_sum_word) l0 c0 k0
  have b0 := F0.binds (ps := ["text"]) fun _ _ _ _ _ _ => L2.len1 fun _ => rfl
  have F1 := fun_mk (st := s_is_claim_word) l1 c1 k1
  have b1 := F1.binds (ps := ["text"]) fun _ _ _ _ _ _ => L2.len1 fun _ => rfl
  have F2 := fun_mk (st := s_sums_behind) l2 c2 k2
  have b2 := F2.binds (ps := ["word"]) fun _ _ _ _ _ _ => L2.len1 fun _ => rfl
  have F3 := fun_mk (st := s_claims_behind) l3 c3 k3
  have b3 := F3.binds (ps := ["word"]) fun _ _ _ _ _ _ => L2.len1 fun _ => rfl
  have F4 := fun_mk (st := s_is_made_of) l4 c4 k4
  have b4 := F4.binds (ps := ["text", "signs"]) fun _ _ _ _ _ _ => L2.len2 fun _ _ => rfl
  have F5 := fun_mk (st := s_law_deck) l5 c5 k5
  have b5 := F5.binds (ps := ["script"]) fun _ _ _ _ _ _ => L2.len1 fun _ => rfl
  have F6 := fun_mk (st := s_law_take) l6 c6 k6
  have b6 := F6.binds (ps := ["deck", "many"]) fun _ _ _ _ _ _ => L2.len2 fun _ _ => rfl
  have F7 := fun_mk (st := s_law_kept) l7 c7 k7
  have b7 := F7.binds (ps := []) fun _ _ _ _ _ _ us hl => match us, hl with | [], _ => rfl
  have F8 := fun_mk (st := s_law_behind) l8 c8 k8
  have b8 := F8.binds (ps := ["word"]) fun _ _ _ _ _ _ => L2.len1 fun _ => rfl
  have F9 := fun_mk (st := s_NoName_init) l9 c9 k9
  have b9 := F9.binds (ps := ["self", "word"]) fun _ _ _ _ _ _ => L2.len2 fun _ _ => rfl
  have F10 := fun_mk (st := s_is_name) l10 c10 k10
  have b10 := F10.binds (ps := ["text"]) fun _ _ _ _ _ _ => L2.len1 fun _ => rfl
  have F11 := fun_mk (st := s_is_figures) l11 c11 k11
  have b11 := F11.binds (ps := ["text"]) fun _ _ _ _ _ _ => L2.len1 fun _ => rfl
  have F12 := fun_mk (st := s_law_names) l12 c12 k12
  have b12 := F12.binds (ps := ["deck"]) fun _ _ _ _ _ _ => L2.len1 fun _ => rfl
  have F13 := fun_mk (st := s_law_leaf) l13 c13 k13
  have b13 := F13.binds (ps := ["deck", "names"]) fun _ _ _ _ _ _ => L2.len2 fun _ _ => rfl
  have F14 := fun_mk (st := s_law_join) l14 c14 k14
  have b14 := F14.binds (ps := ["deck"]) fun _ _ _ _ _ _ => L2.len1 fun _ => rfl
  have F15 := fun_mk (st := s_law_sort) l15 c15 k15
  have b15 := F15.binds (ps := ["word"]) fun _ _ _ _ _ _ => L2.len1 fun _ => rfl
  have F16 := fun_mk (st := s_law_spoilt) l16 c16 k16
  have b16 := F16.binds (ps := ["deck", "words"]) fun _ _ _ _ _ _ => L2.len2 fun _ _ => rfl
  have F17 := fun_mk (st := s_law_many_names) l17 c17 k17
  have b17 := F17.binds (ps := ["words"]) fun _ _ _ _ _ _ => L2.len1 fun _ => rfl
  have F18 := fun_mk (st := s_sum_word_read) l18 c18 k18
  have b18 := F18.binds (ps := ["part"]) fun _ _ _ _ _ _ => L2.len1 fun _ => rfl
  have F19 := fun_mk (st := s_law_sum) l19 c19 k19
  have b19 := F19.binds (ps := ["deck", "names", "most", "heavy"]) fun _ _ _ _ _ _ => L2.len4 fun _ _ _ _ => rfl
  have F20 := fun_mk (st := s_law_reading) l20 c20 k20
  have b20 := F20.binds (ps := ["text"]) fun _ _ _ _ _ _ => L2.len1 fun _ => rfl
  have F21 := fun_mk (st := s_sum_part_read) l21 c21 k21
  have b21 := F21.binds (ps := ["part"]) fun _ _ _ _ _ _ => L2.len1 fun _ => rfl
  have F22 := fun_mk (st := s_law_atom) l22 c22 k22
  have b22 := F22.binds (ps := ["deck", "names", "heavy", "most"]) fun _ _ _ _ _ _ => L2.len4 fun _ _ _ _ => rfl
  have F23 := fun_mk (st := s_word_read) l23 c23 k23
  have b23 := F23.binds (ps := ["part", "kind"]) fun _ _ _ _ _ _ => L2.len2 fun _ _ => rfl
  have F24 := fun_mk (st := s_law_claim) l24 c24 k24
  have b24 := F24.binds (ps := ["deck", "names", "heavy"]) fun _ _ _ _ _ _ => L2.len3 fun _ _ _ => rfl
  have F25 := fun_mk (st := s_read_claim) l25 c25 k25
  have b25 := F25.binds (ps := ["text"]) fun _ _ _ _ _ _ => L2.len1 fun _ => rfl
  have F26 := fun_mk (st := s_law_right) l26 c26 k26
  have b26 := F26.binds (ps := ["text"]) fun _ _ _ _ _ _ => L2.len1 fun _ => rfl
  have F27 := fun_mk (st := s_law) l27 c27 k27
  have b27 := F27.binds (ps := ["script"]) fun _ _ _ _ _ _ => L2.len1 fun _ => rfl
  have T : Txt K w mg ⟨f0, _, f1, _, f2, _, f3, _, f4, _, f5, _, f6, _, f7, _, f8, _, f9, _, f10, _, f11, _, f12, _, f13, _, f14, _, f15, _, f16, _, f17, _, f18, _, f19, _, f20, _, f21, _, f22, _, f23, _, f24, _, f25, _, f26, _, fa, _, XWidthError, XNoSum, XNoClaim, XNoWords, XNoTurning, XNoShorter, XNoAsk, XNoName, GSUM_PARTS, GSUMS_IN_CLAIM, GCLAIMS_IN_CLAIM, KLETTERS, KFIGURES, KLONGEST_NAME⟩ := ⟨⟨PySem.W.mg_of X G ga_SUM_PARTS, ⟨⟨_, _, gl_SUM_PARTS, ge_SUM_PARTS⟩, by decide +kernel, gn_SUM_PARTS⟩⟩, ⟨PySem.W.mg_of X G ga_SUMS_IN_CLAIM, ⟨⟨_, _, gl_SUMS_IN_CLAIM, ge_SUMS_IN_CLAIM⟩, by decide +kernel, gn_SUMS_IN_CLAIM⟩⟩, ⟨PySem.W.mg_of X G ga_CLAIMS_IN_CLAIM, ⟨⟨_, _, gl_CLAIMS_IN_CLAIM, ge_CLAIMS_IN_CLAIM⟩, by decide +kernel, gn_CLAIMS_IN_CLAIM⟩⟩, PySem.W.mg_of X G ga_LETTERS, PySem.W.mg_of X G ga_FIGURES, PySem.W.mg_of X G ga_LONGEST_NAME, ⟨F0, PySem.W.mg_of X G a0, b0⟩, ⟨F1, PySem.W.mg_of X G a1, b1⟩, ⟨F2, PySem.W.mg_of X G a2, b2⟩, ⟨F3, PySem.W.mg_of X G a3, b3⟩, ⟨F4, PySem.W.mg_of X G a4, b4⟩, ⟨F5, PySem.W.mg_of X G a5, b5⟩, ⟨F6, PySem.W.mg_of X G a6, b6⟩, ⟨F7, PySem.W.mg_of X G a7, b7⟩, ⟨F8, PySem.W.mg_of X G a8, b8⟩, ⟨F9, b9⟩, ⟨F10, PySem.W.mg_of X G a10, b10⟩, ⟨F11, PySem.W.mg_of X G a11, b11⟩, ⟨F12, PySem.W.mg_of X G a12, b12⟩, ⟨F13, PySem.W.mg_of X G a13, b13⟩, ⟨F14, PySem.W.mg_of X G a14, b14⟩, ⟨F15, PySem.W.mg_of X G a15, b15⟩, ⟨F16, PySem.W.mg_of X G a16, b16⟩, ⟨F17, PySem.W.mg_of X G a17, b17⟩, ⟨F18, PySem.W.mg_of X G a18, b18⟩, ⟨F19, PySem.W.mg_of X G a19, b19⟩, ⟨F20, PySem.W.mg_of X G a20, b20⟩, ⟨F21, PySem.W.mg_of X G a21, b21⟩, ⟨F22, PySem.W.mg_of X G a22, b22⟩, ⟨F23, PySem.W.mg_of X G a23, b23⟩, ⟨F24, PySem.W.mg_of X G a24, b24⟩, ⟨F25, PySem.W.mg_of X G a25, b25⟩, ⟨F26, PySem.W.mg_of X G a26, b26⟩, ⟨F27, PySem.W.mg_of X G a27, b27⟩, PySem.W.mg_none_of X G z_ValueError, PySem.W.mg_none_of X G z_all, PySem.W.mg_none_of X G z_int, PySem.W.mg_none_of X G z_isinstance, PySem.W.mg_none_of X G z_len, PySem.W.mg_none_of X G z_list, PySem.W.mg_none_of X G z_range, PySem.W.mg_none_of X G z_set, PySem.W.mg_none_of X G z_str, PySem.W.mg_none_of X G z_sum, PySem.W.mg_none_of X G z_tuple⟩
  exact ⟨_, fun s v => (show BindsTo s (PySem.W.fnOf "law" "law" (defArgs s_law) (defBody s_law) (defScope s_law) .none kV27 dc27 pm27 an27 cd27 ct27) ⟨[v], []⟩ [("script", v)] from .of_eq rfl), fun base hKb _ => ok_law T ⟨PySem.W.mg_of X G xa_WidthError, PySem.W.mg_of X G xa_NoSum, PySem.W.mg_of X G xa_NoClaim, PySem.W.mg_of X G xa_NoWords, PySem.W.mg_of X G xa_NoTurning, PySem.W.mg_of X G xa_NoShorter, PySem.W.mg_of X G xa_NoAsk, PySem.W.mg_of X G xa_NoName, ownV_of hKb (PySem.W.mg_of X G xa_WidthError) xe_WidthError, xk_WidthError, ownV_of hKb (PySem.W.mg_of X G xa_NoSum) xe_NoSum, xk_NoSum, ownV_of hKb (PySem.W.mg_of X G xa_NoClaim) xe_NoClaim, xk_NoClaim, ownV_of hKb (PySem.W.mg_of X G xa_NoWords) xe_NoWords, xk_NoWords, ownV_of hKb (PySem.W.mg_of X G xa_NoTurning) xe_NoTurning, xk_NoTurning, ownV_of hKb (PySem.W.mg_of X G xa_NoShorter) xe_NoShorter, xk_NoShorter, ownV_of hKb (PySem.W.mg_of X G xa_NoAsk) xe_NoAsk, xk_NoAsk, below_of hKb xb_NoSum, below_of hKb xb_NoClaim, below_of hKb xb_NoWords, below_of hKb xb_NoTurning, below_of hKb xb_NoShorter, below_of hKb xb_NoAsk, below_of hKb xb_NoName, cl3_of xc_WidthError, cl3_of xc_NoSum, cl3_of xc_NoClaim, cl3_of xc_NoWords, cl3_of xc_NoTurning, cl3_of xc_NoShorter, cl3_of xc_NoAsk, cl3_of xc_NoName, mk_of xm_NoName, at_of xt_NoName, q_not, q_val, q_wid⟩⟩
theorem walk {l : PySem.W.OpenLaw} {q : Program} {loose : List Str} {XP : (Str → Option Value) → Heap → Prop} {YP : World → Heap → Prop} {d : DefRec} {K : Params → PySem.W.Frag} (hn : l.most = some 63) (hdf : d.params.defaults = [])
    (hY : ∀ (w : World) (h : Heap), YP w h → (K w.params).In h)
    (F : ∀ (w : World) (mg : Str → Option Value) (fa : Addr) (h : Heap), (K w.params).In h → h.Ns mainGlobals mg → mg d.name = some (.ref fa) →
      ∃ fd : FuncData, (∀ (s : Shared) (u : Value), BindsTo s fd ⟨[u], []⟩ [("script", u)]) ∧ ∀ base : Heap, (K w.params).In base → base.Ns mainGlobals mg → FnOk l.prog w (K w.params) mg base CX0 8 fa fd ["script"] (sp_law (K w.params))) :
    PySem.W.WalkO q loose XP YP l.row.toRowW d [] (fun f vs => PySem.call f vs) :=
  L2.walk_of (n := 63) (k := 8) (x := "script") (CX := fun _ => CX0) (sp := fun w => sp_law (K w.params)) hn (by decide) hdf ⟨rfl, by decide, by decide⟩ hY F (fun _ _ a ns hl _ hS => ⟨a, ns, rfl, hS, hl, fun _ => rfl⟩) fun _ _ _ _ _ z => z
end Lw
open PySem PySem.W PyProof.Rows
set_option maxRecDepth 100000 in
set_option maxHeartbeats 0 in
theorem PySem.Challenge.cw_everywidth_k10_no_claim_holds : PySem.Challenge.rw_everywidth_k10_no_claim.Holds := by
  w_on; o_law; z_head; (case hw => w_witness2)
  refine L2.walk_X (fun _ => by kernel_rfl) ?_
  k_fill
  refine Lw.walk (l := PySem.Challenge.rw_everywidth_k10_no_claim) rfl rfl (fun w h Y => Y) ?F
  case F =>
    intro w mg fa h KX G hmg
    refine' Lw.all_mk KX G hmg ?xa_WidthError ?xa_NoSum ?xa_NoClaim ?xa_NoWords ?xa_NoTurning ?xa_NoShorter ?xa_NoAsk ?xa_NoName ?xe_WidthError ?xk_WidthError ?xe_NoSum ?xk_NoSum ?xe_NoClaim ?xk_NoClaim ?xe_NoWords ?xk_NoWords ?xe_NoTurning ?xk_NoTurning ?xe_NoShorter ?xk_NoShorter ?xe_NoAsk ?xk_NoAsk ?xb_NoSum ?xb_NoClaim ?xb_NoWords ?xb_NoTurning ?xb_NoShorter ?xb_NoAsk ?xb_NoName ?xc_WidthError ?xc_NoSum ?xc_NoClaim ?xc_NoWords ?xc_NoTurning ?xc_NoShorter ?xc_NoAsk ?xc_NoName ?a0 ?l0 ?c0 ?k0 ?a1 ?l1 ?c1 ?k1 ?a2 ?l2 ?c2 ?k2 ?a3 ?l3 ?c3 ?k3 ?a4 ?l4 ?c4 ?k4 ?a5 ?l5 ?c5 ?k5 ?a6 ?l6 ?c6 ?k6 ?a7 ?l7 ?c7 ?k7 ?a8 ?l8 ?c8 ?k8 ?a9 ?l9 ?c9 ?k9 ?a10 ?l10 ?c10 ?k10 ?a11 ?l11 ?c11 ?k11 ?a12 ?l12 ?c12 ?k12 ?a13 ?l13 ?c13 ?k13 ?a14 ?l14 ?c14 ?k14 ?a15 ?l15 ?c15 ?k15 ?a16 ?l16 ?c16 ?k16 ?a17 ?l17 ?c17 ?k17 ?a18 ?l18 ?c18 ?k18 ?a19 ?l19 ?c19 ?k19 ?a20 ?l20 ?c20 ?k20 ?a21 ?l21 ?c21 ?k21 ?a22 ?l22 ?c22 ?k22 ?a23 ?l23 ?c23 ?k23 ?a24 ?l24 ?c24 ?k24 ?a25 ?l25 ?c25 ?k25 ?a26 ?l26 ?c26 ?k26 ?a27 ?l27 ?c27 ?k27 ?ga_SUM_PARTS ?gl_SUM_PARTS ?ge_SUM_PARTS ?gn_SUM_PARTS ?ga_SUMS_IN_CLAIM ?gl_SUMS_IN_CLAIM ?ge_SUMS_IN_CLAIM ?gn_SUMS_IN_CLAIM ?ga_CLAIMS_IN_CLAIM ?gl_CLAIMS_IN_CLAIM ?ge_CLAIMS_IN_CLAIM ?gn_CLAIMS_IN_CLAIM ?ga_LETTERS ?ga_FIGURES ?ga_LONGEST_NAME ?xm_NoName ?xt_NoName ?q_not ?q_val ?q_wid ?z_ValueError ?z_all ?z_int ?z_isinstance ?z_len ?z_list ?z_range ?z_set ?z_str ?z_sum ?z_tuple
    (case xa_WidthError => k_is)
    (case xa_NoSum => k_is)
    (case xa_NoClaim => k_is)
    (case xa_NoWords => k_is)
    (case xa_NoTurning => k_is)
    (case xa_NoShorter => k_is)
    (case xa_NoAsk => k_is)
    (case xa_NoName => k_is)
    (case xe_WidthError => kernel_rfl)
    (case xk_WidthError => k_is)
    (case xe_NoSum => kernel_rfl)
    (case xk_NoSum => k_is)
    (case xe_NoClaim => kernel_rfl)
    (case xk_NoClaim => k_is)
    (case xe_NoWords => kernel_rfl)
    (case xk_NoWords => k_is)
    (case xe_NoTurning => kernel_rfl)
    (case xk_NoTurning => k_is)
    (case xe_NoShorter => kernel_rfl)
    (case xk_NoShorter => k_is)
    (case xe_NoAsk => kernel_rfl)
    (case xk_NoAsk => k_is)
    (case xb_NoSum => kernel_rfl)
    (case xb_NoClaim => kernel_rfl)
    (case xb_NoWords => kernel_rfl)
    (case xb_NoTurning => kernel_rfl)
    (case xb_NoShorter => kernel_rfl)
    (case xb_NoAsk => kernel_rfl)
    (case xb_NoName => kernel_rfl)
    (case xc_WidthError => kernel_rfl)
    (case xc_NoSum => kernel_rfl)
    (case xc_NoClaim => kernel_rfl)
    (case xc_NoWords => kernel_rfl)
    (case xc_NoTurning => kernel_rfl)
    (case xc_NoShorter => kernel_rfl)
    (case xc_NoAsk => kernel_rfl)
    (case xc_NoName => kernel_rfl)
    (case a0 => k_is)
    (case l0 => k_is)
    (case c0 => k_is)
    (case k0 => k_is)
    (case a1 => k_is)
    (case l1 => k_is)
    (case c1 => k_is)
    (case k1 => k_is)
    (case a2 => k_is)
    (case l2 => k_is)
    (case c2 => k_is)
    (case k2 => k_is)
    (case a3 => k_is)
    (case l3 => k_is)
    (case c3 => k_is)
    (case k3 => k_is)
    (case a4 => k_is)
    (case l4 => k_is)
    (case c4 => k_is)
    (case k4 => k_is)
    (case a5 => k_is)
    (case l5 => k_is)
    (case c5 => k_is)
    (case k5 => k_is)
    (case a6 => k_is)
    (case l6 => k_is)
    (case c6 => k_is)
    (case k6 => k_is)
    (case a7 => k_is)
    (case l7 => k_is)
    (case c7 => k_is)
    (case k7 => k_is)
    (case a8 => k_is)
    (case l8 => k_is)
    (case c8 => k_is)
    (case k8 => k_is)
    (case a9 => k_is)
    (case l9 => k_is)
    (case c9 => k_is)
    (case k9 => k_is)
    (case a10 => k_is)
    (case l10 => k_is)
    (case c10 => k_is)
    (case k10 => k_is)
    (case a11 => k_is)
    (case l11 => k_is)
    (case c11 => k_is)
    (case k11 => k_is)
    (case a12 => k_is)
    (case l12 => k_is)
    (case c12 => k_is)
    (case k12 => k_is)
    (case a13 => k_is)
    (case l13 => k_is)
    (case c13 => k_is)
    (case k13 => k_is)
    (case a14 => k_is)
    (case l14 => k_is)
    (case c14 => k_is)
    (case k14 => k_is)
    (case a15 => k_is)
    (case l15 => k_is)
    (case c15 => k_is)
    (case k15 => k_is)
    (case a16 => k_is)
    (case l16 => k_is)
    (case c16 => k_is)
    (case k16 => k_is)
    (case a17 => k_is)
    (case l17 => k_is)
    (case c17 => k_is)
    (case k17 => k_is)
    (case a18 => k_is)
    (case l18 => k_is)
    (case c18 => k_is)
    (case k18 => k_is)
    (case a19 => k_is)
    (case l19 => k_is)
    (case c19 => k_is)
    (case k19 => k_is)
    (case a20 => k_is)
    (case l20 => k_is)
    (case c20 => k_is)
    (case k20 => k_is)
    (case a21 => k_is)
    (case l21 => k_is)
    (case c21 => k_is)
    (case k21 => k_is)
    (case a22 => k_is)
    (case l22 => k_is)
    (case c22 => k_is)
    (case k22 => k_is)
    (case a23 => k_is)
    (case l23 => k_is)
    (case c23 => k_is)
    (case k23 => k_is)
    (case a24 => k_is)
    (case l24 => k_is)
    (case c24 => k_is)
    (case k24 => k_is)
    (case a25 => k_is)
    (case l25 => k_is)
    (case c25 => k_is)
    (case k25 => k_is)
    (case a26 => k_is)
    (case l26 => k_is)
    (case c26 => k_is)
    (case k26 => k_is)
    (case a27 => k_is)
    (case l27 => k_is)
    (case c27 => k_is)
    (case k27 => k_is)
    (case ga_SUM_PARTS => k_is)
    (case gl_SUM_PARTS => k_is)
    (case ge_SUM_PARTS => repeat (first | exact L2.KTab.nil | refine L2.KTab.cons ?_))
    (case gn_SUM_PARTS => first | rfl | decide +kernel)
    (case ga_SUMS_IN_CLAIM => k_is)
    (case gl_SUMS_IN_CLAIM => k_is)
    (case ge_SUMS_IN_CLAIM => repeat (first | exact L2.KTab.nil | refine L2.KTab.cons ?_))
    (case gn_SUMS_IN_CLAIM => first | rfl | decide +kernel)
    (case ga_CLAIMS_IN_CLAIM => k_is)
    (case gl_CLAIMS_IN_CLAIM => k_is)
    (case ge_CLAIMS_IN_CLAIM => repeat (first | exact L2.KTab.nil | refine L2.KTab.cons ?_))
    (case gn_CLAIMS_IN_CLAIM => first | rfl | decide +kernel)
    (case ga_LETTERS => k_is)
    (case ga_FIGURES => k_is)
    (case ga_LONGEST_NAME => k_is)
    (case xm_NoName => kernel_rfl)
    (case xt_NoName => kernel_rfl)
    (case q_not => kernel_rfl)
    (case q_val => kernel_rfl)
    (case q_wid => kernel_rfl)
    (case z_ValueError => k_is)
    (case z_all => k_is)
    (case z_int => k_is)
    (case z_isinstance => k_is)
    (case z_len => k_is)
    (case z_list => k_is)
    (case z_range => k_is)
    (case z_set => k_is)
    (case z_str => k_is)
    (case z_sum => k_is)
    (case z_tuple => k_is)
#print axioms PySem.Challenge.cw_everywidth_k10_no_claim_holds

